/-
  Package twigskeep: a value out of raw bytes.
  Package twigskeep: a key out of raw bytes.
-/
import Derived.Test.YtjiikjpnlgogfaaGreatDoorFeedG
import Derived.Test.YtjiikjpnlgogfaaGreatDoorText
import Derived.Test.YtjiikjpnlgogfaaGreatDoorNodD
import Derived.Test.YtjiikjpnlgogfaaGreatDoorNodB
namespace Go.Proofs.YtjiikjpnlgogfaaGreatDoor
open Go.RowKit

/-- The feed is read on; all else is as it was. -/
def Fed (fb : Nat) (raw : ByteArray) (w w' : World) : Prop := Only fb w w' ∧ FeedAt w' fb raw
theorem Fed.trans {fb : Nat} {raw : ByteArray} {w w1 w2 : World} (h : Fed fb raw w w1) (k : Fed fb raw w1 w2) : Fed fb raw w w2 := ⟨h.1.trans k.1, k.2⟩
theorem Fed.alloc {fb : Nat} {raw : ByteArray} {w w' : World} (h : Fed fb raw w w') (o : Obj) : Fed fb raw w (w'.alloc o) := ⟨h.1.alloc o, h.2.below ((Below.refl _ _).alloc (Nat.le_refl _) o)⟩
theorem Fed.behind {fb : Nat} {raw : ByteArray} {w w1 w2 : World} (h : Fed fb raw w w1) (hb : Below w1.heap.size w1 w2) : Fed fb raw w w2 := ⟨h.1.trans (.of_below hb), h.2.below hb⟩

theorem value_loop (fb : Nat) (raw : ByteArray) (hr : raw.size ≤ 9223372036854775807) : ∀ k W, FeedAt W fb raw → 0 < k → k ≤ 256 → Calls Tryz.prog 34 #[.pointer (some ⟨fb, 0, none⟩), .int .i64 ((k : Nat) : Int)] W fun e w' => ∃ c : Nat, c < k ∧ e = .returned (.int .i64 (c : Int)) ∧ Fed fb raw W w' := fun k W h h0 h1 =>
  (feednext_any k h0 h1 fb raw W h hr).mono (by rintro e w' ⟨c, hc, rfl, h1, _, h2⟩; exact ⟨c, hc, rfl, h1, h2⟩)

set_option maxRecDepth 100000 in
set_option maxHeartbeats 1600000 in
theorem value_any (fb : Nat) (raw : ByteArray) (w : World) (h : FeedAt w fb raw) (hr : raw.size ≤ 9223372036854775807) :
    Calls Tryz.prog 18 #[.pointer (some ⟨fb, 0, none⟩)] w fun e w' => ∃ u : ByteArray, 0 < u.size ∧ u.size ≤ 100 ∧ e = .returned (.string u) ∧ Fed fb raw w w' := by
  have HN := Hid.hide (value_loop fb raw hr)
  have HF := Hid.hide h
  have HB : Hid (∀ (W : World) (z : Nat), (convert 111 9 (.slice (some ⟨W.heap.size, 0, none⟩) 1 1)).run Tryz.prog (W.alloc (.cells #[.int .u8 (z : Int)] 5)) = .ok (.string (textB [z])) (W.alloc (.cells #[.int .u8 (z : Int)] 5))) := byte_text
  clear h hr
  go_enter Tryz.func18, Tryz.ntmps18
  go_wp2_with fail
  refine (HN.out 3 w HF.out (by omega) (by omega)).mono ?_
  rintro e w1 ⟨c1, hc1, rfl, hf1⟩
  have HF1 := Hid.hide hf1
  have k1 : IntKind.i64.wrap (1 + (c1 : Int)) = 1 + (c1 : Int) := wrap_fits _ (by omega) (by omega)
  clear hf1
  go_wp2_with fail
  refine (HN.out 4 w1 HF1.out.2 (by omega) (by omega)).mono ?_
  rintro e w2 ⟨c2, hc2, rfl, hf2⟩
  have HF2 : Hid (Fed fb raw w w2) := HF1.out.trans hf2
  clear hf2
  by_cases h2 : c2 = 1
  · subst h2
    clear hc2
    go_wp2_with fail
    refine (HN.out 100 w2 HF2.out.2 (by omega) (by omega)).mono ?_
    rintro e w3 ⟨c3, hc3, rfl, hf3⟩
    have HFF : Hid (Fed fb raw w w3) := HF2.out.trans hf3
    obtain ⟨N, hN⟩ : ∃ N : Nat, 1 + c3 = N := ⟨_, rfl⟩
    have HNi : Hid ((1 : Int) + (c3 : Int) = (N : Int)) := by have h : (1 : Int) + (c3 : Int) = (N : Int) := (by omega); exact h
    have HNN : Hid (1 ≤ N ∧ N ≤ 100) := ⟨by omega, by omega⟩
    clear hf3 hN hc1 k1
    go_wp2
    rw [HNi.out]
    go_loopg [4] N (fun g s wr => ∃ u : ByteArray, u.size ≤ N ∧ g = N - u.size ∧ s = .string u ∧ Fed fb raw w wr)
    case atStart => exact ⟨⟨#[]⟩, Nat.zero_le _, rfl, rfl, HFF.out⟩
    case round =>
      obtain ⟨u, hu, rfl, rfl, hfd⟩ := hrel
      have HFd := Hid.hide hfd
      clear hfd
      by_cases hlt : u.size < N
      · have i1 : (u.size : Int) < (N : Int) := by omega
        clear hu
        go_wp2_with fail
        refine (HN.out 255 wr HFd.out.2 (by omega) (by omega)).mono ?_
        rintro e w5 ⟨c5, hc5, rfl, hf5⟩
        have HF5 : Hid (Fed fb raw w w5) := HFd.out.trans hf5
        have k5 : IntKind.i64.wrap (1 + (c5 : Int)) = 1 + (c5 : Int) := wrap_fits _ (by omega) (by omega)
        obtain ⟨z, hz⟩ : ∃ z : Nat, 1 + c5 = z := ⟨_, rfl⟩
        have hzi : (1 : Int) + (c5 : Int) = (z : Int) := by omega
        rw [hzi] at k5
        have k6 : IntKind.u8.wrap (z : Int) = (z : Int) := wrap8 (by omega)
        have hcv := HB.out w5 z
        have hadd := fun W => run_string_add_sum (P := Tryz.prog) W u (textB [z]) (by rw [textB_size]; have := HNN.out; simp; omega)
        obtain ⟨u2, hu2⟩ : ∃ u2, u ++ textB [z] = u2 := ⟨_, rfl⟩
        rw [hu2] at hadd
        have HU : Hid (u2.size = u.size + 1 ∧ u.size < N) := ⟨by rw [← hu2, size_append, textB_size]; rfl, hlt⟩
        clear hf5 hu2 hz hlt hc5
        go_wp2
        go_roundg (N - u2.size)
        case measure => have := HU.out; omega
        case rel => exact ⟨u2, by have := HU.out; omega, rfl, rfl, HF5.out.alloc _⟩
      · have i1 : (N : Int) ≤ (u.size : Int) := by omega
        have HU : Hid (u.size = N) := by have h : u.size = N := (by omega); exact h
        clear hu hlt
        go_wp2
        go_ret
        exact ⟨u, by have := HU.out; have := HNN.out; omega, by have := HU.out; have := HNN.out; omega, rfl, HFd.out⟩
  · have hne : ((c2 : Int) == 1) = false := by simp; omega
    have HFF := HF2
    obtain ⟨N, hN⟩ : ∃ N : Nat, 1 + c1 = N := ⟨_, rfl⟩
    have hNi : (1 : Int) + (c1 : Int) = (N : Int) := by omega
    have HNN : Hid (1 ≤ N ∧ N ≤ 100) := ⟨by omega, by omega⟩
    clear hc2 h2 hN hc1 k1
    go_wp2
    go_loopg [4] N (fun g s wr => ∃ u : ByteArray, u.size ≤ N ∧ g = N - u.size ∧ s = .string u ∧ Fed fb raw w wr)
    case atStart => exact ⟨⟨#[]⟩, Nat.zero_le _, rfl, rfl, HFF.out⟩
    case round =>
      obtain ⟨u, hu, rfl, rfl, hfd⟩ := hrel
      have HFd := Hid.hide hfd
      clear hfd
      by_cases hlt : u.size < N
      · have i1 : (u.size : Int) < (N : Int) := by omega
        clear hu
        go_wp2_with fail
        refine (HN.out 255 wr HFd.out.2 (by omega) (by omega)).mono ?_
        rintro e w5 ⟨c5, hc5, rfl, hf5⟩
        have HF5 : Hid (Fed fb raw w w5) := HFd.out.trans hf5
        have k5 : IntKind.i64.wrap (1 + (c5 : Int)) = 1 + (c5 : Int) := wrap_fits _ (by omega) (by omega)
        obtain ⟨z, hz⟩ : ∃ z : Nat, 1 + c5 = z := ⟨_, rfl⟩
        have hzi : (1 : Int) + (c5 : Int) = (z : Int) := by omega
        rw [hzi] at k5
        have k6 : IntKind.u8.wrap (z : Int) = (z : Int) := wrap8 (by omega)
        have hcv := HB.out w5 z
        have hadd := fun W => run_string_add_sum (P := Tryz.prog) W u (textB [z]) (by rw [textB_size]; have := HNN.out; simp; omega)
        obtain ⟨u2, hu2⟩ : ∃ u2, u ++ textB [z] = u2 := ⟨_, rfl⟩
        rw [hu2] at hadd
        have HU : Hid (u2.size = u.size + 1 ∧ u.size < N) := ⟨by rw [← hu2, size_append, textB_size]; rfl, hlt⟩
        clear hf5 hu2 hz hlt hc5
        go_wp2
        go_roundg (N - u2.size)
        case measure => have := HU.out; omega
        case rel => exact ⟨u2, by have := HU.out; omega, rfl, rfl, HF5.out.alloc _⟩
      · have i1 : (N : Int) ≤ (u.size : Int) := by omega
        have HU : Hid (u.size = N) := by have h : u.size = N := (by omega); exact h
        clear hu hlt
        go_wp2
        go_ret
        exact ⟨u, by have := HU.out; have := HNN.out; omega, by have := HU.out; have := HNN.out; omega, rfl, HFd.out⟩
end Go.Proofs.YtjiikjpnlgogfaaGreatDoor

namespace Go.Proofs.YtjiikjpnlgogfaaGreatDoor
open Go.RowKit

theorem or_u8 (a b : Nat) (ha : a < 256) (hb : b < 64) : bits .or .u8 (a : Int) (b : Int) = ((a ||| b : Nat) : Int) ∧ a ||| b < 256 := by
  have all : ∀ i : Fin 256, ∀ j : Fin 64, bits .or .u8 (i.val : Int) (j.val : Int) = ((i.val ||| j.val : Nat) : Int) := by decide +kernel
  exact ⟨all ⟨a, ha⟩ ⟨b, hb⟩, Nat.or_lt_two_pow (n := 8) ha (by omega)⟩
def zero32 : Array Nat := Array.replicate 32 0
theorem zero32_bytes : Bytes zero32 := fun j => by
  unfold zero32
  by_cases h : j < 32
  · rw [getElem!_pos _ j (by simpa using h)]
    simp
  · rw [getElem!_neg _ j (by simpa using h)]
    decide
def placesN : List Nat := [0, 1, 2, 3, 30, 31, 60, 61, 62, 63, 63, 63]
theorem places_lt (c : Nat) : placesN[c]! < 64 := by
  unfold placesN
  match c with
  | 0 | 1 | 2 | 3 | 4 | 5 | 6 | 7 | 8 | 9 | 10 | 11 => decide
  | n + 12 => rw [getElem!_neg _ _ (by simp)]; decide
/-- The three blocks of the call's own. -/
structure KeyAt (w : World) (n0 : Nat) (K : Array Nat) : Prop where
  res : w.there n0 0 32
  row : Row encB w (n0 + 1) 0 K
  pl : ∀ c, c < 12 → w.cell? ⟨n0 + 2, c, none⟩ = some (.int .i64 ((placesN[c]! : Nat) : Int))
  lt : n0 + 2 < w.heap.size
  size : K.size = 32
  bytes : Bytes K
theorem KeyAt.keep {w w' : World} {n0 : Nat} {K : Array Nat} (h : KeyAt w n0 K) (hs : w.heap.size ≤ w'.heap.size) (hb : ∀ j, n0 ≤ j → j ≤ n0 + 2 → w'.heap[j]? = w.heap[j]?) : KeyAt w' n0 K :=
  ⟨there_block h.res (hb n0 (Nat.le_refl _) (by omega)), h.row.of_eq (hb (n0 + 1) (by omega) (by omega)), fun c hc => (World.cell?_of_block (hb (n0 + 2) (by omega) (Nat.le_refl _))).trans (h.pl c hc), Nat.lt_of_lt_of_le h.lt hs, h.size, h.bytes⟩
theorem KeyAt.fed {w w' : World} {n0 fb : Nat} {raw : ByteArray} {K : Array Nat} (h : KeyAt w n0 K) (hf : Fed fb raw w w') (hfb : fb < n0) : KeyAt w' n0 K :=
  h.keep hf.1.size fun j h1 h2 => hf.1.block j (by have := h.lt; omega) (by omega)
theorem KeyAt.set {w : World} {n0 : Nat} {K : Array Nat} (h : KeyAt w n0 K) {i z : Nat} (hi : i < 32) (hz : z < 256) : KeyAt (w.setCell ⟨n0 + 1, i, none⟩ (.int .u8 (z : Int))) n0 (K.set! i z) := by
  refine ⟨there_set h.res _ _, h.row.set (Nat.zero_add i).symm (by rw [h.size]; exact hi) z rfl, fun c hc => ?_, by simpa using h.lt, by simpa using h.size, bytes_set h.bytes i z hz⟩
  exact (World.cell?_of_block (Below.heap_setCell _ _ _ _ (by simp))).trans (h.pl c hc)

theorem key_start {w w0 : World} {A P : Array Value} {t1 t2 t3 : TypeId} (h : ((w.alloc (.cells A t1)).alloc (.cells A t2)).alloc (.cells P t3) = w0) (hA : A = zero32.map encB) (hP : P = (placesN.map fun x => Value.int .i64 ((x : Nat) : Int)).toArray) : KeyAt w0 w.heap.size zero32 := by
  subst h
  have hs : ((w.alloc (.cells A t1)).alloc (.cells A t2)).heap.size = w.heap.size + 2 := by simp
  refine ⟨?_, ?_, fun c hc => ?_, by simp, by simp [zero32], zero32_bytes⟩
  · refine there_block (there_block (there_new w A t1 32 (by rw [hA]; simp [zero32])) (Below.heap_alloc _ _ _ (by simp))) (Below.heap_alloc _ _ _ (by simp; omega))
  · have hr : Row encB ((w.alloc (.cells A t1)).alloc (.cells A t2)) (w.heap.size + 1) 0 zero32 := by
      rw [hA]
      have := Row.new (enc := encB) (w.alloc (.cells (zero32.map encB) t1)) zero32 t2
      rwa [World.size_alloc] at this
    exact hr.alloc (by rw [hs]; omega) _
  · rw [← hs, World.cell?_alloc_new, hP]
    simp only [List.getElem?_toArray, List.getElem?_map]
    have hl : c < placesN.length := hc
    rw [List.getElem?_eq_getElem hl, getElem!_pos placesN c hl]
    rfl
theorem hash_cells' {w7 : World} {N : Nat} {D : Array Nat} (hD : D.size = 32) (ht : w7.there N 0 32) :
    (Tryz.prog.info? 26).map (·.size) = some (D.toList.map encB).length ∧ (Tryz.prog.info? 26).map (·.size) = some (D.toList.map encB).toArray.size ∧ w7.there N 0 (D.toList.map encB).toArray.size ∧ w7.there N 0 (D.toList.map encB).length := by
  refine ⟨?_, ?_, ?_, ?_⟩
  · rw [size51]; simp [hD]
  · rw [size51]; simp [hD]
  · simpa [hD] using ht
  · simpa [hD] using ht
theorem fed_setCells {fb N : Nat} {raw : ByteArray} {w w' : World} (h : Fed fb raw w w') (hN : w.heap.size ≤ N) (hfb : fb < w.heap.size) (vs : List Value) (o : Nat) : Fed fb raw w (w'.setCells N o vs) := by
  obtain ⟨q1, q2, q3, q4⟩ := size_setCells N vs o w'
  exact ⟨⟨q2.trans h.1.os, q3.trans h.1.tape, q4.trans h.1.output, by rw [q1]; exact h.1.size, fun k hk hne => (heap_setCells _ _ _ _ _ (by omega)).trans (h.1.block k hk hne)⟩, h.2.keep (heap_setCells _ _ _ _ _ (by omega)) (Nat.le_of_eq q1.symm)⟩

set_option maxRecDepth 100000 in
set_option maxHeartbeats 3200000 in
theorem key_any (fb : Nat) (raw : ByteArray) (w : World) (h : FeedAt w fb raw) (hr : raw.size ≤ 9223372036854775807) :
    Calls Tryz.prog 33 #[.pointer (some ⟨fb, 0, none⟩)] w fun e w' => ∃ K : Array Nat, K.size = 32 ∧ Bytes K ∧ e = .returned (.agg (K.toList.map encB).toArray) ∧ Fed fb raw w w' := by
  have HN := Hid.hide (value_loop fb raw hr)
  have HF := Hid.hide h
  have hfb := h.lt
  clear h hr
  go_enter Tryz.func33, Tryz.ntmps33
  go_wp2_with fail
  generalize hw0 : World.alloc (World.alloc (World.alloc w _) _) _ = w0
  have hk0 : KeyAt w0 w.heap.size zero32 := key_start hw0 (by kernel_rfl) (by kernel_rfl)
  have hf0 : Fed fb raw w w0 := by
    rw [← hw0]
    exact Fed.alloc (Fed.alloc (Fed.alloc ⟨.refl _ _, HF.out⟩ _) _) _
  have H0 : Hid (KeyAt w0 w.heap.size zero32 ∧ Fed fb raw w w0) := ⟨hk0, hf0⟩
  clear hw0 hk0 hf0
  refine (HN.out 4 w0 H0.out.2.2 (by omega) (by omega)).mono ?_
  rintro e w1 ⟨c1, hc1, rfl, hf1⟩
  have H1 : Hid (KeyAt w1 w.heap.size zero32 ∧ Fed fb raw w w1) := ⟨H0.out.1.fed hf1 hfb, H0.out.2.trans hf1⟩
  clear hf1
  go_wp2
  go_loopg [5] c1 (fun g n wr => ∃ (m : Nat) (K : Array Nat), m = g ∧ m ≤ c1 ∧ n = .int .i64 (m : Int) ∧ KeyAt wr w.heap.size K ∧ Fed fb raw w wr)
  case atStart => exact ⟨c1, _, rfl, Nat.le_refl _, rfl, H1.out⟩
  case round =>
    obtain ⟨m, K, rfl, hm, rfl, hk, hfd⟩ := hrel
    by_cases h0 : m = 0
    · subst h0
      obtain ⟨z1, z2, hth', hth2⟩ := hash_cells' hk.size hk.res
      have hrg := hk.row.range
      have hone := all_oneCell_toArray (oneCell_enc K .u8)
      have HE : Hid (KeyAt wr w.heap.size K ∧ Fed fb raw w wr ∧ wr.there w.heap.size 0 (K.toList.map encB).length) := ⟨hk, hfd, hth2⟩
      clear hk hfd hm hth2
      go_wp2_with (first | (refine wpList_load_mid rfl 26 _ rfl (w.heap.size + 1) 0 rfl (K.toList.map encB) _ hrg Tryz.underlying26 rfl z1 ?_) | (refine wpList_store_mid rfl 26 _ _ rfl w.heap.size 0 (K.toList.map encB).toArray rfl rfl hth' z2 hone ?_))
      refine bodyPost_ret (v := .agg (K.toList.map encB).toArray) (results_cell1 Tryz.results33 _ _ _ w.heap.size 0 rfl (run_loadVar_mid _ _ _ 26 _ _ (World.rangeAt_setCells_same _ _ _ _ HE.out.2.2) Tryz.underlying26 rfl z1)) rfl ⟨K, HE.out.1.size, HE.out.1.bytes, rfl, ?_⟩
      exact fed_setCells HE.out.2.1 (Nat.le_refl _) hfb _ _
    · have hm0 : (0 : Int) < (m : Int) := by omega
      have hlt := hk.lt
      have HK : Hid (KeyAt wr w.heap.size K ∧ Fed fb raw w wr ∧ m ≤ c1 ∧ ¬ m = 0) := ⟨hk, hfd, hm, h0⟩
      clear hk hfd hm h0
      go_wp2_with fail
      refine (HN.out 12 wr HK.out.2.1.2 (by omega) (by omega)).mono ?_
      rintro e w2 ⟨c2, hc2, rfl, hf2⟩
      have hK2 := HK.out.1.fed hf2 hfb
      have p2 := hK2.pl c2 hc2
      have hp64 := places_lt c2
      obtain ⟨at_, hat⟩ : ∃ x, placesN[c2]! = x := ⟨_, rfl⟩
      rw [hat] at p2 hp64
      have i2 : (c2 : Int) < 12 := by omega
      have H2 : Hid (KeyAt w2 w.heap.size K ∧ Fed fb raw w w2) := ⟨hK2, HK.out.2.1.trans hf2⟩
      clear hf2 hK2 hat
      go_wp2_with fail
      refine (HN.out 4 w2 H2.out.2.2 (by omega) (by omega)).mono ?_
      rintro e w3 ⟨c3, hc3, rfl, hf3⟩
      have hK3 := H2.out.1.fed hf3 hfb
      have H3 : Hid (KeyAt w3 w.heap.size K ∧ Fed fb raw w w3) := ⟨hK3, H2.out.2.trans hf3⟩
      obtain ⟨h, hh⟩ : ∃ h, at_ / 2 = h := ⟨_, rfl⟩
      have hh32 : h < 32 := by omega
      have htd : (at_ : Int).tdiv 2 = (h : Int) := by rw [← hh]; exact (Int.ofNat_tdiv at_ 2).symm
      obtain ⟨x, hx⟩ : ∃ x, K[h]! = x := ⟨_, rfl⟩
      obtain ⟨q1, q2⟩ := hK3.row h (by rw [hK3.size]; exact hh32)
      rw [Nat.zero_add, hx] at q1
      rw [Nat.zero_add] at q2
      have hx8 : x < 256 := by rw [← hx]; exact hK3.bytes h
      have q1' : w3.cell? ⟨w.heap.size + 1, h, none⟩ = some (.int .u8 (x : Int)) := q1
      have k3 : IntKind.u8.wrap (c3 : Int) = (c3 : Int) := wrap8 (by omega)
      have k4 : IntKind.u8.wrap ((c3 : Int) * 16) = (c3 : Int) * 16 := by
        have := wrap8 (c := c3 * 16) (by omega)
        rw [show ((c3 * 16 : Nat) : Int) = (c3 : Int) * 16 by omega] at this
        exact this
      have HKm : Hid (wrap64 ((m : Int) - 1) = ((m - 1 : Nat) : Int)) := by
        have h : wrap64 ((m : Int) - 1) = ((m - 1 : Nat) : Int) := (by unfold wrap64; have := HK.out; omega)
        exact h
      have ih : (h : Int) < 32 := by omega
      obtain ⟨g, hg⟩ : ∃ g, at_ % 2 = g := ⟨_, rfl⟩
      have htm : (at_ : Int).tmod 2 = (g : Int) := by rw [← hg]; exact (Int.ofNat_tmod at_ 2).symm
      have HM : Hid (m - 1 ≤ c1 ∧ m - 1 < m ∧ h < 32) := ⟨by have := HK.out; omega, by have := HK.out; omega, hh32⟩
      by_cases hev : g = 0
      · obtain ⟨hor, hz⟩ := or_u8 x (c3 * 16) hx8 (by omega)
        rw [show ((c3 * 16 : Nat) : Int) = (c3 : Int) * 16 by omega] at hor
        obtain ⟨z, hzz⟩ : ∃ z, x ||| (c3 * 16) = z := ⟨_, rfl⟩
        rw [hzz] at hor hz
        subst hev
        have HZ : Hid (z < 256) := hz
        clear hf3 hK3 hh hh32 hx q1 hx8 hzz hz hg hp64 hc3 hc2
        go_wp2
        go_roundg (m - 1)
        case measure => exact HM.out.2.1
        case rel => exact ⟨m - 1, _, rfl, HM.out.1, val_int HKm.out, H3.out.1.set HM.out.2.2 HZ.out, fed_setCells H3.out.2 (by omega) hfb [_] h⟩
      · obtain ⟨hor, hz⟩ := or_u8 x c3 hx8 (by omega)
        obtain ⟨z, hzz⟩ : ∃ z, x ||| c3 = z := ⟨_, rfl⟩
        rw [hzz] at hor hz
        have hgb : ((g : Int) == 0) = false := by simp; omega
        have HZ : Hid (z < 256) := hz
        clear hf3 hK3 hh hh32 hx q1 hx8 hzz hz hg hp64 hc3 hc2 hev
        go_wp2
        go_roundg (m - 1)
        case measure => exact HM.out.2.1
        case rel => exact ⟨m - 1, _, rfl, HM.out.1, val_int HKm.out, H3.out.1.set HM.out.2.2 HZ.out, fed_setCells H3.out.2 (by omega) hfb [_] h⟩
end Go.Proofs.YtjiikjpnlgogfaaGreatDoor
