/-
  Package twigskeep: a value out of raw bytes.
  Package twigskeep: a key out of raw bytes.
  Package twigskeep: maps of known making: where a key stands (find).
  Package twigskeep: where a key stands (find): the walk.
  Package twigskeep: a map without a key (Known.without): what a walk over arrays of 32 bytes wants, and the state of its loop.
  Package twigskeep: a map without a key (Known.without).
  Package twigskeep: a map without a key (Known.without): the walk.
  Package twigskeep: a map with a key more, or with another value for it (Known.with).
  Package twigskeep: a map of known making out of raw bytes (known).
-/
import Derived.Test.YtjiikjpnlgogfaaGreatDoorSdFeedG
import Derived.Test.YtjiikjpnlgogfaaGreatDoorSdText
import Derived.Test.YtjiikjpnlgogfaaGreatDoorSdNodD
import Derived.Test.YtjiikjpnlgogfaaGreatDoorSdNodB
import Derived.Great.BuildSlice
namespace Go.Proofs.YtjiikjpnlgogfaaGreatDoor
open Go.RowKit
def Fed (fb : Nat) (raw : ByteArray) (w w' : World) : Prop := Only fb w w' ∧ FeedAt w' fb raw
theorem Fed.trans {fb : Nat} {raw : ByteArray} {w w1 w2 : World} (h : Fed fb raw w w1) (k : Fed fb raw w1 w2) : Fed fb raw w w2 := ⟨h.1.trans k.1, k.2⟩
theorem Fed.alloc {fb : Nat} {raw : ByteArray} {w w' : World} (h : Fed fb raw w w') (o : Obj) : Fed fb raw w (w'.alloc o) := ⟨h.1.alloc o, h.2.below ((Below.refl _ _).alloc (Nat.le_refl _) o)⟩
theorem value_loop (fb : Nat) (raw : ByteArray) (hr : raw.size ≤ 9223372036854775807) : ∀ k W, FeedAt W fb raw → 0 < k → k ≤ 256 → Calls Tryz.prog 34 #[.pointer (some ⟨fb, 0, none⟩), .int .i64 ((k : Nat) : Int)] W fun e w' => ∃ c : Nat, c < k ∧ e = .returned (.int .i64 (c : Int)) ∧ Fed fb raw W w' := fun k W h h0 h1 =>
 (feednext_any k h0 h1 fb raw W h hr).mono (by rintro e w' ⟨c, hc, rfl, h1, _, h2⟩; exact ⟨c, hc, rfl, h1, h2⟩)
set_option maxRecDepth 100000 in
set_option maxHeartbeats 1600000 in
theorem value_any (fb : Nat) (raw : ByteArray) (w : World) (h : FeedAt w fb raw) (hr : raw.size ≤ 9223372036854775807) :
  Calls Tryz.prog 18 #[.pointer (some ⟨fb, 0, none⟩)] w fun e w' => ∃ u : ByteArray, 0 < u.size ∧ u.size ≤ 100 ∧ e = .returned (.string u) ∧ Fed fb raw w w' := by
 have HN := Hid.hide (value_loop fb raw hr)
 have HF := Hid.hide h
 have HB : Hid (∀ (W : World) (z : Nat), (convert 111 9 (.slice (some ⟨W.heap.size, 0, none⟩) 1 1)).run Tryz.prog (W.alloc (.cells #[.int .u8 (z : Int)] 5)) = .ok (.string (textB [z])) (W.alloc (.cells #[.int .u8 (z : Int)] 5))) := byte_text
 clear h hr
 go_enter Tryz.func18, Tryz.ntmps18
 go_wp2_with fail
 refine (HN.out 3 w HF.out (by omega) (by omega)).mono ?_
 rintro e w1 ⟨c1, hc1, rfl, hf1⟩
 have HF1 := Hid.hide hf1
 have k1 : IntKind.i64.wrap (1 + (c1 : Int)) = 1 + (c1 : Int) := wrap_fits _ (by omega) (by omega)
 clear hf1
 go_wp2_with fail
 refine (HN.out 4 w1 HF1.out.2 (by omega) (by omega)).mono ?_
 rintro e w2 ⟨c2, hc2, rfl, hf2⟩
 have HF2 : Hid (Fed fb raw w w2) := HF1.out.trans hf2
 clear hf2
 by_cases h2 : c2 = 1
 ·subst h2
  clear hc2
  go_wp2_with fail
  refine (HN.out 100 w2 HF2.out.2 (by omega) (by omega)).mono ?_
  rintro e w3 ⟨c3, hc3, rfl, hf3⟩
  have HFF : Hid (Fed fb raw w w3) := HF2.out.trans hf3
  obtain ⟨N, hN⟩ : ∃ N : Nat, 1 + c3 = N := ⟨_, rfl⟩
  have HNi : Hid ((1 : Int) + (c3 : Int) = (N : Int)) := by have h : (1 : Int) + (c3 : Int) = (N : Int) := (by omega); exact h
  have HNN : Hid (1 ≤ N ∧ N ≤ 100) := ⟨by omega, by omega⟩
  clear hf3 hN hc1 k1
  go_wp2
  rw [HNi.out]
  go_loopg [4] N (fun g s wr => ∃ u : ByteArray, u.size ≤ N ∧ g = N - u.size ∧ s = .string u ∧ Fed fb raw w wr)
  case atStart => exact ⟨⟨#[]⟩, Nat.zero_le _, rfl, rfl, HFF.out⟩
  case round =>
   obtain ⟨u, hu, rfl, rfl, hfd⟩ := hrel
   have HFd := Hid.hide hfd
   clear hfd
   by_cases hlt : u.size < N
   ·have i1 : (u.size : Int) < (N : Int) := by omega
    clear hu
    go_wp2_with fail
    refine (HN.out 255 wr HFd.out.2 (by omega) (by omega)).mono ?_
    rintro e w5 ⟨c5, hc5, rfl, hf5⟩
    have HF5 : Hid (Fed fb raw w w5) := HFd.out.trans hf5
    have k5 : IntKind.i64.wrap (1 + (c5 : Int)) = 1 + (c5 : Int) := wrap_fits _ (by omega) (by omega)
    obtain ⟨z, hz⟩ : ∃ z : Nat, 1 + c5 = z := ⟨_, rfl⟩
    have hzi : (1 : Int) + (c5 : Int) = (z : Int) := by omega
    rw [hzi] at k5
    have k6 : IntKind.u8.wrap (z : Int) = (z : Int) := wrap8 (by omega)
    have hcv := HB.out w5 z
    have hadd := fun W => run_string_add_sum (P := Tryz.prog) W u (textB [z]) (by rw [textB_size]; have := HNN.out; simp; omega)
    obtain ⟨u2, hu2⟩ : ∃ u2, u ++ textB [z] = u2 := ⟨_, rfl⟩
    rw [hu2] at hadd
    have HU : Hid (u2.size = u.size + 1 ∧ u.size < N) := ⟨by rw [← hu2, size_append, textB_size]; rfl, hlt⟩
    clear hf5 hu2 hz hlt hc5
    go_wp2
    go_roundg (N - u2.size)
    case measure => have := HU.out; omega
    case rel => exact ⟨u2, by have := HU.out; omega, rfl, rfl, HF5.out.alloc _⟩
   ·have i1 : (N : Int) ≤ (u.size : Int) := by omega
    have HU : Hid (u.size = N) := by have h : u.size = N := (by omega); exact h
    clear hu hlt
    go_wp2
    go_ret
    exact ⟨u, by have := HU.out; have := HNN.out; omega, by have := HU.out; have := HNN.out; omega, rfl, HFd.out⟩
 ·have hne : ((c2 : Int) == 1) = false := by simp; omega
  have HFF := HF2
  obtain ⟨N, hN⟩ : ∃ N : Nat, 1 + c1 = N := ⟨_, rfl⟩
  have hNi : (1 : Int) + (c1 : Int) = (N : Int) := by omega
  have HNN : Hid (1 ≤ N ∧ N ≤ 100) := ⟨by omega, by omega⟩
  clear hc2 h2 hN hc1 k1
  go_wp2
  go_loopg [4] N (fun g s wr => ∃ u : ByteArray, u.size ≤ N ∧ g = N - u.size ∧ s = .string u ∧ Fed fb raw w wr)
  case atStart => exact ⟨⟨#[]⟩, Nat.zero_le _, rfl, rfl, HFF.out⟩
  case round =>
   obtain ⟨u, hu, rfl, rfl, hfd⟩ := hrel
   have HFd := Hid.hide hfd
   clear hfd
   by_cases hlt : u.size < N
   ·have i1 : (u.size : Int) < (N : Int) := by omega
    clear hu
    go_wp2_with fail
    refine (HN.out 255 wr HFd.out.2 (by omega) (by omega)).mono ?_
    rintro e w5 ⟨c5, hc5, rfl, hf5⟩
    have HF5 : Hid (Fed fb raw w w5) := HFd.out.trans hf5
    have k5 : IntKind.i64.wrap (1 + (c5 : Int)) = 1 + (c5 : Int) := wrap_fits _ (by omega) (by omega)
    obtain ⟨z, hz⟩ : ∃ z : Nat, 1 + c5 = z := ⟨_, rfl⟩
    have hzi : (1 : Int) + (c5 : Int) = (z : Int) := by omega
    rw [hzi] at k5
    have k6 : IntKind.u8.wrap (z : Int) = (z : Int) := wrap8 (by omega)
    have hcv := HB.out w5 z
    have hadd := fun W => run_string_add_sum (P := Tryz.prog) W u (textB [z]) (by rw [textB_size]; have := HNN.out; simp; omega)
    obtain ⟨u2, hu2⟩ : ∃ u2, u ++ textB [z] = u2 := ⟨_, rfl⟩
    rw [hu2] at hadd
    have HU : Hid (u2.size = u.size + 1 ∧ u.size < N) := ⟨by rw [← hu2, size_append, textB_size]; rfl, hlt⟩
    clear hf5 hu2 hz hlt hc5
    go_wp2
    go_roundg (N - u2.size)
    case measure => have := HU.out; omega
    case rel => exact ⟨u2, by have := HU.out; omega, rfl, rfl, HF5.out.alloc _⟩
   ·have i1 : (N : Int) ≤ (u.size : Int) := by omega
    have HU : Hid (u.size = N) := by have h : u.size = N := (by omega); exact h
    clear hu hlt
    go_wp2
    go_ret
    exact ⟨u, by have := HU.out; have := HNN.out; omega, by have := HU.out; have := HNN.out; omega, rfl, HFd.out⟩
end Go.Proofs.YtjiikjpnlgogfaaGreatDoor
namespace Go.Proofs.YtjiikjpnlgogfaaGreatDoor
open Go.RowKit
theorem or_u8 (a b : Nat) (ha : a < 256) (hb : b < 64) : bits .or .u8 (a : Int) (b : Int) = ((a ||| b : Nat) : Int) ∧ a ||| b < 256 := by
 have all : ∀ i : Fin 256, ∀ j : Fin 64, bits .or .u8 (i.val : Int) (j.val : Int) = ((i.val ||| j.val : Nat) : Int) := by decide +kernel
 exact ⟨all ⟨a, ha⟩ ⟨b, hb⟩, Nat.or_lt_two_pow (n := 8) ha (by omega)⟩
def zero32 : Array Nat := Array.replicate 32 0
theorem zero32_bytes : Bytes zero32 := fun j => by
 unfold zero32
 by_cases h : j < 32
 ·rw [getElem!_pos _ j (by simpa using h)]
  simp
 ·rw [getElem!_neg _ j (by simpa using h)]
  decide
def placesN : List Nat := [0, 1, 2, 3, 30, 31, 60, 61, 62, 63, 63, 63]
theorem places_lt (c : Nat) : placesN[c]! < 64 := by
 unfold placesN
 match c with
 | 0 | 1 | 2 | 3 | 4 | 5 | 6 | 7 | 8 | 9 | 10 | 11 => decide
 | n + 12 => rw [getElem!_neg _ _ (by simp)]; decide
structure KeyAt (w : World) (n0 : Nat) (K : Array Nat) : Prop where
 res : w.there n0 0 32
 row : Row encB w (n0 + 1) 0 K
 pl : ∀ c, c < 12 → w.cell? ⟨n0 + 2, c, none⟩ = some (.int .i64 ((placesN[c]! : Nat) : Int))
 lt : n0 + 2 < w.heap.size
 size : K.size = 32
 bytes : Bytes K
theorem KeyAt.keep {w w' : World} {n0 : Nat} {K : Array Nat} (h : KeyAt w n0 K) (hs : w.heap.size ≤ w'.heap.size) (hb : ∀ j, n0 ≤ j → j ≤ n0 + 2 → w'.heap[j]? = w.heap[j]?) : KeyAt w' n0 K :=
 ⟨there_block h.res (hb n0 (Nat.le_refl _) (by omega)), h.row.of_eq (hb (n0 + 1) (by omega) (by omega)), fun c hc => (World.cell?_of_block (hb (n0 + 2) (by omega) (Nat.le_refl _))).trans (h.pl c hc), Nat.lt_of_lt_of_le h.lt hs, h.size, h.bytes⟩
theorem KeyAt.fed {w w' : World} {n0 fb : Nat} {raw : ByteArray} {K : Array Nat} (h : KeyAt w n0 K) (hf : Fed fb raw w w') (hfb : fb < n0) : KeyAt w' n0 K :=
 h.keep hf.1.size fun j h1 h2 => hf.1.block j (by have := h.lt; omega) (by omega)
theorem KeyAt.set {w : World} {n0 : Nat} {K : Array Nat} (h : KeyAt w n0 K) {i z : Nat} (hi : i < 32) (hz : z < 256) : KeyAt (w.setCell ⟨n0 + 1, i, none⟩ (.int .u8 (z : Int))) n0 (K.set! i z) := by
 refine ⟨there_set h.res _ _, h.row.set (Nat.zero_add i).symm (by rw [h.size]; exact hi) z rfl, fun c hc => ?_, by simpa using h.lt, by simpa using h.size, bytes_set h.bytes i z hz⟩
 exact (World.cell?_of_block (Below.heap_setCell _ _ _ _ (by simp))).trans (h.pl c hc)
theorem key_start {w w0 : World} {A P : Array Value} {t1 t2 t3 : TypeId} (h : ((w.alloc (.cells A t1)).alloc (.cells A t2)).alloc (.cells P t3) = w0) (hA : A = zero32.map encB) (hP : P = (placesN.map fun x => Value.int .i64 ((x : Nat) : Int)).toArray) : KeyAt w0 w.heap.size zero32 := by
 subst h
 have hs : ((w.alloc (.cells A t1)).alloc (.cells A t2)).heap.size = w.heap.size + 2 := by simp
 refine ⟨?_, ?_, fun c hc => ?_, by simp, by simp [zero32], zero32_bytes⟩
 ·refine there_block (there_block (there_new w A t1 32 (by rw [hA]; simp [zero32])) (Below.heap_alloc _ _ _ (by simp))) (Below.heap_alloc _ _ _ (by simp; omega))
 ·have hr : Row encB ((w.alloc (.cells A t1)).alloc (.cells A t2)) (w.heap.size + 1) 0 zero32 := by
   rw [hA]
   have := Row.new (enc := encB) (w.alloc (.cells (zero32.map encB) t1)) zero32 t2
   rwa [World.size_alloc] at this
  exact hr.alloc (by rw [hs]; omega) _
 ·rw [← hs, World.cell?_alloc_new, hP]
  simp only [List.getElem?_toArray, List.getElem?_map]
  have hl : c < placesN.length := hc
  rw [List.getElem?_eq_getElem hl, getElem!_pos placesN c hl]
  rfl
theorem hash_cells' {w7 : World} {N : Nat} {D : Array Nat} (hD : D.size = 32) (ht : w7.there N 0 32) :
  (Tryz.prog.info? 26).map (·.size) = some (D.toList.map encB).length ∧ (Tryz.prog.info? 26).map (·.size) = some (D.toList.map encB).toArray.size ∧ w7.there N 0 (D.toList.map encB).toArray.size ∧ w7.there N 0 (D.toList.map encB).length := by
 refine ⟨?_, ?_, ?_, ?_⟩
 ·rw [size51]; simp [hD]
 ·rw [size51]; simp [hD]
 ·simpa [hD] using ht
 ·simpa [hD] using ht
theorem fed_setCells {fb N : Nat} {raw : ByteArray} {w w' : World} (h : Fed fb raw w w') (hN : w.heap.size ≤ N) (hfb : fb < w.heap.size) (vs : List Value) (o : Nat) : Fed fb raw w (w'.setCells N o vs) := by
 obtain ⟨q1, q2, q3, q4⟩ := size_setCells N vs o w'
 exact ⟨⟨q2.trans h.1.os, q3.trans h.1.tape, q4.trans h.1.output, by rw [q1]; exact h.1.size, fun k hk hne => (heap_setCells _ _ _ _ _ (by omega)).trans (h.1.block k hk hne)⟩, h.2.keep (heap_setCells _ _ _ _ _ (by omega)) (Nat.le_of_eq q1.symm)⟩
set_option maxRecDepth 100000 in
set_option maxHeartbeats 3200000 in
theorem key_any (fb : Nat) (raw : ByteArray) (w : World) (h : FeedAt w fb raw) (hr : raw.size ≤ 9223372036854775807) :
  Calls Tryz.prog 33 #[.pointer (some ⟨fb, 0, none⟩)] w fun e w' => ∃ K : Array Nat, K.size = 32 ∧ Bytes K ∧ e = .returned (.agg (K.toList.map encB).toArray) ∧ Fed fb raw w w' := by
 have HN := Hid.hide (value_loop fb raw hr)
 have HF := Hid.hide h
 have hfb := h.lt
 clear h hr
 go_enter Tryz.func33, Tryz.ntmps33
 go_wp2_with fail
 generalize hw0 : World.alloc (World.alloc (World.alloc w _) _) _ = w0
 have hk0 : KeyAt w0 w.heap.size zero32 := key_start hw0 (by kernel_rfl) (by kernel_rfl)
 have hf0 : Fed fb raw w w0 := by
  rw [← hw0]
  exact Fed.alloc (Fed.alloc (Fed.alloc ⟨.refl _ _, HF.out⟩ _) _) _
 have H0 : Hid (KeyAt w0 w.heap.size zero32 ∧ Fed fb raw w w0) := ⟨hk0, hf0⟩
 clear hw0 hk0 hf0
 refine (HN.out 4 w0 H0.out.2.2 (by omega) (by omega)).mono ?_
 rintro e w1 ⟨c1, hc1, rfl, hf1⟩
 have H1 : Hid (KeyAt w1 w.heap.size zero32 ∧ Fed fb raw w w1) := ⟨H0.out.1.fed hf1 hfb, H0.out.2.trans hf1⟩
 clear hf1
 go_wp2
 go_loopg [5] c1 (fun g n wr => ∃ (m : Nat) (K : Array Nat), m = g ∧ m ≤ c1 ∧ n = .int .i64 (m : Int) ∧ KeyAt wr w.heap.size K ∧ Fed fb raw w wr)
 case atStart => exact ⟨c1, _, rfl, Nat.le_refl _, rfl, H1.out⟩
 case round =>
  obtain ⟨m, K, rfl, hm, rfl, hk, hfd⟩ := hrel
  by_cases h0 : m = 0
  ·subst h0
   obtain ⟨z1, z2, hth', hth2⟩ := hash_cells' hk.size hk.res
   have hrg := hk.row.range
   have hone := all_oneCell_toArray (oneCell_enc K .u8)
   have HE : Hid (KeyAt wr w.heap.size K ∧ Fed fb raw w wr ∧ wr.there w.heap.size 0 (K.toList.map encB).length) := ⟨hk, hfd, hth2⟩
   clear hk hfd hm hth2
   go_wp2_with (first | (refine wpList_load_mid rfl 26 _ rfl (w.heap.size + 1) 0 rfl (K.toList.map encB) _ hrg Tryz.underlying26 rfl z1 ?_) | (refine wpList_store_mid rfl 26 _ _ rfl w.heap.size 0 (K.toList.map encB).toArray rfl rfl hth' z2 hone ?_))
   refine bodyPost_ret (v := .agg (K.toList.map encB).toArray) (results_cell1 Tryz.results33 _ _ _ w.heap.size 0 rfl (run_loadVar_mid _ _ _ 26 _ _ (World.rangeAt_setCells_same _ _ _ _ HE.out.2.2) Tryz.underlying26 rfl z1)) rfl ⟨K, HE.out.1.size, HE.out.1.bytes, rfl, ?_⟩
   exact fed_setCells HE.out.2.1 (Nat.le_refl _) hfb _ _
  ·have hm0 : (0 : Int) < (m : Int) := by omega
   have hlt := hk.lt
   have HK : Hid (KeyAt wr w.heap.size K ∧ Fed fb raw w wr ∧ m ≤ c1 ∧ ¬ m = 0) := ⟨hk, hfd, hm, h0⟩
   clear hk hfd hm h0
   go_wp2_with fail
   refine (HN.out 12 wr HK.out.2.1.2 (by omega) (by omega)).mono ?_
   rintro e w2 ⟨c2, hc2, rfl, hf2⟩
   have hK2 := HK.out.1.fed hf2 hfb
   have p2 := hK2.pl c2 hc2
   have hp64 := places_lt c2
   obtain ⟨at_, hat⟩ : ∃ x, placesN[c2]! = x := ⟨_, rfl⟩
   rw [hat] at p2 hp64
   have i2 : (c2 : Int) < 12 := by omega
   have H2 : Hid (KeyAt w2 w.heap.size K ∧ Fed fb raw w w2) := ⟨hK2, HK.out.2.1.trans hf2⟩
   clear hf2 hK2 hat
   go_wp2_with fail
   refine (HN.out 4 w2 H2.out.2.2 (by omega) (by omega)).mono ?_
   rintro e w3 ⟨c3, hc3, rfl, hf3⟩
   have hK3 := H2.out.1.fed hf3 hfb
   have H3 : Hid (KeyAt w3 w.heap.size K ∧ Fed fb raw w w3) := ⟨hK3, H2.out.2.trans hf3⟩
   obtain ⟨h, hh⟩ : ∃ h, at_ / 2 = h := ⟨_, rfl⟩
   have hh32 : h < 32 := by omega
   have htd : (at_ : Int).tdiv 2 = (h : Int) := by rw [← hh]; exact (Int.ofNat_tdiv at_ 2).symm
   obtain ⟨x, hx⟩ : ∃ x, K[h]! = x := ⟨_, rfl⟩
   obtain ⟨q1, q2⟩ := hK3.row h (by rw [hK3.size]; exact hh32)
   rw [Nat.zero_add, hx] at q1
   rw [Nat.zero_add] at q2
   have hx8 : x < 256 := by rw [← hx]; exact hK3.bytes h
   have q1' : w3.cell? ⟨w.heap.size + 1, h, none⟩ = some (.int .u8 (x : Int)) := q1
   have k3 : IntKind.u8.wrap (c3 : Int) = (c3 : Int) := wrap8 (by omega)
   have k4 : IntKind.u8.wrap ((c3 : Int) * 16) = (c3 : Int) * 16 := by
    have := wrap8 (c := c3 * 16) (by omega)
    rw [show ((c3 * 16 : Nat) : Int) = (c3 : Int) * 16 by omega] at this
    exact this
   have HKm : Hid (wrap64 ((m : Int) - 1) = ((m - 1 : Nat) : Int)) := by
    have h : wrap64 ((m : Int) - 1) = ((m - 1 : Nat) : Int) := (by unfold wrap64; have := HK.out; omega)
    exact h
   have ih : (h : Int) < 32 := by omega
   obtain ⟨g, hg⟩ : ∃ g, at_ % 2 = g := ⟨_, rfl⟩
   have htm : (at_ : Int).tmod 2 = (g : Int) := by rw [← hg]; exact (Int.ofNat_tmod at_ 2).symm
   have HM : Hid (m - 1 ≤ c1 ∧ m - 1 < m ∧ h < 32) := ⟨by have := HK.out; omega, by have := HK.out; omega, hh32⟩
   by_cases hev : g = 0
   ·obtain ⟨hor, hz⟩ := or_u8 x (c3 * 16) hx8 (by omega)
    rw [show ((c3 * 16 : Nat) : Int) = (c3 : Int) * 16 by omega] at hor
    obtain ⟨z, hzz⟩ : ∃ z, x ||| (c3 * 16) = z := ⟨_, rfl⟩
    rw [hzz] at hor hz
    subst hev
    have HZ : Hid (z < 256) := hz
    clear hf3 hK3 hh hh32 hx q1 hx8 hzz hz hg hp64 hc3 hc2
    go_wp2
    go_roundg (m - 1)
    case measure => exact HM.out.2.1
    case rel => exact ⟨m - 1, _, rfl, HM.out.1, val_int HKm.out, H3.out.1.set HM.out.2.2 HZ.out, fed_setCells H3.out.2 (by omega) hfb [_] h⟩
   ·obtain ⟨hor, hz⟩ := or_u8 x c3 hx8 (by omega)
    obtain ⟨z, hzz⟩ : ∃ z, x ||| c3 = z := ⟨_, rfl⟩
    rw [hzz] at hor hz
    have hgb : ((g : Int) == 0) = false := by simp; omega
    have HZ : Hid (z < 256) := hz
    clear hf3 hK3 hh hh32 hx q1 hx8 hzz hz hg hp64 hc3 hc2 hev
    go_wp2
    go_roundg (m - 1)
    case measure => exact HM.out.2.1
    case rel => exact ⟨m - 1, _, rfl, HM.out.1, val_int HKm.out, H3.out.1.set HM.out.2.2 HZ.out, fed_setCells H3.out.2 (by omega) hfb [_] h⟩
end Go.Proofs.YtjiikjpnlgogfaaGreatDoor
namespace Go.Proofs.YtjiikjpnlgogfaaGreatDoor
open Go.RowKit
theorem key_same (K L : Array Nat) (hK : K.size = 32) (hL : L.size = 32) (hKb : Bytes K) (hLb : Bytes L) (w : World) : (Op.equalIn 10000 26 (.agg (K.toList.map encB).toArray) (.agg (L.toList.map encB).toArray)).run Tryz.prog w = .ok (decide (K = L)) w := by
 have hs5 : ∀ w, (sizeOf 5).run Tryz.prog w = .ok 1 w := fun w => by kernel_rfl
 have hc : ∀ (A : Array Nat), Bytes A → A.toList.map encB = (A.toList.map UInt8.ofNat).map Extern.Stop.cell := fun A hA => by
  rw [List.map_map]
  apply List.map_congr_left
  intro x hx
  obtain ⟨j, hj, rfl⟩ := List.getElem_of_mem hx
  have hlt : A.toList[j] < 256 := by
   have := hA j
   rw [getElem!_pos A j (by simpa using hj)] at this
   simpa using this
  show Value.int .u8 _ = Value.int .u8 _
  congr 1
  have hlt' : A[j] < 256 := by simpa using hlt
  simp
  omega
 have h := run_equalIn_bytes (P := Tryz.prog) w 9998 26 5 32 Tryz.underlying26 Tryz.underlying5 hs5 (K.toList.map UInt8.ofNat) (L.toList.map UInt8.ofNat) (by simp [hK]) (by simp [hL])
 rw [← hc K hKb, ← hc L hLb] at h
 rw [h]
 by_cases e : K = L
 ·rw [e, decide_eq_true rfl]
  simp
 ·have hne : K.toList.map UInt8.ofNat ≠ L.toList.map UInt8.ofNat := fun he => e (by
   have h1 := congrArg (List.map Extern.Stop.cell) he
   rw [← hc K hKb, ← hc L hLb] at h1
   have hinj : ∀ x y : Nat, encB x = encB y → x = y := fun x y hxy => by
    simp only [encB, Value.int.injEq] at hxy
    omega
   exact Array.toList_inj.1 ((List.map_inj_right (fun {x y} => hinj x y)).1 h1))
  rw [decide_eq_false e, beq_eq_false_iff_ne.2 hne]
structure Kn (w : World) (C : Nat) (ks vs : Value) (m : List (Array Nat × ByteArray)) : Prop where
 keys : OwnC w C 32 ks m.length (m.flatMap fun x => x.1.toList.map encB)
 vals : OwnC w C 1 vs m.length (m.map fun x => .string x.2)
 ok : ∀ x ∈ m, x.1.size = 32 ∧ Bytes x.1 ∧ 0 < x.2.size ∧ x.2.size ≤ 100
 apart : ∀ g, ks.ownBlock = some g → vs.ownBlock ≠ some g
theorem Kn.below {w w' : World} {C : Nat} {ks vs : Value} {m : List (Array Nat × ByteArray)} (h : Kn w C ks vs m) (hb : Below w.heap.size w w') : Kn w' C ks vs m := ⟨h.keys.below hb, h.vals.below hb, h.ok, h.apart⟩
theorem keys_flat {m : List (Array Nat × ByteArray)} (h : ∀ x ∈ m, x.1.size = 32) {i : Nat} (hi : i < m.length) {j : Nat} {u : Value} (hu : (m[i].1.toList.map encB)[j]? = some u) : (m.flatMap fun x => x.1.toList.map encB)[i * 32 + j]? = some u := by
 induction m generalizing i with
 | nil => simp at hi
 | cons x m ih =>
  have h1 := h x (List.mem_cons_self ..)
  have hl : (x.1.toList.map encB).length = 32 := by rw [List.length_map, Array.length_toList, h1]
  rw [List.flatMap_cons]
  cases i with
  | zero =>
   rw [List.getElem_cons_zero] at hu
   rw [Nat.zero_mul, Nat.zero_add, List.getElem?_append_left (List.getElem?_eq_some_iff.1 hu).1]
   exact hu
  | succ i =>
   rw [List.getElem_cons_succ] at hu
   rw [List.getElem?_append_right (by omega), hl, show (i + 1) * 32 + j - 32 = i * 32 + j by omega]
   exact ih (fun y hy => h y (List.mem_cons_of_mem _ hy)) (by simpa using hi) hu
theorem Kn.key {w : World} {C : Nat} {ks vs : Value} {m : List (Array Nat × ByteArray)} (h : Kn w C ks vs m) {i : Nat} (hi : i < m.length) : ∃ g cap, ks = .slice (some ⟨g, 0, none⟩) m.length cap ∧ g < w.heap.size ∧ w.rangeAt g (i * 32) (m[i].1.toList.map encB) := by
 obtain ⟨g, cap, e, h1, h2, h3, h4, h5, h6⟩ : ∃ g cap, ks = .slice (some ⟨g, 0, none⟩) m.length cap ∧ C ≤ g ∧ g < w.heap.size ∧ m.length ≤ cap ∧ cap ≤ maxLen ∧ w.there g 0 (cap * 32) ∧ w.rangeAt g 0 (m.flatMap fun x => x.1.toList.map encB) := by
  rcases h.keys.2 with ⟨_, h0⟩ | h
  ·omega
  ·exact h
 refine ⟨g, cap, e, h2, fun j u hu => ?_⟩
 have := h6 (i * 32 + j) u (keys_flat (fun x hx => (h.ok x hx).1) hi hu)
 rwa [Nat.zero_add] at this
def findN : List (Array Nat × ByteArray) → Array Nat → Option Nat
 | [], _ => none
 | x :: m, K => if x.1 = K then some 0 else (findN m K).map (· + 1)
theorem findN_drop {m : List (Array Nat × ByteArray)} {K : Array Nat} : ∀ {i : Nat}, (∀ j (h : j < m.length), j < i → m[j].1 ≠ K) → i ≤ m.length → findN m K = (findN (m.drop i) K).map (· + i) := by
 induction m with
 | nil => intro i _ hi; have : i = 0 := (by simpa using hi); subst this; rfl
 | cons x m ih =>
  intro i h hi
  cases i with
  | zero => rw [List.drop_zero]; cases findN (x :: m) K <;> rfl
  | succ i =>
   have h0 := h 0 (by simp) (by omega)
   rw [List.getElem_cons_zero] at h0
   rw [findN, if_neg h0, List.drop_succ_cons, ih (i := i) (fun j hj hji => by have := h (j + 1) (by simpa using hj) (by omega); simpa using this) (by simpa using hi)]
   cases findN (m.drop i) K <;> simp [Nat.add_assoc]
end Go.Proofs.YtjiikjpnlgogfaaGreatDoor
namespace Go.Proofs.YtjiikjpnlgogfaaGreatDoor
open Go.RowKit
theorem quiet_load_mid {P : Program} {C : World → Prop} {op : Oper} {a : Act} {K : Act → Prop} (ty : TypeId) (x : Operand) (ho : op.op = .load ty x) (b o : Nat) (hx : a.eval x = .pointer (some ⟨b, o, none⟩)) (cs : List Value) (d : TypeDesc) (hc : ∀ w, C w → w.rangeAt b o cs) (hu : P.underlying ty = some d) (hd : d.isRow = true) (hi : (P.info? ty).map (·.size) = some cs.length) (h : K (a.put op.dst (.agg cs.toArray))) : op.quiet P a C K :=
 ⟨_, fun w hw => by
  unfold Oper.quietAt execOp
  simp only [ho, hx, Instr.loadAt, Instr.sureAddr, Sem.run_bind, Sem.run_pure, Result.andThen_ok, run_loadVar_mid w b o ty cs d (hc w hw) hu hd hi]
  exact ⟨rfl, rfl⟩, h⟩
def findV : Option Nat → Int
 | none => -1
 | some i => (i : Int)
theorem findN_at {m : List (Array Nat × ByteArray)} {K : Array Nat} {i : Nat} (h : ∀ j (hj : j < m.length), j < i → m[j].1 ≠ K) (hi : i < m.length) (he : m[i].1 = K) : findN m K = some i := by
 rw [findN_drop h (Nat.le_of_lt hi), List.drop_eq_getElem_cons hi, findN, if_pos he]
 simp
theorem findN_no {m : List (Array Nat × ByteArray)} {K : Array Nat} (h : ∀ j (hj : j < m.length), m[j].1 ≠ K) : findN m K = none := by
 rw [findN_drop (i := m.length) (fun j hj _ => h j hj) (Nat.le_refl _), List.drop_of_length_le (Nat.le_refl _)]
 rfl
set_option maxRecDepth 100000 in
set_option maxHeartbeats 3200000 in
theorem kfind_any {w : World} {C : Nat} {ks vs : Value} {m : List (Array Nat × ByteArray)} {K : Array Nat} (h : Kn w C ks vs m) (hm : m.length ≤ 1000) (hK : K.size = 32) (hKb : Bytes K) :
  Calls Tryz.prog 27 #[.agg #[ks, vs], .agg (K.toList.map encB).toArray] w fun e w' => e = .returned (.int .i64 (findV (findN m K))) ∧ Below w.heap.size w w' := by
 obtain ⟨pk, mk, ck, rfl⟩ := h.keys.shape
 obtain ⟨pv, mv, cv, rfl⟩ := h.vals.shape
 have hmk : mk = m.length := by
  rcases h.keys.2 with ⟨h1, h2⟩ | ⟨g, cap, h1, _⟩
  ·simp only [Value.slice.injEq] at h1; omega
  ·simp only [Value.slice.injEq] at h1; exact h1.2.1
 subst hmk
 have hsz : (Tryz.prog.info? 26).map (·.size) = some (K.toList.map encB).length := by rw [size51]; simp [hK]
 obtain ⟨W0, hW0⟩ : ∃ W0, (w.alloc (.cells #[.slice pk m.length ck, .slice pv mv cv] 54)).alloc (.cells (K.toList.map encB).toArray 26) = W0 := ⟨_, rfl⟩
 have hb0 : Below w.heap.size w W0 := by rw [← hW0]; exact ((Below.refl _ _).alloc (Nat.le_refl _) _).alloc (by simp) _
 have hs0 : W0.heap.size = w.heap.size + 2 := by rw [← hW0]; simp
 have c0 : W0.cell? ⟨w.heap.size, 0, none⟩ = some (.slice pk m.length ck) := by rw [← hW0]; simp
 have hrow : W0.rangeAt (w.heap.size + 1) 0 (K.toList.map encB) := fun j u hu => by
  have e1 : (w.alloc (.cells #[.slice pk m.length ck, .slice pv mv cv] 54)).heap.size = w.heap.size + 1 := by simp
  rw [← hW0, Nat.zero_add, ← e1, World.cell?_alloc_new]
  simpa using hu
 have HK0 := Hid.hide (h.below hb0)
 obtain ⟨R, hR⟩ : ∃ R, findV (findN m K) = R := ⟨_, rfl⟩
 have HX : Hid (findV (findN m K) = R ∧ K.size = 32 ∧ Bytes K ∧ m.length ≤ 1000 ∧ Below w.heap.size w W0 ∧ W0.heap.size = w.heap.size + 2) := ⟨hR, hK, hKb, hm, hb0, hs0⟩
 have hu26 := Tryz.underlying26
 rw [hR]
 clear h hm hK hKb hb0 hs0 hR
 go_enter Tryz.func27, Tryz.ntmps27
 go_wp2
 clear hW0
 go_loopg [5] m.length (fun g i wr => ∃ k : Nat, k ≤ m.length ∧ g = m.length - k ∧ i = .int .i64 (k : Int) ∧ (∀ j (hj : j < m.length), j < k → m[j].1 ≠ K) ∧ ∃ q, wr = W0.drewN q)
 case atStart => exact ⟨0, Nat.zero_le _, rfl, rfl, fun j _ h => absurd h (Nat.not_lt_zero _), 0, rfl⟩
 case round =>
  obtain ⟨k, hk, rfl, rfl, hne, q, rfl⟩ := hrel
  by_cases hlt : k < m.length
  ·have i1 : (k : Int) < (m.length : Int) := by omega
   obtain ⟨g, cap, hks, hgl, hrg⟩ := HK0.out.key hlt
   simp only [Value.slice.injEq] at hks
   obtain ⟨rfl, -, rfl⟩ := hks
   have hmem := HK0.out.ok _ (List.getElem_mem hlt)
   have hsz2 : (Tryz.prog.info? 26).map (·.size) = some (m[k].1.toList.map encB).length := by rw [size51]; simp [hmem.1]
   have heq := fun W => key_same m[k].1 K hmem.1 HX.out.2.1 hmem.2.1 HX.out.2.2.1 W
   have HNe := Hid.hide hne
   by_cases he : m[k].1 = K
   ·have hfin : R = (k : Int) := by rw [← HX.out.1, findN_at hne hlt he]; rfl
    rw [decide_eq_true he] at heq
    have HR := Hid.hide hfin
    clear hne hfin he hmem
    go_upto_region 4 with fail
    refine wp_region_quiet_lit (by kernel_rfl) (by kernel_rfl) ?_
    iterate 4 (go_big_quiet_step (fail))
    refine BigFrame.wpQuiet_want rfl fun Kq hKq => quiet_load_mid 26 _ rfl g (k * 32) rfl (m[k].1.toList.map encB) _ (fun W hW => ?ld1) hu26 rfl hsz2 (hKq _ ?_)
    case ld1 => obtain ⟨n, rfl⟩ := hW; exact fun j u hu => (by simpa using hrg j u hu)
    clear Kq hKq
    refine BigFrame.wpQuiet_want rfl fun Kq hKq => quiet_load_mid 26 _ rfl (w.heap.size + 1) 0 rfl (K.toList.map encB) _ (fun W hW => ?ld2) hu26 rfl hsz (hKq _ ?_)
    case ld2 => obtain ⟨n, rfl⟩ := hW; exact fun j u hu => (by simpa using hrow j u hu)
    clear Kq hKq
    quiet_step (fail)
    refine wpQuiet_nil ?_
    rintro _ ⟨nq, rfl⟩
    go_wp2
    go_ret
    exact ⟨by rw [HR.out]; rfl, Below.drewN (Below.drewN HX.out.2.2.2.2.1 q) nq⟩
   ·rw [decide_eq_false he] at heq
    have HQ : Hid (∀ j (hj : j < m.length), j < k + 1 → m[j].1 ≠ K) := fun j hj hjk => by
     by_cases e : j = k
     ·subst e; exact he
     ·exact HNe.out j hj (by omega)
    have hk1 := HX.out.2.2.2.1
    have hw1 : wrap64 ((k : Int) + 1) = ((k + 1 : Nat) : Int) := by unfold wrap64; omega
    have HW1 := Hid.hide hw1
    clear hne he hmem hw1 hk1
    go_upto_region 4 with fail
    refine wp_region_quiet_lit (by kernel_rfl) (by kernel_rfl) ?_
    iterate 4 (go_big_quiet_step (fail))
    refine BigFrame.wpQuiet_want rfl fun Kq hKq => quiet_load_mid 26 _ rfl g (k * 32) rfl (m[k].1.toList.map encB) _ (fun W hW => ?ld1) hu26 rfl hsz2 (hKq _ ?_)
    case ld1 => obtain ⟨n, rfl⟩ := hW; exact fun j u hu => (by simpa using hrg j u hu)
    clear Kq hKq
    refine BigFrame.wpQuiet_want rfl fun Kq hKq => quiet_load_mid 26 _ rfl (w.heap.size + 1) 0 rfl (K.toList.map encB) _ (fun W hW => ?ld2) hu26 rfl hsz (hKq _ ?_)
    case ld2 => obtain ⟨n, rfl⟩ := hW; exact fun j u hu => (by simpa using hrow j u hu)
    clear Kq hKq
    quiet_step (fail)
    refine wpQuiet_nil ?_
    rintro _ ⟨nq, rfl⟩
    go_wp2
    go_roundg (m.length - (k + 1))
    case measure => omega
    case rel => exact ⟨k + 1, hlt, rfl, by rw [HW1.out], HQ.out, q + nq, rfl⟩
  ·have i1 : ¬ (k : Int) < (m.length : Int) := by omega
   have hfin : R = -1 := by rw [← HX.out.1, findN_no fun j hj => hne j hj (by omega)]; rfl
   have HR := Hid.hide hfin
   clear hne hfin
   go_wp2
   go_ret
   exact ⟨by rw [HR.out]; rfl, Below.drewN HX.out.2.2.2.2.1 q⟩
end Go.Proofs.YtjiikjpnlgogfaaGreatDoor
namespace Go.Proofs.YtjiikjpnlgogfaaGreatDoor
open Go.RowKit
def offAt : Value → Nat
 | .pointer (some a) => a.off
 | _ => 0
@[simp] theorem offAt_pointer (b o : Nat) : offAt (.pointer (some ⟨b, o, none⟩)) = o := rfl
@[simp] theorem cells_agg (cs : Array Value) : Value.cells (.agg cs) = cs := rfl
def keyCells (w : World) (b o : Nat) : Array Value := ((List.range 32).map fun j => (w.cell? ⟨b, o + j, none⟩).getD undef).toArray
def HasKey (w : World) (b o : Nat) : Prop := ∀ j, j < 32 → (w.cell? ⟨b, o + j, none⟩).isSome = true
theorem keyCells_of {w : World} {b o : Nat} {cs : List Value} (h : w.rangeAt b o cs) (hl : cs.length = 32) : keyCells w b o = cs.toArray ∧ HasKey w b o := by
 have hj : ∀ j (hj : j < 32), w.cell? ⟨b, o + j, none⟩ = some (cs[j]'(by omega)) := fun j hj => h j _ (List.getElem?_eq_getElem (by omega))
 refine ⟨?_, fun j hjj => by rw [hj j hjj]; rfl⟩
 unfold keyCells
 apply congrArg List.toArray
 apply List.ext_getElem (by simp [hl])
 intro j h1 h2
 have h3 : j < 32 := by simpa using h1
 rw [List.getElem_map, List.getElem_range, hj j h3]
 rfl
theorem keyCells_drew (w : World) (b o : Nat) : keyCells w.drew b o = keyCells w b o := rfl
theorem hasKey_drew (w : World) (b o : Nat) : HasKey w.drew b o = HasKey w b o := rfl
theorem wp_load_key (dst : Option Tmp) (x : Operand) (type : TypeId) (pos : String) (af : Array Edge) (gd : Option (Nat × Bool)) (a : Act) (w : World) (K : Act → World → Prop) (Q : Exit → Act → World → Prop)
  (hx : a.eval x = .pointer (some ⟨blockOf (a.eval x), offAt (a.eval x), none⟩)) (hall : HasKey w (blockOf (a.eval x)) (offAt (a.eval x))) :
  Oper.wp Tryz.prog { dst := dst, op := .load 26 x, type := type, pos := pos, after := af, guard := gd } a w K Q = K (a.put dst (.agg (keyCells w (blockOf (a.eval x)) (offAt (a.eval x))))) w := by
 generalize blockOf (a.eval x) = b at hx hall ⊢
 generalize offAt (a.eval x) = o at hx hall ⊢
 have hr : w.rangeAt b o ((List.range 32).map fun j => (w.cell? ⟨b, o + j, none⟩).getD undef) := by
  intro j v hv
  have hj : j < 32 := by
   have := (List.getElem?_eq_some_iff.1 hv).1
   simpa using this
  obtain ⟨u, hu⟩ := Option.isSome_iff_exists.1 (hall j hj)
  simp only [List.getElem?_map, List.getElem?_range hj, Option.map_some, Option.some.injEq] at hv
  rw [hu, ← hv, hu]
  rfl
 unfold Oper.wp execOp
 simp only [hx, Instr.loadAt, Instr.sureAddr, Sem.run_bind, Sem.run_pure, Result.andThen_ok, run_loadVar_mid w b o 26 _ _ hr Tryz.underlying26 rfl (by rw [size51]; simp)]
 rfl
theorem keyZ : (Tryz.prog.info? 26).map (fun i => (i.zero, i.size, i.bytes)) = some (some (.agg (zero32.map encB)), 32, 32) := by kernel_rfl
theorem strZ : (Tryz.prog.info? 9).map (fun i => (i.zero, i.size, i.bytes)) = some (some (.string ⟨#[]⟩), 1, 16) := by kernel_rfl
theorem run_build_key (w : World) (cs : Array Value) (h : cs.size = 32) : (Instr.buildSlice 51 1 #[(0, .agg cs)]).run Tryz.prog w = .ok (.slice (some ⟨w.heap.size, 0, none⟩) 1 1) (w.alloc (.cells cs 26)) := by
 obtain ⟨i, h1, h2, h3, h4⟩ := info_parts keyZ
 refine run_buildSlice w _ 26 1 _ cs i (.agg (zero32.map encB)) Tryz.underlying51 h1 h2 (by rw [h3]; decide) (by rw [h3]; decide) ?_
 rw [h3]
 have := Great.fill_whole (s := 32) (by decide) [.agg cs] ((Array.range (1 * 32)).map ((Value.agg (zero32.map encB)).cells[· % (Value.agg (zero32.map encB)).cells.size]!)) (by simpa [Value.cells] using h) (by simp)
 simpa [Value.cells] using this
theorem wp_build_key (dst : Option Tmp) (x : Operand) (type : TypeId) (pos : String) (af : Array Edge) (gd : Option (Nat × Bool)) (a : Act) (w : World) (K : Act → World → Prop) (Q : Exit → Act → World → Prop)
  (hx : a.eval x = .agg (a.eval x).cells) (hs : (a.eval x).cells.size = 32) :
  Oper.wp Tryz.prog { dst := dst, op := .buildSlice 51 1 #[(0, x)], type := type, pos := pos, after := af, guard := gd } a w K Q = K (a.put dst (.slice (some ⟨w.heap.size, 0, none⟩) 1 1)) (w.alloc (.cells (a.eval x).cells 26)) := by
 generalize (a.eval x).cells = cs at hx hs ⊢
 have h := run_build_key w cs hs
 unfold Oper.wp execOp
 simp only [List.map_toArray, List.map_cons, List.map_nil, hx, Sem.run_bind, h, Result.andThen_ok]
 rfl
end Go.Proofs.YtjiikjpnlgogfaaGreatDoor
namespace Go.Proofs.YtjiikjpnlgogfaaGreatDoor
open Go.RowKit
structure Kv (w : World) (C ob : Nat) (ks vs : Value) (A : List (Array Nat)) (V : List ByteArray) : Prop where
 keys : OwnC w C 32 ks A.length (A.flatMap fun x => x.toList.map encB)
 vals : OwnC w C 1 vs V.length (V.map Value.string)
 apart : ∀ g, ks.ownBlock = some g → vs.ownBlock ≠ some g
 c0 : w.cell? ⟨ob, 0, none⟩ = some ks
 c1 : w.cell? ⟨ob, 1, none⟩ = some vs
 f0 : w.frozen? ⟨ob, 0, none⟩ = false
 f1 : w.frozen? ⟨ob, 1, none⟩ = false
 lt : ob < w.heap.size
 size : C ≤ w.heap.size
 nk : ks.ownBlock ≠ some ob
 nv : vs.ownBlock ≠ some ob
theorem Kv.heap {w w' : World} {C ob : Nat} {ks vs : Value} {A : List (Array Nat)} {V : List ByteArray} (h : Kv w C ob ks vs A V) (hh : w'.heap = w.heap) : Kv w' C ob ks vs A V :=
 ⟨h.keys.keep (by rw [hh]; exact Nat.le_refl _) fun k _ _ => by rw [hh], h.vals.keep (by rw [hh]; exact Nat.le_refl _) fun k _ _ => by rw [hh], h.apart, (World.cell?_of_block (by rw [hh])).trans h.c0, (World.cell?_of_block (by rw [hh])).trans h.c1, (World.frozen?_of_block (by rw [hh])).trans h.f0, (World.frozen?_of_block (by rw [hh])).trans h.f1, by rw [hh]; exact h.lt, by rw [hh]; exact h.size, h.nk, h.nv⟩
theorem Kv.var {w w2 : World} {C ob : Nat} {ks vs : Value} {A : List (Array Nat)} {V : List ByteArray} {o : Obj} {x : Option Nat} (h : Kv w C ob ks vs A V) (hx : x = ks.ownBlock ∨ x = vs.ownBlock) (hg : (w.alloc o).grownBy w2 x) : w2.heap[ob]? = w.heap[ob]? ∧ ob < w2.heap.size ∧ C ≤ w2.heap.size := by
 have hs := hg.size
 have h1 := h.lt
 have h2 := h.size
 simp only [World.size_alloc] at hs
 refine ⟨(hg.block ob (by simp; omega) fun e => ?_).trans (Below.heap_alloc _ _ _ (by omega)), by omega, by omega⟩
 rcases hx with rfl | rfl
 ·exact h.nk e.symm
 ·exact h.nv e.symm
theorem setCell_own {w : World} {C size : Nat} {v : Value} {n : Nat} {cs : List Value} (h : OwnC w C size v n cs) {ob : Nat} (hob : v.ownBlock ≠ some ob) (j : Nat) (u : Value) : OwnC (w.setCell ⟨ob, j, none⟩ u) C size v n cs :=
 h.keep (by simp) fun k _ e => Below.heap_setCell _ _ _ _ (fun e' => hob (by rw [e]; exact congrArg some e'))
theorem Kv.key {w w2 : World} {C ob : Nat} {ks vs v2 : Value} {A : List (Array Nat)} {V : List ByteArray} {o : Obj} {K : Array Nat} (h : Kv w C ob ks vs A V) (hO : OwnC w2 C 32 v2 (A.length + 1) ((A.flatMap fun x => x.toList.map encB) ++ K.toList.map encB)) (hg : (w.alloc o).grownBy w2 ks.ownBlock) (hf : ∀ k, v2.ownBlock = some k → ks.ownBlock = some k ∨ (w.alloc o).heap.size ≤ k) : Kv (w2.setCell ⟨ob, 0, none⟩ v2) C ob v2 vs (A ++ [K]) V := by
 obtain ⟨hb, hl, hC⟩ := h.var (.inl rfl) hg
 have hv : OwnC w2 C 1 vs V.length (V.map Value.string) := (h.vals.alloc o).keep hg.size fun k hk e => hg.block k hk fun e' => h.apart k e'.symm e
 have hn2 : v2.ownBlock ≠ some ob := fun e => by
  rcases hf ob e with e2 | e2
  ·exact h.nk e2
  ·have := h.lt
   simp at e2
   omega
 refine ⟨?_, setCell_own hv h.nv _ _, fun g e e' => ?_, ?_, ?_, ?_, ?_, by simpa using hl, by simpa using hC, hn2, h.nv⟩
 ·have := setCell_own hO hn2 0 v2
  rw [List.length_append, List.flatMap_append]
  simpa using this
 ·rcases hf g e with e2 | e2
  ·exact h.apart g e2 e'
  ·have := (h.vals.block g e').2
   simp at e2
   omega
 ·exact World.cell?_setCell_same' _ _ _ (by rw [World.cell?_of_block hb, h.c0]; rfl)
 ·rw [World.cell?_setCell_other _ _ _ _ (by simp), World.cell?_of_block hb, h.c1]
 ·rw [World.frozen?_setCell, World.frozen?_of_block hb, h.f0]
 ·rw [World.frozen?_setCell, World.frozen?_of_block hb, h.f1]
theorem Kv.val {w w2 : World} {C ob : Nat} {ks vs v2 : Value} {A : List (Array Nat)} {V : List ByteArray} {o : Obj} {u : ByteArray} (h : Kv w C ob ks vs A V) (hO : OwnC w2 C 1 v2 (V.length + 1) (V.map Value.string ++ [.string u])) (hg : (w.alloc o).grownBy w2 vs.ownBlock) (hf : ∀ k, v2.ownBlock = some k → vs.ownBlock = some k ∨ (w.alloc o).heap.size ≤ k) : Kv (w2.setCell ⟨ob, 1, none⟩ v2) C ob ks v2 A (V ++ [u]) := by
 obtain ⟨hb, hl, hC⟩ := h.var (.inr rfl) hg
 have hv : OwnC w2 C 32 ks A.length (A.flatMap fun x => x.toList.map encB) := (h.keys.alloc o).keep hg.size fun k hk e => hg.block k hk fun e' => h.apart k e e'.symm
 have hn2 : v2.ownBlock ≠ some ob := fun e => by
  rcases hf ob e with e2 | e2
  ·exact h.nv e2
  ·have := h.lt
   simp at e2
   omega
 refine ⟨setCell_own hv h.nk _ _, ?_, fun g e e' => ?_, ?_, ?_, ?_, ?_, by simpa using hl, by simpa using hC, h.nk, hn2⟩
 ·have := setCell_own hO hn2 1 v2
  rw [List.length_append, List.map_append]
  simpa using this
 ·rcases hf g e' with e2 | e2
  ·exact h.apart g e e2
  ·have := (h.keys.block g e).2
   simp at e2
   omega
 ·rw [World.cell?_setCell_other _ _ _ _ (by simp), World.cell?_of_block hb, h.c0]
 ·exact World.cell?_setCell_same' _ _ _ (by rw [World.cell?_of_block hb, h.c1]; rfl)
 ·rw [World.frozen?_setCell, World.frozen?_of_block hb, h.f0]
 ·rw [World.frozen?_setCell, World.frozen?_of_block hb, h.f1]
theorem Kv.below {w w2 W0 : World} {B C ob : Nat} {ks vs : Value} {A : List (Array Nat)} {V : List ByteArray} {o : Obj} {x : Option Nat} (h : Kv w C ob ks vs A V) (hx : x = ks.ownBlock ∨ x = vs.ownBlock) (hg : (w.alloc o).grownBy w2 x) (hb : Below B W0 w) (hB : B ≤ ob) (hBC : B ≤ C) (hB0 : B ≤ W0.heap.size) (j : Nat) (u : Value) : Below B W0 (w2.setCell ⟨ob, j, none⟩ u) := by
 refine (belowGrown (hb.alloc (Nat.le_trans hB0 hb.size) o) hB0 hg fun k e => ?_).setCell (p := ⟨ob, j, none⟩) hB u
 rcases hx with rfl | rfl
 ·have := (h.keys.block k e).1; omega
 ·have := (h.vals.block k e).1; omega
theorem Kv.kn {w : World} {C ob : Nat} {ks vs : Value} {m : List (Array Nat × ByteArray)} (h : Kv w C ob ks vs (m.map (·.1)) (m.map (·.2))) (ok : ∀ x ∈ m, x.1.size = 32 ∧ Bytes x.1 ∧ 0 < x.2.size ∧ x.2.size ≤ 100) : Kn w C ks vs m := by
 refine ⟨?_, ?_, ok, h.apart⟩
 ·have := h.keys
  rw [List.length_map, List.flatMap_map] at this
  exact this
 ·have := h.vals
  rw [List.length_map, List.map_map] at this
  exact this
end Go.Proofs.YtjiikjpnlgogfaaGreatDoor
namespace Go.Proofs.YtjiikjpnlgogfaaGreatDoor
open Go.RowKit
def woN (m : List (Array Nat × ByteArray)) (K : Array Nat) : List (Array Nat × ByteArray) := m.filter fun x => decide (x.1 ≠ K)
theorem wo_take_ne {m : List (Array Nat × ByteArray)} {K : Array Nat} {k : Nat} (hk : k < m.length) (h : m[k].1 ≠ K) : woN (m.take (k + 1)) K = woN (m.take k) K ++ [m[k]] := by
 rw [woN, woN, List.take_succ_eq_append_getElem hk, List.filter_append]
 simp [h]
theorem wo_take_eq {m : List (Array Nat × ByteArray)} {K : Array Nat} {k : Nat} (hk : k < m.length) (h : m[k].1 = K) : woN (m.take (k + 1)) K = woN (m.take k) K := by
 rw [woN, woN, List.take_succ_eq_append_getElem hk, List.filter_append]
 simp [h]
theorem wo_len (m : List (Array Nat × ByteArray)) (K : Array Nat) : (woN m K).length ≤ m.length := List.length_filter_le ..
theorem oneCell_key (K : Array Nat) : ∀ u ∈ K.toList.map encB, u.oneCell' = true := oneCell_enc K .u8
theorem Kn.val {w : World} {C : Nat} {ks vs : Value} {m : List (Array Nat × ByteArray)} (h : Kn w C ks vs m) {i : Nat} (hi : i < m.length) : ∃ g cap, vs = .slice (some ⟨g, 0, none⟩) m.length cap ∧ g < w.heap.size ∧ w.cell? ⟨g, i, none⟩ = some (.string m[i].2) := by
 obtain ⟨g, cap, e, h1, h2, h3, h4, h5, h6⟩ := h.vals.full (by omega)
 refine ⟨g, cap, e, h2, ?_⟩
 have := h6 i (.string m[i].2) (by rw [List.getElem?_map, List.getElem?_eq_getElem hi]; rfl)
 rwa [Nat.zero_add] at this
theorem keyZs : (Value.agg (zero32.map encB)).cells.size = 32 := by simp [zero32]
theorem undrewG {w w2 : World} {x : Option Nat} (h : w.drew.grownBy w2 x) : w.grownBy w2 x := ⟨h.os, h.tape, h.output, h.size, h.block⟩
theorem heap_at4 (w : World) (a b c d : Obj) : ((((w.alloc a).alloc b).alloc c).alloc d).heap[w.heap.size]? = some a ∧ ((((w.alloc a).alloc b).alloc c).alloc d).heap[w.heap.size + 1]? = some b ∧ ((((w.alloc a).alloc b).alloc c).alloc d).heap[w.heap.size + 2]? = some c ∧ ((((w.alloc a).alloc b).alloc c).alloc d).heap[w.heap.size + 3]? = some d := by
 have nw : ∀ (w : World) (o : Obj), (w.alloc o).heap[w.heap.size]? = some o := fun w o => Array.getElem?_push_size
 have h1 : (w.alloc a).heap.size = w.heap.size + 1 := by simp
 have h2 : ((w.alloc a).alloc b).heap.size = w.heap.size + 2 := by simp
 have h3 : (((w.alloc a).alloc b).alloc c).heap.size = w.heap.size + 3 := by simp
 refine ⟨?_, ?_, ?_, ?_⟩
 ·rw [Below.heap_alloc _ _ _ (by omega), Below.heap_alloc _ _ _ (by omega), Below.heap_alloc _ _ _ (by omega)]
  exact nw w a
 ·rw [Below.heap_alloc _ _ _ (by omega), Below.heap_alloc _ _ _ (by omega), ← h1]
  exact nw _ b
 ·rw [Below.heap_alloc _ _ _ (by omega), ← h2]
  exact nw _ c
 ·rw [← h3]
  exact nw _ d
theorem without_end {w W0 wr : World} {C : Nat} {ks vs ko vo : Value} {m l : List (Array Nat × ByteArray)} {K : Array Nat} (hk : Kv wr (w.heap.size + 4) (w.heap.size + 3) ko vo (l.map (·.1)) (l.map (·.2))) (hb : Below (w.heap.size + 3) W0 wr) (hb0 : Below w.heap.size w W0) (hl : l = woN m K) (h : Kn W0 C ks vs m) (wz : World) (h1 : wz.os = wr.os) (h2 : wz.tape = wr.tape) (h3 : wz.output = wr.output) (h4 : wz.heap = ((wr.setCell ⟨w.heap.size + 2, 0, none⟩ ko).setCell ⟨w.heap.size + 2, 1, none⟩ vo).heap) : Below w.heap.size w wz ∧ Kn wz w.heap.size ko vo (woN m K) := by
 subst hl
 have hB : Below w.heap.size w wr := hb0.trans (hb.mono (by omega))
 have hs := hk.size
 have hkn : Kn wr (w.heap.size + 4) ko vo (woN m K) := hk.kn fun x hx => h.ok x (List.mem_filter.1 hx).1
 have hne : ∀ j, j ≠ w.heap.size + 2 → wz.heap[j]? = wr.heap[j]? := fun j hj => by
  rw [h4, Below.heap_setCell _ _ _ _ hj, Below.heap_setCell _ _ _ _ hj]
 have hsz : wz.heap.size = wr.heap.size := by rw [h4]; simp
 refine ⟨⟨h1.trans hB.os, h2.trans hB.tape, h3.trans hB.output, by rw [hsz]; exact hB.size, fun j hj => (hne j (by omega)).trans (hB.block j hj)⟩, ?_⟩
 exact ⟨(hkn.keys.keep (Nat.le_of_eq hsz.symm) fun j hj e => hne j (by have := (hkn.keys.block j e).1; omega)).mono (by omega), (hkn.vals.keep (Nat.le_of_eq hsz.symm) fun j hj e => hne j (by have := (hkn.vals.block j e).1; omega)).mono (by omega), hkn.ok, hkn.apart⟩
set_option maxRecDepth 100000 in
set_option maxHeartbeats 3200000 in
attribute [local go_sem ↓] wp_load_key wp_build_key in
theorem without_any {w : World} {C : Nat} {ks vs : Value} {m : List (Array Nat × ByteArray)} {K : Array Nat} (h : Kn w C ks vs m) (hm : m.length ≤ 1000) (hK : K.size = 32) (hKb : Bytes K) :
  Calls Tryz.prog 60 #[.agg #[ks, vs], .agg (K.toList.map encB).toArray] w fun e w' => Below w.heap.size w w' ∧ ∃ ks' vs', e = .returned (.agg #[ks', vs']) ∧ Kn w' w.heap.size ks' vs' (woN m K) := by
 obtain ⟨pk, mk, ck, rfl⟩ := h.keys.shape
 obtain ⟨pv, mv, cv, rfl⟩ := h.vals.shape
 have hmk : mk = m.length := by
  rcases h.keys.2 with ⟨h1, h2⟩ | ⟨g, cap, h1, _⟩
  ·simp only [Value.slice.injEq] at h1; omega
  ·simp only [Value.slice.injEq] at h1; exact h1.2.1
 subst hmk
 obtain ⟨i0, hi, hz0, hz1, hz2⟩ := info_parts keyZ
 obtain ⟨j0, hj, hy0, hy1, hy2⟩ := info_parts strZ
 have hsz : (Tryz.prog.info? 26).map (·.size) = some (K.toList.map encB).length := by rw [size51]; simp [hK]
 obtain ⟨W0, hW0⟩ : ∃ W0, ((((w.alloc (.cells #[.slice pk m.length ck, .slice pv mv cv] 54)).alloc (.cells (K.toList.map encB).toArray 26)).alloc (.cells #[.slice none 0 0, .slice none 0 0] 54)).alloc (.cells #[.slice none 0 0, .slice none 0 0] 54)) = W0 := ⟨_, rfl⟩
 have hb0 : Below w.heap.size w W0 := by rw [← hW0]; exact ((((Below.refl _ _).alloc (Nat.le_refl _) _).alloc (by simp) _).alloc (by simp; omega) _).alloc (by simp; omega) _
 have hs0 : W0.heap.size = w.heap.size + 4 := by rw [← hW0]; simp
 obtain ⟨hp0, hp1, hp2, hp3⟩ := heap_at4 w (.cells #[.slice pk m.length ck, .slice pv mv cv] 54) (.cells (K.toList.map encB).toArray 26) (.cells #[.slice none 0 0, .slice none 0 0] 54) (.cells #[.slice none 0 0, .slice none 0 0] 54)
 rw [hW0] at hp0 hp1 hp2 hp3
 have c0 : W0.cell? ⟨w.heap.size, 0, none⟩ = some (.slice pk m.length ck) := cell_of_row W0 _ 0 _ _ (0, 0) hp0
 have c1 : W0.cell? ⟨w.heap.size, 1, none⟩ = some (.slice pv mv cv) := cell_of_row W0 _ 1 _ _ (0, 0) hp0
 have r0 : W0.cell? ⟨w.heap.size + 2, 0, none⟩ = some (.slice none 0 0) := cell_of_row W0 _ 0 _ _ (0, 0) hp2
 have r1 : W0.cell? ⟨w.heap.size + 2, 1, none⟩ = some (.slice none 0 0) := cell_of_row W0 _ 1 _ _ (0, 0) hp2
 have q0 : W0.frozen? ⟨w.heap.size + 2, 0, none⟩ = false := frozen_of_row W0 _ 0 _ _ hp2
 have q1 : W0.frozen? ⟨w.heap.size + 2, 1, none⟩ = false := frozen_of_row W0 _ 1 _ _ hp2
 have hv0 : Kv W0 (w.heap.size + 4) (w.heap.size + 3) (.slice none 0 0) (.slice none 0 0) [] [] := ⟨OwnC.nil _ _ _, OwnC.nil _ _ _, fun g e => by simp [Value.ownBlock] at e, cell_of_row W0 _ 0 _ _ (0, 0) hp3, cell_of_row W0 _ 1 _ _ (0, 0) hp3, frozen_of_row W0 _ 0 _ _ hp3, frozen_of_row W0 _ 1 _ _ hp3, by omega, by omega, by simp [Value.ownBlock], by simp [Value.ownBlock]⟩
 have hrow : W0.rangeAt (w.heap.size + 1) 0 (K.toList.map encB) := fun j u hu => by
  rw [Nat.zero_add, cell_of_row W0 _ j _ _ (0, 0) hp1]
  simpa using hu
 clear hp0 hp1 hp2 hp3
 have HK0 := Hid.hide (h.below hb0)
 have HG : Hid ((∀ g, pk = some ⟨g, 0, none⟩ → g < w.heap.size) ∧ (∀ g, pv = some ⟨g, 0, none⟩ → g < w.heap.size)) := ⟨fun g e => (h.keys.block g (by rw [e]; rfl)).2, fun g e => (h.vals.block g (by rw [e]; rfl)).2⟩
 have HX : Hid (K.size = 32 ∧ Bytes K ∧ m.length ≤ 1000 ∧ Below w.heap.size w W0 ∧ W0.heap.size = w.heap.size + 4) := ⟨hK, hKb, hm, hb0, hs0⟩
 have HC : Hid (W0.cell? ⟨w.heap.size + 2, 0, none⟩ = some (.slice none 0 0) ∧ W0.cell? ⟨w.heap.size + 2, 1, none⟩ = some (.slice none 0 0) ∧ W0.frozen? ⟨w.heap.size + 2, 0, none⟩ = false ∧ W0.frozen? ⟨w.heap.size + 2, 1, none⟩ = false) := ⟨r0, r1, q0, q1⟩
 have HV0 := Hid.hide hv0
 have hu26 := Tryz.underlying26
 clear h hm hK hKb hb0 hs0 r0 r1 q0 q1 hv0
 go_enter Tryz.func60, Tryz.ntmps60
 go_wp2
 clear hW0
 go_loopg [6] m.length (fun g i wr => ∃ (k : Nat) (ko vo : Value), k ≤ m.length ∧ g = m.length - k ∧ i = .int .i64 (k : Int) ∧ Kv wr (w.heap.size + 4) (w.heap.size + 3) ko vo ((woN (m.take k) K).map (·.1)) ((woN (m.take k) K).map (·.2)) ∧ Below (w.heap.size + 3) W0 wr)
 case atStart => exact ⟨0, _, _, Nat.zero_le _, rfl, rfl, HV0.out, .refl _ _⟩
 case round =>
  obtain ⟨k, ko, vo, hk, rfl, rfl, hkv, hbl⟩ := hrel
  obtain ⟨po, mo, co, rfl⟩ := hkv.keys.shape
  obtain ⟨px, mx, cx, rfl⟩ := hkv.vals.shape
  have hl3 : w.heap.size + 3 < wr.heap.size := by have := hkv.size; omega
  have d0 : wr.cell? ⟨w.heap.size, 0, none⟩ = some (.slice pk m.length ck) := (World.cell?_of_block (hbl.block _ (by show w.heap.size < _; omega))).trans c0
  have d1 : wr.cell? ⟨w.heap.size, 1, none⟩ = some (.slice pv mv cv) := (World.cell?_of_block (hbl.block _ (by show w.heap.size < _; omega))).trans c1
  have hrow' : wr.rangeAt (w.heap.size + 1) 0 (K.toList.map encB) := rangeAt_block hrow (hbl.block _ (by omega))
  have HB : Hid (Kv wr (w.heap.size + 4) (w.heap.size + 3) (.slice po mo co) (.slice px mx cx) ((woN (m.take k) K).map (·.1)) ((woN (m.take k) K).map (·.2)) ∧ Below (w.heap.size + 3) W0 wr ∧ k ≤ m.length) := ⟨hkv, hbl, hk⟩
  clear hkv hbl hk
  by_cases hlt : k < m.length
  ·have i1 : (k : Int) < (m.length : Int) := by omega
   obtain ⟨g, cap, hks, hgl, hrg⟩ := HK0.out.key hlt
   simp only [Value.slice.injEq] at hks
   obtain ⟨rfl, -, rfl⟩ := hks
   obtain ⟨gv, capv, hvs, hgvl, hcv⟩ := HK0.out.val hlt
   simp only [Value.slice.injEq] at hvs
   obtain ⟨rfl, rfl, rfl⟩ := hvs
   have hmem := HK0.out.ok _ (List.getElem_mem hlt)
   have hsz2 : (Tryz.prog.info? 26).map (·.size) = some (m[k].1.toList.map encB).length := by rw [size51]; simp [hmem.1]
   have heq := fun W => key_same m[k].1 K hmem.1 HX.out.1 hmem.2.1 HX.out.2.1 W
   have hgl' : g < w.heap.size := HG.out.1 g rfl
   have hgvl' : gv < w.heap.size := HG.out.2 gv rfl
   by_cases he : m[k].1 = K
   ·rw [decide_eq_true he] at heq
    have hT := wo_take_eq hlt he
    have hrg' : wr.rangeAt g (k * 32) (m[k].1.toList.map encB) := rangeAt_block hrg (HB.out.2.1.block _ (by omega))
    have HT := Hid.hide hT
    obtain ⟨L, hL⟩ : ∃ L, m[k].1 = L := ⟨_, rfl⟩
    rw [hL] at hrg' hsz2 heq
    have HW1 : Hid (wrap64 ((k : Int) + 1) = ((k + 1 : Nat) : Int)) := by
     have := HX.out.2.2.1
     have h : wrap64 ((k : Int) + 1) = ((k + 1 : Nat) : Int) := by unfold wrap64; omega
     exact h
    clear hT hrg hcv hmem he hL hgl hgvl c0 c1
    go_upto_region 5 with fail
    refine wp_region_quiet_lit (by kernel_rfl) (by kernel_rfl) ?_
    iterate 4 (go_big_quiet_step (fail))
    refine BigFrame.wpQuiet_want rfl fun Kq hKq => quiet_load_mid 26 _ rfl g (k * 32) rfl (L.toList.map encB) _ (fun W hW => ?ld1) hu26 rfl hsz2 (hKq _ ?_)
    case ld1 => obtain ⟨n, rfl⟩ := hW; exact fun j u hu => (by simpa using hrg' j u hu)
    clear Kq hKq
    refine BigFrame.wpQuiet_want rfl fun Kq hKq => quiet_load_mid 26 _ rfl (w.heap.size + 1) 0 rfl (K.toList.map encB) _ (fun W hW => ?ld2) hu26 rfl hsz (hKq _ ?_)
    case ld2 => obtain ⟨n, rfl⟩ := hW; exact fun j u hu => (by simpa using hrow' j u hu)
    clear Kq hKq
    quiet_step (fail)
    refine wpQuiet_nil ?_
    rintro _ ⟨nq, rfl⟩
    go_wp2
    go_roundg (m.length - (k + 1))
    case measure => omega
    case rel =>
     refine ⟨k + 1, .slice po mo co, .slice px mx cx, hlt, rfl, by rw [HW1.out], ?_, Below.drewN HB.out.2.1 _⟩
     rw [HT.out]
     exact HB.out.1.heap rfl
   ·rw [decide_eq_false he] at heq
    have hT := wo_take_ne hlt he
    have hrg' : wr.rangeAt g (k * 32) (m[k].1.toList.map encB) := rangeAt_block hrg (HB.out.2.1.block _ (by omega))
    have hcv' : wr.cell? ⟨gv, k, none⟩ = some (.string m[k].2) := (World.cell?_of_block (HB.out.2.1.block gv (by omega))).trans hcv
    have HT := Hid.hide hT
    obtain ⟨L, hL⟩ : ∃ L, m[k].1 = L := ⟨_, rfl⟩
    obtain ⟨U, hU⟩ : ∃ U, m[k].2 = U := ⟨_, rfl⟩
    rw [hL] at hrg' hsz2 heq
    rw [hU] at hcv'
    have HLU : Hid (L.size = 32 ∧ m[k].1 = L ∧ m[k].2 = U) := ⟨hL ▸ hmem.1, hL, hU⟩
    clear hT hrg hcv hmem he hL hU hgl hgvl c0 c1
    go_upto_region 5 with fail
    refine wp_region_quiet_lit (by kernel_rfl) (by kernel_rfl) ?_
    iterate 4 (go_big_quiet_step (fail))
    refine BigFrame.wpQuiet_want rfl fun Kq hKq => quiet_load_mid 26 _ rfl g (k * 32) rfl (L.toList.map encB) _ (fun W hW => ?ld1) hu26 rfl hsz2 (hKq _ ?_)
    case ld1 => obtain ⟨n, rfl⟩ := hW; exact fun j u hu => (by simpa using hrg' j u hu)
    clear Kq hKq
    refine BigFrame.wpQuiet_want rfl fun Kq hKq => quiet_load_mid 26 _ rfl (w.heap.size + 1) 0 rfl (K.toList.map encB) _ (fun W hW => ?ld2) hu26 rfl hsz (hKq _ ?_)
    case ld2 => obtain ⟨n, rfl⟩ := hW; exact fun j u hu => (by simpa using hrow' j u hu)
    clear Kq hKq
    quiet_step (fail)
    refine wpQuiet_nil ?_
    rintro _ ⟨nq, rfl⟩
    go_upto_region 6 with fail
    generalize hWq : wr.drewN _ = W
    have hh : W.heap = wr.heap := by rw [← hWq]; rfl
    have HBW : Hid (Kv W (w.heap.size + 4) (w.heap.size + 3) (.slice po mo co) (.slice px mx cx) ((woN (m.take k) K).map (·.1)) ((woN (m.take k) K).map (·.2)) ∧ Below (w.heap.size + 3) W0 W) := ⟨HB.out.1.heap hh, by rw [← hWq]; exact Below.drewN HB.out.2.1 _⟩
    rw [← hh] at hl3
    rw [← cell_heap hh] at d0 d1 hcv'
    have hrgW : W.rangeAt g (k * 32) (L.toList.map encB) := fun j u hu => by rw [cell_heap hh]; exact hrg' j u hu
    obtain ⟨kc, hk32⟩ := keyCells_of hrgW (by simp [HLU.out.1])
    have hls : (L.toList.map encB).toArray.size = 32 := by simp [HLU.out.1]
    have kd := keyCells_drew
    have kh := hasKey_drew
    have o0 := HBW.out.1.c0
    have o1 := HBW.out.1.c1
    have y0 := HBW.out.1.f0
    have y1 := HBW.out.1.f1
    have HKey : Hid (∀ t, (W.alloc (.cells (L.toList.map encB).toArray t)).drew.rangeAt W.heap.size 0 (L.toList.map encB)) := fun t => rangeAt_new W (L.toList.map encB) t
    have HOw : Hid (∀ o, OwnC (W.alloc o).drew (w.heap.size + 4) 32 (.slice po mo co) ((woN (m.take k) K).map (·.1)).length (((woN (m.take k) K).map (·.1)).flatMap fun x => x.toList.map encB)) := fun o => (HBW.out.1.keys.alloc o).drew
    have HN : Hid (((woN (m.take k) K).map (·.1)).length ≤ 1000 ∧ w.heap.size + 4 ≤ W.heap.size) := ⟨by have := wo_len (m.take k) K; have := HX.out.2.2.1; have := HB.out.2.2; simp at *; omega, HBW.out.1.size⟩
    clear hWq hh hrow' hrg' hrgW HB hrow heq hu26 hsz hsz2
    go_cut [25] from 7 to 40 (fun _ wc => ∃ p2 m2 k2, Kv wc (w.heap.size + 4) (w.heap.size + 3) (.slice p2 m2 k2) (.slice px mx cx) ((woN (m.take k) K).map (·.1) ++ [L]) ((woN (m.take k) K).map (·.2)) ∧ Below (w.heap.size + 3) W0 wc)
    case first =>
     go_region_law
      (refine step_append_ownp _ rfl (.tmp 22) (.tmp 28) 51 rfl 26 i0 (.agg (zero32.map encB)) 32 32 Tryz.underlying51 hi hz0 hz1 hz2 keyZs (by decide) (w.heap.size + 4) (.slice po mo co) _ _ (by simp [Act.eval]) (HOw.out _) W.heap.size 0 1 1 (L.toList.map encB) (by simp [Act.eval]) (by simpa using hls) (HKey.out _) (oneCell_key L) (by have := HN.out; unfold maxLen; omega) (by have := HN.out; omega) (by have := HN.out; simp; omega) ?_; intro v2 w2 hO2 hg2' hf2 hp2; have hg2 := undrewG hg2'; have AM : Aside (Kv (w2.setCell ⟨w.heap.size + 3, 0, none⟩ v2) (w.heap.size + 4) (w.heap.size + 3) v2 (.slice px mx cx) ((woN (m.take k) K).map (·.1) ++ [L]) ((woN (m.take k) K).map (·.2)) ∧ Below (w.heap.size + 3) W0 (w2.setCell ⟨w.heap.size + 3, 0, none⟩ v2)) := ⟨HBW.out.1.key hO2 hg2 hf2, HBW.out.1.below (.inl rfl) hg2 HBW.out.2 (Nat.le_refl _) (by omega) (by have := HX.out.2.2.2.2; omega) _ _⟩; obtain ⟨hvb, hvl, hvC⟩ := HBW.out.1.var (.inl rfl) hg2; have z0 := (World.cell?_of_block (a := ⟨w.heap.size + 3, 0, none⟩) hvb).trans o0; have z1 := (World.frozen?_of_block (a := ⟨w.heap.size + 3, 0, none⟩) hvb).trans y0; obtain ⟨p2, m2, k2, rfl⟩ := hO2.shape; clear hO2 hg2 hg2' hf2 hp2 hvb hvC)
     all_goals go_wp2
     all_goals go_meet
     all_goals exact ⟨_, _, _, AM.out⟩
    case rest =>
     obtain ⟨p2, m2, k2, hk2, hb2⟩ := hcut
     have e0 : wc.cell? ⟨w.heap.size, 1, none⟩ = some (.slice (some ⟨gv, 0, none⟩) m.length cv) := (World.cell?_of_block ((hb2.block _ (by show w.heap.size < _; omega)).trans (HBW.out.2.block _ (by show w.heap.size < _; omega)).symm)).trans d1
     have e1 : wc.cell? ⟨gv, k, none⟩ = some (.string U) := (World.cell?_of_block ((hb2.block gv (by omega)).trans (HBW.out.2.block gv (by omega)).symm)).trans hcv'
     have o2 := hk2.c0
     have o3 := hk2.c1
     have y2 := hk2.f0
     have y3 := hk2.f1
     have hl4 : w.heap.size + 3 < wc.heap.size := by have := hk2.size; omega
     have HK2 : Hid (Kv wc (w.heap.size + 4) (w.heap.size + 3) (.slice p2 m2 k2) (.slice px mx cx) ((woN (m.take k) K).map (·.1) ++ [L]) ((woN (m.take k) K).map (·.2)) ∧ Below (w.heap.size + 3) W0 wc) := ⟨hk2, hb2⟩
     have HKy : Hid (∀ t, (wc.alloc (.cells #[.string U] t)).drew.rangeAt wc.heap.size 0 [.string U]) := fun t => rangeAt_new wc [.string U] t
     have HOx : Hid (∀ o, OwnC (wc.alloc o).drew (w.heap.size + 4) 1 (.slice px mx cx) ((woN (m.take k) K).map (·.2)).length (((woN (m.take k) K).map (·.2)).map Value.string)) := fun o => (hk2.vals.alloc o).drew
     have HN2 : Hid (((woN (m.take k) K).map (·.2)).length ≤ 1000 ∧ w.heap.size + 4 ≤ wc.heap.size) := ⟨by have := HN.out.1; simpa using this, hk2.size⟩
     clear d0 d1 hcv' hl3 HBW kc hk32 hls kd kh o0 o1 y0 y1 HKey HOw HN hk2 hb2
     go_upto_region 7 with fail
     have HW1 : Hid (wrap64 ((k : Int) + 1) = ((k + 1 : Nat) : Int)) := by
      have := HX.out.2.2.1
      have h : wrap64 ((k : Int) + 1) = ((k + 1 : Nat) : Int) := by unfold wrap64; omega
      exact h
     go_region_law
      (refine step_append_ownp _ rfl (.tmp 32) (.tmp 38) 52 rfl 9 j0 (.string ⟨#[]⟩) 1 16 Tryz.underlying52 hj hy0 hy1 hy2 rfl (by decide) (w.heap.size + 4) (.slice px mx cx) _ _ (by simp [Act.eval]) (HOx.out _) wc.heap.size 0 1 1 [.string U] (by simp [Act.eval]) rfl (HKy.out _) (by simp [Value.oneCell']) (by have := HN2.out; unfold maxLen; omega) (by have := HN2.out; omega) (by have := HN2.out; simp; omega) ?_; intro v2 w2 hO2 hg2' hf2 hp2; have hg2 := undrewG hg2'; have AM : Aside (Kv (w2.setCell ⟨w.heap.size + 3, 1, none⟩ v2) (w.heap.size + 4) (w.heap.size + 3) (.slice p2 m2 k2) v2 ((woN (m.take k) K).map (·.1) ++ [L]) ((woN (m.take k) K).map (·.2) ++ [U]) ∧ Below (w.heap.size + 3) W0 (w2.setCell ⟨w.heap.size + 3, 1, none⟩ v2)) := ⟨HK2.out.1.val hO2 hg2 hf2, HK2.out.1.below (.inr rfl) hg2 HK2.out.2 (Nat.le_refl _) (by omega) (by have := HX.out.2.2.2.2; omega) _ _⟩; obtain ⟨hvb, hvl, hvC⟩ := HK2.out.1.var (.inr rfl) hg2; have z0 := (World.cell?_of_block (a := ⟨w.heap.size + 3, 1, none⟩) hvb).trans o3; have z1 := (World.frozen?_of_block (a := ⟨w.heap.size + 3, 1, none⟩) hvb).trans y3; obtain ⟨p4, m4, k4, rfl⟩ := hO2.shape; clear hO2 hg2 hg2' hf2 hp2 hvb hvC)
     all_goals go_wp2
     all_goals
      go_roundg (m.length - (k + 1))
      case measure => omega
      case rel =>
       refine ⟨k + 1, .slice p2 m2 k2, .slice p4 m4 k4, hlt, rfl, by rw [HW1.out], ?_, AM.out.2⟩
       rw [HT.out, List.map_append, List.map_append, List.map_singleton, List.map_singleton, HLU.out.2.1, HLU.out.2.2]
       exact AM.out.1
  ·have i1 : ¬ (k : Int) < (m.length : Int) := by omega
   have o0 := HB.out.1.c0
   have o1 := HB.out.1.c1
   obtain ⟨r0, r1, q0, q1⟩ := HC.out
   have s0 : wr.cell? ⟨w.heap.size + 2, 0, none⟩ = some (.slice none 0 0) := (World.cell?_of_block (HB.out.2.1.block _ (by show w.heap.size + 2 < _; omega))).trans r0
   have s1 : wr.cell? ⟨w.heap.size + 2, 1, none⟩ = some (.slice none 0 0) := (World.cell?_of_block (HB.out.2.1.block _ (by show w.heap.size + 2 < _; omega))).trans r1
   have t0 : wr.frozen? ⟨w.heap.size + 2, 0, none⟩ = false := (World.frozen?_of_block (HB.out.2.1.block _ (by show w.heap.size + 2 < _; omega))).trans q0
   have t1 : wr.frozen? ⟨w.heap.size + 2, 1, none⟩ = false := (World.frozen?_of_block (HB.out.2.1.block _ (by show w.heap.size + 2 < _; omega))).trans q1
   have HE : Hid (woN (m.take k) K = woN m K) := by rw [List.take_of_length_le (by omega)]; exact rfl
   have HZ : Hid (∀ wz, wz.os = wr.os → wz.tape = wr.tape → wz.output = wr.output → wz.heap = ((wr.setCell ⟨w.heap.size + 2, 0, none⟩ (.slice po mo co)).setCell ⟨w.heap.size + 2, 1, none⟩ (.slice px mx cx)).heap → Below w.heap.size w wz ∧ Kn wz w.heap.size (.slice po mo co) (.slice px mx cx) (woN m K)) := without_end HB.out.1 HB.out.2.1 HX.out.2.2.2.1 HE.out HK0.out
   clear r0 r1 q0 q1 c0 c1 d1 hrow hrow'
   go_wp2
   refine bodyPost_ret (v := .agg #[.slice po mo co, .slice px mx cx]) (by simp [results, Tryz.results60, go_sem, s0, s1]) rfl ?_
   exact ⟨(HZ.out _ (by rfl) (by rfl) (by rfl) (by rfl)).1, _, _, rfl, (HZ.out _ (by rfl) (by rfl) (by rfl) (by rfl)).2⟩
end Go.Proofs.YtjiikjpnlgogfaaGreatDoor
namespace Go.Proofs.YtjiikjpnlgogfaaGreatDoor
open Go.RowKit
theorem heap_at3 (w : World) (a b c : Obj) : (((w.alloc a).alloc b).alloc c).heap[w.heap.size]? = some a ∧ (((w.alloc a).alloc b).alloc c).heap[w.heap.size + 1]? = some b ∧ (((w.alloc a).alloc b).alloc c).heap[w.heap.size + 2]? = some c := by
 have nw : ∀ (w : World) (o : Obj), (w.alloc o).heap[w.heap.size]? = some o := fun w o => Array.getElem?_push_size
 have h1 : (w.alloc a).heap.size = w.heap.size + 1 := by simp
 have h2 : ((w.alloc a).alloc b).heap.size = w.heap.size + 2 := by simp
 refine ⟨?_, ?_, ?_⟩
 ·rw [Below.heap_alloc _ _ _ (by omega), Below.heap_alloc _ _ _ (by omega)]
  exact nw w a
 ·rw [Below.heap_alloc _ _ _ (by omega), ← h1]
  exact nw _ b
 ·rw [← h2]
  exact nw _ c
theorem Kn.var {w : World} {C : Nat} {ks vs : Value} {m : List (Array Nat × ByteArray)} (h : Kn w C ks vs m) (hC : C ≤ w.heap.size) (t : TypeId) : Kv (w.alloc (.cells #[ks, vs] t)) C w.heap.size ks vs (m.map (·.1)) (m.map (·.2)) := by
 have hb : Below w.heap.size w (w.alloc (.cells #[ks, vs] t)) := (Below.refl _ _).alloc (Nat.le_refl _) _
 refine ⟨?_, ?_, h.apart, by rw [World.cell?_alloc_new]; rfl, by rw [World.cell?_alloc_new]; rfl, World.frozen?_alloc_new _ _ _ _, World.frozen?_alloc_new _ _ _ _, by simp, by simp; omega, fun e => ?_, fun e => ?_⟩
 ·have := h.keys.below hb
  rw [List.length_map, List.flatMap_map]
  exact this
 ·have := h.vals.below hb
  rw [List.length_map, List.map_map]
  exact this
 ·have := (h.keys.block _ e).2; omega
 ·have := (h.vals.block _ e).2; omega
theorem kwith_end {w W0 wr : World} {ob : Nat} {ko vo : Value} {l : List (Array Nat × ByteArray)} (hk : Kv wr (w.heap.size + 3) ob ko vo (l.map (·.1)) (l.map (·.2))) (hb : Below (w.heap.size + 3) W0 wr) (hb0 : Below w.heap.size w W0) (ok : ∀ x ∈ l, x.1.size = 32 ∧ Bytes x.1 ∧ 0 < x.2.size ∧ x.2.size ≤ 100) (wz : World) (h1 : wz.os = wr.os) (h2 : wz.tape = wr.tape) (h3 : wz.output = wr.output) (h4 : wz.heap = ((wr.setCell ⟨w.heap.size + 2, 0, none⟩ ko).setCell ⟨w.heap.size + 2, 1, none⟩ vo).heap) : Below w.heap.size w wz ∧ Kn wz w.heap.size ko vo l := by
 have hB : Below w.heap.size w wr := hb0.trans (hb.mono (by omega))
 have hs := hk.size
 have hkn : Kn wr (w.heap.size + 3) ko vo l := hk.kn ok
 have hne : ∀ j, j ≠ w.heap.size + 2 → wz.heap[j]? = wr.heap[j]? := fun j hj => by
  rw [h4, Below.heap_setCell _ _ _ _ hj, Below.heap_setCell _ _ _ _ hj]
 have hsz : wz.heap.size = wr.heap.size := by rw [h4]; simp
 refine ⟨⟨h1.trans hB.os, h2.trans hB.tape, h3.trans hB.output, by rw [hsz]; exact hB.size, fun j hj => (hne j (by omega)).trans (hB.block j hj)⟩, ?_⟩
 exact ⟨(hkn.keys.keep (Nat.le_of_eq hsz.symm) fun j hj e => hne j (by have := (hkn.keys.block j e).1; omega)).mono (by omega), (hkn.vals.keep (Nat.le_of_eq hsz.symm) fun j hj e => hne j (by have := (hkn.vals.block j e).1; omega)).mono (by omega), hkn.ok, hkn.apart⟩
def wiN (m : List (Array Nat × ByteArray)) (K : Array Nat) (u : ByteArray) : List (Array Nat × ByteArray) := woN m K ++ [(K, u)]
set_option maxRecDepth 100000 in
set_option maxHeartbeats 3200000 in
attribute [local go_sem ↓] wp_load_key wp_build_key in
theorem kwith_any {w : World} {C : Nat} {ks vs : Value} {m : List (Array Nat × ByteArray)} {K : Array Nat} {u : ByteArray} (h : Kn w C ks vs m) (hm : m.length ≤ 1000) (hK : K.size = 32) (hKb : Bytes K) (hu0 : 0 < u.size) (hu1 : u.size ≤ 100) :
  Calls Tryz.prog 39 #[.agg #[ks, vs], .agg (K.toList.map encB).toArray, .string u] w fun e w' => Below w.heap.size w w' ∧ ∃ ks' vs', e = .returned (.agg #[ks', vs']) ∧ Kn w' w.heap.size ks' vs' (wiN m K u) := by
 obtain ⟨pk, mk, ck, rfl⟩ := h.keys.shape
 obtain ⟨pv, mv, cv, rfl⟩ := h.vals.shape
 obtain ⟨i0, hi, hz0, hz1, hz2⟩ := info_parts keyZ
 obtain ⟨j0, hj, hy0, hy1, hy2⟩ := info_parts strZ
 obtain ⟨W0, hW0⟩ : ∃ W0, ((w.alloc (.cells #[.slice pk mk ck, .slice pv mv cv] 54)).alloc (.cells (K.toList.map encB).toArray 26)).alloc (.cells #[.slice none 0 0, .slice none 0 0] 54) = W0 := ⟨_, rfl⟩
 have hb0 : Below w.heap.size w W0 := by rw [← hW0]; exact (((Below.refl _ _).alloc (Nat.le_refl _) _).alloc (by simp) _).alloc (by simp; omega) _
 have hs0 : W0.heap.size = w.heap.size + 3 := by rw [← hW0]; simp
 obtain ⟨hp0, hp1, hp2⟩ := heap_at3 w (.cells #[.slice pk mk ck, .slice pv mv cv] 54) (.cells (K.toList.map encB).toArray 26) (.cells #[.slice none 0 0, .slice none 0 0] 54)
 rw [hW0] at hp0 hp1 hp2
 have c0 : W0.cell? ⟨w.heap.size, 0, none⟩ = some (.slice pk mk ck) := cell_of_row W0 _ 0 _ _ (0, 0) hp0
 have c1 : W0.cell? ⟨w.heap.size, 1, none⟩ = some (.slice pv mv cv) := cell_of_row W0 _ 1 _ _ (0, 0) hp0
 have hrow : W0.rangeAt (w.heap.size + 1) 0 (K.toList.map encB) := fun j u hu => by
  rw [Nat.zero_add, cell_of_row W0 _ j _ _ (0, 0) hp1]
  simpa using hu
 obtain ⟨kc, hk32⟩ := keyCells_of hrow (by simp [hK])
 have HC : Hid (∀ W, Below (w.heap.size + 3) W0 W → W.cell? ⟨w.heap.size + 2, 0, none⟩ = some (.slice none 0 0) ∧ W.cell? ⟨w.heap.size + 2, 1, none⟩ = some (.slice none 0 0) ∧ W.frozen? ⟨w.heap.size + 2, 0, none⟩ = false ∧ W.frozen? ⟨w.heap.size + 2, 1, none⟩ = false ∧ keyCells W (w.heap.size + 1) 0 = (K.toList.map encB).toArray ∧ HasKey W (w.heap.size + 1) 0) := fun W hW => by
  have e2 : W.heap[w.heap.size + 2]? = _ := (hW.block _ (by omega)).trans hp2
  have e1 := keyCells_of (rangeAt_block hrow (hW.block _ (by omega))) (by simp [hK])
  exact ⟨cell_of_row W _ 0 _ _ (0, 0) e2, cell_of_row W _ 1 _ _ (0, 0) e2, frozen_of_row W _ 0 _ _ e2, frozen_of_row W _ 1 _ _ e2, e1⟩
 have HWo := Hid.hide (without_any (h.below hb0) hm hK hKb)
 have hls : (K.toList.map encB).toArray.size = 32 := by simp [hK]
 have HX : Hid (m.length ≤ 1000 ∧ Below w.heap.size w W0 ∧ W0.heap.size = w.heap.size + 3 ∧ (∀ x ∈ wiN m K u, x.1.size = 32 ∧ Bytes x.1 ∧ 0 < x.2.size ∧ x.2.size ≤ 100)) := ⟨hm, hb0, hs0, fun x hx => by
  rcases List.mem_append.1 hx with hx | hx
  ·exact h.ok x (List.mem_filter.1 hx).1
  ·obtain rfl := List.mem_singleton.1 hx
   exact ⟨hK, hKb, hu0, hu1⟩⟩
 clear h hm hK hKb hb0 hs0 hp0 hp1 hp2 hrow hu0 hu1
 go_enter Tryz.func39, Tryz.ntmps39
 go_wp2_with fail
 refine HWo.out.mono ?_
 rintro e w1 ⟨hb1, ks1, vs1, rfl, hk1⟩
 obtain ⟨pa, ma, ca, rfl⟩ := hk1.keys.shape
 obtain ⟨pb, mb, cb, rfl⟩ := hk1.vals.shape
 have HK1 : Hid (Kn w1 W0.heap.size (.slice pa ma ca) (.slice pb mb cb) (woN m K) ∧ Below W0.heap.size W0 w1) := ⟨hk1, hb1⟩
 clear hk1 hb1 HWo hW0 c0 c1 kc hk32
 go_upto_region 2 with fail
 have hkv := (HK1.out.1.var HK1.out.2.size 54)
 have hbv : Below W0.heap.size W0 (w1.alloc (.cells #[.slice pa ma ca, .slice pb mb cb] 54)) := HK1.out.2.alloc HK1.out.2.size _
 obtain ⟨ob, hob⟩ : ∃ ob, w1.heap.size = ob := ⟨_, rfl⟩
 rw [hob] at hkv ⊢
 generalize w1.alloc (.cells #[.slice pa ma ca, .slice pb mb cb] 54) = W1 at hkv hbv ⊢
 rw [HX.out.2.2.1] at hkv hbv
 obtain ⟨-, -, -, -, kc, hk32⟩ := HC.out W1 hbv
 have o0 := hkv.c0
 have o1 := hkv.c1
 have y0 := hkv.f0
 have y1 := hkv.f1
 have HO : Hid (∀ o, OwnC (W1.alloc o) (w.heap.size + 3) 32 (.slice pa ma ca) ((woN m K).map (·.1)).length (((woN m K).map (·.1)).flatMap fun x => x.toList.map encB)) := fun o => hkv.keys.alloc o
 have HKy : Hid (∀ t, (W1.alloc (.cells (K.toList.map encB).toArray t)).rangeAt W1.heap.size 0 (K.toList.map encB)) := fun t => rangeAt_new W1 (K.toList.map encB) t
 have HV1 : Hid (Kv W1 (w.heap.size + 3) ob (.slice pa ma ca) (.slice pb mb cb) ((woN m K).map (·.1)) ((woN m K).map (·.2)) ∧ Below (w.heap.size + 3) W0 W1 ∧ w.heap.size + 3 ≤ ob) := ⟨hkv, hbv, by rw [← hob, ← HX.out.2.2.1]; exact HK1.out.2.size⟩
 have HN : Hid (((woN m K).map (·.1)).length ≤ 1000 ∧ ((woN m K).map (·.2)).length ≤ 1000) := by
  have h1 := wo_len m K
  have h2 := HX.out.1
  have h : ((woN m K).map (·.1)).length ≤ 1000 ∧ ((woN m K).map (·.2)).length ≤ 1000 := by simp; omega
  exact h
 clear hkv hbv hob HK1
 go_upto_region 3 with (at_builtin; refine wpList_append_ownp _ rfl _ _ 51 rfl 26 i0 (.agg (zero32.map encB)) 32 32 Tryz.underlying51 hi hz0 hz1 hz2 keyZs (by decide) (w.heap.size + 3) (.slice pa ma ca) _ _ rfl (HO.out _) W1.heap.size 0 1 1 (K.toList.map encB) rfl (by simpa using hls) (HKy.out _) (oneCell_key K) (by have := HN.out; unfold maxLen; omega) (by have := HN.out; omega) (by have := HV1.out.1.size; simp; omega) ?_)
 intro v2 w2 hO2 hg2 hf2 hp2
 have hV2 := HV1.out.1.key (K := K) (v2 := v2) (by rw [List.length_map]; exact hO2) hg2 (by rw [World.size_alloc]; exact hf2)
 have hB2 := HV1.out.1.below (.inl rfl) hg2 HV1.out.2.1 (by have := HV1.out.2.2; omega) (Nat.le_refl _) (Nat.le_of_eq HX.out.2.2.1.symm) 0 v2
 obtain ⟨hvb, hvl, -⟩ := HV1.out.1.var (.inl rfl) hg2
 have z0 := (World.cell?_of_block (a := ⟨ob, 0, none⟩) hvb).trans o0
 have z1 := (World.frozen?_of_block (a := ⟨ob, 0, none⟩) hvb).trans y0
 obtain ⟨p2, m2, k2, rfl⟩ := hO2.shape
 have HV2 : Hid (Kv (w2.setCell ⟨ob, 0, none⟩ (.slice p2 m2 k2)) (w.heap.size + 3) ob (.slice p2 m2 k2) (.slice pb mb cb) ((woN m K).map (·.1) ++ [K]) ((woN m K).map (·.2)) ∧ Below (w.heap.size + 3) W0 (w2.setCell ⟨ob, 0, none⟩ (.slice p2 m2 k2))) := ⟨hV2, hB2⟩
 clear hO2 hg2 hf2 hp2 hvb hV2 hB2 o0 o1 y0 y1 kc hk32 HO HKy
 go_upto_region 3 with fail
 obtain ⟨W2, hW2⟩ : ∃ W2, w2.setCell ⟨ob, 0, none⟩ (.slice p2 m2 k2) = W2 := ⟨_, rfl⟩
 rw [hW2] at HV2 ⊢
 clear hW2 z0 z1 hvl
 have o0 := HV2.out.1.c0
 have o1 := HV2.out.1.c1
 have y0 := HV2.out.1.f0
 have y1 := HV2.out.1.f1
 have HO : Hid (∀ o, OwnC (W2.alloc o) (w.heap.size + 3) 1 (.slice pb mb cb) ((woN m K).map (·.2)).length (((woN m K).map (·.2)).map Value.string)) := fun o => HV2.out.1.vals.alloc o
 have HKy : Hid (∀ t, (W2.alloc (.cells #[.string u] t)).rangeAt W2.heap.size 0 [.string u]) := fun t => rangeAt_new W2 [.string u] t
 go_upto_region 4 with (at_builtin; refine wpList_append_ownp _ rfl _ _ 52 rfl 9 j0 (.string ⟨#[]⟩) 1 16 Tryz.underlying52 hj hy0 hy1 hy2 rfl (by decide) (w.heap.size + 3) (.slice pb mb cb) _ _ rfl (HO.out _) W2.heap.size 0 1 1 [.string u] rfl rfl (HKy.out _) (by simp [Value.oneCell']) (by have := HN.out; unfold maxLen; omega) (by have := HN.out; omega) (by have := HV2.out.1.size; simp; omega) ?_)
 intro v3 w3 hO3 hg3 hf3 hp3
 have hV3 := HV2.out.1.val (u := u) (v2 := v3) (by rw [List.length_map]; simpa using hO3) hg3 (by rw [World.size_alloc]; exact hf3)
 have hB3 := HV2.out.1.below (.inr rfl) hg3 HV2.out.2 (by have := HV1.out.2.2; omega) (Nat.le_refl _) (Nat.le_of_eq HX.out.2.2.1.symm) 1 v3
 obtain ⟨hvb, hvl, -⟩ := HV2.out.1.var (.inr rfl) hg3
 have z0 := (World.cell?_of_block (a := ⟨ob, 1, none⟩) hvb).trans o1
 have z1 := (World.frozen?_of_block (a := ⟨ob, 1, none⟩) hvb).trans y1
 obtain ⟨p3, m3, k3, rfl⟩ := hO3.shape
 have HV3 : Hid (Kv (w3.setCell ⟨ob, 1, none⟩ (.slice p3 m3 k3)) (w.heap.size + 3) ob (.slice p2 m2 k2) (.slice p3 m3 k3) ((wiN m K u).map (·.1)) ((wiN m K u).map (·.2)) ∧ Below (w.heap.size + 3) W0 (w3.setCell ⟨ob, 1, none⟩ (.slice p3 m3 k3))) := ⟨by rw [wiN, List.map_append, List.map_append]; exact hV3, hB3⟩
 clear hO3 hg3 hf3 hp3 hvb hV3 hB3 o0 o1 y0 y1 HO HKy HV1 HV2
 go_upto_region 4 with fail
 obtain ⟨W3, hW3⟩ : ∃ W3, w3.setCell ⟨ob, 1, none⟩ (.slice p3 m3 k3) = W3 := ⟨_, rfl⟩
 rw [hW3] at HV3 ⊢
 clear hW3 z0 z1 hvl
 have o0 := HV3.out.1.c0
 have o1 := HV3.out.1.c1
 obtain ⟨s0, s1, t0, t1, -, -⟩ := HC.out W3 HV3.out.2
 have HZ : Hid (∀ wz, wz.os = W3.os → wz.tape = W3.tape → wz.output = W3.output → wz.heap = ((W3.setCell ⟨w.heap.size + 2, 0, none⟩ (.slice p2 m2 k2)).setCell ⟨w.heap.size + 2, 1, none⟩ (.slice p3 m3 k3)).heap → Below w.heap.size w wz ∧ Kn wz w.heap.size (.slice p2 m2 k2) (.slice p3 m3 k3) (wiN m K u)) := kwith_end HV3.out.1 HV3.out.2 HX.out.2.1 HX.out.2.2.2
 clear HV3
 go_wp2
 refine bodyPost_ret (v := .agg #[.slice p2 m2 k2, .slice p3 m3 k3]) (by simp [results, Tryz.results39, go_sem, s0, s1]) rfl ?_
 exact ⟨(HZ.out _ (by rfl) (by rfl) (by rfl) (by rfl)).1, _, _, rfl, (HZ.out _ (by rfl) (by rfl) (by rfl) (by rfl)).2⟩
end Go.Proofs.YtjiikjpnlgogfaaGreatDoor
namespace Go.Proofs.YtjiikjpnlgogfaaGreatDoor
open Go.RowKit
theorem Kn.mono {w : World} {C C' : Nat} {ks vs : Value} {m : List (Array Nat × ByteArray)} (h : Kn w C' ks vs m) (hc : C ≤ C') : Kn w C ks vs m := ⟨h.keys.mono hc, h.vals.mono hc, h.ok, h.apart⟩
theorem Kn.keep {w w' : World} {C : Nat} {ks vs : Value} {m : List (Array Nat × ByteArray)} (h : Kn w C ks vs m) (hs : w.heap.size ≤ w'.heap.size) (hb : ∀ j, C ≤ j → j < w.heap.size → w'.heap[j]? = w.heap[j]?) : Kn w' C ks vs m :=
 ⟨h.keys.keep hs fun j hj e => hb j (h.keys.block j e).1 hj, h.vals.keep hs fun j hj e => hb j (h.vals.block j e).1 hj, h.ok, h.apart⟩
theorem Kn.nil (w : World) (C : Nat) : Kn w C (.slice none 0 0) (.slice none 0 0) [] := ⟨OwnC.nil _ _ _, OwnC.nil _ _ _, fun x hx => absurd hx (by simp), fun g h => by simp [Value.ownBlock] at h⟩
structure KnSt (w wr : World) (raw : ByteArray) (ks vs : Value) (m : List (Array Nat × ByteArray)) : Prop where
 feed : FeedAt wr (w.heap.size + 1) raw
 res : wr.heap[w.heap.size]? = some (.cells #[.slice none 0 0, .slice none 0 0] 54 (0, 0))
 c0 : wr.cell? ⟨w.heap.size + 2, 0, none⟩ = some ks
 c1 : wr.cell? ⟨w.heap.size + 2, 1, none⟩ = some vs
 f0 : wr.frozen? ⟨w.heap.size + 2, 0, none⟩ = false
 f1 : wr.frozen? ⟨w.heap.size + 2, 1, none⟩ = false
 kn : Kn wr (w.heap.size + 3) ks vs m
 below : Below w.heap.size w wr
 size : w.heap.size + 3 ≤ wr.heap.size
 dup : (m.map (·.1)).Nodup
theorem KnSt.keep {w wr w' : World} {raw : ByteArray} {ks vs : Value} {m : List (Array Nat × ByteArray)} (h : KnSt w wr raw ks vs m) (hf : FeedAt w' (w.heap.size + 1) raw) (ho : Only (w.heap.size + 1) wr w') : KnSt w w' raw ks vs m := by
 have hs := h.size
 have e0 := ho.block w.heap.size (by omega) (by omega)
 have e2 := ho.block (w.heap.size + 2) (by omega) (by omega)
 exact ⟨hf, e0.trans h.res, (World.cell?_of_block e2).trans h.c0, (World.cell?_of_block e2).trans h.c1, (World.frozen?_of_block e2).trans h.f0, (World.frozen?_of_block e2).trans h.f1, h.kn.keep ho.size fun j h1 h2 => ho.block j h2 (by omega), ho.below h.below (by omega) (by omega), Nat.le_trans hs ho.size, h.dup⟩
theorem KnSt.fed {w wr w' : World} {raw : ByteArray} {ks vs : Value} {m : List (Array Nat × ByteArray)} (h : KnSt w wr raw ks vs m) (hf : Fed (w.heap.size + 1) raw wr w') : KnSt w w' raw ks vs m := h.keep hf.2 hf.1
theorem KnSt.behind {w wr w' : World} {raw : ByteArray} {ks vs : Value} {m : List (Array Nat × ByteArray)} (h : KnSt w wr raw ks vs m) (hb : Below wr.heap.size wr w') : KnSt w w' raw ks vs m := h.keep (h.feed.below hb) (.of_below hb)
theorem wi_len (m : List (Array Nat × ByteArray)) (K : Array Nat) (u : ByteArray) : (wiN m K u).length ≤ m.length + 1 := by
 have := wo_len m K
 simp [wiN]
 omega
theorem wo_dup {m : List (Array Nat × ByteArray)} (h : (m.map (·.1)).Nodup) (K : Array Nat) : ((woN m K).map (·.1)).Nodup := h.sublist (List.Sublist.map _ List.filter_sublist)
theorem wi_dup {m : List (Array Nat × ByteArray)} (h : (m.map (·.1)).Nodup) (K : Array Nat) (u : ByteArray) : ((wiN m K u).map (·.1)).Nodup := by
 rw [wiN, List.map_append]
 refine List.nodup_append.2 ⟨wo_dup h K, by simp, fun a ha b hb e => ?_⟩
 subst e
 obtain ⟨x, hx, rfl⟩ := List.mem_map.1 ha
 have h1 := (List.mem_filter.1 hx).2
 simp at hb h1
 exact h1 hb
theorem KnSt.step {w wr w' : World} {raw : ByteArray} {ks vs ks' vs' : Value} {m : List (Array Nat × ByteArray)} {K : Array Nat} {u : ByteArray} (h : KnSt w wr raw ks vs m) (hb : Below wr.heap.size wr w') (hk : Kn w' wr.heap.size ks' vs' (wiN m K u)) : KnSt w ((w'.setCell ⟨w.heap.size + 2, 0, none⟩ ks').setCell ⟨w.heap.size + 2, 1, none⟩ vs') raw ks' vs' (wiN m K u) := by
 have h' := h.behind hb
 have hs := h.size
 have hne : ∀ j, j ≠ w.heap.size + 2 → ((w'.setCell ⟨w.heap.size + 2, 0, none⟩ ks').setCell ⟨w.heap.size + 2, 1, none⟩ vs').heap[j]? = w'.heap[j]? := fun j hj => by
  rw [Below.heap_setCell _ _ _ _ hj, Below.heap_setCell _ _ _ _ hj]
 have hsz : ((w'.setCell ⟨w.heap.size + 2, 0, none⟩ ks').setCell ⟨w.heap.size + 2, 1, none⟩ vs').heap.size = w'.heap.size := by simp
 have hbl := h'.below
 refine ⟨h'.feed.keep (hne _ (by omega)) (by omega), (hne _ (by omega)).trans h'.res, ?_, ?_, ?_, ?_, ?_, ⟨hbl.os, hbl.tape, hbl.output, by rw [hsz]; exact hbl.size, fun k hk => (hne k (by omega)).trans (hbl.block k hk)⟩, by have := h'.size; omega, wi_dup h.dup K u⟩
 ·rw [World.cell?_setCell_other _ _ _ _ (by simp)]
  exact World.cell?_setCell_same _ _ _ h'.c0
 ·exact World.cell?_setCell_same _ _ _ ((World.cell?_setCell_other _ _ _ _ (by simp)).trans h'.c1)
 ·rw [World.frozen?_setCell, World.frozen?_setCell]; exact h'.f0
 ·rw [World.frozen?_setCell, World.frozen?_setCell]; exact h'.f1
 ·exact (hk.keep (by omega) fun j h1 h2 => hne j (by omega)).mono (by omega)
theorem KnSt.fin {w wr : World} {raw : ByteArray} {ks vs : Value} {m : List (Array Nat × ByteArray)} (h : KnSt w wr raw ks vs m) : ∀ wz : World, wz.os = wr.os → wz.tape = wr.tape → wz.output = wr.output → wz.heap = ((wr.setCell ⟨w.heap.size, 0, none⟩ ks).setCell ⟨w.heap.size, 1, none⟩ vs).heap → Below w.heap.size w wz ∧ Kn wz w.heap.size ks vs m := fun wz h1 h2 h3 h4 => by
 have hB := h.below
 have hne : ∀ j, j ≠ w.heap.size → wz.heap[j]? = wr.heap[j]? := fun j hj => by
  rw [h4, Below.heap_setCell _ _ _ _ hj, Below.heap_setCell _ _ _ _ hj]
 have hsz : wz.heap.size = wr.heap.size := by rw [h4]; simp
 exact ⟨⟨h1.trans hB.os, h2.trans hB.tape, h3.trans hB.output, by rw [hsz]; exact hB.size, fun j hj => (hne j (by omega)).trans (hB.block j hj)⟩, (h.kn.keep (by omega) fun j h1 h2 => hne j (by omega)).mono (by omega)⟩
theorem KnSt.start {w : World} {raw : ByteArray} : KnSt w (((w.alloc (.cells #[.slice none 0 0, .slice none 0 0] 54)).alloc (.cells #[.string raw, .int .i64 0] 30)).alloc (.cells #[.slice none 0 0, .slice none 0 0] 54)) raw (.slice none 0 0) (.slice none 0 0) [] := by
 obtain ⟨hp0, hp1, hp2⟩ := heap_at3 w (.cells #[.slice none 0 0, .slice none 0 0] 54) (.cells #[.string raw, .int .i64 0] 30) (.cells #[.slice none 0 0, .slice none 0 0] 54)
 exact ⟨⟨by simp, cell_of_row _ _ 0 _ _ (0, 0) hp1, ⟨0, cell_of_row _ _ 1 _ _ (0, 0) hp1, Nat.zero_le _⟩, frozen_of_row _ _ 1 _ _ hp1⟩, hp0, cell_of_row _ _ 0 _ _ (0, 0) hp2, cell_of_row _ _ 1 _ _ (0, 0) hp2, frozen_of_row _ _ 0 _ _ hp2, frozen_of_row _ _ 1 _ _ hp2, Kn.nil _ _, (((Below.refl _ _).alloc (Nat.le_refl _) _).alloc (by simp) _).alloc (by simp; omega) _, by simp, by simp⟩
abbrev z32 : Array Value := #[.int .u8 0, .int .u8 0, .int .u8 0, .int .u8 0, .int .u8 0, .int .u8 0, .int .u8 0, .int .u8 0, .int .u8 0, .int .u8 0, .int .u8 0, .int .u8 0, .int .u8 0, .int .u8 0, .int .u8 0, .int .u8 0, .int .u8 0, .int .u8 0, .int .u8 0, .int .u8 0, .int .u8 0, .int .u8 0, .int .u8 0, .int .u8 0, .int .u8 0, .int .u8 0, .int .u8 0, .int .u8 0, .int .u8 0, .int .u8 0, .int .u8 0, .int .u8 0]
theorem laid_key (w : World) (K : Array Nat) (hK : K.size = 32) :
  (w.alloc (.cells z32 26)).there w.heap.size 0 (K.toList.map encB).toArray.size ∧ (Tryz.prog.info? 26).map (·.size) = some (K.toList.map encB).toArray.size ∧ (Tryz.prog.info? 26).map (·.size) = some (K.toList.map encB).length ∧ (K.toList.map encB).toArray.all (·.oneCell') = true ∧
  Below w.heap.size w ((w.alloc (.cells z32 26)).setCells w.heap.size 0 (K.toList.map encB)) ∧ ((w.alloc (.cells z32 26)).setCells w.heap.size 0 (K.toList.map encB)).rangeAt w.heap.size 0 (K.toList.map encB) ∧
  w.heap.size < ((w.alloc (.cells z32 26)).setCells w.heap.size 0 (K.toList.map encB)).heap.size := by
 have ht : (w.alloc (.cells z32 26)).there w.heap.size 0 32 := there_new w _ 26 32 rfl
 have hb : Below w.heap.size w (w.alloc (.cells z32 26)) := (Below.refl _ _).alloc (Nat.le_refl _) _
 have hs : w.heap.size < (w.alloc (.cells z32 26)).heap.size := by simp
 generalize w.alloc (.cells z32 26) = w1 at ht hb hs
 obtain ⟨z1, z2, t1, t2⟩ := hash_cells' hK ht
 exact ⟨t1, z2, z1, all_oneCell_toArray (oneCell_enc K .u8), below_setCells hb (Nat.le_refl _) _ _, World.rangeAt_setCells_same _ _ _ _ t2, by rw [(size_setCells _ _ _ _).1]; exact hs⟩
set_option maxRecDepth 100000 in
set_option maxHeartbeats 3200000 in
theorem known_any (raw : ByteArray) (w : World) (hr : raw.size ≤ 9223372036854775807) :
  Calls Tryz.prog 24 #[.string raw] w fun e w' => Below w.heap.size w w' ∧ ∃ ks vs m, e = .returned (.agg #[ks, vs]) ∧ Kn w' w.heap.size ks vs m ∧ (m.map (·.1)).Nodup ∧ m.length ≤ 12 := by
 have HN := Hid.hide (fun k W h h0 h1 => value_loop (w.heap.size + 1) raw hr k W h h0 h1)
 have HKy := Hid.hide (fun W h => key_any (w.heap.size + 1) raw W h hr)
 have HV := Hid.hide (fun W h => value_any (w.heap.size + 1) raw W h hr)
 clear hr
 go_enter Tryz.func24, Tryz.ntmps24
 go_wp2_with fail
 have H0 : Hid (KnSt w (((w.alloc (.cells #[.slice none 0 0, .slice none 0 0] 54)).alloc (.cells #[.string raw, .int .i64 0] 30)).alloc (.cells #[.slice none 0 0, .slice none 0 0] 54)) raw (.slice none 0 0) (.slice none 0 0) []) := KnSt.start
 generalize World.alloc (World.alloc (World.alloc w _) _) _ = w0 at H0 ⊢
 refine (HN.out 13 w0 H0.out.feed (by omega) (by omega)).mono ?_
 rintro e w1 ⟨c1, hc1, rfl, hf1⟩
 have H1 : Hid (KnSt w w1 raw (.slice none 0 0) (.slice none 0 0) [] ∧ c1 ≤ 12) := ⟨H0.out.fed hf1, by omega⟩
 clear hf1 H0 hc1
 go_wp2
 go_loopg [5] c1 (fun g n wr => ∃ (k : Nat) (ks vs : Value) (m : List (Array Nat × ByteArray)), k = g ∧ n = .int .i64 (k : Int) ∧ m.length + k ≤ 12 ∧ KnSt w wr raw ks vs m)
 case atStart => exact ⟨c1, _, _, [], rfl, rfl, by have := H1.out.2; simp; omega, H1.out.1⟩
 case round =>
  obtain ⟨k, ks, vs, m, rfl, rfl, hm, hst⟩ := hrel
  obtain ⟨pk, mk, ck, rfl⟩ := hst.kn.keys.shape
  obtain ⟨pv, mv, cv, rfl⟩ := hst.kn.vals.shape
  by_cases h0 : k = 0
  ·subst h0
   have o0 := hst.c0
   have o1 := hst.c1
   have s0 := cell_of_row wr _ 0 _ _ (0, 0) hst.res
   have s1 := cell_of_row wr _ 1 _ _ (0, 0) hst.res
   have t0 := frozen_of_row wr _ 0 _ _ hst.res
   have t1 := frozen_of_row wr _ 1 _ _ hst.res
   have HZ := Hid.hide hst.fin
   have HE : Hid ((m.map (·.1)).Nodup ∧ m.length ≤ 12) := ⟨hst.dup, by omega⟩
   clear hst hm
   go_wp2
   refine bodyPost_ret (v := .agg #[.slice pk mk ck, .slice pv mv cv]) (by simp [results, Tryz.results24, go_sem, s0, s1]) rfl ?_
   exact ⟨(HZ.out _ (by rfl) (by rfl) (by rfl) (by rfl)).1, _, _, m, rfl, (HZ.out _ (by rfl) (by rfl) (by rfl) (by rfl)).2, HE.out⟩
  ·have hm0 : (0 : Int) < (k : Int) := by omega
   have HS : Hid (KnSt w wr raw (.slice pk mk ck) (.slice pv mv cv) m ∧ m.length + k ≤ 12 ∧ ¬ k = 0) := ⟨hst, hm, h0⟩
   have hwr := hst.size
   clear hst hm h0
   go_wp2_with fail
   refine (HKy.out wr HS.out.1.feed).mono ?_
   rintro e w2 ⟨K, hK, hKb, rfl, hf2⟩
   have HS2 : Hid (KnSt w w2 raw (.slice pk mk ck) (.slice pv mv cv) m ∧ K.size = 32 ∧ Bytes K) := ⟨HS.out.1.fed hf2, hK, hKb⟩
   obtain ⟨t1, z2, z1, hone, hb3, hr3, hs3⟩ := laid_key w2 K hK
   clear hf2 hKb hwr
   go_wp2_with (refine wpList_store_mid rfl 26 _ _ rfl w2.heap.size 0 (K.toList.map encB).toArray rfl rfl t1 z2 hone ?_; rw [List.toList_toArray]; generalize World.setCells _ _ _ _ = w3 at hb3 hr3 hs3 ⊢; clear t1 z2 hone)
   refine (HV.out w3 (HS2.out.1.behind hb3).feed).mono ?_
   rintro e w4 ⟨u, hu0, hu1, rfl, hf4⟩
   have hst4 := (HS2.out.1.behind hb3).fed hf4
   have hr4 : w4.rangeAt w2.heap.size 0 (K.toList.map encB) := rangeAt_block hr3 (hf4.1.block _ hs3 (by have := HS2.out.1.size; omega))
   have o0 := hst4.c0
   have o1 := hst4.c1
   have HW := Hid.hide (kwith_any hst4.kn (by have := HS.out.2.1; omega) HS2.out.2.1 HS2.out.2.2 hu0 hu1)
   have HS4 := Hid.hide hst4
   clear hst4 hf4 hr3 hs3 hb3 hu0 hu1 hK
   go_wp2_with (refine wpList_load_mid rfl 26 _ rfl w2.heap.size 0 rfl (K.toList.map encB) _ hr4 Tryz.underlying26 rfl z1 ?_)
   refine HW.out.mono ?_
   rintro e w5 ⟨hb5, ks', vs', rfl, hk5⟩
   obtain ⟨pa, ma, ca, rfl⟩ := hk5.keys.shape
   obtain ⟨pb, mb, cb, rfl⟩ := hk5.vals.shape
   have hst5 := HS4.out.behind hb5
   have q0 := hst5.c0
   have q1 := hst5.c1
   have f0 := hst5.f0
   have f1 := hst5.f1
   have HS6 := Hid.hide (HS4.out.step hb5 hk5)
   have HKm : Hid (wrap64 ((k : Int) - 1) = ((k - 1 : Nat) : Int)) := by
    have h : wrap64 ((k : Int) - 1) = ((k - 1 : Nat) : Int) := (by unfold wrap64; have := HS.out; omega)
    exact h
   clear hst5 hb5 hk5 o0 o1 hr4
   go_wp2
   go_roundg (k - 1)
   case measure => have := HS.out; omega
   case rel => exact ⟨k - 1, _, _, wiN m K u, rfl, val_int HKm.out, by have := wi_len m K u; have := HS.out; omega, HS6.out⟩
end Go.Proofs.YtjiikjpnlgogfaaGreatDoor
