/-
  Package twigsref: big, head, text, list: the document's codes, by definition.
  Package twigsref: text, list, letters, packed, pathCode, Pack, nibbles: the document's codes, by definition.
  Package twigsref: packed, pathCode, Pack, nibbles: paths.
  Package twigsref: pathCode, Pack, Unpack: paths.
-/
import Derived.Test.YtjiikjpnlgogfaaGreatDoorMqText
import Derived.Test.YtjiikjpnlgogfaaGreatDoorMqFull
import Derived.Test.YtjiikjpnlgogfaaGreatDoorMqNibG
import Derived.Deep.RegionLaw
namespace Go.Proofs.YtjiikjpnlgogfaaGreatDoor
open Go.RowKit

/-- A number's bytes, from the lowest on. -/
def bigR : Nat → Nat → List Nat
  | 0, _ => []
  | k + 1, n => if n = 0 then [] else bigR k (n / 256) ++ [n % 256]
theorem bigR_facts : ∀ (k n : Nat), n < 256 ^ k → numB (bigR k n) = n ∧ (∀ x ∈ bigR k n, x < 256) ∧ (bigR k n).length ≤ k ∧ (bigR k n ≠ [] → (bigR k n)[0]! ≠ 0) ∧ (bigR k n = [] → n = 0)
  | 0, n, h => by
    have : n = 0 := by simpa using h
    subst this
    exact ⟨rfl, by simp [bigR], by simp [bigR], by simp [bigR], fun _ => rfl⟩
  | k + 1, n, h => by
    rw [Nat.pow_succ] at h
    obtain ⟨h1, h2, h3, h4, h5⟩ := bigR_facts k (n / 256) (by omega)
    rw [bigR]
    by_cases hz : n = 0
    · rw [if_pos hz]
      exact ⟨hz.symm, by simp, by simp, by simp, fun _ => hz⟩
    · rw [if_neg hz]
      refine ⟨by rw [numB_snoc, h1]; omega, ?_, by simp; omega, fun _ => ?_, by simp⟩
      · intro x hx
        rcases List.mem_append.1 hx with hx | hx
        · exact h2 x hx
        · rw [List.mem_singleton.1 hx]
          omega
      · cases hb : bigR k (n / 256) with
        | nil =>
          have := h5 hb
          simp only [List.nil_append, List.getElem!_cons_zero]
          omega
        | cons a r =>
          rw [hb] at h4
          have := h4 (by simp)
          simpa using this
theorem bigR_eq {n : Nat} (hn : n < 18446744073709551616) : bigR 8 n = bigE n := by
  obtain ⟨h1, h2, h3, h4, _⟩ := bigR_facts 8 n (by simpa using hn)
  rw [← bigE_numB _ h2 h3 h4, h1]

set_option maxRecDepth 100000 in
set_option maxHeartbeats 1600000 in
theorem big_any (n : Nat) (hn : n < 18446744073709551616) (w : World) :
    Calls Tryz.prog 175 #[.int .u64 (n : Int)] w fun e w' => e = .returned (.string (textB (bigE n))) ∧ Below w.heap.size w w' := by
  rw [← bigR_eq hn]
  have HB := Hid.hide byte_text
  go_enter Tryz.func175, Tryz.ntmps175
  go_wp2
  go_loopg [0, 3] 8 (fun γ v s wr => ∃ (g m : Nat) (l : List Nat), g = γ ∧ m < 256 ^ g ∧ v = .int .u64 (m : Int) ∧ s = .string (textB l) ∧ bigR g m ++ l = bigR 8 n ∧ Below w.heap.size w wr ∧ l.length + g ≤ 8)
  case atStart => exact ⟨8, n, [], rfl, by simpa using hn, rfl, rfl, by simp, Below.refl _ _, by simp⟩
  case round =>
    obtain ⟨g, m, l, rfl, hm, rfl, rfl, hl, hb, hlen⟩ := hrel
    by_cases h0 : m = 0
    · have hz : bigR g m = [] := by cases g <;> simp [bigR, h0]
      rw [hz, List.nil_append] at hl
      have A : Aside (l = bigR 8 n ∧ Below w.heap.size w wr) := ⟨hl, hb⟩
      have hn0 : (m : Int) = 0 := by omega
      clear hl hb hz hm h0 hlen
      go_wp2
      go_ret
      exact ⟨by rw [← A.out.1]; rfl, A.out.2⟩
    · obtain ⟨k, rfl⟩ : ∃ k, g = k + 1 := by
        cases g with
        | zero => simp at hm; omega
        | succ k => exact ⟨k, rfl⟩
      rw [bigR, if_neg h0, List.append_assoc] at hl
      rw [Nat.pow_succ] at hm
      have A : Aside (bigR k (m / 256) ++ ([m % 256] ++ l) = bigR 8 n ∧ Below w.heap.size w wr ∧ m / 256 < 256 ^ k ∧ (m % 256 :: l).length + k ≤ 8) := ⟨hl, hb, by omega, by simp only [List.length_cons]; omega⟩
      have hpos : 0 < m := by omega
      have hbig : m < 18446744073709551616 := by
        have h1 : 256 ^ (k + 1) ≤ 256 ^ 8 := Nat.pow_le_pow_right (by decide) (by omega)
        have h2 : (256 : Nat) ^ 8 = 18446744073709551616 := by decide
        rw [Nat.pow_succ] at h1
        omega
      have hwr : IntKind.u64.wrap ((m : Int) / 256) = ((m / 256 : Nat) : Int) := by
        rw [show (m : Int) / 256 = ((m / 256 : Nat) : Int) by omega]
        exact wrap_u64_small _ (by omega)
      have HWR : Hid (IntKind.u64.wrap ((m : Int) / 256) = ((m / 256 : Nat) : Int)) := hwr
      clear hwr hbig
      have hadd := fun W => add_text [m % 256] l (by simp only [List.length_cons, List.length_nil]; omega) W
      have hcv := HB.out wr (m % 256)
      have hq : ((m % 256 : Nat) : Int) = (m : Int) % 256 := by omega
      rw [hq] at hcv
      clear hl hb hm hq h0 hlen
      go_wp2
      go_roundg k
      case measure => omega
      case rel => exact ⟨k, m / 256, m % 256 :: l, rfl, A.out.2.2.1, val_int HWR.out, rfl, A.out.1, (A.out.2.1.alloc A.out.2.1.size _), A.out.2.2.2⟩

theorem headB_eq (k n : Nat) (hk : k = 128 ∨ k = 192) (hn : n < 18446744073709551616) : headB k n = if n ≤ 55 then [k + n] else (k + 55 + (bigE n).length) :: bigE n := by
  have := bigE_le n
  unfold headB
  split
  · rw [Nat.mod_eq_of_lt (by omega)]
  · rw [Nat.mod_eq_of_lt (by omega)]

set_option maxRecDepth 100000 in
set_option maxHeartbeats 1600000 in
theorem rhead_any (k n : Nat) (hk : k = 128 ∨ k = 192) (hn : n ≤ 140737488355328) (w : World) :
    Calls Tryz.prog 214 #[.int .i64 (k : Int), .int .i64 (n : Int)] w fun e w' => e = .returned (.string (textB (headB k n))) ∧ Below w.heap.size w w' := by
  rw [headB_eq k n hk (by omega)]
  have HB := Hid.hide byte_text
  have HN := Hid.hide (fun W => big_any n (by omega) W)
  have hl8 := bigE_le n
  by_cases h : n ≤ 55
  · rw [if_pos h]
    have hi : (n : Int) ≤ 55 := by omega
    have hw1 : wrap64 ((k : Int) + (n : Int)) = ((k + n : Nat) : Int) := by unfold wrap64; omega
    have hw2 : ((k + n : Nat) : Int) % 256 = ((k + n : Nat) : Int) := by omega
    have hcv := HB.out w (k + n)
    obtain ⟨z, hz⟩ : ∃ z, k + n = z := ⟨_, rfl⟩
    rw [hz] at hw1 hw2 hcv ⊢
    have hw3 : (k : Int) + (n : Int) = (z : Int) := by omega
    clear hl8 hn hk hz h HN
    go_enter Tryz.func214, Tryz.ntmps214
    go_wp2
    go_ret
    exact ⟨rfl, (Below.refl _ _).alloc (Nat.le_refl _) _⟩
  · rw [if_neg h]
    have hi : ¬ (n : Int) ≤ 55 := by omega
    have hwu : IntKind.u64.wrap (n : Int) = (n : Int) := wrap_u64_small n (by omega)
    have hts := textB_size (bigE n)
    obtain ⟨b, hb⟩ : ∃ b, bigE n = b := ⟨_, rfl⟩
    rw [hb] at hl8 hts ⊢
    obtain ⟨z, hz⟩ : ∃ z, k + 55 + b.length = z := ⟨_, rfl⟩
    have hw1 : wrap64 (wrap64 ((k : Int) + 55) + (b.length : Int)) = (z : Int) := by unfold wrap64; omega
    have hw2 : (z : Int) % 256 = (z : Int) := by omega
    have hadd := fun W => add_text [z] b (by simp only [List.length_cons, List.length_nil]; omega) W
    have HNN : Hid (∀ W, Calls Tryz.prog 175 #[.int .u64 (n : Int)] W fun e w' => e = .returned (.string (textB b)) ∧ Below W.heap.size W w') := fun W => hb ▸ HN.out W
    rw [hz]
    clear hl8 hn hk hz h HN hb
    go_enter Tryz.func214, Tryz.ntmps214
    go_wp2_with fail
    refine (HNN.out _).mono ?_
    rintro e w1 ⟨rfl, hb1⟩
    have hcv := HB.out w1 z
    have A1 : Aside (Below w.heap.size w w1) := hb1
    clear hb1
    go_wp2
    go_ret
    exact ⟨rfl, A1.out.alloc A1.out.size _⟩
end Go.Proofs.YtjiikjpnlgogfaaGreatDoor

namespace Go.Proofs.YtjiikjpnlgogfaaGreatDoor
open Go.RowKit

theorem textB_bytes (s : ByteArray) : textB (bytesOf s) = s := by
  apply ByteArray.ext
  unfold textB bytesOf
  simp only [List.map_map]
  apply Array.toList_inj.1
  simp only
  conv => rhs; rw [← List.map_id s.data.toList]
  apply List.map_congr_left
  intro x _
  exact UInt8.ofNat_toNat

set_option maxRecDepth 100000 in
set_option maxHeartbeats 3200000 in
theorem rtext_any (s : ByteArray) (w : World) (hs : s.size ≤ 70368744177664) :
    Calls Tryz.prog 174 #[.string s] w fun e w' => e = .returned (.string (textB (textCode (bytesOf s)))) ∧ Below w.heap.size w w' := by
  have hbl := bytesOf_length s
  have HS : Hid (s.size ≤ 70368744177664) := hs
  have HH : Hid (∀ W, Calls Tryz.prog 214 #[.int .i64 128, .int .i64 (s.size : Int)] W fun e w' => e = .returned (.string (textB (headB 128 s.size))) ∧ Below W.heap.size W w') := fun W => rhead_any 128 s.size (.inl rfl) (by omega) W
  have hadd := fun W => add_text (headB 128 s.size) (bytesOf s) (by have := headB_length 128 s.size; rw [hbl]; omega) W
  rw [textB_bytes] at hadd
  by_cases h1 : s.size = 1
  · have hp : 0 < s.size := by omega
    obtain ⟨c, hc⟩ : ∃ c, (s[0]'hp).toNat = c := ⟨_, rfl⟩
    have hc2 : (bytesOf s)[0]! = c := by rw [← hc, byte_at s 0 hp]
    have hi : ((s.size : Int) == 1) = true := by simp; omega
    by_cases h2 : c < 128
    · have e : textB (textCode (bytesOf s)) = s := by
        unfold textCode
        rw [if_pos ⟨by omega, by omega⟩, List.nil_append, textB_bytes]
      have h2' : (c : Int) < 128 := by omega
      rw [e]
      clear hs hbl hc2 h2 hadd HH
      go_enter Tryz.func174, Tryz.ntmps174
      go_wp2
      go_ret
      exact ⟨rfl, Below.refl _ _⟩
    · have e : textCode (bytesOf s) = headB 128 s.size ++ bytesOf s := by
        unfold textCode
        rw [if_neg (by rintro ⟨_, h⟩; omega), hbl]
      have h2' : ¬ (c : Int) < 128 := by omega
      rw [e]
      have HH1 : Hid (∀ W, Calls Tryz.prog 214 #[.int .i64 128, .int .i64 1] W fun e w' => e = .returned (.string (textB (headB 128 s.size))) ∧ Below W.heap.size W w') := by
        rw [h1]
        exact fun W => rhead_any 128 1 (.inl rfl) (by omega) W
      clear HH
      generalize headB 128 s.size = hd at HH1 hadd
      clear hs hbl hc2 h2 e
      go_enter Tryz.func174, Tryz.ntmps174
      go_wp2_with fail
      refine (HH1.out _).mono ?_
      rintro e w1 ⟨rfl, hb1⟩
      have A1 : Aside (Below w.heap.size w w1) := hb1
      clear hb1
      go_wp2
      go_ret
      exact ⟨rfl, A1.out⟩
  · have e : textCode (bytesOf s) = headB 128 s.size ++ bytesOf s := by
      unfold textCode
      rw [if_neg (by rintro ⟨h, _⟩; omega), hbl]
    have hi : ((s.size : Int) == 1) = false := by simp; omega
    rw [e]
    generalize headB 128 s.size = hd at HH hadd
    clear hs hbl e
    go_enter Tryz.func174, Tryz.ntmps174
    go_wp2_with fail
    refine (HH.out _).mono ?_
    rintro e w1 ⟨rfl, hb1⟩
    have A1 : Aside (Below w.heap.size w w1) := hb1
    clear hb1
    go_wp2
    go_ret
    exact ⟨rfl, A1.out⟩

set_option maxRecDepth 100000 in
theorem rlist_any (s : ByteArray) (w : World) (hs : s.size ≤ 70368744177664) :
    Calls Tryz.prog 173 #[.string s] w fun e w' => e = .returned (.string (textB (listCode (bytesOf s)))) ∧ Below w.heap.size w w' := by
  have hbl := bytesOf_length s
  have HH : Hid (∀ W, Calls Tryz.prog 214 #[.int .i64 192, .int .i64 (s.size : Int)] W fun e w' => e = .returned (.string (textB (headB 192 s.size))) ∧ Below W.heap.size W w') := fun W => rhead_any 192 s.size (.inr rfl) (by omega) W
  have hadd := fun W => add_text (headB 192 s.size) (bytesOf s) (by have := headB_length 192 s.size; rw [hbl]; omega) W
  rw [textB_bytes] at hadd
  have e : listCode (bytesOf s) = headB 192 s.size ++ bytesOf s := by
    unfold listCode
    rw [hbl]
  rw [e]
  generalize headB 192 s.size = hd at HH hadd
  clear hs hbl e
  go_enter Tryz.func173, Tryz.ntmps173
  go_wp2_with fail
  refine (HH.out _).mono ?_
  rintro e w1 ⟨rfl, hb1⟩
  have A1 : Aside (Below w.heap.size w w1) := hb1
  clear hb1
  go_wp2
  go_ret
  exact ⟨rfl, A1.out⟩

theorem boxedH (w : World) (key : List Nat) (t : TypeId) (i : Nat) (hi : i < key.length) : (w.alloc (.cells (key.map encB).toArray t)).cell? ⟨w.heap.size, i, none⟩ = some (.int .u8 ((key[i] : Nat) : Int)) := by
  rw [World.cell?_alloc_new]
  simp [hi]

set_option maxRecDepth 100000 in
theorem letters_any (key : List Nat) (hl : key.length = 32) (w : World) :
    Calls Tryz.prog 176 #[.agg (key.map encB).toArray] w fun e w' => e = .returned (.string (textB key)) ∧ Below w.heap.size w w' := by
  have HB : Hid (∀ t i (hi : i < key.length), (w.alloc (.cells (key.map encB).toArray t)).cell? ⟨w.heap.size, i, none⟩ = some (.int .u8 ((key[i] : Nat) : Int))) := fun t i hi => boxedH w key t i hi
  have HT := Hid.hide byte_text
  have HL : Hid (key.length = 32) := hl
  generalize hA : (key.map encB).toArray = A at HB ⊢
  clear hl hA
  go_enter Tryz.func176, Tryz.ntmps176
  go_wp2
  go_loopg [3, 4] 32 (fun gh u i wr => ∃ x : Nat, x ≤ 32 ∧ gh = 32 - x ∧ i = .int .i64 (x : Int) ∧ u = .string (textB (key.take x)) ∧ Below w.heap.size w wr ∧ w.heap.size < wr.heap.size ∧ ∀ i (hi : i < key.length), wr.cell? ⟨w.heap.size, i, none⟩ = some (.int .u8 ((key[i] : Nat) : Int)))
  case atStart => exact ⟨0, by omega, rfl, rfl, rfl, (Below.refl _ _).alloc (Nat.le_refl _) _, by simp, HB.out _⟩
  case round =>
    obtain ⟨x, hx, rfl, rfl, rfl, hbw, hs, hc⟩ := hrel
    by_cases hlt : x < 32
    · have hxk : x < key.length := by have := HL.out; omega
      have hxi : (x : Int) < 32 := by omega
      have c0 := hc x hxk
      obtain ⟨b, hbb⟩ : ∃ b, key[x] = b := ⟨_, rfl⟩
      rw [hbb] at c0
      have htk : key.take (x + 1) = key.take x ++ [b] := by rw [List.take_succ_eq_append_getElem hxk, hbb]
      have hadd := fun W => add_text (key.take x) [b] (by rw [List.length_take]; simp only [List.length_cons, List.length_nil]; omega) W
      rw [← htk] at hadd
      have hcv := HT.out wr b
      have A0 : Aside (Below w.heap.size w wr ∧ w.heap.size < wr.heap.size ∧ ∀ i (hi : i < key.length), wr.cell? ⟨w.heap.size, i, none⟩ = some (.int .u8 ((key[i] : Nat) : Int))) := ⟨hbw, hs, hc⟩
      have hne : ¬ w.heap.size = wr.heap.size := by omega
      clear hbw hc htk hbb
      go_wp2
      go_roundg (32 - (x + 1))
      case measure => omega
      case rel =>
        refine ⟨x + 1, by omega, rfl, by first | rfl | rw [wrap64_succ x (by omega)], rfl, A0.out.1.alloc A0.out.1.size _, by simp; omega, fun i hi => ?_⟩
        exact (World.cell?_of_block (Below.heap_alloc _ _ _ A0.out.2.1)).trans (A0.out.2.2 i hi)
    · have hxe : x = 32 := by omega
      have hxi : ¬ (x : Int) < 32 := by omega
      have htk : key.take x = key := List.take_of_length_le (by have := HL.out; omega)
      rw [htk]
      have A0 : Aside (Below w.heap.size w wr) := hbw
      clear hbw hc hs
      go_wp2
      go_ret
      exact ⟨rfl, A0.out⟩
end Go.Proofs.YtjiikjpnlgogfaaGreatDoor

namespace Go.Proofs.YtjiikjpnlgogfaaGreatDoor
open Go.RowKit

theorem byte_textD (w : World) (z : Nat) : (convert 111 9 (.slice (some ⟨w.heap.size, 0, none⟩) 1 1)).run Tryz.prog (w.alloc (.cells #[.int .u8 (z : Int)] 5)).drew = .ok (.string (textB [z])) (w.alloc (.cells #[.int .u8 (z : Int)] 5)).drew :=
  run_own_text _ 111 9 5 Tryz.underlying111 Tryz.underlying5 Tryz.underlying9 (Own.ofCells w 5 [z] (by unfold maxLen; simp)).drew
theorem two_textP (w : World) (y z : Nat) : (convert 111 9 (.slice (some ⟨w.heap.size, 0, none⟩) 2 2)).run Tryz.prog (w.alloc (.cells #[.int .u8 (y : Int), .int .u8 (z : Int)] 5)) = .ok (.string (textB [y, z])) (w.alloc (.cells #[.int .u8 (y : Int), .int .u8 (z : Int)] 5)) :=
  run_own_text _ 111 9 5 Tryz.underlying111 Tryz.underlying5 Tryz.underlying9 (Own.ofCells w 5 [y, z] (by unfold maxLen; simp))

theorem pairs_odd : ∀ (l : List Nat) (a : Nat), l.length % 2 = 0 → pairs (l ++ [a]) = pairs l
  | [], _, _ => rfl
  | [_], _, h => by simp at h
  | x :: y :: r, a, h => by
    have := pairs_odd r a (by simp only [List.length_cons] at h; omega)
    simp only [List.cons_append, pairs, this]

set_option maxRecDepth 100000 in
set_option maxHeartbeats 3200000 in
theorem rpacked_any (s : ByteArray) (w : World) (hs : s.size ≤ 8388610) (hn : ∀ x ∈ bytesOf s, x < 16) :
    Calls Tryz.prog 213 #[.string s] w fun e w' => e = .returned (.string (textB (pairs (bytesOf s)))) ∧ Below w.heap.size w w' := by
  have hbl := bytesOf_length s
  have HS : Hid (s.size ≤ 8388610 ∧ (bytesOf s).length = s.size ∧ ∀ x ∈ bytesOf s, x < 16) := ⟨hs, hbl, hn⟩
  have HT := Hid.hide byte_textD
  clear hs hbl hn
  go_enter Tryz.func213, Tryz.ntmps213
  go_wp2
  go_loopg [3, 4] s.size (fun gh u i wr => ∃ x : Nat, 2 * x ≤ s.size ∧ gh = s.size - 2 * x ∧ i = .int .i64 (2 * (x : Int)) ∧ u = .string (textB (pairs ((bytesOf s).take (2 * x)))) ∧ Below w.heap.size w wr)
  case atStart => exact ⟨0, by omega, rfl, rfl, rfl, Below.refl _ _⟩
  case round =>
    obtain ⟨x, hx, rfl, rfl, rfl, hbw⟩ := hrel
    have hs0 := HS.out.1
    have hw1 : wrap64 (2 * (x : Int) + 1) = 2 * (x : Int) + 1 := by unfold wrap64; omega
    have hw1' : IntKind.i64.wrap (2 * (x : Int) + 1) = 2 * (x : Int) + 1 := wrap_fits _ (by omega) (by omega)
    by_cases hlt : 2 * x + 1 < s.size
    · have hxi : 2 * (x : Int) + 1 < (s.size : Int) := by omega
      have hxj : 2 * (x : Int) < (s.size : Int) := by omega
      have hlt0 : 2 * x < s.size := by omega
      obtain ⟨b, hb⟩ : ∃ b, (bytesOf s)[2 * x]! = b := ⟨_, rfl⟩
      obtain ⟨d, hd⟩ : ∃ d, (bytesOf s)[2 * x + 1]! = d := ⟨_, rfl⟩
      have hbs : (s[2 * x]'hlt0).toNat = b := by rw [← hb]; exact byte_at s (2 * x) hlt0
      have hds : (s[2 * x + 1]'hlt).toNat = d := by rw [← hd]; exact byte_at s (2 * x + 1) hlt
      have hlb := HS.out.2.1
      have e1 : (bytesOf s)[2 * x]'(by omega) = b := by rw [← hb, getElem!_pos (bytesOf s) _ (by omega)]
      have e2 : (bytesOf s)[2 * x + 1]'(by omega) = d := by rw [← hd, getElem!_pos (bytesOf s) _ (by omega)]
      have hb16 : b < 16 := by rw [← e1]; exact HS.out.2.2 _ (List.getElem_mem _)
      have hd16 : d < 16 := by rw [← e2]; exact HS.out.2.2 _ (List.getElem_mem _)
      have htk : (bytesOf s).take (2 * (x + 1)) = (bytesOf s).take (2 * x) ++ [b, d] := by
        rw [show 2 * (x + 1) = 2 * x + 1 + 1 by omega, List.take_succ_eq_append_getElem (by omega), List.take_succ_eq_append_getElem (by omega), e1, e2]
        simp
      have hpx : pairs ((bytesOf s).take (2 * (x + 1))) = pairs ((bytesOf s).take (2 * x)) ++ [b * 16 + d] := by
        rw [htk, pairs_snoc _ _ _ (by rw [List.length_take]; omega)]
      have hlen : (pairs ((bytesOf s).take (2 * x))).length ≤ 8388610 := by rw [pairs_length, List.length_take]; omega
      have hadd := fun W => add_text (pairs ((bytesOf s).take (2 * x))) [b * 16 + d] (by simp only [List.length_cons, List.length_nil]; omega) W
      rw [← hpx] at hadd
      obtain ⟨z, hz⟩ : ∃ z, b * 16 + d = z := ⟨_, rfl⟩
      rw [hz] at hadd
      have hcv := fun W => HT.out W z
      have m1 : IntKind.u8.wrap (16 * (b : Int)) = 16 * (b : Int) := by
        rw [Int.mul_comm]
        exact wrap_nib b hb16
      have m2 : IntKind.u8.wrap (16 * (b : Int) + (d : Int)) = (z : Int) := by
        simp only [IntKind.wrap, IntKind.bits, IntKind.signed]
        simp
        omega
      have m3 : (16 * (b : Int)) % 256 = 16 * (b : Int) := by omega
      have m4 : (16 * (b : Int) + (d : Int)) % 256 = (z : Int) := by omega
      have i1 : (2 * (x : Int)).toNat = 2 * x := by omega
      have i2 : (2 * (x : Int) + 1).toNat = 2 * x + 1 := by omega
      have i5 : (0 : Int) ≤ 2 * (x : Int) := by omega
      have i6 : (0 : Int) ≤ 2 * (x : Int) + 1 := by omega
      have A0 : Aside (Below w.heap.size w wr) := hbw
      have hw : wrap64 (2 * (x : Int) + 2) = 2 * ((x + 1 : Nat) : Int) := by unfold wrap64; omega
      have HW : Hid (wrap64 (2 * (x : Int) + 2) = 2 * ((x + 1 : Nat) : Int)) := hw
      clear hbw htk hlen e1 e2 hb hd hw hpx hz hb16 hd16 hlb hs0
      go_wp2_with fail
      go_region
      all_goals
        go_wp2
        go_roundg (s.size - 2 * (x + 1))
        case measure => omega
        case rel => exact ⟨x + 1, by omega, rfl, val_int HW.out, rfl, (A0.out.alloc A0.out.size _).drew⟩
    · have hxi : (s.size : Int) ≤ 2 * (x : Int) + 1 := by omega
      have hpx : pairs ((bytesOf s).take (2 * x)) = pairs (bytesOf s) := by
        have hl := HS.out.2.1
        by_cases he : 2 * x = s.size
        · rw [List.take_of_length_le (by omega)]
        · have h1 : s.size = 2 * x + 1 := by omega
          have h2 : bytesOf s = (bytesOf s).take (2 * x) ++ [(bytesOf s)[2 * x]'(by omega)] := by
            rw [← List.take_succ_eq_append_getElem (by omega), List.take_of_length_le (by omega)]
          conv => rhs; rw [h2]
          exact (pairs_odd _ _ (by rw [List.length_take]; omega)).symm
      rw [hpx]
      have A0 : Aside (Below w.heap.size w wr) := hbw
      clear hbw hs0
      go_wp2
      go_ret
      exact ⟨rfl, A0.out⟩
end Go.Proofs.YtjiikjpnlgogfaaGreatDoor

namespace Go.Proofs.YtjiikjpnlgogfaaGreatDoor
open Go.RowKit

theorem path_odd {p : List Nat} (h : p.length % 2 = 1) (leaf : Bool) : pathCode p leaf = pairs ((if leaf then 3 else 1) :: p) := by
  cases p with
  | nil => simp at h
  | cons a q =>
    unfold pathCode
    rw [h, if_pos rfl, pairs]
    simp only [List.getElem!_cons_zero, List.drop_succ_cons, List.drop_zero]
    cases leaf
    · simp
    · simp; omega
theorem path_even {p : List Nat} (h : p.length % 2 = 0) (leaf : Bool) : pathCode p leaf = pairs ((if leaf then 2 else 0) :: 0 :: p) := by
  unfold pathCode
  rw [h, if_neg Nat.zero_ne_one, pairs, List.drop_zero]
  cases leaf <;> rfl

set_option maxRecDepth 100000 in
set_option maxHeartbeats 3200000 in
theorem rpath_any (s : ByteArray) (leaf : Bool) (w : World) (hs : s.size ≤ 8388608) (hn : ∀ x ∈ bytesOf s, x < 16) :
    Calls Tryz.prog 170 #[.string s, .bool leaf] w fun e w' => e = .returned (.string (textB (pathCode (bytesOf s) leaf))) ∧ Below w.heap.size w w' := by
  have hbl := bytesOf_length s
  by_cases hodd : s.size % 2 = 1
  · have hoi : ((s.size : Int) % 2 == 1) = true := by simp; omega
    have HS : Hid (s.size ≤ 8388608 ∧ (bytesOf s).length % 2 = 1 ∧ (bytesOf s).length = s.size ∧ ∀ x ∈ bytesOf s, x < 16) := ⟨hs, by rw [hbl]; exact hodd, hbl, hn⟩
    clear hs hn hbl hodd
    cases leaf
    · have e : pathCode (bytesOf s) false = pairs (1 :: bytesOf s) := (path_odd HS.out.2.1 false).trans (by rfl)
      have hcv := byte_text w 1
      rw [show ((1 : Nat) : Int) = 1 from rfl] at hcv
      have hadd := fun W => add_text [1] (bytesOf s) (by have := HS.out; simp only [List.length_cons, List.length_nil]; omega) W
      have hpb : bytesOf (textB ([1] ++ bytesOf s)) = 1 :: bytesOf s := bytesOf_textB (fun x hx => by
        rcases List.mem_cons.1 hx with rfl | hx
        · omega
        · have := HS.out.2.2.2 x hx; omega)
      have HP : Hid (∀ W, Calls Tryz.prog 213 #[.string (textB ([1] ++ bytesOf s))] W fun e w' => e = .returned (.string (textB (pairs (1 :: bytesOf s)))) ∧ Below W.heap.size W w') := fun W => by
        have h := rpacked_any (textB ([1] ++ bytesOf s)) W (by have := HS.out; rw [textB_size]; simp only [List.length_append, List.length_cons, List.length_nil]; omega) (by rw [hpb]; intro x hx; rcases List.mem_cons.1 hx with rfl | hx; omega; exact HS.out.2.2.2 x hx)
        rw [hpb] at h
        exact h
      rw [textB_bytes] at hadd
      rw [e]
      generalize textB ([1] ++ bytesOf s) = cat at hadd HP
      generalize textB (pairs (1 :: bytesOf s)) = res at HP
      clear hpb e
      go_enter Tryz.func170, Tryz.ntmps170
      go_wp2_with fail
      refine (HP.out _).mono ?_
      rintro e w1 ⟨rfl, hb1⟩
      have A1 : Aside (Below w.heap.size w w1) := Below.up hb1
      clear hb1
      go_wp2
      go_ret
      exact ⟨rfl, A1.out⟩
    · have e : pathCode (bytesOf s) true = pairs (3 :: bytesOf s) := (path_odd HS.out.2.1 true).trans (by rfl)
      have hcv := byte_text w 3
      rw [show ((3 : Nat) : Int) = 3 from rfl] at hcv
      have hadd := fun W => add_text [3] (bytesOf s) (by have := HS.out; simp only [List.length_cons, List.length_nil]; omega) W
      have hpb : bytesOf (textB ([3] ++ bytesOf s)) = 3 :: bytesOf s := bytesOf_textB (fun x hx => by
        rcases List.mem_cons.1 hx with rfl | hx
        · omega
        · have := HS.out.2.2.2 x hx; omega)
      have HP : Hid (∀ W, Calls Tryz.prog 213 #[.string (textB ([3] ++ bytesOf s))] W fun e w' => e = .returned (.string (textB (pairs (3 :: bytesOf s)))) ∧ Below W.heap.size W w') := fun W => by
        have h := rpacked_any (textB ([3] ++ bytesOf s)) W (by have := HS.out; rw [textB_size]; simp only [List.length_append, List.length_cons, List.length_nil]; omega) (by rw [hpb]; intro x hx; rcases List.mem_cons.1 hx with rfl | hx; omega; exact HS.out.2.2.2 x hx)
        rw [hpb] at h
        exact h
      rw [textB_bytes] at hadd
      rw [e]
      generalize textB ([3] ++ bytesOf s) = cat at hadd HP
      generalize textB (pairs (3 :: bytesOf s)) = res at HP
      clear hpb e
      go_enter Tryz.func170, Tryz.ntmps170
      go_wp2_with fail
      refine (HP.out _).mono ?_
      rintro e w1 ⟨rfl, hb1⟩
      have A1 : Aside (Below w.heap.size w w1) := Below.up hb1
      clear hb1
      go_wp2
      go_ret
      exact ⟨rfl, A1.out⟩
  · have hoi : ((s.size : Int) % 2 == 1) = false := by simp; omega
    have HS : Hid (s.size ≤ 8388608 ∧ (bytesOf s).length % 2 = 0 ∧ (bytesOf s).length = s.size ∧ ∀ x ∈ bytesOf s, x < 16) := ⟨hs, by rw [hbl]; omega, hbl, hn⟩
    clear hs hn hbl hodd
    cases leaf
    · have e : pathCode (bytesOf s) false = pairs (0 :: 0 :: bytesOf s) := (path_even HS.out.2.1 false).trans (by rfl)
      have hcv := two_textP w 0 0
      rw [show ((0 : Nat) : Int) = 0 from rfl] at hcv
      have hadd := fun W => add_text [0, 0] (bytesOf s) (by have := HS.out; simp only [List.length_cons, List.length_nil]; omega) W
      have hpb : bytesOf (textB ([0, 0] ++ bytesOf s)) = 0 :: 0 :: bytesOf s := bytesOf_textB (fun x hx => by
        rcases List.mem_cons.1 hx with rfl | hx
        · omega
        · rcases List.mem_cons.1 hx with rfl | hx
          · omega
          · have := HS.out.2.2.2 x hx; omega)
      have HP : Hid (∀ W, Calls Tryz.prog 213 #[.string (textB ([0, 0] ++ bytesOf s))] W fun e w' => e = .returned (.string (textB (pairs (0 :: 0 :: bytesOf s)))) ∧ Below W.heap.size W w') := fun W => by
        have h := rpacked_any (textB ([0, 0] ++ bytesOf s)) W (by have := HS.out; rw [textB_size]; simp only [List.length_append, List.length_cons, List.length_nil]; omega) (by
          rw [hpb]
          intro x hx
          rcases List.mem_cons.1 hx with rfl | hx
          · omega
          · rcases List.mem_cons.1 hx with rfl | hx
            · omega
            · exact HS.out.2.2.2 x hx)
        rw [hpb] at h
        exact h
      rw [textB_bytes] at hadd
      rw [e]
      generalize textB ([0, 0] ++ bytesOf s) = cat at hadd HP
      generalize textB (pairs (0 :: 0 :: bytesOf s)) = res at HP
      clear hpb e
      go_enter Tryz.func170, Tryz.ntmps170
      go_wp2_with fail
      refine (HP.out _).mono ?_
      rintro e w1 ⟨rfl, hb1⟩
      have A1 : Aside (Below w.heap.size w w1) := Below.up hb1
      clear hb1
      go_wp2
      go_ret
      exact ⟨rfl, A1.out⟩
    · have e : pathCode (bytesOf s) true = pairs (2 :: 0 :: bytesOf s) := (path_even HS.out.2.1 true).trans (by rfl)
      have hcv := two_textP w 2 0
      rw [show ((0 : Nat) : Int) = 0 from rfl, show ((2 : Nat) : Int) = 2 from rfl] at hcv
      have hadd := fun W => add_text [2, 0] (bytesOf s) (by have := HS.out; simp only [List.length_cons, List.length_nil]; omega) W
      have hpb : bytesOf (textB ([2, 0] ++ bytesOf s)) = 2 :: 0 :: bytesOf s := bytesOf_textB (fun x hx => by
        rcases List.mem_cons.1 hx with rfl | hx
        · omega
        · rcases List.mem_cons.1 hx with rfl | hx
          · omega
          · have := HS.out.2.2.2 x hx; omega)
      have HP : Hid (∀ W, Calls Tryz.prog 213 #[.string (textB ([2, 0] ++ bytesOf s))] W fun e w' => e = .returned (.string (textB (pairs (2 :: 0 :: bytesOf s)))) ∧ Below W.heap.size W w') := fun W => by
        have h := rpacked_any (textB ([2, 0] ++ bytesOf s)) W (by have := HS.out; rw [textB_size]; simp only [List.length_append, List.length_cons, List.length_nil]; omega) (by
          rw [hpb]
          intro x hx
          rcases List.mem_cons.1 hx with rfl | hx
          · omega
          · rcases List.mem_cons.1 hx with rfl | hx
            · omega
            · exact HS.out.2.2.2 x hx)
        rw [hpb] at h
        exact h
      rw [textB_bytes] at hadd
      rw [e]
      generalize textB ([2, 0] ++ bytesOf s) = cat at hadd HP
      generalize textB (pairs (2 :: 0 :: bytesOf s)) = res at HP
      clear hpb e
      go_enter Tryz.func170, Tryz.ntmps170
      go_wp2_with fail
      refine (HP.out _).mono ?_
      rintro e w1 ⟨rfl, hb1⟩
      have A1 : Aside (Below w.heap.size w w1) := Below.up hb1
      clear hb1
      go_wp2
      go_ret
      exact ⟨rfl, A1.out⟩

end Go.Proofs.YtjiikjpnlgogfaaGreatDoor
