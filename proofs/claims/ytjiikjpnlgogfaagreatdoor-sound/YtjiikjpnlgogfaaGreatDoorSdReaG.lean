/-
  Heads read: Number, readLength, readText, readHead of package item.
  What a head that is accepted says: it is the head that would be written. Plain facts on lists of bytes.
  What reading an item gives: a function of the bytes alone, with the places and the faults. What is accepted is the code; and a code is accepted. Plain facts on lists of bytes.
-/
import Derived.Test.YtjiikjpnlgogfaaGreatDoorSdNibG
import Derived.Test.YtjiikjpnlgogfaaGreatDoorSdErrG
namespace Go.Proofs.YtjiikjpnlgogfaaGreatDoor
open Go.RowKit
def numB (l : List Nat) : Nat := l.foldl (fun n x => n * 256 + x) 0
theorem numB_snoc (l : List Nat) (x : Nat) : numB (l ++ [x]) = numB l * 256 + x := by
 unfold numB
 rw [List.foldl_append]
 rfl
theorem numB_lt : ∀ (l : List Nat), (∀ x ∈ l, x < 256) → numB l < 256 ^ l.length := by
 intro l
 induction hl : l.length generalizing l with
 | zero =>
  intro _
  have : l = [] := List.eq_nil_of_length_eq_zero hl
  subst this
  decide
 | succ n ih =>
  intro h
  have hne : l ≠ [] := fun e => by rw [e] at hl; simp at hl
  rw [← List.dropLast_concat_getLast hne, numB_snoc]
  have h1 := ih l.dropLast (by simp [hl]) (fun x hx => h x (List.dropLast_subset l hx))
  have h2 := h _ (List.getLast_mem hne)
  rw [Nat.pow_succ]
  omega
theorem or_byte (n x : Nat) (hn : n < 256 ^ 7) (hx : x < 256) : bits .or .u64 ((n : Int) * 256) (x : Int) = ((n * 256 + x : Nat) : Int) := by
 have e : ((n : Int) * 256) = ((n * 256 : Nat) : Int) := by omega
 rw [e, u64_or_nat _ _ (by omega) (by omega), nat_join 8 (n * 256) x (Nat.mul_mod_left _ _) hx]
set_option maxRecDepth 100000 in
set_option maxHeartbeats 1600000 in
theorem number_any (s : ByteArray) (w : World) (hs : s.size ≤ 8) :
  Calls Tryz.prog 230 #[.string s] w fun e w' => e = .returned (.int .u64 ((numB (bytesOf s) : Nat) : Int)) ∧ w' = w := by
 have hbl := bytesOf_length s
 have AS : Aside ((bytesOf s).length = s.size ∧ s.size ≤ 8) := ⟨hbl, hs⟩
 clear hbl hs
 go_enter Tryz.func230, Tryz.ntmps230
 go_wp2
 go_loopg [3, 7] s.size (fun g n i wr => ∃ x : Nat, x ≤ s.size ∧ g = s.size - x ∧ i = .int .i64 (x : Int) ∧ n = .int .u64 ((numB ((bytesOf s).take x) : Nat) : Int) ∧ wr = w)
 case atStart => exact ⟨0, by omega, rfl, rfl, rfl, rfl⟩
 case round =>
  obtain ⟨x, hx, rfl, rfl, rfl, rfl⟩ := hrel
  by_cases hlt : x < s.size
  ·obtain ⟨hbl, hs⟩ := AS.out
   obtain ⟨c, hc⟩ : ∃ c, (s[x]'hlt).toNat = c := ⟨_, rfl⟩
   have hc8 : c < 256 := by rw [← hc]; exact UInt8.toNat_lt _
   have hnx : numB ((bytesOf s).take (x + 1)) = numB ((bytesOf s).take x) * 256 + c := by
    rw [List.take_succ_eq_append_getElem (by omega), numB_snoc, ← hc, byte_at s x hlt, getElem!_pos _ x (by omega)]
   have hlt7 : numB ((bytesOf s).take x) < 256 ^ 7 := by
    have h1 := numB_lt ((bytesOf s).take x) (fun y hy => bytesOf_lt s y (List.mem_of_mem_take hy))
    rw [List.length_take, Nat.min_eq_left (by omega)] at h1
    exact Nat.lt_of_lt_of_le h1 (Nat.pow_le_pow_right (by omega) (by omega))
   obtain ⟨n, hn⟩ : ∃ n, numB ((bytesOf s).take x) = n := ⟨_, rfl⟩
   rw [hn] at hnx hlt7 ⊢
   have hor := or_byte n c hlt7 hc8
   obtain ⟨m, hm⟩ : ∃ m, n * 256 + c = m := ⟨_, rfl⟩
   rw [hm] at hor hnx
   have HN : Hid (numB ((bytesOf s).take (x + 1)) = m) := hnx
   have HX : Hid (wrap64 ((x : Int) + 1) = ((x + 1 : Nat) : Int)) := wrap64_succ x (by omega)
   have hxi : (x : Int) < (s.size : Int) := by omega
   have HOR : Hid (bits .or .u64 (IntKind.u64.wrap ((n : Int) * 256)) (IntKind.u64.wrap (c : Int)) = (m : Int)) := by
    have e2 : ((n : Int) * 256) = ((n * 256 : Nat) : Int) := by omega
    rw [wrap_u64_small c (by omega), e2, wrap_u64_small (n * 256) (by omega), ← e2]
    exact hor
   clear hbl hs hn hnx hc8 hm hor hlt7
   go_wp2
   go_roundg (s.size - (x + 1))
   case measure => omega
   case rel => exact ⟨x + 1, by omega, rfl, val_int HX.out, by rw [HN.out]; exact val_int HOR.out, rfl⟩
  ·have hxi : (s.size : Int) ≤ (x : Int) := by omega
   have htk : (bytesOf s).take x = bytesOf s := List.take_of_length_le (by have := AS.out.1; omega)
   rw [htk]
   clear htk hlt
   go_wp2
   go_ret
   exact ⟨rfl, rfl⟩
def lenF (l : List Nat) (kind : Nat) : Except Bool (Nat × Nat) :=
 let k := l[0]! - kind
 if k ≤ 55 then (if l.length - 1 < k then .error false else .ok (1, k))
 else if l.length < k - 54 then .error false
 else
  let n := numB ((l.drop 1).take (k - 55))
  if l[1]! = 0 ∨ n ≤ 55 then .error true
  else if l.length - (k - 54) < n then .error false else .ok (k - 54, n)
def faultAt (W : World) (g : Nat) (v : Value) : Prop := W.cell? ⟨g, 0, none⟩ = some v
theorem lenF_small {l : List Nat} {kind : Nat} (h : l[0]! - kind ≤ 55) : lenF l kind = if l.length - 1 < l[0]! - kind then .error false else .ok (1, l[0]! - kind) := by
 unfold lenF
 simp only [h, if_true]
theorem rest_facts (n a : Nat) (ha : a ≤ n) (hn : n ≤ 1048576) : wrap64 ((n : Int) - (a : Int)) = ((n - a : Nat) : Int) ∧ IntKind.u64.wrap (((n - a : Nat) : Int)) = ((n - a : Nat) : Int) := by
 refine ⟨?_, wrap_u64_small _ (by omega)⟩
 unfold wrap64
 omega
set_option maxRecDepth 100000 in
set_option maxHeartbeats 1600000 in
theorem length_small (s : ByteArray) (kind : Nat) (w : World) (es : Value) (hes : faultAt w 1 es) (hp : 0 < s.size) (hs : s.size ≤ 1048576) (hc : kind ≤ (bytesOf s)[0]!) (h55 : (bytesOf s)[0]! - kind ≤ 55) :
  Calls Tryz.prog 225 #[.string s, .int .u8 (kind : Int)] w fun e w' => e = .returned (.tuple (match lenF (bytesOf s) kind with | .ok (a, b) => #[.int .i64 (a : Int), .int .i64 (b : Int), .nilIface] | .error _ => #[.int .i64 0, .int .i64 0, es])) ∧ Below w.heap.size w w' := by
 rw [lenF_small h55, bytesOf_length]
 obtain ⟨c, hcc⟩ : ∃ c, (s[0]'hp).toNat = c := ⟨_, rfl⟩
 have hb := byte_at s 0 hp
 rw [hcc] at hb
 rw [← hb] at hc h55 ⊢
 have hc8 : c < 256 := by rw [← hcc]; exact UInt8.toNat_lt _
 obtain ⟨k, hkk⟩ : ∃ k, c - kind = k := ⟨_, rfl⟩
 rw [hkk] at h55 ⊢
 have e1 : ((c : Int) - (kind : Int)) % 256 = (k : Int) := by omega
 have i1 : (k : Int) ≤ 55 := by omega
 obtain ⟨r0, r2⟩ := rest_facts s.size 1 hp hs
 have r1 : wrap64 ((s.size : Int) - 1) = ((s.size - 1 : Nat) : Int) := r0
 clear r0
 obtain ⟨q, hq⟩ : ∃ q, s.size - 1 = q := ⟨_, rfl⟩
 rw [hq] at r1 r2 ⊢
 have es' : w.cell? ⟨1, 0, none⟩ = some es := hes
 clear hb hc h55 hkk hc8 hs hes hq
 by_cases hlt : q < k
 ·rw [if_pos hlt]
  have i2 : (q : Int) < (k : Int) := by omega
  go_enter Tryz.func225, Tryz.ntmps225
  go_wp2
  go_region
  go_wp2
  go_region
  go_wp2
  go_ret3
  exact ⟨rfl, (Below.refl _ _).drew.drew⟩
 ·rw [if_neg hlt]
  have i2 : (k : Int) ≤ (q : Int) := by omega
  go_enter Tryz.func225, Tryz.ntmps225
  go_wp2
  go_region
  go_wp2
  go_ret3
  exact ⟨rfl, (Below.refl _ _).drew⟩
theorem bytesOf_cut (s : ByteArray) (a : Nat) : bytesOf (s.extract 1 a) = ((bytesOf s).drop 1).take (a - 1) := by
 unfold bytesOf
 rw [← List.map_drop, ← List.map_take]
 congr 1
 simp only [ByteArray.data_extract, Array.toList_extract, List.extract_eq_take_drop]
theorem wrap64_few (m : Nat) (h : m ≤ 1048576) : wrap64 (m : Int) = (m : Int) := by
 unfold wrap64
 omega
theorem great1 (k a m : Nat) (ha : k - 54 = a) (hm : a - 1 = m) (h1 : ¬ k ≤ 55) (h2 : k ≤ 63) : wrap64 (1 + (m : Int)) = (a : Int) := by
 have e : (a : Int) = (m : Int) + 1 := by omega
 have e8 : (m : Int) ≤ 8 := by omega
 have e0 : (0 : Int) ≤ (m : Int) := by omega
 rw [e]
 clear ha hm h1 h2 e
 unfold wrap64
 omega
theorem great2 (k m : Nat) (h : k - 55 = m) (h1 : ¬ k ≤ 55) (h2 : k ≤ 63) : IntKind.u64.wrap ((k : Int) - 55) = (m : Int) := by
 have e : (k : Int) - 55 = (m : Int) := by omega
 have hm : m < 18446744073709551616 := Nat.lt_of_le_of_lt (show m ≤ 8 by omega) (by decide)
 rw [e]
 exact wrap_u64_small m hm
theorem great_facts (k a m : Nat) (ha : k - 54 = a) (hm : a - 1 = m) (h1 : ¬ k ≤ 55) (h2 : k ≤ 63) : IntKind.u64.wrap ((k : Int) - 55) = (m : Int) ∧ wrap64 (1 + (m : Int)) = (a : Int) ∧ 1 ≤ m ∧ m ≤ 8 ∧ a = m + 1 :=
 ⟨great2 k m (by omega) h1 h2, great1 k a m ha hm h1 h2, by omega, by omega, by omega⟩
theorem lenF_great {l : List Nat} {kind : Nat} (h : ¬ l[0]! - kind ≤ 55) : lenF l kind = if l.length < l[0]! - kind - 54 then .error false else if l[1]! = 0 ∨ numB ((l.drop 1).take (l[0]! - kind - 55)) ≤ 55 then .error true else if l.length - (l[0]! - kind - 54) < numB ((l.drop 1).take (l[0]! - kind - 55)) then .error false else .ok (l[0]! - kind - 54, numB ((l.drop 1).take (l[0]! - kind - 55))) := by
 unfold lenF
 simp only [h, if_false]
set_option maxRecDepth 100000 in
set_option maxHeartbeats 1600000 in
theorem great_short (s : ByteArray) (kind c k sz m : Nat) (w : World) (e : Value) (hp : 0 < s.size) (hcc : (s[0]'hp).toNat = c) (e1 : ((c : Int) - (kind : Int)) % 256 = (k : Int)) (i1 : (55 : Int) < (k : Int)) (e2 : IntKind.u64.wrap ((k : Int) - 55) = (m : Int)) (e3 : wrap64 (1 + (m : Int)) = (sz : Int)) (e4 : wrap64 (m : Int) = (m : Int)) (i2 : (s.size : Int) < (sz : Int)) (es : w.cell? ⟨1, 0, none⟩ = some e) :
  Calls Tryz.prog 225 #[.string s, .int .u8 (kind : Int)] w fun r w' => r = .returned (.tuple #[.int .i64 0, .int .i64 0, e]) ∧ Below w.heap.size w w' := by
 go_enter Tryz.func225, Tryz.ntmps225
 go_wp2
 go_region
 go_wp2
 go_region
 go_wp2
 go_ret3
 exact ⟨rfl, (Below.refl _ _).drew.drew⟩
set_option maxRecDepth 100000 in
set_option maxHeartbeats 1600000 in
theorem great_form0 (s : ByteArray) (kind c k sz m : Nat) (w : World) (e : Value) (hp : 0 < s.size) (hcc : (s[0]'hp).toNat = c) (e1 : ((c : Int) - (kind : Int)) % 256 = (k : Int)) (i1 : (55 : Int) < (k : Int)) (e2 : IntKind.u64.wrap ((k : Int) - 55) = (m : Int)) (e3 : wrap64 (1 + (m : Int)) = (sz : Int)) (e4 : wrap64 (m : Int) = (m : Int)) (i2 : (sz : Int) ≤ (s.size : Int)) (i0 : (1 : Int) ≤ (sz : Int)) (cut : ByteArray) (hx : s.extract 1 sz = cut) (n d : Nat) (hN : ∀ W, Calls Tryz.prog 230 #[.string cut] W fun r w' => r = .returned (.int .u64 (n : Int)) ∧ w' = W) (hp1 : 1 < s.size) (hd : (s[1]'hp1).toNat = d) (ef : w.cell? ⟨14, 0, none⟩ = some e) (hd0 : ((d : Int) == 0) = true) :
  Calls Tryz.prog 225 #[.string s, .int .u8 (kind : Int)] w fun r w' => r = .returned (.tuple #[.int .i64 0, .int .i64 0, e]) ∧ Below w.heap.size w w' := by
 have HN : Hid (∀ W, Calls Tryz.prog 230 #[.string cut] W fun r w' => r = .returned (.int .u64 (n : Int)) ∧ w' = W) := hN
 clear hN
 go_enter Tryz.func225, Tryz.ntmps225
 go_wp2
 go_region
 go_wp2_with (go_at_call 230; refine (HN.out _).mono ?_; rintro e' w' ⟨rfl, rfl⟩)
 go_region
 go_wp2
 go_ret3
 exact ⟨rfl, (Below.refl _ _).drew.drew⟩
set_option maxRecDepth 100000 in
set_option maxHeartbeats 1600000 in
theorem great_form1 (s : ByteArray) (kind c k sz m : Nat) (w : World) (e : Value) (hp : 0 < s.size) (hcc : (s[0]'hp).toNat = c) (e1 : ((c : Int) - (kind : Int)) % 256 = (k : Int)) (i1 : (55 : Int) < (k : Int)) (e2 : IntKind.u64.wrap ((k : Int) - 55) = (m : Int)) (e3 : wrap64 (1 + (m : Int)) = (sz : Int)) (e4 : wrap64 (m : Int) = (m : Int)) (i2 : (sz : Int) ≤ (s.size : Int)) (i0 : (1 : Int) ≤ (sz : Int)) (cut : ByteArray) (hx : s.extract 1 sz = cut) (n d : Nat) (hN : ∀ W, Calls Tryz.prog 230 #[.string cut] W fun r w' => r = .returned (.int .u64 (n : Int)) ∧ w' = W) (hp1 : 1 < s.size) (hd : (s[1]'hp1).toNat = d) (ef : w.cell? ⟨14, 0, none⟩ = some e) (hd0 : ((d : Int) == 0) = false) (i3 : (n : Int) ≤ 55) :
  Calls Tryz.prog 225 #[.string s, .int .u8 (kind : Int)] w fun r w' => r = .returned (.tuple #[.int .i64 0, .int .i64 0, e]) ∧ Below w.heap.size w w' := by
 have HN : Hid (∀ W, Calls Tryz.prog 230 #[.string cut] W fun r w' => r = .returned (.int .u64 (n : Int)) ∧ w' = W) := hN
 clear hN
 go_enter Tryz.func225, Tryz.ntmps225
 go_wp2
 go_region
 go_wp2_with (go_at_call 230; refine (HN.out _).mono ?_; rintro e' w' ⟨rfl, rfl⟩)
 go_region
 go_wp2
 go_ret3
 exact ⟨rfl, (Below.refl _ _).drew.drew⟩
set_option maxRecDepth 100000 in
set_option maxHeartbeats 1600000 in
theorem great_short2 (s : ByteArray) (kind c k sz m : Nat) (w : World) (e : Value) (hp : 0 < s.size) (hcc : (s[0]'hp).toNat = c) (e1 : ((c : Int) - (kind : Int)) % 256 = (k : Int)) (i1 : (55 : Int) < (k : Int)) (e2 : IntKind.u64.wrap ((k : Int) - 55) = (m : Int)) (e3 : wrap64 (1 + (m : Int)) = (sz : Int)) (e4 : wrap64 (m : Int) = (m : Int)) (i2 : (sz : Int) ≤ (s.size : Int)) (i0 : (1 : Int) ≤ (sz : Int)) (cut : ByteArray) (hx : s.extract 1 sz = cut) (n d : Nat) (hN : ∀ W, Calls Tryz.prog 230 #[.string cut] W fun r w' => r = .returned (.int .u64 (n : Int)) ∧ w' = W) (hp1 : 1 < s.size) (hd : (s[1]'hp1).toNat = d) (q : Nat) (r1 : wrap64 ((s.size : Int) - (sz : Int)) = (q : Int)) (r2 : IntKind.u64.wrap (q : Int) = (q : Int)) (es : w.cell? ⟨1, 0, none⟩ = some e) (hd0 : ((d : Int) == 0) = false) (i3 : (55 : Int) < (n : Int)) (i4 : (q : Int) < (n : Int)) :
  Calls Tryz.prog 225 #[.string s, .int .u8 (kind : Int)] w fun r w' => r = .returned (.tuple #[.int .i64 0, .int .i64 0, e]) ∧ Below w.heap.size w w' := by
 have HN : Hid (∀ W, Calls Tryz.prog 230 #[.string cut] W fun r w' => r = .returned (.int .u64 (n : Int)) ∧ w' = W) := hN
 clear hN
 go_enter Tryz.func225, Tryz.ntmps225
 go_wp2
 go_region
 go_wp2_with (go_at_call 230; refine (HN.out _).mono ?_; rintro e' w' ⟨rfl, rfl⟩)
 go_region
 go_wp2
 go_ret3
 exact ⟨rfl, (Below.refl _ _).drew.drew⟩
set_option maxRecDepth 100000 in
set_option maxHeartbeats 1600000 in
theorem great_ok (s : ByteArray) (kind c k sz m : Nat) (w : World) (hp : 0 < s.size) (hcc : (s[0]'hp).toNat = c) (e1 : ((c : Int) - (kind : Int)) % 256 = (k : Int)) (i1 : (55 : Int) < (k : Int)) (e2 : IntKind.u64.wrap ((k : Int) - 55) = (m : Int)) (e3 : wrap64 (1 + (m : Int)) = (sz : Int)) (e4 : wrap64 (m : Int) = (m : Int)) (i2 : (sz : Int) ≤ (s.size : Int)) (i0 : (1 : Int) ≤ (sz : Int)) (cut : ByteArray) (hx : s.extract 1 sz = cut) (n d : Nat) (hN : ∀ W, Calls Tryz.prog 230 #[.string cut] W fun r w' => r = .returned (.int .u64 (n : Int)) ∧ w' = W) (hp1 : 1 < s.size) (hd : (s[1]'hp1).toNat = d) (q : Nat) (r1 : wrap64 ((s.size : Int) - (sz : Int)) = (q : Int)) (r2 : IntKind.u64.wrap (q : Int) = (q : Int)) (hd0 : ((d : Int) == 0) = false) (i3 : (55 : Int) < (n : Int)) (i4 : (n : Int) ≤ (q : Int)) (e5 : wrap64 (n : Int) = (n : Int)) :
  Calls Tryz.prog 225 #[.string s, .int .u8 (kind : Int)] w fun r w' => r = .returned (.tuple #[.int .i64 (sz : Int), .int .i64 (n : Int), .nilIface]) ∧ Below w.heap.size w w' := by
 have HN : Hid (∀ W, Calls Tryz.prog 230 #[.string cut] W fun r w' => r = .returned (.int .u64 (n : Int)) ∧ w' = W) := hN
 have E5 : Hid (wrap64 (n : Int) = (n : Int)) := e5
 clear hN e5
 go_enter Tryz.func225, Tryz.ntmps225
 go_wp2
 go_region
 go_wp2_with (go_at_call 230; refine (HN.out _).mono ?_; rintro e' w' ⟨rfl, rfl⟩)
 go_ret3
 refine ⟨?_, (Below.refl _ _).drew⟩
 show Ending.returned (.tuple #[.int .i64 (sz : Int), .int .i64 (wrap64 (n : Int)), .nilIface]) = _
 rw [E5.out]
theorem length_great (s : ByteArray) (kind : Nat) (w : World) (es ef : Value) (hes : faultAt w 1 es) (hef : faultAt w 14 ef) (hp : 0 < s.size) (hs : s.size ≤ 1048576) (hc : kind ≤ (bytesOf s)[0]!) (h55 : ¬ (bytesOf s)[0]! - kind ≤ 55) (h63 : (bytesOf s)[0]! - kind ≤ 63) :
  Calls Tryz.prog 225 #[.string s, .int .u8 (kind : Int)] w fun e w' => e = .returned (.tuple (match lenF (bytesOf s) kind with | .ok (a, b) => #[.int .i64 (a : Int), .int .i64 (b : Int), .nilIface] | .error false => #[.int .i64 0, .int .i64 0, es] | .error true => #[.int .i64 0, .int .i64 0, ef])) ∧ Below w.heap.size w w' := by
 have hl := lenF_great h55
 rw [bytesOf_length] at hl
 obtain ⟨c, hcc⟩ : ∃ c, (s[0]'hp).toNat = c := ⟨_, rfl⟩
 have hb := byte_at s 0 hp
 rw [hcc] at hb
 rw [← hb] at hc h55 h63 hl
 have hc8 : c < 256 := by rw [← hcc]; exact UInt8.toNat_lt _
 obtain ⟨k, hkk⟩ : ∃ k, c - kind = k := ⟨_, rfl⟩
 rw [hkk] at h55 h63 hl
 have e1 : ((c : Int) - (kind : Int)) % 256 = (k : Int) := by omega
 have i1 : (55 : Int) < (k : Int) := by omega
 obtain ⟨sz, ha⟩ : ∃ sz, k - 54 = sz := ⟨_, rfl⟩
 obtain ⟨m, hm⟩ : ∃ m, sz - 1 = m := ⟨_, rfl⟩
 have hka : k - 55 = m := by omega
 rw [ha, hka] at hl
 have i0 : (1 : Int) ≤ (sz : Int) := by omega
 have hp1' : sz ≤ s.size → 1 < s.size := by omega
 have hcut := bytesOf_cut s sz
 rw [hm] at hcut
 have hm8' : m ≤ 8 := by omega
 obtain ⟨e2, e3, _, hm8, _⟩ := great_facts k sz m ha hm h55 h63
 have e4 := wrap64_few m (Nat.le_trans hm8 (by decide))
 by_cases hC : s.size < sz
 ·rw [if_pos hC] at hl
  rw [hl]
  exact great_short s kind c k sz m w es hp hcc e1 i1 e2 e3 e4 (Int.ofNat_lt.2 hC) hes
 ·rw [if_neg hC, ← hcut] at hl
  have hle := Nat.le_of_not_lt hC
  have hp1 := hp1' hle
  have hxs : (s.extract 1 sz).size ≤ 8 := by
   rw [← bytesOf_length, hcut, List.length_take]
   exact Nat.le_trans (Nat.min_le_left _ _) hm8
  have hN := fun W => number_any (s.extract 1 sz) W hxs
  obtain ⟨n, hn⟩ : ∃ n, numB (bytesOf (s.extract 1 sz)) = n := ⟨_, rfl⟩
  rw [hn] at hl
  have hN' : ∀ W, Calls Tryz.prog 230 #[.string (s.extract 1 sz)] W fun r w' => r = .returned (.int .u64 (n : Int)) ∧ w' = W := fun W => by
   have := hN W
   rw [hn] at this
   exact this
  obtain ⟨r1, r2⟩ := rest_facts s.size sz hle hs
  have i2 : (sz : Int) ≤ (s.size : Int) := Int.ofNat_le.2 hle
  rw [← byte_at s 1 hp1] at hl
  by_cases h0 : (s[1]'hp1).toNat = 0
  ·rw [if_pos (Or.inl h0)] at hl
   rw [hl]
   exact great_form0 s kind c k sz m w ef hp hcc e1 i1 e2 e3 e4 i2 i0 _ rfl n _ hN' hp1 rfl hef (by simp [h0])
  ·have hd0 : (((s[1]'hp1).toNat : Int) == 0) = false := by simp [h0]
   by_cases hD : n ≤ 55
   ·rw [if_pos (Or.inr hD)] at hl
    rw [hl]
    exact great_form1 s kind c k sz m w ef hp hcc e1 i1 e2 e3 e4 i2 i0 _ rfl n _ hN' hp1 rfl hef hd0 (Int.ofNat_le.2 hD)
   ·rw [if_neg (fun h => h.elim h0 hD)] at hl
    have i3 : (55 : Int) < (n : Int) := Int.ofNat_lt.2 (Nat.lt_of_not_le hD)
    by_cases hE : s.size - sz < n
    ·rw [if_pos hE] at hl
     rw [hl]
     exact great_short2 s kind c k sz m w es hp hcc e1 i1 e2 e3 e4 i2 i0 _ rfl n _ hN' hp1 rfl _ r1 r2 hes hd0 i3 (Int.ofNat_lt.2 hE)
    ·rw [if_neg hE] at hl
     rw [hl]
     exact great_ok s kind c k sz m w hp hcc e1 i1 e2 e3 e4 i2 i0 _ rfl n _ hN' hp1 rfl _ r1 r2 hd0 i3 (Int.ofNat_le.2 (Nat.le_of_not_lt hE)) (wrap64_few n (Nat.le_trans (Nat.le_of_not_lt hE) (Nat.le_trans (Nat.sub_le _ _) hs)))
end Go.Proofs.YtjiikjpnlgogfaaGreatDoor
namespace Go.Proofs.YtjiikjpnlgogfaaGreatDoor
open Go.RowKit
theorem numB_cut : ∀ (k : Nat) (d : List Nat), (∀ x ∈ d, x < 256) → k ≤ d.length → numB d / 256 ^ k = numB (d.take (d.length - k)) := by
 intro k
 induction k with
 | zero => intro d _ _; simp
 | succ k ih =>
  intro d hd hk
  have hne : d ≠ [] := fun e => by subst e; simp at hk
  obtain ⟨r, x, rfl⟩ : ∃ r x, d = r ++ [x] := ⟨d.dropLast, d.getLast hne, (List.dropLast_concat_getLast hne).symm⟩
  have hx : x < 256 := hd x (by simp)
  simp only [List.length_append, List.length_cons, List.length_nil] at hk ⊢
  rw [numB_snoc, Nat.pow_succ, Nat.mul_comm (256 ^ k) 256, ← Nat.div_div_eq_div_mul, show (numB r * 256 + x) / 256 = numB r by omega, ih r (fun y hy => hd y (by simp [hy])) (by omega)]
  rw [show r.length + (0 + 1) - (k + 1) = r.length - k by omega, List.take_append_of_le_length (by omega)]
theorem numB_cons_pos : ∀ (r : List Nat) (x : Nat), x ≠ 0 → numB (x :: r) ≠ 0 := by
 have h : ∀ (r : List Nat) (n : Nat), n ≠ 0 → r.foldl (fun n x => n * 256 + x) n ≠ 0 := by
  intro r
  induction r with
  | nil => intro n hn; exact hn
  | cons y r ih => intro n hn; exact ih _ (by simp only; omega)
 intro r x hx
 unfold numB
 rw [List.foldl_cons]
 exact h r _ (by omega)
theorem bigE_numB (d : List Nat) (hd : ∀ x ∈ d, x < 256) (h8 : d.length ≤ 8) (h0 : d ≠ [] → d[0]! ≠ 0) : bigE (numB d) = d := by
 have key : ∀ i, i ≤ 8 → bigAt (numB d) i = d.take (i - (8 - d.length)) := by
  intro i
  induction i with
  | zero => intro _; simp [bigAt]
  | succ i ih =>
   intro hi
   rw [bigAt, ih (by omega)]
   have e : 2 ^ (56 - 8 * i) = 256 ^ (7 - i) := by
    rw [show (256 : Nat) = 2 ^ 8 by decide, ← Nat.pow_mul]
    congr 1
    omega
   rw [e]
   by_cases hk : d.length ≤ 7 - i
   ·have hlt := numB_lt d hd
    have : numB d / 256 ^ (7 - i) = 0 := Nat.div_eq_of_lt (Nat.lt_of_lt_of_le hlt (Nat.pow_le_pow_right (by decide) hk))
    rw [if_pos this, show i - (8 - d.length) = 0 by omega, show i + 1 - (8 - d.length) = 0 by omega]
   ·rw [numB_cut (7 - i) d hd (by omega)]
    obtain ⟨j, hj⟩ : ∃ j, d.length - (7 - i) = j + 1 := ⟨d.length - (7 - i) - 1, by omega⟩
    have hjd : j < d.length := by omega
    rw [hj, show i - (8 - d.length) = j by omega, show i + 1 - (8 - d.length) = j + 1 by omega]
    have hs : d.take (j + 1) = d.take j ++ [d[j]] := (List.take_append_getElem hjd).symm
    have hn0 : numB (d.take (j + 1)) ≠ 0 := by
     cases hdd : d with
     | nil => rw [hdd] at hjd; simp at hjd
     | cons a r =>
      have := h0 (by rw [hdd]; simp)
      rw [hdd] at this
      rw [List.take_succ_cons]
      exact numB_cons_pos _ _ (by simpa using this)
    rw [if_neg hn0, hs, numB_snoc]
    have := hd d[j] (List.getElem_mem hjd)
    rw [show (numB (d.take j) * 256 + d[j]) % 256 = d[j] by omega]
 have := key 8 (Nat.le_refl _)
 unfold bigE
 rw [this, List.take_of_length_le (by omega)]
theorem take_one_get {l : List Nat} (h : 0 < l.length) : l.take 1 = [l[0]!] := by
 cases l with
 | nil => simp at h
 | cons a r => simp
theorem lenF_ok {l : List Nat} {kind a b : Nat} (hl : ∀ x ∈ l, x < 256) (hp : 0 < l.length) (hk : kind ≤ l[0]!) (h63 : l[0]! - kind ≤ 63) (h : lenF l kind = .ok (a, b)) : l.take a = headB kind b ∧ a + b ≤ l.length ∧ 1 ≤ a ∧ a ≤ 9 := by
 have hl0 : l[0]! < 256 := by
  rw [getElem!_pos l 0 hp]
  exact hl _ (List.getElem_mem hp)
 by_cases h55 : l[0]! - kind ≤ 55
 ·rw [lenF_small h55] at h
  split at h
  ·cases h
  ·injection h with h
   injection h with h1 h2
   subst h1 h2
   refine ⟨?_, by omega, by omega, by omega⟩
   unfold headB
   rw [if_pos h55, take_one_get hp]
   congr 1
   omega
 ·rw [lenF_great h55] at h
  split at h
  ·cases h
  ·rename_i hlen
   split at h
   ·cases h
   ·rename_i hz
    split at h
    ·cases h
    ·rename_i hr
     injection h with h
     injection h with h1 h2
     have hz1 : l[1]! ≠ 0 := fun e => hz (.inl e)
     have hz2 : ¬ numB ((l.drop 1).take (l[0]! - kind - 55)) ≤ 55 := fun e => hz (.inr e)
     have hdl : ((l.drop 1).take (l[0]! - kind - 55)).length = l[0]! - kind - 55 := by
      rw [List.length_take, List.length_drop]
      omega
     have hd : bigE (numB ((l.drop 1).take (l[0]! - kind - 55))) = (l.drop 1).take (l[0]! - kind - 55) := by
      refine bigE_numB _ (fun x hx => hl x (List.mem_of_mem_drop (List.mem_of_mem_take hx))) (by omega) (fun _ => ?_)
      have e : ((l.drop 1).take (l[0]! - kind - 55))[0]! = l[1]! := by
       rw [getElem!_pos _ 0 (by omega), getElem!_pos l 1 (by omega), List.getElem_take, List.getElem_drop]
      rw [e]
      exact hz1
     rw [h2] at hd hz2
     refine ⟨?_, by omega, by omega, by omega⟩
     unfold headB
     rw [if_neg hz2, hd, hdl, ← h1]
     cases hll : l with
     | nil => rw [hll] at hp; simp at hp
     | cons x r =>
      rw [hll] at h55 hl0 hk hlen h63
      simp only [List.getElem!_cons_zero, List.drop_succ_cons, List.drop_zero] at h55 hl0 hk hlen h63 ⊢
      rw [show x - kind - 54 = (x - kind - 55) + 1 by omega, List.take_succ_cons]
      congr 1
      omega
def HeadOK (l : List Nat) (list : Bool) (size len : Nat) : Prop :=
 size + len ≤ l.length ∧ 0 < size + len ∧ size ≤ 9 ∧ (list = true → l.take size = headB 192 len) ∧ (list = false → l.take (size + len) = textCode ((l.drop size).take len))
theorem HeadOK.byte {l : List Nat} (hp : 0 < l.length) (h : l[0]! < 128) : HeadOK l false 0 1 := by
 refine ⟨by omega, by omega, by omega, by simp, fun _ => ?_⟩
 rw [Nat.zero_add, List.drop_zero, take_one_get hp]
 unfold textCode
 rw [if_pos ⟨rfl, by simpa using h⟩]
 rfl
theorem HeadOK.text {l : List Nat} {a b : Nat} (hl : ∀ x ∈ l, x < 256) (hp : 0 < l.length) (hk : 128 ≤ l[0]!) (hk2 : l[0]! < 192) (h : lenF l 128 = .ok (a, b)) (hn : ¬ (b = 1 ∧ l[a]! < 128)) : HeadOK l false a b := by
 obtain ⟨h1, h2, h3, h4⟩ := lenF_ok hl hp hk (by omega) h
 refine ⟨h2, by omega, h4, by simp, fun _ => ?_⟩
 have hlen : ((l.drop a).take b).length = b := by rw [List.length_take, List.length_drop]; omega
 unfold textCode
 rw [if_neg, hlen, ← h1, List.take_add]
 rintro ⟨e1, e2⟩
 rw [hlen] at e1
 refine hn ⟨e1, ?_⟩
 rw [getElem!_pos _ 0 (by omega), List.getElem_take, List.getElem_drop] at e2
 rw [getElem!_pos l a (by omega)]
 simpa using e2
theorem HeadOK.list {l : List Nat} {a b : Nat} (hl : ∀ x ∈ l, x < 256) (hp : 0 < l.length) (hk : 192 ≤ l[0]!) (h : lenF l 192 = .ok (a, b)) : HeadOK l true a b := by
 have hl0 : l[0]! < 256 := by
  rw [getElem!_pos l 0 hp]
  exact hl _ (List.getElem_mem hp)
 obtain ⟨h1, h2, h3, h4⟩ := lenF_ok hl hp hk (by omega) h
 exact ⟨h2, by omega, h4, fun _ => h1, by simp⟩
end Go.Proofs.YtjiikjpnlgogfaaGreatDoor
namespace Go.Proofs.YtjiikjpnlgogfaaGreatDoor
open Go.RowKit
inductive It where
 | text (fr to : Nat) (t : List Nat)
 | list (fr to : Nat) (l : List It)
def It.fr : It → Nat
 | .text a _ _ => a
 | .list a _ _ => a
def It.to : It → Nat
 | .text _ a _ => a
 | .list _ a _ => a
mutual
def It.code : It → List Nat
 | .text _ _ t => textCode t
 | .list _ _ l => listCode (codes l)
def codes : List It → List Nat
 | [] => []
 | x :: l => x.code ++ codes l
end
def headF (l : List Nat) : Except Nat (Bool × Nat × Nat) :=
 if l.length = 0 then .error 2
 else if l[0]! < 128 then .ok (false, 0, 1)
 else if l[0]! < 192 then
  match lenF l 128 with
  | .error x => .error (if x then 3 else 2)
  | .ok (a, b) => if b = 1 ∧ l[a]! < 128 then .error 3 else .ok (false, a, b)
 else
  match lenF l 192 with
  | .error x => .error (if x then 3 else 2)
  | .ok (a, b) => .ok (true, a, b)
def readIts (rd : Nat → Except Er It) (n : Nat) : Nat → Nat → Except Er (List It)
 | 0, _ => .ok []
 | k + 1, fr =>
  if fr < n then
   match rd fr with
   | .error e => .error e
   | .ok x =>
    match readIts rd n k x.to with
    | .error e => .error e
    | .ok l => .ok (x :: l)
  else .ok []
def readIt : Nat → List Nat → Nat → Except Er It
 | 0, l, fr =>
  match headF (l.drop fr) with
  | .error e => .error (.place fr (.base e))
  | .ok (lst, a, b) => if lst then .error (.place fr (.base 5)) else .ok (.text fr (fr + a + b) ((l.drop (fr + a)).take b))
 | d + 1, l, fr =>
  match headF (l.drop fr) with
  | .error e => .error (.place fr (.base e))
  | .ok (lst, a, b) =>
   if lst then
    match readIts (readIt d (l.take (fr + a + b))) (fr + a + b) b (fr + a) with
    | .error e => .error e
    | .ok its => .ok (.list fr (fr + a + b) its)
   else .ok (.text fr (fr + a + b) ((l.drop (fr + a)).take b))
def decF (l : List Nat) : Except Er It :=
 if 2048 < l.length then .error (.base 1)
 else
  match readIt 6 l 0 with
  | .error e => .error e
  | .ok x => if x.to < l.length then .error (.place x.to (.base 4)) else .ok x
theorem headF_ok {l : List Nat} (hl : ∀ x ∈ l, x < 256) {lst : Bool} {a b : Nat} (h : headF l = .ok (lst, a, b)) : HeadOK l lst a b := by
 unfold headF at h
 by_cases h0 : l.length = 0
 ·rw [if_pos h0] at h
  cases h
 ·rw [if_neg h0] at h
  by_cases h1 : l[0]! < 128
  ·rw [if_pos h1] at h
   cases h
   exact HeadOK.byte (by omega) h1
  ·rw [if_neg h1] at h
   by_cases h2 : l[0]! < 192
   ·rw [if_pos h2] at h
    cases hf : lenF l 128 with
    | error x => rw [hf] at h; cases h
    | ok p =>
     obtain ⟨a', b'⟩ := p
     rw [hf] at h
     simp only at h
     by_cases h3 : b' = 1 ∧ l[a']! < 128
     ·rw [if_pos h3] at h
      cases h
     ·rw [if_neg h3] at h
      cases h
      exact HeadOK.text hl (by omega) (by omega) h2 hf h3
   ·rw [if_neg h2] at h
    cases hf : lenF l 192 with
    | error x => rw [hf] at h; cases h
    | ok p =>
     obtain ⟨a', b'⟩ := p
     rw [hf] at h
     cases h
     exact HeadOK.list hl (by omega) (by omega) hf
def ReadOK (l : List Nat) (fr : Nat) (x : It) : Prop := x.fr = fr ∧ fr < x.to ∧ x.to ≤ l.length ∧ x.code = (l.drop fr).take (x.to - fr)
theorem readIts_ok {rd : Nat → Except Er It} {l : List Nat} {n : Nat} (hn : n = l.length) (hr : ∀ fr x, fr ≤ l.length → rd fr = .ok x → ReadOK l fr x) :
  ∀ (k fr : Nat) (its : List It), fr ≤ n → n - fr ≤ k → readIts rd n k fr = .ok its → codes its = l.drop fr := by
 intro k
 induction k with
 | zero =>
  intro fr its hfr hk h
  cases h
  rw [List.drop_of_length_le (by omega)]
  rfl
 | succ k ih =>
  intro fr its hfr hk h
  rw [readIts] at h
  by_cases hlt : fr < n
  ·rw [if_pos hlt] at h
   cases h1 : rd fr with
   | error e => rw [h1] at h; cases h
   | ok x =>
    rw [h1] at h
    simp only at h
    obtain ⟨_, e2, e3, e4⟩ := hr fr x (by omega) h1
    cases h2 : readIts rd n k x.to with
    | error e => rw [h2] at h; cases h
    | ok its2 =>
     rw [h2] at h
     cases h
     rw [codes, e4, ih x.to its2 (by omega) (by omega) h2, show l.drop x.to = (l.drop fr).drop (x.to - fr) by rw [List.drop_drop]; congr 1; omega, List.take_append_drop]
  ·rw [if_neg hlt] at h
   cases h
   rw [List.drop_of_length_le (by omega)]
   rfl
theorem bytes_drop {l : List Nat} (hl : ∀ x ∈ l, x < 256) (k : Nat) : ∀ x ∈ l.drop k, x < 256 := fun x hx => hl x (List.mem_of_mem_drop hx)
theorem bytes_take {l : List Nat} (hl : ∀ x ∈ l, x < 256) (k : Nat) : ∀ x ∈ l.take k, x < 256 := fun x hx => hl x (List.mem_of_mem_take hx)
theorem read_text {l : List Nat} (hl : ∀ x ∈ l, x < 256) {fr a b : Nat} (hfr : fr ≤ l.length) (h : headF (l.drop fr) = .ok (false, a, b)) : ReadOK l fr (.text fr (fr + a + b) ((l.drop (fr + a)).take b)) := by
 obtain ⟨h1, h2, _, _, h5⟩ := headF_ok (bytes_drop hl fr) h
 rw [List.length_drop] at h1
 refine ⟨rfl, by simp only [It.to]; omega, by simp only [It.to]; omega, ?_⟩
 simp only [It.to, It.code]
 rw [show fr + a + b - fr = a + b by omega, h5 rfl, List.drop_drop]
theorem readIt_ok : ∀ (d : Nat) (l : List Nat) (fr : Nat) (x : It), (∀ y ∈ l, y < 256) → fr ≤ l.length → readIt d l fr = .ok x → ReadOK l fr x := by
 intro d
 induction d with
 | zero =>
  intro l fr x hl hfr h
  rw [readIt] at h
  cases h1 : headF (l.drop fr) with
  | error e => rw [h1] at h; cases h
  | ok p =>
   obtain ⟨lst, a, b⟩ := p
   rw [h1] at h
   cases lst with
   | true => cases h
   | false =>
    cases h
    exact read_text hl hfr h1
 | succ d ih =>
  intro l fr x hl hfr h
  rw [readIt] at h
  cases h1 : headF (l.drop fr) with
  | error e => rw [h1] at h; cases h
  | ok p =>
   obtain ⟨lst, a, b⟩ := p
   rw [h1] at h
   cases lst with
   | false =>
    cases h
    exact read_text hl hfr h1
   | true =>
    simp only [if_true] at h
    cases h2 : readIts (readIt d (l.take (fr + a + b))) (fr + a + b) b (fr + a) with
    | error e => rw [h2] at h; cases h
    | ok its =>
     rw [h2] at h
     cases h
     obtain ⟨e1, e2, _, e4, _⟩ := headF_ok (bytes_drop hl fr) h1
     rw [List.length_drop] at e1
     have hlen : (l.take (fr + a + b)).length = fr + a + b := by rw [List.length_take]; omega
     have hc := readIts_ok hlen.symm (fun fr' x' h1' h2' => ih _ fr' x' (bytes_take hl _) h1' h2') b (fr + a) its (by omega) (by omega) h2
     refine ⟨rfl, by simp only [It.to]; omega, by simp only [It.to]; omega, ?_⟩
     simp only [It.to, It.code]
     have e5 : (l.take (fr + a + b)).drop (fr + a) = ((l.drop fr).drop a).take b := by rw [List.drop_take, List.drop_drop, show fr + a + b - (fr + a) = b by omega]
     rw [hc, e5]
     unfold listCode
     have hlen2 : (((l.drop fr).drop a).take b).length = b := by rw [List.length_take, List.length_drop, List.length_drop]; omega
     rw [hlen2, ← e4 rfl, show fr + a + b - fr = a + b by omega, List.take_add]
theorem decF_ok {l : List Nat} (hl : ∀ y ∈ l, y < 256) {x : It} (h : decF l = .ok x) : l.length ≤ 2048 ∧ x.fr = 0 ∧ x.to = l.length ∧ x.code = l := by
 unfold decF at h
 by_cases h0 : 2048 < l.length
 ·rw [if_pos h0] at h
  cases h
 ·rw [if_neg h0] at h
  cases h1 : readIt 6 l 0 with
  | error e => rw [h1] at h; cases h
  | ok y =>
   rw [h1] at h
   simp only at h
   obtain ⟨e1, e2, e3, e4⟩ := readIt_ok 6 l 0 y hl (by omega) h1
   by_cases h2 : y.to < l.length
   ·rw [if_pos h2] at h
    cases h
   ·rw [if_neg h2] at h
    cases h
    have e5 : x.to = l.length := by omega
    refine ⟨by omega, e1, e5, ?_⟩
    rw [e4, e5, List.drop_zero, Nat.sub_zero, List.take_of_length_le (Nat.le_refl _)]
end Go.Proofs.YtjiikjpnlgogfaaGreatDoor
