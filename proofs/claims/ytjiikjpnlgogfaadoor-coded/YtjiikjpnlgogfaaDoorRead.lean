/-
  Heads read: Number, readLength, readText, readHead of package item.
-/
import Derived.Test.YtjiikjpnlgogfaaDoorPack
namespace Go.Proofs.YtjiikjpnlgogfaaDoor
open Go.RowKit

/-- Bytes as a number, the highest first. -/
def numB (l : List Nat) : Nat := l.foldl (fun n x => n * 256 + x) 0
theorem numB_snoc (l : List Nat) (x : Nat) : numB (l ++ [x]) = numB l * 256 + x := by
  unfold numB
  rw [List.foldl_append]
  rfl
theorem numB_lt : ∀ (l : List Nat), (∀ x ∈ l, x < 256) → numB l < 256 ^ l.length := by
  intro l
  induction hl : l.length generalizing l with
  | zero =>
    intro _
    have : l = [] := List.eq_nil_of_length_eq_zero hl
    subst this
    decide
  | succ n ih =>
    intro h
    have hne : l ≠ [] := fun e => by rw [e] at hl; simp at hl
    rw [← List.dropLast_concat_getLast hne, numB_snoc]
    have h1 := ih l.dropLast (by simp [hl]) (fun x hx => h x (List.dropLast_subset l hx))
    have h2 := h _ (List.getLast_mem hne)
    rw [Nat.pow_succ]
    omega

theorem or_byte (n x : Nat) (hn : n < 256 ^ 7) (hx : x < 256) : bits .or .u64 ((n : Int) * 256) (x : Int) = ((n * 256 + x : Nat) : Int) := by
  have e : ((n : Int) * 256) = ((n * 256 : Nat) : Int) := by omega
  rw [e, u64_or_nat _ _ (by omega) (by omega), nat_join 8 (n * 256) x (Nat.mul_mod_left _ _) hx]

set_option maxRecDepth 100000 in
set_option maxHeartbeats 1600000 in
theorem number_any (s : ByteArray) (w : World) (hs : s.size ≤ 8) :
    Calls Tryd.prog 75 #[.string s] w fun e w' => e = .returned (.int .u64 ((numB (bytesOf s) : Nat) : Int)) ∧ w' = w := by
  have hbl := bytesOf_length s
  have AS : Aside ((bytesOf s).length = s.size ∧ s.size ≤ 8) := ⟨hbl, hs⟩
  clear hbl hs
  go_enter Tryd.func75, Tryd.ntmps75
  go_wp2
  go_loopg [3, 7] s.size (fun g n i wr => ∃ x : Nat, x ≤ s.size ∧ g = s.size - x ∧ i = .int .i64 (x : Int) ∧ n = .int .u64 ((numB ((bytesOf s).take x) : Nat) : Int) ∧ wr = w)
  case atStart => exact ⟨0, by omega, rfl, rfl, rfl, rfl⟩
  case round =>
    obtain ⟨x, hx, rfl, rfl, rfl, rfl⟩ := hrel
    by_cases hlt : x < s.size
    · obtain ⟨hbl, hs⟩ := AS.out
      obtain ⟨c, hc⟩ : ∃ c, (s[x]'hlt).toNat = c := ⟨_, rfl⟩
      have hc8 : c < 256 := by rw [← hc]; exact UInt8.toNat_lt _
      have hnx : numB ((bytesOf s).take (x + 1)) = numB ((bytesOf s).take x) * 256 + c := by
        rw [List.take_succ_eq_append_getElem (by omega), numB_snoc, ← hc, byte_at s x hlt, getElem!_pos _ x (by omega)]
      have hlt7 : numB ((bytesOf s).take x) < 256 ^ 7 := by
        have h1 := numB_lt ((bytesOf s).take x) (fun y hy => bytesOf_lt s y (List.mem_of_mem_take hy))
        rw [List.length_take, Nat.min_eq_left (by omega)] at h1
        exact Nat.lt_of_lt_of_le h1 (Nat.pow_le_pow_right (by omega) (by omega))
      obtain ⟨n, hn⟩ : ∃ n, numB ((bytesOf s).take x) = n := ⟨_, rfl⟩
      rw [hn] at hnx hlt7 ⊢
      have hor := or_byte n c hlt7 hc8
      obtain ⟨m, hm⟩ : ∃ m, n * 256 + c = m := ⟨_, rfl⟩
      rw [hm] at hor hnx
      have HN : Hid (numB ((bytesOf s).take (x + 1)) = m) := hnx
      have HX : Hid (wrap64 ((x : Int) + 1) = ((x + 1 : Nat) : Int)) := wrap64_succ x (by omega)
      have hxi : (x : Int) < (s.size : Int) := by omega
      have HOR : Hid (bits .or .u64 (IntKind.u64.wrap ((n : Int) * 256)) (IntKind.u64.wrap (c : Int)) = (m : Int)) := by
        have e2 : ((n : Int) * 256) = ((n * 256 : Nat) : Int) := by omega
        rw [wrap_u64_small c (by omega), e2, wrap_u64_small (n * 256) (by omega), ← e2]
        exact hor
      clear hbl hs hn hnx hc8 hm hor hlt7
      go_wp2
      go_roundg (s.size - (x + 1))
      case measure => omega
      case rel => exact ⟨x + 1, by omega, rfl, val_int HX.out, by rw [HN.out]; exact val_int HOR.out, rfl⟩
    · have hxi : (s.size : Int) ≤ (x : Int) := by omega
      have htk : (bytesOf s).take x = bytesOf s := List.take_of_length_le (by have := AS.out.1; omega)
      rw [htk]
      clear htk hlt
      go_wp2
      go_ret
      exact ⟨rfl, rfl⟩

/-- What a head tells: how long it is, and how much comes behind it; or what is wrong (false: it ends too early; true: it would be written otherwise). -/
def lenF (l : List Nat) (kind : Nat) : Except Bool (Nat × Nat) :=
  let k := l[0]! - kind
  if k ≤ 55 then (if l.length - 1 < k then .error false else .ok (1, k))
  else if l.length < k - 54 then .error false
  else
    let n := numB ((l.drop 1).take (k - 55))
    if l[1]! = 0 ∨ n ≤ 55 then .error true
    else if l.length - (k - 54) < n then .error false else .ok (k - 54, n)

/-- An error's cell of package fault. -/
def faultAt (W : World) (g : Nat) (v : Value) : Prop := W.cell? ⟨g, 0, none⟩ = some v

theorem lenF_small {l : List Nat} {kind : Nat} (h : l[0]! - kind ≤ 55) : lenF l kind = if l.length - 1 < l[0]! - kind then .error false else .ok (1, l[0]! - kind) := by
  unfold lenF
  simp only [h, if_true]

theorem rest_facts (n a : Nat) (ha : a ≤ n) (hn : n ≤ 1048576) : wrap64 ((n : Int) - (a : Int)) = ((n - a : Nat) : Int) ∧ IntKind.u64.wrap (((n - a : Nat) : Int)) = ((n - a : Nat) : Int) := by
  refine ⟨?_, wrap_u64_small _ (by omega)⟩
  unfold wrap64
  omega

set_option maxRecDepth 100000 in
set_option maxHeartbeats 1600000 in
/-- A head whose first byte holds the length. -/
theorem length_small (s : ByteArray) (kind : Nat) (w : World) (es : Value) (hes : faultAt w 2 es) (hp : 0 < s.size) (hs : s.size ≤ 1048576) (hc : kind ≤ (bytesOf s)[0]!) (h55 : (bytesOf s)[0]! - kind ≤ 55) :
    Calls Tryd.prog 71 #[.string s, .int .u8 (kind : Int)] w fun e w' => e = .returned (.tuple (match lenF (bytesOf s) kind with | .ok (a, b) => #[.int .i64 (a : Int), .int .i64 (b : Int), .nilIface] | .error _ => #[.int .i64 0, .int .i64 0, es])) ∧ Below w.heap.size w w' := by
  rw [lenF_small h55, bytesOf_length]
  obtain ⟨c, hcc⟩ : ∃ c, (s[0]'hp).toNat = c := ⟨_, rfl⟩
  have hb := byte_at s 0 hp
  rw [hcc] at hb
  rw [← hb] at hc h55 ⊢
  have hc8 : c < 256 := by rw [← hcc]; exact UInt8.toNat_lt _
  obtain ⟨k, hkk⟩ : ∃ k, c - kind = k := ⟨_, rfl⟩
  rw [hkk] at h55 ⊢
  have e1 : ((c : Int) - (kind : Int)) % 256 = (k : Int) := by omega
  have i1 : (k : Int) ≤ 55 := by omega
  obtain ⟨r0, r2⟩ := rest_facts s.size 1 hp hs
  have r1 : wrap64 ((s.size : Int) - 1) = ((s.size - 1 : Nat) : Int) := r0
  clear r0
  obtain ⟨q, hq⟩ : ∃ q, s.size - 1 = q := ⟨_, rfl⟩
  rw [hq] at r1 r2 ⊢
  have es' : w.cell? ⟨2, 0, none⟩ = some es := hes
  clear hb hc h55 hkk hc8 hs hes hq
  by_cases hlt : q < k
  · rw [if_pos hlt]
    have i2 : (q : Int) < (k : Int) := by omega
    go_enter Tryd.func71, Tryd.ntmps71
    go_wp2
    go_region
    go_wp2
    go_region
    go_wp2
    go_ret3
    exact ⟨rfl, (Below.refl _ _).drew.drew⟩
  · rw [if_neg hlt]
    have i2 : (k : Int) ≤ (q : Int) := by omega
    go_enter Tryd.func71, Tryd.ntmps71
    go_wp2
    go_region
    go_wp2
    go_ret3
    exact ⟨rfl, (Below.refl _ _).drew⟩

theorem bytesOf_cut (s : ByteArray) (a : Nat) : bytesOf (s.extract 1 a) = ((bytesOf s).drop 1).take (a - 1) := by
  unfold bytesOf
  rw [← List.map_drop, ← List.map_take]
  congr 1
  simp only [ByteArray.data_extract, Array.toList_extract, List.extract_eq_take_drop]
theorem wrap64_few (m : Nat) (h : m ≤ 1048576) : wrap64 (m : Int) = (m : Int) := by
  unfold wrap64
  omega
theorem great1 (k a m : Nat) (ha : k - 54 = a) (hm : a - 1 = m) (h1 : ¬ k ≤ 55) (h2 : k ≤ 63) : wrap64 (1 + (m : Int)) = (a : Int) := by
  have e : (a : Int) = (m : Int) + 1 := by omega
  have e8 : (m : Int) ≤ 8 := by omega
  have e0 : (0 : Int) ≤ (m : Int) := by omega
  rw [e]
  clear ha hm h1 h2 e
  unfold wrap64
  omega
theorem great2 (k m : Nat) (h : k - 55 = m) (h1 : ¬ k ≤ 55) (h2 : k ≤ 63) : IntKind.u64.wrap ((k : Int) - 55) = (m : Int) := by
  have e : (k : Int) - 55 = (m : Int) := by omega
  have hm : m < 18446744073709551616 := Nat.lt_of_le_of_lt (show m ≤ 8 by omega) (by decide)
  rw [e]
  exact wrap_u64_small m hm
theorem great_facts (k a m : Nat) (ha : k - 54 = a) (hm : a - 1 = m) (h1 : ¬ k ≤ 55) (h2 : k ≤ 63) : IntKind.u64.wrap ((k : Int) - 55) = (m : Int) ∧ wrap64 (1 + (m : Int)) = (a : Int) ∧ 1 ≤ m ∧ m ≤ 8 ∧ a = m + 1 :=
  ⟨great2 k m (by omega) h1 h2, great1 k a m ha hm h1 h2, by omega, by omega, by omega⟩
theorem lenF_great {l : List Nat} {kind : Nat} (h : ¬ l[0]! - kind ≤ 55) : lenF l kind = if l.length < l[0]! - kind - 54 then .error false else if l[1]! = 0 ∨ numB ((l.drop 1).take (l[0]! - kind - 55)) ≤ 55 then .error true else if l.length - (l[0]! - kind - 54) < numB ((l.drop 1).take (l[0]! - kind - 55)) then .error false else .ok (l[0]! - kind - 54, numB ((l.drop 1).take (l[0]! - kind - 55))) := by
  unfold lenF
  simp only [h, if_false]

set_option maxRecDepth 100000 in
set_option maxHeartbeats 1600000 in
theorem great_short (s : ByteArray) (kind c k sz m : Nat) (w : World) (e : Value) (hp : 0 < s.size) (hcc : (s[0]'hp).toNat = c) (e1 : ((c : Int) - (kind : Int)) % 256 = (k : Int)) (i1 : (55 : Int) < (k : Int)) (e2 : IntKind.u64.wrap ((k : Int) - 55) = (m : Int)) (e3 : wrap64 (1 + (m : Int)) = (sz : Int)) (e4 : wrap64 (m : Int) = (m : Int)) (i2 : (s.size : Int) < (sz : Int)) (es : w.cell? ⟨2, 0, none⟩ = some e) :
    Calls Tryd.prog 71 #[.string s, .int .u8 (kind : Int)] w fun r w' => r = .returned (.tuple #[.int .i64 0, .int .i64 0, e]) ∧ Below w.heap.size w w' := by
  go_enter Tryd.func71, Tryd.ntmps71
  go_wp2
  go_region
  go_wp2
  go_region
  go_wp2
  go_ret3
  exact ⟨rfl, (Below.refl _ _).drew.drew⟩

set_option maxRecDepth 100000 in
set_option maxHeartbeats 1600000 in
theorem great_form0 (s : ByteArray) (kind c k sz m : Nat) (w : World) (e : Value) (hp : 0 < s.size) (hcc : (s[0]'hp).toNat = c) (e1 : ((c : Int) - (kind : Int)) % 256 = (k : Int)) (i1 : (55 : Int) < (k : Int)) (e2 : IntKind.u64.wrap ((k : Int) - 55) = (m : Int)) (e3 : wrap64 (1 + (m : Int)) = (sz : Int)) (e4 : wrap64 (m : Int) = (m : Int)) (i2 : (sz : Int) ≤ (s.size : Int)) (i0 : (1 : Int) ≤ (sz : Int)) (cut : ByteArray) (hx : s.extract 1 sz = cut) (n d : Nat) (hN : ∀ W, Calls Tryd.prog 75 #[.string cut] W fun r w' => r = .returned (.int .u64 (n : Int)) ∧ w' = W) (hp1 : 1 < s.size) (hd : (s[1]'hp1).toNat = d) (ef : w.cell? ⟨12, 0, none⟩ = some e) (hd0 : ((d : Int) == 0) = true) :
    Calls Tryd.prog 71 #[.string s, .int .u8 (kind : Int)] w fun r w' => r = .returned (.tuple #[.int .i64 0, .int .i64 0, e]) ∧ Below w.heap.size w w' := by
  have HN : Hid (∀ W, Calls Tryd.prog 75 #[.string cut] W fun r w' => r = .returned (.int .u64 (n : Int)) ∧ w' = W) := hN
  clear hN
  go_enter Tryd.func71, Tryd.ntmps71
  go_wp2
  go_region
  go_wp2_with (go_at_call 75; refine (HN.out _).mono ?_; rintro e' w' ⟨rfl, rfl⟩)
  go_region
  go_wp2
  go_ret3
  exact ⟨rfl, (Below.refl _ _).drew.drew⟩


set_option maxRecDepth 100000 in
set_option maxHeartbeats 1600000 in
theorem great_form1 (s : ByteArray) (kind c k sz m : Nat) (w : World) (e : Value) (hp : 0 < s.size) (hcc : (s[0]'hp).toNat = c) (e1 : ((c : Int) - (kind : Int)) % 256 = (k : Int)) (i1 : (55 : Int) < (k : Int)) (e2 : IntKind.u64.wrap ((k : Int) - 55) = (m : Int)) (e3 : wrap64 (1 + (m : Int)) = (sz : Int)) (e4 : wrap64 (m : Int) = (m : Int)) (i2 : (sz : Int) ≤ (s.size : Int)) (i0 : (1 : Int) ≤ (sz : Int)) (cut : ByteArray) (hx : s.extract 1 sz = cut) (n d : Nat) (hN : ∀ W, Calls Tryd.prog 75 #[.string cut] W fun r w' => r = .returned (.int .u64 (n : Int)) ∧ w' = W) (hp1 : 1 < s.size) (hd : (s[1]'hp1).toNat = d) (ef : w.cell? ⟨12, 0, none⟩ = some e) (hd0 : ((d : Int) == 0) = false) (i3 : (n : Int) ≤ 55) :
    Calls Tryd.prog 71 #[.string s, .int .u8 (kind : Int)] w fun r w' => r = .returned (.tuple #[.int .i64 0, .int .i64 0, e]) ∧ Below w.heap.size w w' := by
  have HN : Hid (∀ W, Calls Tryd.prog 75 #[.string cut] W fun r w' => r = .returned (.int .u64 (n : Int)) ∧ w' = W) := hN
  clear hN
  go_enter Tryd.func71, Tryd.ntmps71
  go_wp2
  go_region
  go_wp2_with (go_at_call 75; refine (HN.out _).mono ?_; rintro e' w' ⟨rfl, rfl⟩)
  go_region
  go_wp2
  go_ret3
  exact ⟨rfl, (Below.refl _ _).drew.drew⟩


set_option maxRecDepth 100000 in
set_option maxHeartbeats 1600000 in
theorem great_short2 (s : ByteArray) (kind c k sz m : Nat) (w : World) (e : Value) (hp : 0 < s.size) (hcc : (s[0]'hp).toNat = c) (e1 : ((c : Int) - (kind : Int)) % 256 = (k : Int)) (i1 : (55 : Int) < (k : Int)) (e2 : IntKind.u64.wrap ((k : Int) - 55) = (m : Int)) (e3 : wrap64 (1 + (m : Int)) = (sz : Int)) (e4 : wrap64 (m : Int) = (m : Int)) (i2 : (sz : Int) ≤ (s.size : Int)) (i0 : (1 : Int) ≤ (sz : Int)) (cut : ByteArray) (hx : s.extract 1 sz = cut) (n d : Nat) (hN : ∀ W, Calls Tryd.prog 75 #[.string cut] W fun r w' => r = .returned (.int .u64 (n : Int)) ∧ w' = W) (hp1 : 1 < s.size) (hd : (s[1]'hp1).toNat = d) (q : Nat) (r1 : wrap64 ((s.size : Int) - (sz : Int)) = (q : Int)) (r2 : IntKind.u64.wrap (q : Int) = (q : Int)) (es : w.cell? ⟨2, 0, none⟩ = some e) (hd0 : ((d : Int) == 0) = false) (i3 : (55 : Int) < (n : Int)) (i4 : (q : Int) < (n : Int)) :
    Calls Tryd.prog 71 #[.string s, .int .u8 (kind : Int)] w fun r w' => r = .returned (.tuple #[.int .i64 0, .int .i64 0, e]) ∧ Below w.heap.size w w' := by
  have HN : Hid (∀ W, Calls Tryd.prog 75 #[.string cut] W fun r w' => r = .returned (.int .u64 (n : Int)) ∧ w' = W) := hN
  clear hN
  go_enter Tryd.func71, Tryd.ntmps71
  go_wp2
  go_region
  go_wp2_with (go_at_call 75; refine (HN.out _).mono ?_; rintro e' w' ⟨rfl, rfl⟩)
  go_region
  go_wp2
  go_ret3
  exact ⟨rfl, (Below.refl _ _).drew.drew⟩


set_option maxRecDepth 100000 in
set_option maxHeartbeats 1600000 in
theorem great_ok (s : ByteArray) (kind c k sz m : Nat) (w : World) (hp : 0 < s.size) (hcc : (s[0]'hp).toNat = c) (e1 : ((c : Int) - (kind : Int)) % 256 = (k : Int)) (i1 : (55 : Int) < (k : Int)) (e2 : IntKind.u64.wrap ((k : Int) - 55) = (m : Int)) (e3 : wrap64 (1 + (m : Int)) = (sz : Int)) (e4 : wrap64 (m : Int) = (m : Int)) (i2 : (sz : Int) ≤ (s.size : Int)) (i0 : (1 : Int) ≤ (sz : Int)) (cut : ByteArray) (hx : s.extract 1 sz = cut) (n d : Nat) (hN : ∀ W, Calls Tryd.prog 75 #[.string cut] W fun r w' => r = .returned (.int .u64 (n : Int)) ∧ w' = W) (hp1 : 1 < s.size) (hd : (s[1]'hp1).toNat = d) (q : Nat) (r1 : wrap64 ((s.size : Int) - (sz : Int)) = (q : Int)) (r2 : IntKind.u64.wrap (q : Int) = (q : Int)) (hd0 : ((d : Int) == 0) = false) (i3 : (55 : Int) < (n : Int)) (i4 : (n : Int) ≤ (q : Int)) (e5 : wrap64 (n : Int) = (n : Int)) :
    Calls Tryd.prog 71 #[.string s, .int .u8 (kind : Int)] w fun r w' => r = .returned (.tuple #[.int .i64 (sz : Int), .int .i64 (n : Int), .nilIface]) ∧ Below w.heap.size w w' := by
  have HN : Hid (∀ W, Calls Tryd.prog 75 #[.string cut] W fun r w' => r = .returned (.int .u64 (n : Int)) ∧ w' = W) := hN
  have E5 : Hid (wrap64 (n : Int) = (n : Int)) := e5
  clear hN e5
  go_enter Tryd.func71, Tryd.ntmps71
  go_wp2
  go_region
  go_wp2_with (go_at_call 75; refine (HN.out _).mono ?_; rintro e' w' ⟨rfl, rfl⟩)
  go_ret3
  refine ⟨?_, (Below.refl _ _).drew⟩
  show Ending.returned (.tuple #[.int .i64 (sz : Int), .int .i64 (wrap64 (n : Int)), .nilIface]) = _
  rw [E5.out]


/-- A head whose length stands in bytes of its own. -/
theorem length_great (s : ByteArray) (kind : Nat) (w : World) (es ef : Value) (hes : faultAt w 2 es) (hef : faultAt w 12 ef) (hp : 0 < s.size) (hs : s.size ≤ 1048576) (hc : kind ≤ (bytesOf s)[0]!) (h55 : ¬ (bytesOf s)[0]! - kind ≤ 55) (h63 : (bytesOf s)[0]! - kind ≤ 63) :
    Calls Tryd.prog 71 #[.string s, .int .u8 (kind : Int)] w fun e w' => e = .returned (.tuple (match lenF (bytesOf s) kind with | .ok (a, b) => #[.int .i64 (a : Int), .int .i64 (b : Int), .nilIface] | .error false => #[.int .i64 0, .int .i64 0, es] | .error true => #[.int .i64 0, .int .i64 0, ef])) ∧ Below w.heap.size w w' := by
  have hl := lenF_great h55
  rw [bytesOf_length] at hl
  obtain ⟨c, hcc⟩ : ∃ c, (s[0]'hp).toNat = c := ⟨_, rfl⟩
  have hb := byte_at s 0 hp
  rw [hcc] at hb
  rw [← hb] at hc h55 h63 hl
  have hc8 : c < 256 := by rw [← hcc]; exact UInt8.toNat_lt _
  obtain ⟨k, hkk⟩ : ∃ k, c - kind = k := ⟨_, rfl⟩
  rw [hkk] at h55 h63 hl
  have e1 : ((c : Int) - (kind : Int)) % 256 = (k : Int) := by omega
  have i1 : (55 : Int) < (k : Int) := by omega
  obtain ⟨sz, ha⟩ : ∃ sz, k - 54 = sz := ⟨_, rfl⟩
  obtain ⟨m, hm⟩ : ∃ m, sz - 1 = m := ⟨_, rfl⟩
  have hka : k - 55 = m := by omega
  rw [ha, hka] at hl
  have i0 : (1 : Int) ≤ (sz : Int) := by omega
  have hp1' : sz ≤ s.size → 1 < s.size := by omega
  have hcut := bytesOf_cut s sz
  rw [hm] at hcut
  have hm8' : m ≤ 8 := by omega
  obtain ⟨e2, e3, _, hm8, _⟩ := great_facts k sz m ha hm h55 h63
  have e4 := wrap64_few m (Nat.le_trans hm8 (by decide))
  by_cases hC : s.size < sz
  · rw [if_pos hC] at hl
    rw [hl]
    exact great_short s kind c k sz m w es hp hcc e1 i1 e2 e3 e4 (Int.ofNat_lt.2 hC) hes
  · rw [if_neg hC, ← hcut] at hl
    have hle := Nat.le_of_not_lt hC
    have hp1 := hp1' hle
    have hxs : (s.extract 1 sz).size ≤ 8 := by
      rw [← bytesOf_length, hcut, List.length_take]
      exact Nat.le_trans (Nat.min_le_left _ _) hm8
    have hN := fun W => number_any (s.extract 1 sz) W hxs
    obtain ⟨n, hn⟩ : ∃ n, numB (bytesOf (s.extract 1 sz)) = n := ⟨_, rfl⟩
    rw [hn] at hl
    have hN' : ∀ W, Calls Tryd.prog 75 #[.string (s.extract 1 sz)] W fun r w' => r = .returned (.int .u64 (n : Int)) ∧ w' = W := fun W => by
      have := hN W
      rw [hn] at this
      exact this
    obtain ⟨r1, r2⟩ := rest_facts s.size sz hle hs
    have i2 : (sz : Int) ≤ (s.size : Int) := Int.ofNat_le.2 hle
    rw [← byte_at s 1 hp1] at hl
    by_cases h0 : (s[1]'hp1).toNat = 0
    · rw [if_pos (Or.inl h0)] at hl
      rw [hl]
      exact great_form0 s kind c k sz m w ef hp hcc e1 i1 e2 e3 e4 i2 i0 _ rfl n _ hN' hp1 rfl hef (by simp [h0])
    · have hd0 : (((s[1]'hp1).toNat : Int) == 0) = false := by simp [h0]
      by_cases hD : n ≤ 55
      · rw [if_pos (Or.inr hD)] at hl
        rw [hl]
        exact great_form1 s kind c k sz m w ef hp hcc e1 i1 e2 e3 e4 i2 i0 _ rfl n _ hN' hp1 rfl hef hd0 (Int.ofNat_le.2 hD)
      · rw [if_neg (fun h => h.elim h0 hD)] at hl
        have i3 : (55 : Int) < (n : Int) := Int.ofNat_lt.2 (Nat.lt_of_not_le hD)
        by_cases hE : s.size - sz < n
        · rw [if_pos hE] at hl
          rw [hl]
          exact great_short2 s kind c k sz m w es hp hcc e1 i1 e2 e3 e4 i2 i0 _ rfl n _ hN' hp1 rfl _ r1 r2 hes hd0 i3 (Int.ofNat_lt.2 hE)
        · rw [if_neg hE] at hl
          rw [hl]
          exact great_ok s kind c k sz m w hp hcc e1 i1 e2 e3 e4 i2 i0 _ rfl n _ hN' hp1 rfl _ r1 r2 hd0 i3 (Int.ofNat_le.2 (Nat.le_of_not_lt hE)) (wrap64_few n (Nat.le_trans (Nat.le_of_not_lt hE) (Nat.le_trans (Nat.sub_le _ _) hs)))
end Go.Proofs.YtjiikjpnlgogfaaDoor
