/-
  Heads read: Number, readLength, readText, readHead of package item.
  What a head that is accepted says: it is the head that would be written. Plain facts on lists of bytes.
  What reading an item gives: a function of the bytes alone, with the places and the faults. What is accepted is the code; and a code is accepted. Plain facts on lists of bytes.
-/
import Derived.Test.YthbgepmpdphigaaGreatDoorAxNibG
import Derived.Test.YthbgepmpdphigaaGreatDoorAxErrG
namespace Go.Proofs.YthbgepmpdphigaaGreatDoor
open Go.RowKit
set_option maxRecDepth 100000
set_option maxHeartbeats 25600000
def numB (l : List Nat) : Nat := l.foldl (fun n x => n * 256 + x) 0
theorem Qdr (l : List Nat) (x : Nat) : numB (l ++ [x]) = numB l * 256 + x := by
 unfold numB
 rw [List.foldl_append]
 rfl
theorem Qtg : ∀ (l : List Nat), (∀ x ∈ l, x < 256) -> numB l < 256 ^ l.length := by
 intro l
 induction hl : l.length generalizing l with
 | zero =>
  intro _
  have : l = [] := List.eq_nil_of_length_eq_zero hl
  subst this
  decide
 | succ n ih =>
  intro h
  have a : l ≠ [] := fun e => by rw [e] at hl; simp at hl
  rw [<- List.dropLast_concat_getLast a, Qdr]
  have c := ih l.dropLast (by simp [hl]) (fun x b => h x (List.dropLast_subset l b))
  have d := h _ (List.getLast_mem a)
  rw [Nat.pow_succ]
  omega
theorem Qyf (n x : Nat) (hn : n < 256 ^ 7) (hx : x < 256) : bits .or .u64 ((n : Int) * 256) (x : Int) = ((n * 256 + x : Nat) : Int) := by
 have e : ((n : Int) * 256) = ((n * 256 : Nat) : Int) := by omega
 rw [e, u64_or_nat _ _ (by omega) (by omega), nat_join 8 (n * 256) x (Nat.mul_mod_left _ _) hx]
theorem Qqs (s : ByteArray) (w : World) (hs : s.size <= 8) :
  Calls Tryz.prog 126 #[.string s] w fun e w' => e = .returned (.int .u64 ((numB (bytesOf s) : Nat) : Int)) /\ w' = w := by
 have b := bytesOf_length s
 have l : Aside ((bytesOf s).length = s.size /\ s.size <= 8) := ⟨b, hs⟩
 clear b hs
 go_enter Tryz.func126, Tryz.ntmps126
 go_wp2
 go_loopg [3, 7] s.size (fun g n i wr => ∃ x : Nat, x <= s.size /\ g = s.size - x /\ i = .int .i64 (x : Int) /\ n = .int .u64 ((numB ((bytesOf s).take x) : Nat) : Int) /\ wr = w)
 case atStart => exact ⟨0, by omega, rfl, rfl, rfl, rfl⟩
 case round =>
  obtain ⟨x, D, rfl, rfl, rfl, rfl⟩ := hrel
  by_cases f : x < s.size
  ·obtain ⟨b, hs⟩ := l.out
   obtain ⟨c, r⟩ : ∃ c, (s[x]'f).toNat = c := ⟨_, rfl⟩
   have j : c < 256 := by rw [<- r]; exact UInt8.toNat_lt _
   have d : numB ((bytesOf s).take (x + 1)) = numB ((bytesOf s).take x) * 256 + c := by
    rw [List.take_succ_eq_append_getElem (by omega), Qdr, <- r, Qb3 s x f, getElem!_pos _ x (by omega)]
   have a : numB ((bytesOf s).take x) < 256 ^ 7 := by
    have q := Qtg ((bytesOf s).take x) (fun y C => Qar s y (List.mem_of_mem_take C))
    rw [List.length_take, Nat.min_eq_left (by omega)] at q
    exact Nat.lt_of_lt_of_le q (Nat.pow_le_pow_right (by omega) (by omega))
   obtain ⟨n, u⟩ : ∃ n, numB ((bytesOf s).take x) = n := ⟨_, rfl⟩
   rw [u] at d a ⊢
   have h := Qyf n c a j
   obtain ⟨m, t⟩ : ∃ m, n * 256 + c = m := ⟨_, rfl⟩
   rw [t] at h d
   have z : Hid (numB ((bytesOf s).take (x + 1)) = m) := d
   have B : Hid (wrap64 ((x : Int) + 1) = ((x + 1 : Nat) : Int)) := Qd4 x (by omega)
   have v : (x : Int) < (s.size : Int) := by omega
   have o : Hid (bits .or .u64 (IntKind.u64.wrap ((n : Int) * 256)) (IntKind.u64.wrap (c : Int)) = (m : Int)) := by
    have p : ((n : Int) * 256) = ((n * 256 : Nat) : Int) := by omega
    rw [Qbo c (by omega), p, Qbo (n * 256) (by omega), <- p]
    exact h
   clear b hs u d j t h a
   go_wp2
   go_roundg (s.size - (x + 1))
   case measure => omega
   case rel => exact ⟨x + 1, by omega, rfl, Qav B.out, by rw [z.out]; exact Qav o.out, rfl⟩
  ·have v : (s.size : Int) <= (x : Int) := by omega
   have k : (bytesOf s).take x = bytesOf s := List.take_of_length_le (by have := l.out.1; omega)
   rw [k]
   clear k f
   go_wp2
   go_ret
   exact ⟨rfl, rfl⟩
def lenF (l : List Nat) (kind : Nat) : Except Bool (Nat × Nat) :=
 let k := l[0]! - kind
 if k <= 55 then (if l.length - 1 < k then .error false else .ok (1, k))
 else if l.length < k - 54 then .error false
 else
  let n := numB ((l.drop 1).take (k - 55))
  if l[1]! = 0 \/ n <= 55 then .error true
  else if l.length - (k - 54) < n then .error false else .ok (k - 54, n)
def faultAt (W : World) (g : Nat) (v : Value) : Prop := W.cell? ⟨g, 0, none⟩ = some v
variable {l : List Nat} {kind : Nat}
theorem Qfp (h : l[0]! - kind <= 55) : lenF l kind = if l.length - 1 < l[0]! - kind then .error false else .ok (1, l[0]! - kind) := by
 unfold lenF
 simp only [h, if_true]
theorem Qj9 (n a : Nat) (ha : a <= n) (hn : n <= 1048576) : wrap64 ((n : Int) - (a : Int)) = ((n - a : Nat) : Int) /\ IntKind.u64.wrap (((n - a : Nat) : Int)) = ((n - a : Nat) : Int) := by
 refine ⟨?_, Qbo _ (by omega)⟩
 unfold wrap64
 omega
theorem Qg5 (s : ByteArray) (kind : Nat) (w : World) (es : Value) (hes : faultAt w 1 es) (hp : 0 < s.size) (hs : s.size <= 1048576) (hc : kind <= (bytesOf s)[0]!) (h55 : (bytesOf s)[0]! - kind <= 55) :
  Calls Tryz.prog 124 #[.string s, .int .u8 (kind : Int)] w fun e w' => e = .returned (.tuple (match lenF (bytesOf s) kind with | .ok (a, b) => #[.int .i64 (a : Int), .int .i64 (b : Int), .nilIface] | .error _ => #[.int .i64 0, .int .i64 0, es])) /\ Below w.heap.size w w' := by
 rw [Qfp h55, bytesOf_length]
 obtain ⟨c, d⟩ : ∃ c, (s[0]'hp).toNat = c := ⟨_, rfl⟩
 have h := Qb3 s 0 hp
 rw [d] at h
 rw [<- h] at hc h55 ⊢
 have i : c < 256 := by rw [<- d]; exact UInt8.toNat_lt _
 obtain ⟨k, f⟩ : ∃ k, c - kind = k := ⟨_, rfl⟩
 rw [f] at h55 ⊢
 have r : ((c : Int) - (kind : Int)) % 256 = (k : Int) := by omega
 have t : (k : Int) <= 55 := by omega
 obtain ⟨l, o⟩ := Qj9 s.size 1 hp hs
 have n : wrap64 ((s.size : Int) - 1) = ((s.size - 1 : Nat) : Int) := l
 clear l
 obtain ⟨q, j⟩ : ∃ q, s.size - 1 = q := ⟨_, rfl⟩
 rw [j] at n o ⊢
 have p : w.cell? ⟨1, 0, none⟩ = some es := hes
 clear h hc h55 f i hs hes j
 by_cases g : q < k
 ·rw [if_pos g]
  have m : (q : Int) < (k : Int) := by omega
  go_enter Tryz.func124, Tryz.ntmps124
  go_wp2
  go_region
  go_wp2
  go_region
  go_wp2
  go_ret3
  exact ⟨rfl, (Below.refl _ _).drew.drew⟩
 ·rw [if_neg g]
  have m : (k : Int) <= (q : Int) := by omega
  go_enter Tryz.func124, Tryz.ntmps124
  go_wp2
  go_region
  go_wp2
  go_ret3
  exact ⟨rfl, (Below.refl _ _).drew⟩
theorem Qo6 (s : ByteArray) (a : Nat) : bytesOf (s.extract 1 a) = ((bytesOf s).drop 1).take (a - 1) := by
 unfold bytesOf
 rw [<- List.map_drop, <- List.map_take]
 congr 1
 simp only [ByteArray.data_extract, Array.toList_extract, List.extract_eq_take_drop]
theorem Qe9 (m : Nat) (h : m <= 1048576) : wrap64 (m : Int) = (m : Int) := by
 unfold wrap64
 omega
theorem Qzw (k a m : Nat) (ha : k - 54 = a) (hm : a - 1 = m) (h1 : ¬ k <= 55) (h2 : k <= 63) : wrap64 (1 + (m : Int)) = (a : Int) := by
 have e : (a : Int) = (m : Int) + 1 := by omega
 have c : (m : Int) <= 8 := by omega
 have b : (0 : Int) <= (m : Int) := by omega
 rw [e]
 clear ha hm h1 h2 e
 unfold wrap64
 omega
theorem Qzx (k m : Nat) (h : k - 55 = m) (h1 : ¬ k <= 55) (h2 : k <= 63) : IntKind.u64.wrap ((k : Int) - 55) = (m : Int) := by
 have e : (k : Int) - 55 = (m : Int) := by omega
 have a : m < 18446744073709551616 := Nat.lt_of_le_of_lt (show m <= 8 by omega) (by decide)
 rw [e]
 exact Qbo m a
theorem Qo7 (k a m : Nat) (ha : k - 54 = a) (hm : a - 1 = m) (h1 : ¬ k <= 55) (h2 : k <= 63) : IntKind.u64.wrap ((k : Int) - 55) = (m : Int) /\ wrap64 (1 + (m : Int)) = (a : Int) /\ 1 <= m /\ m <= 8 /\ a = m + 1 :=
 ⟨Qzx k m (by omega) h1 h2, Qzw k a m ha hm h1 h2, by omega, by omega, by omega⟩
theorem Qja (h : ¬ l[0]! - kind <= 55) : lenF l kind = if l.length < l[0]! - kind - 54 then .error false else if l[1]! = 0 \/ numB ((l.drop 1).take (l[0]! - kind - 55)) <= 55 then .error true else if l.length - (l[0]! - kind - 54) < numB ((l.drop 1).take (l[0]! - kind - 55)) then .error false else .ok (l[0]! - kind - 54, numB ((l.drop 1).take (l[0]! - kind - 55))) := by
 unfold lenF
 simp only [h, if_false]
theorem Qo8 (s : ByteArray) (kind c k sz m : Nat) (w : World) (e : Value) (hp : 0 < s.size) (hcc : (s[0]'hp).toNat = c) (e1 : ((c : Int) - (kind : Int)) % 256 = (k : Int)) (i1 : (55 : Int) < (k : Int)) (e2 : IntKind.u64.wrap ((k : Int) - 55) = (m : Int)) (e3 : wrap64 (1 + (m : Int)) = (sz : Int)) (e4 : wrap64 (m : Int) = (m : Int)) (i2 : (s.size : Int) < (sz : Int)) (es : w.cell? ⟨1, 0, none⟩ = some e) :
  Calls Tryz.prog 124 #[.string s, .int .u8 (kind : Int)] w fun r w' => r = .returned (.tuple #[.int .i64 0, .int .i64 0, e]) /\ Below w.heap.size w w' := by
 go_enter Tryz.func124, Tryz.ntmps124
 go_wp2
 go_region
 go_wp2
 go_region
 go_wp2
 go_ret3
 exact ⟨rfl, (Below.refl _ _).drew.drew⟩
theorem Qo9 (s : ByteArray) (kind c k sz m : Nat) (w : World) (e : Value) (hp : 0 < s.size) (hcc : (s[0]'hp).toNat = c) (e1 : ((c : Int) - (kind : Int)) % 256 = (k : Int)) (i1 : (55 : Int) < (k : Int)) (e2 : IntKind.u64.wrap ((k : Int) - 55) = (m : Int)) (e3 : wrap64 (1 + (m : Int)) = (sz : Int)) (e4 : wrap64 (m : Int) = (m : Int)) (i2 : (sz : Int) <= (s.size : Int)) (i0 : (1 : Int) <= (sz : Int)) (cut : ByteArray) (hx : s.extract 1 sz = cut) (n d : Nat) (hN : ∀ W, Calls Tryz.prog 126 #[.string cut] W fun r w' => r = .returned (.int .u64 (n : Int)) /\ w' = W) (hp1 : 1 < s.size) (hd : (s[1]'hp1).toNat = d) (ef : w.cell? ⟨15, 0, none⟩ = some e) (hd0 : ((d : Int) == 0) = true) :
  Calls Tryz.prog 124 #[.string s, .int .u8 (kind : Int)] w fun r w' => r = .returned (.tuple #[.int .i64 0, .int .i64 0, e]) /\ Below w.heap.size w w' := by
 have a : Hid (∀ W, Calls Tryz.prog 126 #[.string cut] W fun r w' => r = .returned (.int .u64 (n : Int)) /\ w' = W) := hN
 clear hN
 go_enter Tryz.func124, Tryz.ntmps124
 go_wp2
 go_region
 go_wp2_with (go_at_call 126; refine (a.out _).mono ?_; rintro b w' ⟨rfl, rfl⟩)
 go_region
 go_wp2
 go_ret3
 exact ⟨rfl, (Below.refl _ _).drew.drew⟩
theorem Qoa (s : ByteArray) (kind c k sz m : Nat) (w : World) (e : Value) (hp : 0 < s.size) (hcc : (s[0]'hp).toNat = c) (e1 : ((c : Int) - (kind : Int)) % 256 = (k : Int)) (i1 : (55 : Int) < (k : Int)) (e2 : IntKind.u64.wrap ((k : Int) - 55) = (m : Int)) (e3 : wrap64 (1 + (m : Int)) = (sz : Int)) (e4 : wrap64 (m : Int) = (m : Int)) (i2 : (sz : Int) <= (s.size : Int)) (i0 : (1 : Int) <= (sz : Int)) (cut : ByteArray) (hx : s.extract 1 sz = cut) (n d : Nat) (hN : ∀ W, Calls Tryz.prog 126 #[.string cut] W fun r w' => r = .returned (.int .u64 (n : Int)) /\ w' = W) (hp1 : 1 < s.size) (hd : (s[1]'hp1).toNat = d) (ef : w.cell? ⟨15, 0, none⟩ = some e) (hd0 : ((d : Int) == 0) = false) (i3 : (n : Int) <= 55) :
  Calls Tryz.prog 124 #[.string s, .int .u8 (kind : Int)] w fun r w' => r = .returned (.tuple #[.int .i64 0, .int .i64 0, e]) /\ Below w.heap.size w w' := by
 have a : Hid (∀ W, Calls Tryz.prog 126 #[.string cut] W fun r w' => r = .returned (.int .u64 (n : Int)) /\ w' = W) := hN
 clear hN
 go_enter Tryz.func124, Tryz.ntmps124
 go_wp2
 go_region
 go_wp2_with (go_at_call 126; refine (a.out _).mono ?_; rintro b w' ⟨rfl, rfl⟩)
 go_region
 go_wp2
 go_ret3
 exact ⟨rfl, (Below.refl _ _).drew.drew⟩
theorem Qma (s : ByteArray) (kind c k sz m : Nat) (w : World) (e : Value) (hp : 0 < s.size) (hcc : (s[0]'hp).toNat = c) (e1 : ((c : Int) - (kind : Int)) % 256 = (k : Int)) (i1 : (55 : Int) < (k : Int)) (e2 : IntKind.u64.wrap ((k : Int) - 55) = (m : Int)) (e3 : wrap64 (1 + (m : Int)) = (sz : Int)) (e4 : wrap64 (m : Int) = (m : Int)) (i2 : (sz : Int) <= (s.size : Int)) (i0 : (1 : Int) <= (sz : Int)) (cut : ByteArray) (hx : s.extract 1 sz = cut) (n d : Nat) (hN : ∀ W, Calls Tryz.prog 126 #[.string cut] W fun r w' => r = .returned (.int .u64 (n : Int)) /\ w' = W) (hp1 : 1 < s.size) (hd : (s[1]'hp1).toNat = d) (q : Nat) (r1 : wrap64 ((s.size : Int) - (sz : Int)) = (q : Int)) (r2 : IntKind.u64.wrap (q : Int) = (q : Int)) (es : w.cell? ⟨1, 0, none⟩ = some e) (hd0 : ((d : Int) == 0) = false) (i3 : (55 : Int) < (n : Int)) (i4 : (q : Int) < (n : Int)) :
  Calls Tryz.prog 124 #[.string s, .int .u8 (kind : Int)] w fun r w' => r = .returned (.tuple #[.int .i64 0, .int .i64 0, e]) /\ Below w.heap.size w w' := by
 have a : Hid (∀ W, Calls Tryz.prog 126 #[.string cut] W fun r w' => r = .returned (.int .u64 (n : Int)) /\ w' = W) := hN
 clear hN
 go_enter Tryz.func124, Tryz.ntmps124
 go_wp2
 go_region
 go_wp2_with (go_at_call 126; refine (a.out _).mono ?_; rintro b w' ⟨rfl, rfl⟩)
 go_region
 go_wp2
 go_ret3
 exact ⟨rfl, (Below.refl _ _).drew.drew⟩
theorem Qwe (s : ByteArray) (kind c k sz m : Nat) (w : World) (hp : 0 < s.size) (hcc : (s[0]'hp).toNat = c) (e1 : ((c : Int) - (kind : Int)) % 256 = (k : Int)) (i1 : (55 : Int) < (k : Int)) (e2 : IntKind.u64.wrap ((k : Int) - 55) = (m : Int)) (e3 : wrap64 (1 + (m : Int)) = (sz : Int)) (e4 : wrap64 (m : Int) = (m : Int)) (i2 : (sz : Int) <= (s.size : Int)) (i0 : (1 : Int) <= (sz : Int)) (cut : ByteArray) (hx : s.extract 1 sz = cut) (n d : Nat) (hN : ∀ W, Calls Tryz.prog 126 #[.string cut] W fun r w' => r = .returned (.int .u64 (n : Int)) /\ w' = W) (hp1 : 1 < s.size) (hd : (s[1]'hp1).toNat = d) (q : Nat) (r1 : wrap64 ((s.size : Int) - (sz : Int)) = (q : Int)) (r2 : IntKind.u64.wrap (q : Int) = (q : Int)) (hd0 : ((d : Int) == 0) = false) (i3 : (55 : Int) < (n : Int)) (i4 : (n : Int) <= (q : Int)) (e5 : wrap64 (n : Int) = (n : Int)) :
  Calls Tryz.prog 124 #[.string s, .int .u8 (kind : Int)] w fun r w' => r = .returned (.tuple #[.int .i64 (sz : Int), .int .i64 (n : Int), .nilIface]) /\ Below w.heap.size w w' := by
 have b : Hid (∀ W, Calls Tryz.prog 126 #[.string cut] W fun r w' => r = .returned (.int .u64 (n : Int)) /\ w' = W) := hN
 have a : Hid (wrap64 (n : Int) = (n : Int)) := e5
 clear hN e5
 go_enter Tryz.func124, Tryz.ntmps124
 go_wp2
 go_region
 go_wp2_with (go_at_call 126; refine (b.out _).mono ?_; rintro e w' ⟨rfl, rfl⟩)
 go_ret3
 refine ⟨?_, (Below.refl _ _).drew⟩
 show Ending.returned (.tuple #[.int .i64 (sz : Int), .int .i64 (wrap64 (n : Int)), .nilIface]) = _
 rw [a.out]
theorem Qg6 (s : ByteArray) (kind : Nat) (w : World) (es ef : Value) (hes : faultAt w 1 es) (hef : faultAt w 15 ef) (hp : 0 < s.size) (hs : s.size <= 1048576) (hc : kind <= (bytesOf s)[0]!) (h55 : ¬ (bytesOf s)[0]! - kind <= 55) (h63 : (bytesOf s)[0]! - kind <= 63) :
  Calls Tryz.prog 124 #[.string s, .int .u8 (kind : Int)] w fun e w' => e = .returned (.tuple (match lenF (bytesOf s) kind with | .ok (a, b) => #[.int .i64 (a : Int), .int .i64 (b : Int), .nilIface] | .error false => #[.int .i64 0, .int .i64 0, es] | .error true => #[.int .i64 0, .int .i64 0, ef])) /\ Below w.heap.size w w' := by
 have d := Qja h55
 rw [bytesOf_length] at d
 obtain ⟨c, f⟩ : ∃ c, (s[0]'hp).toNat = c := ⟨_, rfl⟩
 have G := Qb3 s 0 hp
 rw [f] at G
 rw [<- G] at hc h55 h63 d
 have R : c < 256 := by rw [<- f]; exact UInt8.toNat_lt _
 obtain ⟨k, I⟩ : ∃ k, c - kind = k := ⟨_, rfl⟩
 rw [I] at h55 h63 d
 have j : ((c : Int) - (kind : Int)) % 256 = (k : Int) := by omega
 have v : (55 : Int) < (k : Int) := by omega
 obtain ⟨sz, F⟩ : ∃ sz, k - 54 = sz := ⟨_, rfl⟩
 obtain ⟨m, J⟩ : ∃ m, sz - 1 = m := ⟨_, rfl⟩
 have H : k - 55 = m := by omega
 rw [F, H] at d
 have B : (1 : Int) <= (sz : Int) := by omega
 have E : sz <= s.size -> 1 < s.size := by omega
 have hcut := Qo6 s sz
 rw [J] at hcut
 have Q : m <= 8 := by omega
 obtain ⟨l, o, _, D, _⟩ := Qo7 k sz m F J h55 h63
 have p := Qe9 m (Nat.le_trans D (by decide))
 by_cases y : s.size < sz
 ·rw [if_pos y] at d
  rw [d]
  exact Qo8 s kind c k sz m w es hp f j v l o p (Int.ofNat_lt.2 y) hes
 ·rw [if_neg y, <- hcut] at d
  have u := Nat.le_of_not_lt y
  have g := E u
  have L : (s.extract 1 sz).size <= 8 := by
   rw [<- bytesOf_length, hcut, List.length_take]
   exact Nat.le_trans (Nat.min_le_left _ _) D
  have P := fun W => Qqs (s.extract 1 sz) W L
  obtain ⟨n, K⟩ : ∃ n, numB (bytesOf (s.extract 1 sz)) = n := ⟨_, rfl⟩
  rw [K] at d
  have i : ∀ W, Calls Tryz.prog 126 #[.string (s.extract 1 sz)] W fun r w' => r = .returned (.int .u64 (n : Int)) /\ w' = W := fun W => by
   have := P W
   rw [K] at this
   exact this
  obtain ⟨N, O⟩ := Qj9 s.size sz u hs
  have C : (sz : Int) <= (s.size : Int) := Int.ofNat_le.2 u
  rw [<- Qb3 s 1 g] at d
  by_cases x : (s[1]'g).toNat = 0
  ·rw [if_pos (Or.inl x)] at d
   rw [d]
   exact Qo9 s kind c k sz m w ef hp f j v l o p C B _ rfl n _ i g rfl hef (by simp [x])
  ·have t : (((s[1]'g).toNat : Int) == 0) = false := by simp [x]
   by_cases z : n <= 55
   ·rw [if_pos (Or.inr z)] at d
    rw [d]
    exact Qoa s kind c k sz m w ef hp f j v l o p C B _ rfl n _ i g rfl hef t (Int.ofNat_le.2 z)
   ·rw [if_neg (fun h => h.elim x z)] at d
    have M : (55 : Int) < (n : Int) := Int.ofNat_lt.2 (Nat.lt_of_not_le z)
    by_cases q : s.size - sz < n
    ·rw [if_pos q] at d
     rw [d]
     exact Qma s kind c k sz m w es hp f j v l o p C B _ rfl n _ i g rfl _ N O hes t M (Int.ofNat_lt.2 q)
    ·rw [if_neg q] at d
     rw [d]
     exact Qwe s kind c k sz m w hp f j v l o p C B _ rfl n _ i g rfl _ N O t M (Int.ofNat_le.2 (Nat.le_of_not_lt q)) (Qe9 n (Nat.le_trans (Nat.le_of_not_lt q) (Nat.le_trans (Nat.sub_le _ _) hs)))
theorem Qwf : ∀ (k : Nat) (d : List Nat), (∀ x ∈ d, x < 256) -> k <= d.length -> numB d / 256 ^ k = numB (d.take (d.length - k)) := by
 intro k
 induction k with
 | zero => intro d _ _; simp
 | succ k ih =>
  intro d b c
  have a : d ≠ [] := fun e => by subst e; simp at c
  obtain ⟨r, x, rfl⟩ : ∃ r x, d = r ++ [x] := ⟨d.dropLast, d.getLast a, (List.dropLast_concat_getLast a).symm⟩
  have g : x < 256 := b x (by simp)
  simp only [List.length_append, List.length_cons, List.length_nil] at c ⊢
  rw [Qdr, Nat.pow_succ, Nat.mul_comm (256 ^ k) 256, <- Nat.div_div_eq_div_mul, show (numB r * 256 + x) / 256 = numB r by omega, ih r (fun y f => b y (by simp [f])) (by omega)]
  rw [show r.length + (0 + 1) - (k + 1) = r.length - k by omega, List.take_append_of_le_length (by omega)]
theorem Qkk : ∀ (r : List Nat) (x : Nat), x ≠ 0 -> numB (x :: r) ≠ 0 := by
 have h : ∀ (r : List Nat) (n : Nat), n ≠ 0 -> r.foldl (fun n x => n * 256 + x) n ≠ 0 := by
  intro r
  induction r with
  | nil => intro n a; exact a
  | cons y r ih => intro n a; exact ih _ (by simp only; omega)
 intro r x b
 unfold numB
 rw [List.foldl_cons]
 exact h r _ (by omega)
theorem Qth (d : List Nat) (hd : ∀ x ∈ d, x < 256) (h8 : d.length <= 8) (h0 : d ≠ [] -> d[0]! ≠ 0) : bigE (numB d) = d := by
 have g : ∀ i, i <= 8 -> bigAt (numB d) i = d.take (i - (8 - d.length)) := by
  intro i
  induction i with
  | zero => intro _; simp [bigAt]
  | succ i ih =>
   intro m
   rw [bigAt, ih (by omega)]
   have e : 2 ^ (56 - 8 * i) = 256 ^ (7 - i) := by
    rw [show (256 : Nat) = 2 ^ 8 by decide, <- Nat.pow_mul]
    congr 1
    omega
   rw [e]
   by_cases k : d.length <= 7 - i
   ·have c := Qtg d hd
    have : numB d / 256 ^ (7 - i) = 0 := Nat.div_eq_of_lt (Nat.lt_of_lt_of_le c (Nat.pow_le_pow_right (by decide) k))
    rw [if_pos this, show i - (8 - d.length) = 0 by omega, show i + 1 - (8 - d.length) = 0 by omega]
   ·rw [Qwf (7 - i) d hd (by omega)]
    obtain ⟨j, h⟩ : ∃ j, d.length - (7 - i) = j + 1 := ⟨d.length - (7 - i) - 1, by omega⟩
    have b : j < d.length := by omega
    rw [h, show i - (8 - d.length) = j by omega, show i + 1 - (8 - d.length) = j + 1 by omega]
    have l : d.take (j + 1) = d.take j ++ [d[j]] := (List.take_append_getElem b).symm
    have f : numB (d.take (j + 1)) ≠ 0 := by
     cases hdd : d with
     | nil => rw [hdd] at b; simp at b
     | cons a r =>
      have := h0 (by rw [hdd]; simp)
      rw [hdd] at this
      rw [List.take_succ_cons]
      exact Qkk _ _ (by simpa using this)
    rw [if_neg f, l, Qdr]
    have := hd d[j] (List.getElem_mem b)
    rw [show (numB (d.take j) * 256 + d[j]) % 256 = d[j] by omega]
 have := g 8 (Nat.le_refl _)
 unfold bigE
 rw [this, List.take_of_length_le (by omega)]
theorem Qg7 (h : 0 < l.length) : l.take 1 = [l[0]!] := by
 cases l with
 | nil => simp at h
 | cons a r => simp
variable {a b : Nat}
theorem Qob (hl : ∀ x ∈ l, x < 256) (hp : 0 < l.length) (hk : kind <= l[0]!) (h63 : l[0]! - kind <= 63) (h : lenF l kind = .ok (a, b)) : l.take a = headB kind b /\ a + b <= l.length /\ 1 <= a /\ a <= 9 := by
 have d : l[0]! < 256 := by
  rw [getElem!_pos l 0 hp]
  exact hl _ (List.getElem_mem hp)
 by_cases c : l[0]! - kind <= 55
 ·rw [Qfp c] at h
  split at h
  ·cases h
  ·injection h with h
   injection h with h1 h2
   subst h1 h2
   refine ⟨?_, by omega, by omega, by omega⟩
   unfold headB
   rw [if_pos c, Qg7 hp]
   congr 1
   omega
 ·rw [Qja c] at h
  split at h
  ·cases h
  ·rename_i hlen
   split at h
   ·cases h
   ·rename_i hz
    split at h
    ·cases h
    ·rename_i hr
     injection h with h
     injection h with h1 h2
     have j : l[1]! ≠ 0 := fun e => hz (.inl e)
     have f : ¬ numB ((l.drop 1).take (l[0]! - kind - 55)) <= 55 := fun e => hz (.inr e)
     have i : ((l.drop 1).take (l[0]! - kind - 55)).length = l[0]! - kind - 55 := by
      rw [List.length_take, List.length_drop]
      omega
     have g : bigE (numB ((l.drop 1).take (l[0]! - kind - 55))) = (l.drop 1).take (l[0]! - kind - 55) := by
      refine Qth _ (fun x k => hl x (List.mem_of_mem_drop (List.mem_of_mem_take k))) (by omega) (fun _ => ?_)
      have e : ((l.drop 1).take (l[0]! - kind - 55))[0]! = l[1]! := by
       rw [getElem!_pos _ 0 (by omega), getElem!_pos l 1 (by omega), List.getElem_take, List.getElem_drop]
      rw [e]
      exact j
     rw [h2] at g f
     refine ⟨?_, by omega, by omega, by omega⟩
     unfold headB
     rw [if_neg f, g, i, <- h1]
     cases hll : l with
     | nil => rw [hll] at hp; simp at hp
     | cons x r =>
      rw [hll] at c d hk hlen h63
      simp only [List.getElem!_cons_zero, List.drop_succ_cons, List.drop_zero] at c d hk hlen h63 ⊢
      rw [show x - kind - 54 = (x - kind - 55) + 1 by omega, List.take_succ_cons]
      congr 1
      omega
def HeadOK (l : List Nat) (list : Bool) (size len : Nat) : Prop :=
 size + len <= l.length /\ 0 < size + len /\ size <= 9 /\ (list = true -> l.take size = headB 192 len) /\ (list = false -> l.take (size + len) = textCode ((l.drop size).take len))
theorem HeadOK.byte (hp : 0 < l.length) (h : l[0]! < 128) : HeadOK l false 0 1 := by
 refine ⟨by omega, by omega, by omega, by simp, fun _ => ?_⟩
 rw [Nat.zero_add, List.drop_zero, Qg7 hp]
 unfold textCode
 rw [if_pos ⟨rfl, by simpa using h⟩]
 rfl
theorem HeadOK.text (hl : ∀ x ∈ l, x < 256) (hp : 0 < l.length) (hk : 128 <= l[0]!) (hk2 : l[0]! < 192) (h : lenF l 128 = .ok (a, b)) (hn : ¬ (b = 1 /\ l[a]! < 128)) : HeadOK l false a b := by
 obtain ⟨f, g, j, i⟩ := Qob hl hp hk (by omega) h
 refine ⟨g, by omega, i, by simp, fun _ => ?_⟩
 have c : ((l.drop a).take b).length = b := by rw [List.length_take, List.length_drop]; omega
 unfold textCode
 rw [if_neg, c, <- f, List.take_add]
 rintro ⟨d, e⟩
 rw [c] at d
 refine hn ⟨d, ?_⟩
 rw [getElem!_pos _ 0 (by omega), List.getElem_take, List.getElem_drop] at e
 rw [getElem!_pos l a (by omega)]
 simpa using e
theorem HeadOK.list (hl : ∀ x ∈ l, x < 256) (hp : 0 < l.length) (hk : 192 <= l[0]!) (h : lenF l 192 = .ok (a, b)) : HeadOK l true a b := by
 have f : l[0]! < 256 := by
  rw [getElem!_pos l 0 hp]
  exact hl _ (List.getElem_mem hp)
 obtain ⟨c, d, g, e⟩ := Qob hl hp hk (by omega) h
 exact ⟨d, by omega, e, fun _ => c, by simp⟩
inductive It where
 | text (fr to : Nat) (t : List Nat)
 | list (fr to : Nat) (l : List It)
def It.fr : It -> Nat
 | .text a _ _ => a
 | .list a _ _ => a
def It.to : It -> Nat
 | .text _ a _ => a
 | .list _ a _ => a
mutual
def It.code : It -> List Nat
 | .text _ _ t => textCode t
 | .list _ _ l => listCode (codes l)
def codes : List It -> List Nat
 | [] => []
 | x :: l => x.code ++ codes l
end
def headF (l : List Nat) : Except Nat (Bool × Nat × Nat) :=
 if l.length = 0 then .error 2
 else if l[0]! < 128 then .ok (false, 0, 1)
 else if l[0]! < 192 then
  match lenF l 128 with
  | .error x => .error (if x then 3 else 2)
  | .ok (a, b) => if b = 1 /\ l[a]! < 128 then .error 3 else .ok (false, a, b)
 else
  match lenF l 192 with
  | .error x => .error (if x then 3 else 2)
  | .ok (a, b) => .ok (true, a, b)
def readIts (rd : Nat -> Except Er It) (n : Nat) : Nat -> Nat -> Except Er (List It)
 | 0, _ => .ok []
 | k + 1, fr =>
  if fr < n then
   match rd fr with
   | .error e => .error e
   | .ok x =>
    match readIts rd n k x.to with
    | .error e => .error e
    | .ok l => .ok (x :: l)
  else .ok []
def readIt : Nat -> List Nat -> Nat -> Except Er It
 | 0, l, fr =>
  match headF (l.drop fr) with
  | .error e => .error (.place fr (.base e))
  | .ok (lst, a, b) => if lst then .error (.place fr (.base 5)) else .ok (.text fr (fr + a + b) ((l.drop (fr + a)).take b))
 | d + 1, l, fr =>
  match headF (l.drop fr) with
  | .error e => .error (.place fr (.base e))
  | .ok (lst, a, b) =>
   if lst then
    match readIts (readIt d (l.take (fr + a + b))) (fr + a + b) b (fr + a) with
    | .error e => .error e
    | .ok its => .ok (.list fr (fr + a + b) its)
   else .ok (.text fr (fr + a + b) ((l.drop (fr + a)).take b))
def decF (l : List Nat) : Except Er It :=
 if 2048 < l.length then .error (.base 1)
 else
  match readIt 6 l 0 with
  | .error e => .error e
  | .ok x => if x.to < l.length then .error (.place x.to (.base 4)) else .ok x
theorem Qgh (hl : ∀ x ∈ l, x < 256) {lst : Bool} (h : headF l = .ok (lst, a, b)) : HeadOK l lst a b := by
 unfold headF at h
 by_cases i : l.length = 0
 ·rw [if_pos i] at h
  cases h
 ·rw [if_neg i] at h
  by_cases c : l[0]! < 128
  ·rw [if_pos c] at h
   cases h
   exact HeadOK.byte (by omega) c
  ·rw [if_neg c] at h
   by_cases d : l[0]! < 192
   ·rw [if_pos d] at h
    cases hf : lenF l 128 with
    | error x => rw [hf] at h; cases h
    | ok p =>
     obtain ⟨f, g⟩ := p
     rw [hf] at h
     simp only at h
     by_cases e : g = 1 /\ l[f]! < 128
     ·rw [if_pos e] at h
      cases h
     ·rw [if_neg e] at h
      cases h
      exact HeadOK.text hl (by omega) (by omega) d hf e
   ·rw [if_neg d] at h
    cases hf : lenF l 192 with
    | error x => rw [hf] at h; cases h
    | ok p =>
     obtain ⟨f, g⟩ := p
     rw [hf] at h
     cases h
     exact HeadOK.list hl (by omega) (by omega) hf
def ReadOK (l : List Nat) (fr : Nat) (x : It) : Prop := x.fr = fr /\ fr < x.to /\ x.to <= l.length /\ x.code = (l.drop fr).take (x.to - fr)
theorem Qqt {rd : Nat -> Except Er It} {n : Nat} (hn : n = l.length) (hr : ∀ fr x, fr <= l.length -> rd fr = .ok x -> ReadOK l fr x) :
  ∀ (k fr : Nat) (its : List It), fr <= n -> n - fr <= k -> readIts rd n k fr = .ok its -> codes its = l.drop fr := by
 intro k
 induction k with
 | zero =>
  intro fr its b d h
  cases h
  rw [List.drop_of_length_le (by omega)]
  rfl
 | succ k ih =>
  intro fr its b d h
  rw [readIts] at h
  by_cases a : fr < n
  ·rw [if_pos a] at h
   cases h1 : rd fr with
   | error e => rw [h1] at h; cases h
   | ok x =>
    rw [h1] at h
    simp only at h
    obtain ⟨_, f, g, c⟩ := hr fr x (by omega) h1
    cases h2 : readIts rd n k x.to with
    | error e => rw [h2] at h; cases h
    | ok its2 =>
     rw [h2] at h
     cases h
     rw [codes, c, ih x.to its2 (by omega) (by omega) h2, show l.drop x.to = (l.drop fr).drop (x.to - fr) by rw [List.drop_drop]; congr 1; omega, List.take_append_drop]
  ·rw [if_neg a] at h
   cases h
   rw [List.drop_of_length_le (by omega)]
   rfl
theorem Qea (hl : ∀ x ∈ l, x < 256) (k : Nat) : ∀ x ∈ l.drop k, x < 256 := fun x hx => hl x (List.mem_of_mem_drop hx)
theorem Qqu (hl : ∀ x ∈ l, x < 256) (k : Nat) : ∀ x ∈ l.take k, x < 256 := fun x hx => hl x (List.mem_of_mem_take hx)
theorem Qmb (hl : ∀ x ∈ l, x < 256) {fr : Nat} (hfr : fr <= l.length) (h : headF (l.drop fr) = .ok (false, a, b)) : ReadOK l fr (.text fr (fr + a + b) ((l.drop (fr + a)).take b)) := by
 obtain ⟨c, e, _, _, d⟩ := Qgh (Qea hl fr) h
 rw [List.length_drop] at c
 refine ⟨rfl, by simp only [It.to]; omega, by simp only [It.to]; omega, ?_⟩
 simp only [It.to, It.code]
 rw [show fr + a + b - fr = a + b by omega, d rfl, List.drop_drop]
theorem Qds : ∀ (d : Nat) (l : List Nat) (fr : Nat) (x : It), (∀ y ∈ l, y < 256) -> fr <= l.length -> readIt d l fr = .ok x -> ReadOK l fr x := by
 intro d
 induction d with
 | zero =>
  intro l fr x f c h
  rw [readIt] at h
  cases h1 : headF (l.drop fr) with
  | error e => rw [h1] at h; cases h
  | ok p =>
   obtain ⟨g, a, b⟩ := p
   rw [h1] at h
   cases g with
   | true => cases h
   | false =>
    cases h
    exact Qmb f c h1
 | succ d ih =>
  intro l fr x f c h
  rw [readIt] at h
  cases h1 : headF (l.drop fr) with
  | error e => rw [h1] at h; cases h
  | ok p =>
   obtain ⟨g, a, b⟩ := p
   rw [h1] at h
   cases g with
   | false =>
    cases h
    exact Qmb f c h1
   | true =>
    simp only [if_true] at h
    cases h2 : readIts (readIt d (l.take (fr + a + b))) (fr + a + b) b (fr + a) with
    | error e => rw [h2] at h; cases h
    | ok its =>
     rw [h2] at h
     cases h
     obtain ⟨o, u, _, q, _⟩ := Qgh (Qea f fr) h1
     rw [List.length_drop] at o
     have j : (l.take (fr + a + b)).length = fr + a + b := by rw [List.length_take]; omega
     have s := Qqt j.symm (fun k t m n => ih _ k t (Qqu f _) m n) b (fr + a) its (by omega) (by omega) h2
     refine ⟨rfl, by simp only [It.to]; omega, by simp only [It.to]; omega, ?_⟩
     simp only [It.to, It.code]
     have r : (l.take (fr + a + b)).drop (fr + a) = ((l.drop fr).drop a).take b := by rw [List.drop_take, List.drop_drop, show fr + a + b - (fr + a) = b by omega]
     rw [s, r]
     unfold listCode
     have i : (((l.drop fr).drop a).take b).length = b := by rw [List.length_take, List.length_drop, List.length_drop]; omega
     rw [i, <- q rfl, show fr + a + b - fr = a + b by omega, List.take_add]
theorem Qyg (hl : ∀ y ∈ l, y < 256) {x : It} (h : decF l = .ok x) : l.length <= 2048 /\ x.fr = 0 /\ x.to = l.length /\ x.code = l := by
 unfold decF at h
 by_cases b : 2048 < l.length
 ·rw [if_pos b] at h
  cases h
 ·rw [if_neg b] at h
  cases h1 : readIt 6 l 0 with
  | error e => rw [h1] at h; cases h
  | ok y =>
   rw [h1] at h
   simp only at h
   obtain ⟨d, g, i, f⟩ := Qds 6 l 0 y hl (by omega) h1
   by_cases c : y.to < l.length
   ·rw [if_pos c] at h
    cases h
   ·rw [if_neg c] at h
    cases h
    have a : x.to = l.length := by omega
    refine ⟨by omega, d, a, ?_⟩
    rw [f, a, List.drop_zero, Nat.sub_zero, List.take_of_length_le (Nat.le_refl _)]
end Go.Proofs.YthbgepmpdphigaaGreatDoor
