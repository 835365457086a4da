/-
  What a tree says of a path (get); trees of one form (can).
  What a tree says of a path: nibbles ahead, one node alone, another node where nibbles lead.
  A value put where a way ends: the form stays; what the tree says then.
  Another node where nibbles lead: the form stays; what the tree says then. A value put; a value taken out.
  Every path has a way; what stands at its end is what the tree says; trees of the one form that say the same are the same.
-/
import Derived.Test.YtcglpladmeelaaaGreatDoorCxTreA
namespace Go.Proofs.YtcglpladmeelaaaGreatDoor
open Go.RowKit
set_option maxRecDepth 100000
set_option maxHeartbeats 25600000
mutual
def Nd.get : Nd -> List Nat -> Option ByteArray
 | .no, _ => none
 | .leaf p v, r => if bytesOf p = r then some v else none
 | .ext p t, r => if r.take p.size = bytesOf p then t.get (r.drop p.size) else none
 | .br ks, r => match r with
  | [] => none
  | x :: r => getAt ks x r
 | .stub _, _ => none
def getAt : List Nd -> Nat -> List Nat -> Option ByteArray
 | [], _, _ => none
 | k :: _, 0, r => k.get r
 | _ :: ks, x + 1, r => getAt ks x r
end
theorem getAt_eq (ks : List Nd) (x : Nat) (r : List Nat) : getAt ks x r = (ks.getD x .no).get r := by
 induction ks generalizing x with
 | nil => rw [getAt]; simp [Nd.get]
 | cons k ks ih =>
  cases x with
  | zero => rw [getAt]; rfl
  | succ x => rw [getAt, ih]; rfl
theorem get_br (ks : List Nd) (x : Nat) (r : List Nat) : (Nd.br ks).get (x :: r) = (ks.getD x .no).get r := by
 rw [Nd.get]
 exact getAt_eq ks x r
theorem get_br_nil (ks : List Nd) : (Nd.br ks).get [] = none := by rw [Nd.get]
theorem get_no (r : List Nat) : Nd.get .no r = none := by rw [Nd.get]
theorem get_leaf (p v : ByteArray) (r : List Nat) : (Nd.leaf p v).get r = if bytesOf p = r then some v else none := by rw [Nd.get]
theorem get_ext (p : ByteArray) (t : Nd) (r : List Nat) : (Nd.ext p t).get r = if r.take p.size = bytesOf p then t.get (r.drop p.size) else none := by rw [Nd.get]
def nib (l : List Nat) : Prop := ∀ x ∈ l, x < 16
def Nd.isBr : Nd -> Bool
 | .br _ => true
 | _ => false
mutual
def Nd.can : Nd -> Nat -> Prop
 | .no, _ => True
 | .leaf p v, n => p.size = n /\ nib (bytesOf p) /\ 0 < v.size /\ v.size <= 100
 | .ext p t, n => 0 < p.size /\ p.size < n /\ nib (bytesOf p) /\ t.can (n - p.size) /\ t.isBr = true
 | .br ks, n => 0 < n /\ ks.length = 16 /\ canAll ks (n - 1) /\ 2 <= cntN ks 16
 | .stub _, _ => False
def canAll : List Nd -> Nat -> Prop
 | [], _ => True
 | x :: xs, n => x.can n /\ canAll xs n
end
theorem canAll_mem {x : Nd} {n : Nat} : ∀ {l : List Nd}, canAll l n -> x ∈ l -> x.can n := by
 intro l
 induction l with
 | nil => intro _ h; cases h
 | cons y l ih =>
  intro h a
  rw [canAll] at h
  rcases List.mem_cons.1 a with rfl | a
  ·exact h.1
  ·exact ih h.2 a
theorem canAll_of {n : Nat} : ∀ {l : List Nd}, (∀ x ∈ l, x.can n) -> canAll l n := by
 intro l
 induction l with
 | nil => intro _; rw [canAll]; trivial
 | cons y l ih => intro h; rw [canAll]; exact ⟨h y (List.mem_cons_self ..), ih fun x a => h x (List.mem_cons_of_mem _ a)⟩
theorem canAll_getD {l : List Nd} {n : Nat} (h : canAll l n) (x : Nat) : (l.getD x .no).can n := by
 rw [List.getD_eq_getElem?_getD]
 cases hk : l[x]? with
 | none => rw [Option.getD_none, Nd.can]; trivial
 | some y => exact canAll_mem h (List.mem_of_getElem? hk)
theorem canAll_set {l : List Nd} {n : Nat} (h : canAll l n) (x : Nat) {t : Nd} (ht : t.can n) : canAll (l.set x t) n := canAll_of fun y hy => by
 rcases List.mem_or_eq_of_mem_set hy with h1 | h1
 ·exact canAll_mem h h1
 ·rw [h1]; exact ht
theorem can_no (n : Nat) : Nd.can .no n := by rw [Nd.can]; trivial
theorem can_leaf {p v : ByteArray} {n : Nat} : (Nd.leaf p v).can n ↔ p.size = n /\ nib (bytesOf p) /\ 0 < v.size /\ v.size <= 100 := by rw [Nd.can]
theorem can_ext {p : ByteArray} {t : Nd} {n : Nat} : (Nd.ext p t).can n ↔ 0 < p.size /\ p.size < n /\ nib (bytesOf p) /\ t.can (n - p.size) /\ t.isBr = true := by rw [Nd.can]
theorem can_br {ks : List Nd} {n : Nat} : (Nd.br ks).can n ↔ 0 < n /\ ks.length = 16 /\ canAll ks (n - 1) /\ 2 <= cntN ks 16 := by rw [Nd.can]
theorem isBr_ne {t : Nd} (h : t.isBr = true) : t ≠ .no := fun e => by rw [e] at h; simp [Nd.isBr] at h
mutual
theorem Nd.can_ok : ∀ (t : Nd) (n : Nat), t.can n -> n <= 64 -> t.ok /\ t.fits n
 | .no, n, _, _ => by rw [Nd.ok, Nd.fits]; exact ⟨trivial, trivial⟩
 | .leaf p v, n, h, hn => by
  rw [can_leaf] at h
  rw [Nd.ok, Nd.fits]
  exact ⟨⟨⟨by omega, h.2.1⟩, by omega⟩, h.1⟩
 | .ext p t, n, h, hn => by
  rw [can_ext] at h
  obtain ⟨h1, h2⟩ := Nd.can_ok t (n - p.size) h.2.2.2.1 (by omega)
  rw [Nd.ok, Nd.fits]
  exact ⟨⟨⟨by omega, h.2.2.1⟩, h1, isBr_ne h.2.2.2.2⟩, h.1, h.2.1, h2⟩
 | .br ks, n, h, hn => by
  rw [can_br] at h
  obtain ⟨h1, h2⟩ := canAll_ok ks (n - 1) h.2.2.1 (by omega)
  rw [Nd.ok, Nd.fits]
  exact ⟨⟨h.2.1, h1⟩, h.1, h2⟩
 | .stub _, _, h, _ => by rw [Nd.can] at h; exact h.elim
theorem canAll_ok : ∀ (ks : List Nd) (n : Nat), canAll ks n -> n <= 64 -> oks ks /\ fitsAll ks n
 | [], _, _, _ => by rw [oks, fitsAll]; exact ⟨trivial, trivial⟩
 | t :: ks, n, h, hn => by
  rw [canAll] at h
  obtain ⟨h1, h2⟩ := Nd.can_ok t n h.1 hn
  obtain ⟨h3, h4⟩ := canAll_ok ks n h.2 hn
  rw [oks, fitsAll]
  exact ⟨⟨h1, h3⟩, h2, h4⟩
end
theorem getD_set (ks : List Nd) (x y : Nat) (t : Nd) (hx : x < ks.length) : (ks.set x t).getD y .no = if y = x then t else ks.getD y .no := by
 rw [List.getD_eq_getElem?_getD, List.getD_eq_getElem?_getD, List.getElem?_set]
 by_cases h : x = y
 ·subst h
  rw [if_pos rfl, if_pos hx, if_pos rfl]
  rfl
 ·rw [if_neg h, if_neg (Ne.symm h)]
def one (t : Nd) : Nat := if t.isNo then 0 else 1
theorem cntN_succ (ks : List Nd) (k : Nat) : cntN ks (k + 1) = cntN ks k + one (ks.getD k .no) := by rw [cntN]; rfl
theorem cntN_set (ks : List Nd) (x : Nat) (t : Nd) (hx : x < ks.length) : ∀ k, cntN (ks.set x t) k + (if x < k then one (ks.getD x .no) else 0) = cntN ks k + (if x < k then one t else 0)
 | 0 => by simp [cntN]
 | k + 1 => by
  have ih := cntN_set ks x t hx k
  rw [cntN_succ, cntN_succ, getD_set ks x k t hx]
  by_cases h1 : k = x
  ·subst h1
   rw [if_neg (Nat.lt_irrefl _), if_neg (Nat.lt_irrefl _)] at ih
   rw [if_pos rfl, if_pos (Nat.lt_succ_self _), if_pos (Nat.lt_succ_self _)]
   omega
  ·rw [if_neg h1]
   by_cases h2 : x < k
   ·rw [if_pos h2, if_pos h2] at ih
    rw [if_pos (by omega), if_pos (by omega)]
    omega
   ·rw [if_neg h2, if_neg h2] at ih
    rw [if_neg (by omega), if_neg (by omega)]
    omega
theorem cnt_set {ks : List Nd} (hl : ks.length = 16) {x : Nat} (hx : x < 16) (t : Nd) : cntN (ks.set x t) 16 + one (ks.getD x .no) = cntN ks 16 + one t := by
 have := cntN_set ks x t (by omega) 16
 rwa [if_pos hx, if_pos hx] at this
theorem one_no : one .no = 0 := rfl
theorem one_some {t : Nd} (h : t ≠ .no) : one t = 1 := by
 cases t with
 | no => exact absurd rfl h
 | _ => rfl
theorem one_le (t : Nd) : one t <= 1 := by unfold one; split <;> omega
theorem cntN_pos {ks : List Nd} {x : Nat} (hn : ks.getD x .no ≠ .no) : ∀ {k}, x < k -> 1 <= cntN ks k
 | 0, h => absurd h (Nat.not_lt_zero _)
 | k + 1, h => by
  rw [cntN_succ]
  by_cases e : x = k
  ·subst e
   rw [one_some hn]
   omega
  ·have := cntN_pos (ks := ks) hn (k := k) (by omega)
   omega
theorem alone_none {ks : List Nd} {x y : Nat} (hx : ks.getD x .no ≠ .no) (hy : ks.getD y .no ≠ .no) (hxy : x ≠ y) : ∀ {k}, x < k -> y < k -> 2 <= cntN ks k
 | 0, h, _ => absurd h (Nat.not_lt_zero _)
 | k + 1, h1, h2 => by
  rw [cntN_succ]
  by_cases ex : x = k
  ·subst ex
   have := cntN_pos (ks := ks) hy (k := x) (by omega)
   rw [one_some hx]
   omega
  ·by_cases ey : y = k
   ·subst ey
    have := cntN_pos (ks := ks) hx (k := y) (by omega)
    rw [one_some hy]
    omega
   ·have := alone_none (ks := ks) hx hy hxy (k := k) (by omega) (by omega)
    omega
theorem lastN_of {ks : List Nd} {k : Nat} (h : 1 <= cntN ks k) : ks.getD (lastN ks k) .no ≠ .no := fun e => by
 have := lastN_some ks k h
 rw [e] at this
 simp [Nd.isNo] at this
theorem bytesOf_nil {p : ByteArray} (h : p.size = 0) : bytesOf p = [] := List.eq_nil_of_length_eq_zero (by rw [bytesOf_length, h])
theorem get_underN (q : ByteArray) (t : Nd) (r : List Nat) : (underN q t).get r = if r.take q.size = bytesOf q then t.get (r.drop q.size) else none := by
 unfold underN
 by_cases h : q.size = 0
 ·rw [if_pos h, bytesOf_nil h, h, List.take_zero, List.drop_zero, if_pos rfl]
 ·rw [if_neg h, get_ext]
theorem split_eq {a b r : List Nat} {n : Nat} (hn : a.length = n) : (a ++ b = r) ↔ (r.take n = a /\ b = r.drop n) := by
 constructor
 ·intro h
  rw [<- h, <- hn]
  simp
 ·intro h
  rw [<- h.1, h.2, List.take_append_drop]
theorem get_behindN {q : ByteArray} {t : Nd} (ht : t ≠ .no) (hs : ∀ h, t ≠ .stub h) (r : List Nat) : (behindN q t).get r = if r.take q.size = bytesOf q then t.get (r.drop q.size) else none := by
 cases t with
 | no => exact absurd rfl ht
 | stub h => exact absurd rfl (hs h)
 | br ks => exact get_underN q _ r
 | leaf p v =>
  rw [behindN, get_leaf, get_leaf, bytesOf_append]
  have := split_eq (a := bytesOf q) (b := bytesOf p) (r := r) (bytesOf_length q)
  by_cases h : bytesOf q ++ bytesOf p = r
  ·rw [if_pos h, if_pos (this.1 h).1, if_pos (this.1 h).2]
  ·rw [if_neg h]
   by_cases c : r.take q.size = bytesOf q
   ·rw [if_pos c, if_neg fun d => h (this.2 ⟨c, d⟩)]
   ·rw [if_neg c]
 | ext p t =>
  rw [behindN, get_ext, get_ext, bytesOf_append, size_append]
  by_cases c : r.take q.size = bytesOf q
  ·rw [if_pos c]
   by_cases d : (r.drop q.size).take p.size = bytesOf p
   ·rw [if_pos d, if_pos (by rw [List.take_add, c, d]), List.drop_drop]
   ·rw [if_neg d, if_neg]
    intro e
    apply d
    rw [List.take_add, c] at e
    exact List.append_cancel_left e
  ·rw [if_neg c, if_neg]
   intro e
   apply c
   have := congrArg (List.take q.size) e
   rw [List.take_take, Nat.min_eq_left (by omega)] at this
   rw [this, List.take_append_of_le_length (by rw [bytesOf_length]; exact Nat.le_refl _), List.take_of_length_le (by rw [bytesOf_length]; exact Nat.le_refl _)]
theorem bytesOf_one {m : Nat} (h : m < 256) : bytesOf (textB [m]) = [m] := bytesOf_textB (by simpa using h)
theorem size_one (m : Nat) : (textB [m]).size = 1 := by rw [textB_size]; rfl
def bare (ks : List Nd) : Prop := ∀ x h, ks.getD x .no ≠ .stub h
theorem get_brLead {ks : List Nd} (hl : ks.length = 16) (hb : bare ks) (r : List Nat) : (brLead ks).get r = (Nd.br ks).get r := by
 unfold brLead
 split
 ·rename_i h1
  have e := lastN_lt ks 16 (by omega)
  have b := lastN_of (ks := ks) (k := 16) (by omega)
  rw [get_behindN b (hb _), size_one, bytesOf_one (by omega)]
  cases r with
  | nil => rw [get_br_nil, if_neg (by simp)]
  | cons x r =>
   rw [get_br, List.take_succ_cons, List.take_zero, List.drop_succ_cons, List.drop_zero]
   by_cases a : x = lastN ks 16
   ·rw [if_pos (by rw [a]), a]
   ·rw [if_neg (by simpa using a)]
    by_cases c : ks.getD x .no = .no
    ·rw [c, get_no]
    ·by_cases d : x < 16
     ·have := alone_none c b a d e
      omega
     ·exfalso
      apply c
      rw [List.getD_eq_getElem?_getD, List.getElem?_eq_none (by omega)]
      rfl
 ·rfl
theorem get_set {ks : List Nd} (hl : ks.length = 16) {x : Nat} (hx : x < 16) (t : Nd) (y : Nat) (r : List Nat) : (Nd.br (ks.set x t)).get (y :: r) = if y = x then t.get r else (Nd.br ks).get (y :: r) := by
 rw [get_br, getD_set ks x y t (by omega), get_br]
 split <;> rfl
theorem can_stub {t : Nd} {n : Nat} (h : t.can n) : ∀ g, t ≠ .stub g := fun g e => by rw [e, Nd.can] at h; exact h
theorem canAll_bare {ks : List Nd} {n : Nat} (h : canAll ks n) : bare ks := fun x g => can_stub (canAll_getD h x) g
theorem head_nib {r : ByteArray} (h0 : 0 < r.size) : bytesOf r = (bytesOf r)[0]! :: bytesOf (r.extract 1 r.size) := by
 rw [bytesOf_tail]
 have a : 0 < (bytesOf r).length := by rw [bytesOf_length]; exact h0
 rw [getElem!_pos (bytesOf r) 0 a, <- List.drop_eq_getElem_cons a, List.drop_zero]
theorem can_behind {q : ByteArray} {t : Nd} {n : Nat} (ht : t.can n) (hne : t ≠ .no) (hq : nib (bytesOf q)) : (behindN q t).can (n + q.size) /\ behindN q t ≠ .no := by
 cases t with
 | no => exact absurd rfl hne
 | stub g => exact absurd rfl (can_stub ht g)
 | leaf p v =>
  rw [can_leaf] at ht
  rw [behindN, can_leaf, size_append, bytesOf_append]
  exact ⟨⟨by omega, fun x a => (List.mem_append.1 a).elim (hq x) (ht.2.1 x), ht.2.2⟩, by simp⟩
 | ext p t =>
  rw [can_ext] at ht
  rw [behindN, can_ext, size_append, bytesOf_append]
  exact ⟨⟨by omega, by omega, fun x a => (List.mem_append.1 a).elim (hq x) (ht.2.2.1 x), by rw [show n + q.size - (q.size + p.size) = n - p.size by omega]; exact ht.2.2.2.1, ht.2.2.2.2⟩, by simp⟩
 | br ks =>
  rw [behindN]
  unfold underN
  split
  ·rename_i h
   rw [h]
   exact ⟨ht, by simp⟩
  ·have := can_br.1 ht
   rw [can_ext]
   exact ⟨⟨by omega, by omega, hq, by rw [show n + q.size - q.size = n by omega]; exact ht, rfl⟩, by simp⟩
theorem room_behind {q : ByteArray} {t : Nd} {n : Nat} (ht : t.can n) (hne : t ≠ .no) (hq : nib (bytesOf q)) (hn : n + q.size <= 64) : t.room q := by
 cases t with
 | no => exact absurd rfl hne
 | stub g => exact absurd rfl (can_stub ht g)
 | leaf p v =>
  rw [can_leaf] at ht
  exact ⟨by rw [size_append]; omega, by rw [bytesOf_append]; exact fun x a => (List.mem_append.1 a).elim (hq x) (ht.2.1 x)⟩
 | ext p t =>
  rw [can_ext] at ht
  exact ⟨by rw [size_append]; omega, by rw [bytesOf_append]; exact fun x a => (List.mem_append.1 a).elim (hq x) (ht.2.2.1 x)⟩
 | br ks => exact ⟨by omega, hq⟩
theorem can_underN {q : ByteArray} {ks : List Nd} {n : Nat} (ht : (Nd.br ks).can n) (hq : nib (bytesOf q)) : (underN q (.br ks)).can (n + q.size) /\ underN q (.br ks) ≠ .no := can_behind (t := .br ks) ht (by simp) hq
theorem none16_getD (x : Nat) : none16.getD x .no = .no := by
 unfold none16
 rw [List.getD_eq_getElem?_getD, List.getElem?_replicate]
 split <;> rfl
theorem cnt_none : ∀ k, cntN none16 k = 0
 | 0 => rfl
 | k + 1 => by rw [cntN_succ, cnt_none k, none16_getD]; rfl
theorem none16_len : none16.length = 16 := by simp [none16]
theorem canAll_none (n : Nat) : canAll none16 n := canAll_of fun x hx => by rw [List.eq_of_mem_replicate hx]; exact can_no n
section
variable {x y : Nat} {A : Nd} {r u : ByteArray} {n : Nat}
theorem parted_can (hx : x < 16) (hy : y < 16) (hxy : x ≠ y) (hA : A.can n) (hAn : A ≠ .no) (hr : (Nd.leaf (r.extract 1 r.size) u).can n) : (parted x A y r u).can (n + 1) := by
 unfold parted
 have a : (none16.set x A).length = 16 := by rw [List.length_set]; exact none16_len
 have b := cnt_set none16_len hx A
 have c := cnt_set a hy (Nd.leaf (r.extract 1 r.size) u)
 rw [none16_getD, one_no, cnt_none, one_some hAn] at b
 rw [getD_set none16 x y A (by rw [none16_len]; exact hx), if_neg (Ne.symm hxy), none16_getD, one_no, one_some (t := .leaf _ _) (by simp)] at c
 rw [can_br]
 refine ⟨by omega, by rw [List.length_set]; exact a, ?_, by omega⟩
 rw [Nat.add_sub_cancel]
 exact canAll_set (canAll_set (canAll_none n) x hA) y hr
theorem parted_get (hx : x < 16) (hy : y < 16) (z : Nat) (s : List Nat) : (parted x A y r u).get (z :: s) = if z = y then (if bytesOf (r.extract 1 r.size) = s then some u else none) else if z = x then A.get s else none := by
 unfold parted
 have a : (none16.set x A).length = 16 := by rw [List.length_set]; exact none16_len
 rw [get_set a hy, get_leaf, get_set none16_len hx, get_br, none16_getD, get_no]
end
theorem forked {e A : Nd} {r u : ByteArray} {N n x y : Nat} (hr : r.size = n) (hN : N < n) (hnib : nib (bytesOf r)) (hu0 : 0 < u.size) (hu1 : u.size <= 100) (hx : x < 16) (hxy : x ≠ y) (hy : (bytesOf (r.extract N r.size))[0]! = y)
  (hA : A.can (n - N - 1)) (hAn : A ≠ .no) (hE : ∀ b z s, b.length = N -> e.get (b ++ z :: s) = if b = (bytesOf r).take N /\ z = x then A.get s else none) :
  (underN (r.extract 0 N) (parted x A y (r.extract N r.size) u)).can n /\ underN (r.extract 0 N) (parted x A y (r.extract N r.size) u) ≠ .no /\
   ∀ s, s.length = n -> (underN (r.extract 0 N) (parted x A y (r.extract N r.size) u)).get s = if s = bytesOf r then some u else e.get s := by
 have D : (r.extract N r.size).size = n - N := by rw [extract_size, hr]
 have k : nib (bytesOf (r.extract N r.size)) := by rw [bytesOf_tail]; exact fun x hx => hnib x (List.mem_of_mem_drop hx)
 have w := head_nib (r := r.extract N r.size) (by omega)
 rw [hy] at w
 have l : y < 16 := k y (by rw [w]; simp)
 have F : (Nd.leaf ((r.extract N r.size).extract 1 (r.extract N r.size).size) u).can (n - N - 1) := by
  rw [can_leaf]
  refine ⟨by rw [extract_size, D], ?_, hu0, hu1⟩
  rw [bytesOf_tail]
  exact fun x hx => k x (List.mem_of_mem_drop hx)
 have p := parted_can (r := r.extract N r.size) hx l hxy hA hAn F
 rw [show n - N - 1 + 1 = n - N by omega] at p
 have j : (r.extract 0 N).size = N := extract_size0 r N (by omega)
 have t : bytesOf (r.extract 0 N) = (bytesOf r).take N := bytesOf_head r N
 have C : nib (bytesOf (r.extract 0 N)) := by rw [t]; exact fun x hx => hnib x (List.mem_of_mem_take hx)
 have d := can_underN (q := r.extract 0 N) (ks := (none16.set x A).set y (.leaf ((r.extract N r.size).extract 1 (r.extract N r.size).size) u)) p C
 rw [j, show n - N + N = n by omega] at d
 refine ⟨d.1, d.2, fun s G => ?_⟩
 have c : bytesOf r = (bytesOf r).take N ++ y :: bytesOf ((r.extract N r.size).extract 1 (r.extract N r.size).size) := by
  rw [<- w, bytesOf_tail, List.take_append_drop]
 obtain ⟨b, z, o, rfl, v⟩ : ∃ b z o, s = b ++ z :: o /\ b.length = N := by
  refine ⟨s.take N, s[N]'(by omega), s.drop (N + 1), ?_, by rw [List.length_take]; omega⟩
  rw [<- List.drop_eq_getElem_cons, List.take_append_drop]
 rw [get_underN, j, t, List.take_left' v, List.drop_left' v, hE b z o v, parted_get hx l]
 generalize bytesOf ((r.extract N r.size).extract 1 (r.extract N r.size).size) = tl at c ⊢
 have E : ((bytesOf r).take N).length = N := by rw [List.length_take, bytesOf_length]; omega
 generalize (bytesOf r).take N = a at c E ⊢
 rw [c]
 by_cases f : b = a
 ·subst f
  rw [if_pos rfl]
  by_cases m : z = y
  ·subst m
   rw [if_pos rfl]
   by_cases g : tl = o
   ·rw [if_pos g, g, if_pos rfl]
   ·rw [if_neg g, if_neg (fun h => g (by simpa using (List.append_cancel_left h).symm)), if_neg (fun h => hxy h.2.symm)]
  ·have B : ¬ (b ++ z :: o = b ++ y :: tl) := fun h => m (by have := List.append_cancel_left h; simp only [List.cons.injEq] at this; exact this.1)
   rw [if_neg m, if_neg B]
   by_cases i : z = x
   ·rw [if_pos i, if_pos ⟨rfl, i⟩]
   ·rw [if_neg i, if_neg (fun h => i h.2)]
 ·rw [if_neg f, if_neg (fun h => f (List.append_inj_left h (by omega))), if_neg (fun h => f h.1)]
structure Grown (e X : Nd) (r u : ByteArray) : Prop where
 can : X.can r.size
 some : X ≠ .no
 br : e.isBr = true -> X.isBr = true
 get : ∀ s, s.length = r.size -> X.get s = if s = bytesOf r then Option.some u else e.get s
theorem take_drop_eq {p r : List Nat} {N : Nat} (h : p.take N = r.take N) (hN : N < p.length) : p = r.take N ++ p[N] :: p.drop (N + 1) := by
 rw [<- h, <- List.drop_eq_getElem_cons, List.take_append_drop]
theorem put_end {e : Nd} {r u : ByteArray} (he : e.can r.size) (hn : (e.next r).1 = .no) (hnib : nib (bytesOf r)) (hu0 : 0 < u.size) (hu1 : u.size <= 100) : Grown e (e.putAt r u) r u := by
 cases e with
 | stub g => exact absurd rfl (can_stub he g)
 | no =>
  refine ⟨can_leaf.2 ⟨rfl, hnib, hu0, hu1⟩, by simp [Nd.putAt], by simp [Nd.isBr], fun s _ => ?_⟩
  rw [show Nd.putAt .no r u = .leaf r u from rfl, get_leaf, get_no]
  by_cases h : bytesOf r = s
  ·rw [if_pos h, if_pos h.symm]
  ·rw [if_neg h, if_neg (Ne.symm h)]
 | br ks =>
  rw [can_br] at he
  have M := he.1
  have S := head_nib M
  have c : (bytesOf r)[0]! < 16 := hnib _ (by rw [S]; simp)
  have H : ks.getD ((bytesOf r)[0]!) .no = .no := hn
  rw [Nd.putAt]
  generalize (bytesOf r)[0]! = x at S c H ⊢
  have hc := cnt_set he.2.1 c (Nd.leaf (r.extract 1 r.size) u)
  rw [H, one_no, one_some (t := .leaf _ _) (by simp)] at hc
  have X : (Nd.leaf (r.extract 1 r.size) u).can (r.size - 1) := by
   rw [can_leaf]
   exact ⟨by rw [extract_size], by rw [bytesOf_tail]; exact fun x J => hnib x (List.mem_of_mem_drop J), hu0, hu1⟩
  refine ⟨can_br.2 ⟨M, by rw [List.length_set]; exact he.2.1, canAll_set he.2.2.1 x X, by omega⟩, by simp, fun _ => rfl, fun s hs => ?_⟩
  cases s with
  | nil => simp at hs; omega
  | cons z s =>
   rw [get_set he.2.1 c, get_leaf, S]
   by_cases V : z = x
   ·subst V
    rw [if_pos rfl]
    by_cases B : bytesOf (r.extract 1 r.size) = s
    ·rw [if_pos B, B, if_pos rfl]
    ·rw [if_neg B, if_neg (fun h => B (by simp only [List.cons.injEq] at h; exact h.2.symm)), get_br, H, get_no]
   ·rw [if_neg V, if_neg (fun h => V (by simp only [List.cons.injEq] at h; exact h.1))]
 | leaf p v =>
  rw [can_leaf] at he
  rw [Nd.putAt]
  have K := comm_le (bytesOf p) (bytesOf r)
  have i := comm_take (bytesOf p) (bytesOf r)
  have f := comm_ne (bytesOf p) (bytesOf r)
  rw [bytesOf_length, bytesOf_length] at K f
  generalize comm (bytesOf p) (bytesOf r) = N at K i f ⊢
  by_cases W : N = r.size
  ·rw [if_pos W]
   have Z : bytesOf p = bytesOf r := by
    rw [List.take_of_length_le (by rw [bytesOf_length]; omega), List.take_of_length_le (by rw [bytesOf_length]; omega)] at i
    exact i
   refine ⟨can_leaf.2 ⟨rfl, hnib, hu0, hu1⟩, by simp, by simp [Nd.isBr], fun s _ => ?_⟩
   rw [get_leaf, get_leaf, Z]
   by_cases h : bytesOf r = s
   ·rw [if_pos h, if_pos h.symm]
   ·rw [if_neg h, if_neg (Ne.symm h), if_neg h]
  ·rw [if_neg W]
   have E : N < r.size := by omega
   have d : N < (bytesOf p).length := by rw [bytesOf_length]; omega
   have y : N < (bytesOf r).length := by rw [bytesOf_length]; omega
   have A := take_drop_eq i d
   rw [getElem!_pos (bytesOf p) N d]
   have n := f (by omega) (by omega)
   rw [List.getElem?_eq_getElem d, List.getElem?_eq_getElem y] at n
   have c : (bytesOf p)[N] < 16 := he.2.1 _ (List.getElem_mem _)
   have w : (bytesOf (r.extract N r.size))[0]! = (bytesOf r)[N] := by
    rw [bytesOf_tail, getElem!_pos _ 0 (by rw [List.length_drop]; omega), List.getElem_drop]
    simp
   have o : (bytesOf p)[N] ≠ (bytesOf r)[N] := fun h => n (by rw [h])
   rw [w]
   generalize (bytesOf p)[N] = x at A c o ⊢
   have I : (bytesOf p).drop (N + 1) = bytesOf (p.extract (N + 1) p.size) := (bytesOf_tail p (N + 1)).symm
   rw [I] at A
   have D : (Nd.leaf (p.extract (N + 1) p.size) v).can (r.size - N - 1) := by
    rw [can_leaf]
    exact ⟨by rw [extract_size]; omega, by rw [bytesOf_tail]; exact fun x J => he.2.1 x (List.mem_of_mem_drop J), he.2.2⟩
   obtain ⟨j, l, O⟩ := forked (e := .leaf p v) rfl E hnib hu0 hu1 c o w D (by simp) (fun b z s C => by
    rw [get_leaf, get_leaf, A]
    have F : ((bytesOf r).take N).length = N := by rw [List.length_take, bytesOf_length]; omega
    generalize (bytesOf r).take N = a at F ⊢
    generalize bytesOf (p.extract (N + 1) p.size) = tl
    by_cases G : b = a /\ z = x
    ·obtain ⟨rfl, rfl⟩ := G
     have R : b = b /\ z = z := ⟨rfl, rfl⟩
     rw [if_pos R]
     by_cases h : tl = s
     ·have m : b ++ z :: tl = b ++ z :: s := by rw [h]
      rw [if_pos h, if_pos m]
     ·have m : ¬ (b ++ z :: tl = b ++ z :: s) := fun k => h (by simpa using List.append_cancel_left k)
      rw [if_neg h, if_neg m]
    ·have m : ¬ (a ++ x :: tl = b ++ z :: s) := fun k => G (by
      have P := List.append_inj_left k (by omega)
      subst P
      have := List.append_cancel_left k
      simp only [List.cons.injEq] at this
      exact ⟨rfl, this.1.symm⟩)
     rw [if_neg G, if_neg m])
   exact ⟨j, l, by simp [Nd.isBr], O⟩
 | ext p t =>
  have Y : ¬ begins p r := fun C => by
   rw [Nd.next, if_pos C] at hn
   rw [can_ext] at he
   exact isBr_ne he.2.2.2.2 hn
  rw [can_ext] at he
  rw [Nd.putAt]
  have Q := not_begins Y
  have i := comm_take (bytesOf p) (bytesOf r)
  have f := comm_ne (bytesOf p) (bytesOf r)
  rw [bytesOf_length, bytesOf_length] at f
  generalize comm (bytesOf p) (bytesOf r) = N at Q i f ⊢
  have E : N < r.size := by omega
  have d : N < (bytesOf p).length := by rw [bytesOf_length]; omega
  have y : N < (bytesOf r).length := by rw [bytesOf_length]; omega
  have A := take_drop_eq i d
  rw [getElem!_pos (bytesOf p) N d]
  have n := f (by omega) (by omega)
  rw [List.getElem?_eq_getElem d, List.getElem?_eq_getElem y] at n
  have c : (bytesOf p)[N] < 16 := he.2.2.1 _ (List.getElem_mem _)
  have w : (bytesOf (r.extract N r.size))[0]! = (bytesOf r)[N] := by
   rw [bytesOf_tail, getElem!_pos _ 0 (by rw [List.length_drop]; omega), List.getElem_drop]
   simp
  have o : (bytesOf p)[N] ≠ (bytesOf r)[N] := fun h => n (by rw [h])
  rw [w]
  generalize (bytesOf p)[N] = x at A c o ⊢
  have I : (bytesOf p).drop (N + 1) = bytesOf (p.extract (N + 1) p.size) := (bytesOf_tail p (N + 1)).symm
  rw [I] at A
  have U : nib (bytesOf (p.extract (N + 1) p.size)) := by rw [bytesOf_tail]; exact fun x J => he.2.2.1 x (List.mem_of_mem_drop J)
  obtain ⟨ks, rfl⟩ : ∃ ks, t = .br ks := by
   cases t with
   | br ks => exact ⟨ks, rfl⟩
   | _ => simp [Nd.isBr] at he
  have D := can_underN (q := p.extract (N + 1) p.size) he.2.2.2.1 U
  rw [extract_size, show r.size - p.size + (p.size - (N + 1)) = r.size - N - 1 by omega] at D
  obtain ⟨j, l, O⟩ := forked (e := .ext p (.br ks)) rfl E hnib hu0 hu1 c o w D.1 D.2 (fun b z s C => by
   rw [get_ext, get_underN, extract_size]
   have F : ((bytesOf r).take N).length = N := by rw [List.length_take, bytesOf_length]; omega
   have L : p.size = N + (1 + (p.size - (N + 1))) := by omega
   have T : ((b ++ z :: s).take p.size = bytesOf p) ↔ ((b = (bytesOf r).take N /\ z = x) /\ s.take (p.size - (N + 1)) = bytesOf (p.extract (N + 1) p.size)) := by
    rw [A]
    generalize (bytesOf r).take N = a at F ⊢
    generalize bytesOf (p.extract (N + 1) p.size) = tl
    rw [L, List.take_add, List.take_left' C, List.drop_left' C, Nat.add_comm 1, List.take_succ_cons]
    constructor
    ·intro h
     have P := List.append_inj_left h (by omega)
     subst P
     have := List.append_cancel_left h
     simp only [List.cons.injEq] at this
     refine ⟨⟨rfl, this.1⟩, ?_⟩
     rw [<- this.2]
     congr 1
     omega
    ·rintro ⟨⟨rfl, rfl⟩, h⟩
     rw [<- h]
     congr 3
     omega
   have hd : (b ++ z :: s).drop p.size = s.drop (p.size - (N + 1)) := by
    conv => lhs; rw [L, <- List.drop_drop, List.drop_left' C, Nat.add_comm 1, List.drop_succ_cons]
   rw [hd]
   by_cases j : (b = (bytesOf r).take N /\ z = x)
   ·rw [if_pos j]
    by_cases l : s.take (p.size - (N + 1)) = bytesOf (p.extract (N + 1) p.size)
    ·rw [if_pos l, if_pos (T.2 ⟨j, l⟩)]
    ·rw [if_neg l, if_neg (fun h => l (T.1 h).2)]
   ·rw [if_neg j, if_neg (fun h => j (T.1 h).1)])
  exact ⟨j, l, by simp [Nd.isBr], O⟩
theorem next_can {t : Nd} {r : ByteArray} (ht : t.can r.size) (hn : (t.next r).1 ≠ .no) : t.inner = true /\ (t.next r).2 <= r.size /\ 0 < (t.next r).2 /\ (t.next r).1.can (r.size - (t.next r).2) /\ (t.isBr = false -> (t.next r).1.isBr = true) /\ ∀ s : List Nat, s.take (t.next r).2 = (bytesOf r).take (t.next r).2 -> t.get s = (t.next r).1.get (s.drop (t.next r).2) := by
 cases t with
 | ext p t =>
  rw [can_ext] at ht
  rw [Nd.next] at hn ⊢
  by_cases b : begins p r
  ·rw [if_pos b]
   refine ⟨rfl, by omega, ht.1, ht.2.2.2.1, fun _ => ht.2.2.2.2, fun s a => ?_⟩
   unfold begins at b
   rw [b] at a
   rw [get_ext, if_pos a]
  ·rw [if_neg b] at hn
   exact absurd rfl hn
 | br ks =>
  rw [can_br] at ht
  rw [Nd.next] at hn ⊢
  refine ⟨rfl, ht.1, by omega, canAll_getD ht.2.2.1 _, fun h => by simp [Nd.isBr] at h, fun s a => ?_⟩
  have c := head_nib ht.1
  rw [c, List.take_succ_cons, List.take_zero] at a
  cases s with
  | nil => simp at a
  | cons z s =>
   rw [List.take_succ_cons, List.take_zero] at a
   simp only [List.cons.injEq, and_true] at a
   rw [get_br, a]
   rfl
 | _ => exact absurd rfl hn
theorem lead_can {t c : Nd} {r : ByteArray} {K : Nat} (ht : t.can r.size) (hn : (t.next r).1 ≠ .no) (hK : (t.next r).2 = K) (hnib : nib (bytesOf r)) (h64 : r.size <= 64) (hc : c.can (r.size - K)) (hcb : t.isBr = false -> c ≠ .no) :
  (t.lead (r.extract 0 K) c).can r.size /\ t.lead (r.extract 0 K) c ≠ .no /\ (c ≠ .no -> t.isBr = true -> (t.lead (r.extract 0 K) c).isBr = true) /\ t.leads (r.extract 0 K) c /\
   ∀ s : List Nat, (t.lead (r.extract 0 K) c).get s = if s.take K = (bytesOf r).take K then c.get (s.drop K) else t.get s := by
 have o := next_can ht hn
 rw [hK] at o
 have w : (r.extract 0 K).size = K := extract_size0 r K o.2.1
 have j : bytesOf (r.extract 0 K) = (bytesOf r).take K := bytesOf_head r K
 have v : nib (bytesOf (r.extract 0 K)) := by rw [j]; exact fun x G => hnib x (List.mem_of_mem_take G)
 cases t with
 | ext p t =>
  have b := hcb rfl
  have C := can_stub hc
  have h1 := can_behind hc b v
  rw [w, show r.size - K + K = r.size by omega] at h1
  refine ⟨h1.1, h1.2, fun _ h => by simp [Nd.isBr] at h, ⟨b, room_behind hc b v (by omega)⟩, fun s => ?_⟩
  rw [Nd.lead, get_behindN b C, w, j]
  by_cases h : s.take K = (bytesOf r).take K
  ·rw [if_pos h, if_pos h]
  ·rw [if_neg h, if_neg h, get_ext]
   rw [Nd.next] at hn hK
   by_cases e : begins p r
   ·rw [if_pos e] at hK
    have hK : p.size = K := hK
    subst hK
    unfold begins at e
    rw [e] at h
    rw [if_neg h]
   ·rw [if_neg e] at hn
    exact absurd rfl hn
 | br ks =>
  have B : K = 1 := hK.symm
  subst B
  rw [can_br] at ht
  have u : (bytesOf (r.extract 0 1))[0]! = (bytesOf r)[0]! := by
   have h1 : 0 < (bytesOf r).length := by rw [bytesOf_length]; exact ht.1
   rw [j, getElem!_pos _ 0 (by rw [List.length_take]; omega), getElem!_pos (bytesOf r) 0 h1, List.getElem_take]
  have A := head_nib ht.1
  have d : (bytesOf r)[0]! < 16 := hnib _ (by rw [A]; simp)
  have n : ks.getD ((bytesOf r)[0]!) .no ≠ .no := hn
  rw [Nd.lead, u]
  have m : (Nd.br ks).leads (r.extract 0 1) c ↔ (0 < (r.extract 0 1).size /\ (bytesOf r)[0]! < 16 /\ c.ok /\ (cntN (ks.set ((bytesOf r)[0]!) c) 16 = 1 -> ((ks.set ((bytesOf r)[0]!) c).getD (lastN (ks.set ((bytesOf r)[0]!) c) 16) .no).room (textB [lastN (ks.set ((bytesOf r)[0]!) c) 16]))) := by
   rw [Nd.leads, u]
  rw [m]
  clear m
  generalize (bytesOf r)[0]! = x at A d n ⊢
  have F : (bytesOf r).take 1 = [x] := by rw [A, List.take_succ_cons, List.take_zero]
  rw [F]
  have f := cnt_set ht.2.1 d c
  rw [one_some n] at f
  have a := canAll_set ht.2.2.1 x hc
  have g : (ks.set x c).length = 16 := by rw [List.length_set]; exact ht.2.1
  have i : ∀ s : List Nat, (Nd.br (ks.set x c)).get s = if s.take 1 = [x] then c.get (s.drop 1) else (Nd.br ks).get s := fun s => by
   cases s with
   | nil => rw [if_neg (by simp), get_br_nil, get_br_nil]
   | cons z s =>
    rw [get_set ht.2.1 d, List.take_succ_cons, List.take_zero, List.drop_succ_cons, List.drop_zero]
    by_cases l : z = x
    ·rw [if_pos l, if_pos (by rw [l])]
    ·rw [if_neg l, if_neg (by simpa using l)]
  generalize hks : ks.set x c = ks' at f a g i ⊢
  have E := (Nd.can_ok c _ hc (by omega)).1
  refine ⟨?_, ?_, ?_, ⟨by omega, d, E, ?_⟩, fun s => by rw [get_brLead g (canAll_bare a)]; exact i s⟩
  ·unfold brLead
   split
   ·rename_i h1
    have D := lastN_lt ks' 16 (by omega)
    have e := can_behind (q := textB [lastN ks' 16]) (canAll_getD a (lastN ks' 16)) (lastN_of (by omega)) (by rw [bytesOf_one (by omega)]; intro y k; simp at k; omega)
    rw [size_one, show r.size - 1 + 1 = r.size by omega] at e
    exact e.1
   ·exact can_br.2 ⟨ht.1, g, a, by omega⟩
  ·unfold brLead
   split
   ·rename_i h1
    have D := lastN_lt ks' 16 (by omega)
    exact (can_behind (q := textB [lastN ks' 16]) (canAll_getD a (lastN ks' 16)) (lastN_of (by omega)) (by rw [bytesOf_one (by omega)]; intro y k; simp at k; omega)).2
   ·simp
  ·intro b _
   rw [one_some b] at f
   unfold brLead
   rw [if_neg (by omega)]
   rfl
  ·intro h1
   have D := lastN_lt ks' 16 (by omega)
   exact room_behind (canAll_getD a (lastN ks' 16)) (lastN_of (by omega)) (by rw [bytesOf_one (by omega)]; intro y k; simp at k; omega) (by rw [size_one]; omega)
 | _ => exact absurd rfl hn
theorem put_all {t : Nd} {r : ByteArray} {l : List (Nd × ByteArray)} {e : Nd} {r' : ByteArray} (h : WayTo t r l e r') (u : ByteArray) (hu0 : 0 < u.size) (hu1 : u.size <= 100) : ∀ (_ : t.can r.size) (_ : nib (bytesOf r)) (_ : r.size <= 64), Grown t (endN l (e.putAt r' u)) r u /\ endOK l (e.putAt r' u) /\ nib (bytesOf r') /\ r'.size <= 64 /\ (∀ g, e ≠ .stub g) := by
 induction h with
 | @stop t r hn =>
  intro j a c
  exact ⟨put_end j hn a hu0 hu1, trivial, a, c, can_stub j⟩
 | @go t r l e r' hn _ ih =>
  intro j a c
  obtain ⟨E, F, G, y, H, z⟩ := next_can j hn
  obtain ⟨g, o, A, B, C⟩ := ih (by rw [extract_size]; exact y) (by rw [bytesOf_tail]; exact fun x w => a x (List.mem_of_mem_drop w)) (by rw [extract_size]; omega)
  have d := g.can
  rw [extract_size] at d
  obtain ⟨k, m, n, p, q⟩ := lead_can j hn rfl a c d (fun _ => g.some)
  refine ⟨⟨k, m, fun v => n g.some v, fun s D => ?_⟩, ⟨p, o⟩, A, B, C⟩
  rw [endN, q]
  by_cases i : s.take (t.next r).2 = (bytesOf r).take (t.next r).2
  ·rw [if_pos i, g.get _ (by rw [List.length_drop, extract_size]; omega), bytesOf_tail, z s i]
   by_cases b : s = bytesOf r
   ·rw [if_pos b, if_pos (by rw [b])]
   ·have f : ¬ s.drop (t.next r).2 = (bytesOf r).drop (t.next r).2 := fun h => b (by rw [<- List.take_append_drop (t.next r).2 s, i, h, List.take_append_drop])
    rw [if_neg b, if_neg f]
  ·have f : ¬ s = bytesOf r := fun h => i (by rw [h])
   rw [if_neg i, if_neg f]
structure Shrunk (e X : Nd) (r : ByteArray) : Prop where
 can : X.can r.size
 some : e.isBr = true -> X ≠ .no
 get : ∀ s, s.length = r.size -> X.get s = if s = bytesOf r then Option.none else e.get s
theorem del_all {t : Nd} {r : ByteArray} {l : List (Nd × ByteArray)} {e : Nd} {r' : ByteArray} (h : WayTo t r l e r') : ∀ (v : ByteArray) (_ : e = .leaf r' v) (_ : t.can r.size) (_ : nib (bytesOf r)) (_ : r.size <= 64), Shrunk t (endN l .no) r /\ endOK l .no := by
 induction h with
 | @stop t r hn =>
  intro v j k a i
  subst j
  refine ⟨⟨can_no _, by simp [Nd.isBr], fun s _ => ?_⟩, trivial⟩
  rw [endN, get_no, get_leaf]
  by_cases h : s = bytesOf r
  ·rw [if_pos h]
  ·rw [if_neg h, if_neg (Ne.symm h)]
 | @go t r l e r' hn _ ih =>
  intro v j k a i
  obtain ⟨D, E, F, y, z, A⟩ := next_can k hn
  obtain ⟨g, o⟩ := ih v j (by rw [extract_size]; exact y) (by rw [bytesOf_tail]; exact fun x w => a x (List.mem_of_mem_drop w)) (by rw [extract_size]; omega)
  have c := g.can
  rw [extract_size] at c
  obtain ⟨m, n, B, p, q⟩ := lead_can k hn rfl a i c (fun u => g.some (z u))
  refine ⟨⟨m, fun _ => n, fun s C => ?_⟩, p, o⟩
  rw [endN, q]
  by_cases f : s.take (t.next r).2 = (bytesOf r).take (t.next r).2
  ·rw [if_pos f, g.get _ (by rw [List.length_drop, extract_size]; omega), bytesOf_tail, A s f]
   by_cases b : s = bytesOf r
   ·rw [if_pos b, if_pos (by rw [b])]
   ·have d : ¬ s.drop (t.next r).2 = (bytesOf r).drop (t.next r).2 := fun h => b (by rw [<- List.take_append_drop (t.next r).2 s, f, h, List.take_append_drop])
    rw [if_neg b, if_neg d]
  ·have d : ¬ s = bytesOf r := fun h => f (by rw [h])
   rw [if_neg f, if_neg d]
theorem way_ex : ∀ (n : Nat) (t : Nd) (r : ByteArray), r.size <= n -> t.can r.size -> ∃ l e r', WayTo t r l e r' /\ l.length <= r.size
 | n, t, r, hn, ht => by
  by_cases h : (t.next r).1 = .no
  ·exact ⟨[], t, r, .stop h, Nat.zero_le _⟩
  ·obtain ⟨k1, k2, k3, k4, _, _⟩ := next_can ht h
   match n, hn with
   | 0, hn => omega
   | n + 1, hn =>
    obtain ⟨l, e, r', hw, hl⟩ := way_ex n (t.next r).1 (r.extract (t.next r).2 r.size) (by rw [extract_size]; omega) (by rw [extract_size]; exact k4)
    rw [extract_size] at hl
    exact ⟨_, e, r', .go h hw, by simp; omega⟩
theorem way_get {t : Nd} {r : ByteArray} {l : List (Nd × ByteArray)} {e : Nd} {r' : ByteArray} (h : WayTo t r l e r') : ∀ (_ : t.can r.size), t.get (bytesOf r) = e.get (bytesOf r') /\ e.can r'.size /\ (e.next r').1 = .no /\ (l = [] -> e = t /\ r' = r) := by
 induction h with
 | @stop t r hn => exact fun a => ⟨rfl, a, hn, fun _ => ⟨rfl, rfl⟩⟩
 | @go t r l e r' hn _ ih =>
  intro a
  obtain ⟨_, i, _, f, _, g⟩ := next_can a hn
  obtain ⟨b, c, d, _⟩ := ih (by rw [extract_size]; exact f)
  refine ⟨?_, c, d, fun h => by simp at h⟩
  rw [g _ rfl, <- b, bytesOf_tail]
theorem end_get {e : Nd} {r : ByteArray} (he : e.can r.size) (hn : (e.next r).1 = .no) : e.get (bytesOf r) = none \/ ∃ v, e = .leaf r v /\ e.get (bytesOf r) = some v := by
 cases e with
 | no => exact .inl (get_no _)
 | stub g => exact absurd rfl (can_stub he g)
 | leaf p v =>
  rw [get_leaf]
  by_cases h : bytesOf p = bytesOf r
  ·rw [if_pos h, bytesOf_inj h]
   exact .inr ⟨v, rfl, rfl⟩
  ·exact .inl (if_neg h)
 | ext p t =>
  refine .inl ?_
  rw [get_ext]
  by_cases b : begins p r
  ·rw [Nd.next, if_pos b] at hn
   rw [can_ext] at he
   exact absurd hn (isBr_ne he.2.2.2.2)
  ·exact if_neg b
 | br ks =>
  rw [can_br] at he
  refine .inl ?_
  have c := head_nib he.1
  have a : ks.getD ((bytesOf r)[0]!) .no = .no := hn
  rw [c]
  generalize (bytesOf r)[0]! = x at a ⊢
  rw [get_br, a, get_no]
theorem has_path : ∀ (n : Nat) (t : Nd) (k : Nat), k <= n -> t.can k -> t ≠ .no -> ∃ s : List Nat, s.length = k /\ nib s /\ t.get s ≠ none
 | n, .no, k, _, _, h => absurd rfl h
 | n, .stub g, k, _, h, _ => absurd rfl (can_stub h g)
 | n, .leaf p v, k, _, h, _ => by
  rw [can_leaf] at h
  exact ⟨bytesOf p, by rw [bytesOf_length]; exact h.1, h.2.1, by rw [get_leaf, if_pos rfl]; simp⟩
 | n, .ext p t, k, hk, h, _ => by
  rw [can_ext] at h
  match n, hk with
  | 0, hk => omega
  | n + 1, hk =>
   obtain ⟨s, h1, h2, h3⟩ := has_path n t (k - p.size) (by omega) h.2.2.2.1 (isBr_ne h.2.2.2.2)
   refine ⟨bytesOf p ++ s, by rw [List.length_append, bytesOf_length]; omega, fun x hx => (List.mem_append.1 hx).elim (h.2.2.1 x) (h2 x), ?_⟩
   rw [get_ext, List.take_left' (bytesOf_length p), if_pos rfl, List.drop_left' (bytesOf_length p)]
   exact h3
 | n, .br ks, k, hk, h, _ => by
  rw [can_br] at h
  match n, hk with
  | 0, hk => omega
  | n + 1, hk =>
   have hm := lastN_lt ks 16 (by omega)
   obtain ⟨s, h1, h2, h3⟩ := has_path n (ks.getD (lastN ks 16) .no) (k - 1) (by omega) (canAll_getD h.2.2.1 _) (lastN_of (by omega))
   refine ⟨lastN ks 16 :: s, by simp; omega, fun x hx => ?_, by rw [get_br]; exact h3⟩
   rcases List.mem_cons.1 hx with rfl | hx
   ·exact hm
   ·exact h2 x hx
theorem two_kids {ks : List Nd} : ∀ {k : Nat}, 2 <= cntN ks k -> ∃ x y, x < k /\ y < k /\ x ≠ y /\ ks.getD x .no ≠ .no /\ ks.getD y .no ≠ .no
 | 0, h => by simp [cntN] at h
 | k + 1, h => by
  rw [cntN_succ] at h
  by_cases hk : ks.getD k .no = .no
  ·rw [hk, one_no] at h
   obtain ⟨x, y, h1, h2, h3⟩ := two_kids (ks := ks) (k := k) (by omega)
   exact ⟨x, y, by omega, by omega, h3⟩
  ·rw [one_some hk] at h
   have h0 : 0 < k := by
    rcases Nat.eq_zero_or_pos k with h0 | h0
    ·subst h0; simp [cntN] at h
    ·exact h0
   exact ⟨lastN ks k, k, by have := lastN_lt ks k h0; omega, by omega, by have := lastN_lt ks k h0; omega, lastN_of (by omega), hk⟩
theorem br_two {ks : List Nd} {n : Nat} (h : (Nd.br ks).can n) : ∃ x y s s', x ≠ y /\ x < 16 /\ y < 16 /\ s.length = n - 1 /\ s'.length = n - 1 /\ nib s /\ nib s' /\ (Nd.br ks).get (x :: s) ≠ none /\ (Nd.br ks).get (y :: s') ≠ none := by
 rw [can_br] at h
 obtain ⟨x, y, g, i, j, k, l⟩ := two_kids h.2.2.2
 obtain ⟨s, a, b, c⟩ := has_path (n - 1) _ (n - 1) (Nat.le_refl _) (canAll_getD h.2.2.1 x) k
 obtain ⟨s', d, e, f⟩ := has_path (n - 1) _ (n - 1) (Nat.le_refl _) (canAll_getD h.2.2.1 y) l
 exact ⟨x, y, s, s', j, g, i, a, d, b, e, by rw [get_br]; exact c, by rw [get_br]; exact f⟩
def Says (t t' : Nd) (n : Nat) : Prop := ∀ s : List Nat, s.length = n -> nib s -> t.get s = t'.get s
theorem Says.symm {t t' : Nd} {n : Nat} (h : Says t t' n) : Says t' t n := fun s h1 h2 => (h s h1 h2).symm
theorem nib_cons {x : Nat} {s : List Nat} (hx : x < 16) (hs : nib s) : nib (x :: s) := fun y hy => by
 rcases List.mem_cons.1 hy with rfl | hy
 ·exact hx
 ·exact hs y hy
theorem nib_append {a b : List Nat} (ha : nib a) (hb : nib b) : nib (a ++ b) := fun x hx => (List.mem_append.1 hx).elim (ha x) (hb x)
def Parts (t : Nd) (n : Nat) (a : List Nat) : Prop := ∃ x y s s', x ≠ y /\ nib (a ++ x :: s) /\ nib (a ++ y :: s') /\ (a ++ x :: s).length = n /\ (a ++ y :: s').length = n /\ t.get (a ++ x :: s) ≠ none /\ t.get (a ++ y :: s') ≠ none
theorem br_parts {ks : List Nd} {n : Nat} (h : (Nd.br ks).can n) : Parts (.br ks) n [] := by
 have l := (can_br.1 h).1
 obtain ⟨x, y, s, i, a, b, c, j, k, d, e, f, g⟩ := br_two h
 exact ⟨x, y, s, i, a, nib_cons b d, nib_cons c e, by simp; omega, by simp; omega, f, g⟩
theorem ext_parts {p : ByteArray} {t : Nd} {n : Nat} (h : (Nd.ext p t).can n) : Parts (.ext p t) n (bytesOf p) := by
 rw [can_ext] at h
 obtain ⟨ks, rfl⟩ : ∃ ks, t = .br ks := by
  cases t with
  | br ks => exact ⟨ks, rfl⟩
  | _ => simp [Nd.isBr] at h
 obtain ⟨x, y, s, i, g, a, b, c, d, e, f⟩ := br_parts h.2.2.2.1
 simp only [List.nil_append] at a b c d e f
 refine ⟨x, y, s, i, g, nib_append h.2.2.1 a, nib_append h.2.2.1 b, by rw [List.length_append, c, bytesOf_length]; omega, by rw [List.length_append, d, bytesOf_length]; omega, ?_, ?_⟩
 ·rw [get_ext, List.take_left' (bytesOf_length p), if_pos rfl, List.drop_left' (bytesOf_length p)]
  exact e
 ·rw [get_ext, List.take_left' (bytesOf_length p), if_pos rfl, List.drop_left' (bytesOf_length p)]
  exact f
theorem Parts.says {t t' : Nd} {n : Nat} {a : List Nat} (h : Parts t n a) (hs : Says t t' n) : Parts t' n a := by
 obtain ⟨x, y, s, j, f, b, c, d, e, g, i⟩ := h
 exact ⟨x, y, s, j, f, b, c, d, e, by rw [<- hs _ d b]; exact g, by rw [<- hs _ e c]; exact i⟩
theorem leaf_parts {p v : ByteArray} {n : Nat} {a : List Nat} (h : Parts (.leaf p v) n a) : False := by
 obtain ⟨x, y, s, s', f, _, _, _, _, b, c⟩ := h
 rw [get_leaf] at b c
 have e : bytesOf p = a ++ x :: s := by
  by_cases h : bytesOf p = a ++ x :: s
  ·exact h
  ·rw [if_neg h] at b; exact absurd rfl b
 have d : bytesOf p = a ++ y :: s' := by
  by_cases h : bytesOf p = a ++ y :: s'
  ·exact h
  ·rw [if_neg h] at c; exact absurd rfl c
 rw [e] at d
 have := List.append_cancel_left d
 simp only [List.cons.injEq] at this
 exact f this.1
theorem take_split (a : List Nat) (x : Nat) (s : List Nat) (k : Nat) : (a ++ x :: s).take (a.length + (k + 1)) = a ++ x :: s.take k := by
 rw [List.take_add, List.take_left' rfl, List.drop_left' rfl, List.take_succ_cons]
theorem ext_long {p : ByteArray} {t : Nd} {n : Nat} {a : List Nat} (h : Parts (.ext p t) n a) : p.size <= a.length := by
 obtain ⟨x, y, s, e, g, _, _, _, _, c, d⟩ := h
 rcases Nat.lt_or_ge a.length p.size with hlt | hge
 ·exfalso
  rw [get_ext] at c d
  have b : (a ++ x :: s).take p.size = bytesOf p := by
   by_cases h : (a ++ x :: s).take p.size = bytesOf p
   ·exact h
   ·rw [if_neg h] at c; exact absurd rfl c
  have f : (a ++ y :: e).take p.size = bytesOf p := by
   by_cases h : (a ++ y :: e).take p.size = bytesOf p
   ·exact h
   ·rw [if_neg h] at d; exact absurd rfl d
  rw [<- f] at b
  have i : p.size = a.length + (p.size - a.length - 1 + 1) := by omega
  rw [i, take_split, take_split] at b
  have := List.append_cancel_left b
  simp only [List.cons.injEq] at this
  exact g this.1
 ·exact hge
theorem none_no {t : Nd} {n : Nat} (h : t.can n) (hs : Says t .no n) : t = .no := by
 by_cases b : t = .no
 ·exact b
 ·obtain ⟨s, c, d, a⟩ := has_path n t n (Nat.le_refl _) h b
  rw [hs s c d, get_no] at a
  exact absurd rfl a
theorem can_unique : ∀ (m n : Nat) (t t' : Nd), n <= m -> t.can n -> t'.can n -> Says t t' n -> t = t' := by
 intro m
 induction m with
 | zero =>
  intro n t t' q h a b
  cases t with
  | no => exact (none_no a b.symm).symm
  | stub g => exact absurd rfl (can_stub h g)
  | ext p t => rw [can_ext] at h; omega
  | br ks => rw [can_br] at h; omega
  | leaf p v =>
   cases t' with
   | no => exact none_no h b
   | stub g => exact absurd rfl (can_stub a g)
   | ext p t => rw [can_ext] at a; omega
   | br ks => rw [can_br] at a; omega
   | leaf p' v' =>
    rw [can_leaf] at h a
    have := b (bytesOf p) (by rw [bytesOf_length]; exact h.1) h.2.1
    rw [get_leaf, if_pos rfl, get_leaf] at this
    by_cases c : bytesOf p' = bytesOf p
    ·rw [if_pos c] at this
     rw [bytesOf_inj c, Option.some.inj this]
    ·rw [if_neg c] at this
     simp at this
 | succ m ih =>
  intro n t t' q h a b
  cases t with
  | no => exact (none_no a b.symm).symm
  | stub g => exact absurd rfl (can_stub h g)
  | leaf p v =>
   cases t' with
   | no => exact none_no h b
   | stub g => exact absurd rfl (can_stub a g)
   | ext p' t' => exact (leaf_parts ((ext_parts a).says b.symm)).elim
   | br ks => exact (leaf_parts ((br_parts a).says b.symm)).elim
   | leaf p' v' =>
    rw [can_leaf] at h a
    have := b (bytesOf p) (by rw [bytesOf_length]; exact h.1) h.2.1
    rw [get_leaf, if_pos rfl, get_leaf] at this
    by_cases c : bytesOf p' = bytesOf p
    ·rw [if_pos c] at this
     rw [bytesOf_inj c, Option.some.inj this]
    ·rw [if_neg c] at this
     simp at this
  | ext p t =>
   cases t' with
   | no => exact none_no h b
   | stub g => exact absurd rfl (can_stub a g)
   | leaf p' v' => exact (leaf_parts ((ext_parts h).says b)).elim
   | br ks =>
    have : p.size <= 0 := ext_long ((br_parts a).says b.symm)
    rw [can_ext] at h
    omega
   | ext p' t' =>
    have r := ext_long ((ext_parts a).says b.symm)
    have u := ext_long ((ext_parts h).says b)
    rw [bytesOf_length] at r u
    have o : p.size = p'.size := by omega
    obtain ⟨x, y, s, A, _, f, _, z, _, d, _⟩ := (ext_parts h).says b
    rw [get_ext, <- o, List.take_left' (bytesOf_length p)] at d
    have l : bytesOf p = bytesOf p' := by
     by_cases c : bytesOf p = bytesOf p'
     ·exact c
     ·rw [if_neg c] at d; exact absurd rfl d
    have k := bytesOf_inj l
    subst k
    rw [can_ext] at h a
    rw [ih (n - p.size) t t' (by omega) h.2.2.2.1 a.2.2.2.1 fun s j e => ?_]
    have := b (bytesOf p ++ s) (by rw [List.length_append, bytesOf_length]; omega) (nib_append h.2.2.1 e)
    rw [get_ext, get_ext, List.take_left' (bytesOf_length p), if_pos rfl, if_pos rfl, List.drop_left' (bytesOf_length p)] at this
    exact this
  | br ks =>
   cases t' with
   | no => exact none_no h b
   | stub g => exact absurd rfl (can_stub a g)
   | leaf p' v' => exact (leaf_parts ((br_parts h).says b)).elim
   | ext p' t' =>
    have : p'.size <= 0 := ext_long ((br_parts h).says b)
    rw [can_ext] at a
    omega
   | br ks' =>
    rw [can_br] at h a
    congr 1
    apply List.ext_getElem (by omega)
    intro i j e
    have := ih (n - 1) (ks.getD i .no) (ks'.getD i .no) (by omega) (canAll_getD h.2.2.1 i) (canAll_getD a.2.2.1 i) fun s w f => by
     have := b (i :: s) (by simp; omega) (nib_cons (by omega) f)
     rw [get_br, get_br] at this
     exact this
    rw [List.getD_eq_getElem?_getD, List.getD_eq_getElem?_getD, List.getElem?_eq_getElem j, List.getElem?_eq_getElem e] at this
    exact this
end Go.Proofs.YtcglpladmeelaaaGreatDoor
