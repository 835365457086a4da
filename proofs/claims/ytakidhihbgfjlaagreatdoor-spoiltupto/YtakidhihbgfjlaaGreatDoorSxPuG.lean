/-
  What a tree says of a path (get); trees of one form (can).
-/
import Derived.Test.YtakidhihbgfjlaaGreatDoorSxTreA
namespace Go.Proofs.YtakidhihbgfjlaaGreatDoor
open Go.RowKit
set_option maxRecDepth 100000
set_option maxHeartbeats 25600000
mutual
def Nd.get : Nd -> List Nat -> Option ByteArray
 | .no, _ => none
 | .leaf p v, r => if bytesOf p = r then some v else none
 | .ext p t, r => if r.take p.size = bytesOf p then t.get (r.drop p.size) else none
 | .br ks, r => match r with
  | [] => none
  | x :: r => getAt ks x r
 | .stub _, _ => none
def getAt : List Nd -> Nat -> List Nat -> Option ByteArray
 | [], _, _ => none
 | k :: _, 0, r => k.get r
 | _ :: ks, x + 1, r => getAt ks x r
end
theorem Qy9 (ks : List Nd) (x : Nat) (r : List Nat) : getAt ks x r = (ks.getD x .no).get r := by
 induction ks generalizing x with
 | nil => rw [getAt]; simp [Nd.get]
 | cons k ks ih =>
  cases x with
  | zero => rw [getAt]; rfl
  | succ x => rw [getAt, ih]; rfl
theorem Qgk (ks : List Nd) (x : Nat) (r : List Nat) : (Nd.br ks).get (x :: r) = (ks.getD x .no).get r := by
 rw [Nd.get]
 exact Qy9 ks x r
theorem Qg2 (ks : List Nd) : (Nd.br ks).get [] = none := by rw [Nd.get]
theorem Qgl (r : List Nat) : Nd.get .no r = none := by rw [Nd.get]
theorem Qbs (p v : ByteArray) (r : List Nat) : (Nd.leaf p v).get r = if bytesOf p = r then some v else none := by rw [Nd.get]
theorem Qdy (p : ByteArray) (t : Nd) (r : List Nat) : (Nd.ext p t).get r = if r.take p.size = bytesOf p then t.get (r.drop p.size) else none := by rw [Nd.get]
def nib (l : List Nat) : Prop := ∀ x ∈ l, x < 16
def Nd.isBr : Nd -> Bool
 | .br _ => true
 | _ => false
mutual
def Nd.can : Nd -> Nat -> Prop
 | .no, _ => True
 | .leaf p v, n => p.size = n /\ nib (bytesOf p) /\ 0 < v.size /\ v.size <= 100
 | .ext p t, n => 0 < p.size /\ p.size < n /\ nib (bytesOf p) /\ t.can (n - p.size) /\ t.isBr = true
 | .br ks, n => 0 < n /\ ks.length = 16 /\ canAll ks (n - 1) /\ 2 <= cntN ks 16
 | .stub _, _ => False
def canAll : List Nd -> Nat -> Prop
 | [], _ => True
 | x :: xs, n => x.can n /\ canAll xs n
end
variable {n : Nat}
theorem Qjz {x : Nd} : ∀ {l : List Nd}, canAll l n -> x ∈ l -> x.can n := by
 intro l
 induction l with
 | nil => intro _ h; cases h
 | cons y l ih =>
  intro h a
  rw [canAll] at h
  rcases List.mem_cons.1 a with rfl | a
  ·exact h.1
  ·exact ih h.2 a
theorem Qng : ∀ {l : List Nd}, (∀ x ∈ l, x.can n) -> canAll l n := by
 intro l
 induction l with
 | nil => intro _; rw [canAll]; trivial
 | cons y l ih => intro h; rw [canAll]; exact ⟨h y (List.mem_cons_self ..), ih fun x a => h x (List.mem_cons_of_mem _ a)⟩
variable {l : List Nd}
theorem Qcj (h : canAll l n) (x : Nat) : (l.getD x .no).can n := by
 rw [List.getD_eq_getElem?_getD]
 cases hk : l[x]? with
 | none => rw [Option.getD_none, Nd.can]; trivial
 | some y => exact Qjz h (List.mem_of_getElem? hk)
variable {t : Nd}
theorem Qec (h : canAll l n) (x : Nat) (ht : t.can n) : canAll (l.set x t) n := Qng fun y hy => by
 rcases List.mem_or_eq_of_mem_set hy with h1 | h1
 ·exact Qjz h h1
 ·rw [h1]; exact ht
theorem QCs (n : Nat) : Nd.can .no n := by rw [Nd.can]; trivial
variable {p : ByteArray}
theorem can_leaf {v : ByteArray} : (Nd.leaf p v).can n ↔ p.size = n /\ nib (bytesOf p) /\ 0 < v.size /\ v.size <= 100 := by rw [Nd.can]
theorem Qdg : (Nd.ext p t).can n ↔ 0 < p.size /\ p.size < n /\ nib (bytesOf p) /\ t.can (n - p.size) /\ t.isBr = true := by rw [Nd.can]
variable {ks : List Nd}
theorem can_br : (Nd.br ks).can n ↔ 0 < n /\ ks.length = 16 /\ canAll ks (n - 1) /\ 2 <= cntN ks 16 := by rw [Nd.can]
theorem Quz (h : t.isBr = true) : t ≠ .no := fun e => by rw [e] at h; simp [Nd.isBr] at h
mutual
theorem Nd.can_ok : ∀ (t : Nd) (n : Nat), t.can n -> n <= 64 -> t.ok /\ t.fits n
 | .no, n, _, _ => by rw [Nd.ok, Nd.fits]; exact ⟨trivial, trivial⟩
 | .leaf p v, n, h, hn => by
  rw [can_leaf] at h
  rw [Nd.ok, Nd.fits]
  exact ⟨⟨⟨by omega, h.2.1⟩, by omega⟩, h.1⟩
 | .ext p t, n, h, hn => by
  rw [Qdg] at h
  obtain ⟨h1, h2⟩ := Nd.can_ok t (n - p.size) h.2.2.2.1 (by omega)
  rw [Nd.ok, Nd.fits]
  exact ⟨⟨⟨by omega, h.2.2.1⟩, h1, Quz h.2.2.2.2⟩, h.1, h.2.1, h2⟩
 | .br ks, n, h, hn => by
  rw [can_br] at h
  obtain ⟨h1, h2⟩ := Qnh ks (n - 1) h.2.2.1 (by omega)
  rw [Nd.ok, Nd.fits]
  exact ⟨⟨h.2.1, h1⟩, h.1, h2⟩
 | .stub _, _, h, _ => by rw [Nd.can] at h; exact h.elim
theorem Qnh : ∀ (ks : List Nd) (n : Nat), canAll ks n -> n <= 64 -> oks ks /\ fitsAll ks n
 | [], _, _, _ => by rw [oks, fitsAll]; exact ⟨trivial, trivial⟩
 | t :: ks, n, h, hn => by
  rw [canAll] at h
  obtain ⟨h1, h2⟩ := Nd.can_ok t n h.1 hn
  obtain ⟨h3, h4⟩ := Qnh ks n h.2 hn
  rw [oks, fitsAll]
  exact ⟨⟨h1, h3⟩, h2, h4⟩
end
theorem Qlg (ks : List Nd) (x y : Nat) (t : Nd) (hx : x < ks.length) : (ks.set x t).getD y .no = if y = x then t else ks.getD y .no := by
 rw [List.getD_eq_getElem?_getD, List.getD_eq_getElem?_getD, List.getElem?_set]
 by_cases h : x = y
 ·subst h
  rw [if_pos rfl, if_pos hx, if_pos rfl]
  rfl
 ·rw [if_neg h, if_neg (Ne.symm h)]
def one (t : Nd) : Nat := if t.isNo then 0 else 1
theorem Qcy (ks : List Nd) (k : Nat) : cntN ks (k + 1) = cntN ks k + one (ks.getD k .no) := by rw [cntN]; rfl
theorem Qq7 (ks : List Nd) (x : Nat) (t : Nd) (hx : x < ks.length) : ∀ k, cntN (ks.set x t) k + (if x < k then one (ks.getD x .no) else 0) = cntN ks k + (if x < k then one t else 0)
 | 0 => by simp [cntN]
 | k + 1 => by
  have ih := Qq7 ks x t hx k
  rw [Qcy, Qcy, Qlg ks x k t hx]
  by_cases h1 : k = x
  ·subst h1
   rw [if_neg (Nat.lt_irrefl _), if_neg (Nat.lt_irrefl _)] at ih
   rw [if_pos rfl, if_pos (Nat.lt_succ_self _), if_pos (Nat.lt_succ_self _)]
   omega
  ·rw [if_neg h1]
   by_cases h2 : x < k
   ·rw [if_pos h2, if_pos h2] at ih
    rw [if_pos (by omega), if_pos (by omega)]
    omega
   ·rw [if_neg h2, if_neg h2] at ih
    rw [if_neg (by omega), if_neg (by omega)]
    omega
variable {x : Nat}
theorem Qlh (hl : ks.length = 16) (hx : x < 16) (t : Nd) : cntN (ks.set x t) 16 + one (ks.getD x .no) = cntN ks 16 + one t := by
 have := Qq7 ks x t (by omega) 16
 rwa [if_pos hx, if_pos hx] at this
theorem Qq8 : one .no = 0 := rfl
theorem Qcc (h : t ≠ .no) : one t = 1 := by
 cases t with
 | no => exact absurd rfl h
 | _ => rfl
theorem Qli {ks : List Nd} {x : Nat} (hn : ks.getD x .no ≠ .no) : ∀ {k}, x < k -> 1 <= cntN ks k
 | 0, h => absurd h (Nat.not_lt_zero _)
 | k + 1, h => by
  rw [Qcy]
  by_cases e : x = k
  ·subst e
   rw [Qcc hn]
   omega
  ·have := Qli (ks := ks) hn (k := k) (by omega)
   omega
theorem Qk0 {ks : List Nd} {x y : Nat} (hx : ks.getD x .no ≠ .no) (hy : ks.getD y .no ≠ .no) (hxy : x ≠ y) : ∀ {k}, x < k -> y < k -> 2 <= cntN ks k
 | 0, h, _ => absurd h (Nat.not_lt_zero _)
 | k + 1, h1, h2 => by
  rw [Qcy]
  by_cases ex : x = k
  ·subst ex
   have := Qli (ks := ks) hy (k := x) (by omega)
   rw [Qcc hx]
   omega
  ·by_cases ey : y = k
   ·subst ey
    have := Qli (ks := ks) hx (k := y) (by omega)
    rw [Qcc hy]
    omega
   ·have := Qk0 (ks := ks) hx hy hxy (k := k) (by omega) (by omega)
    omega
theorem Qgy {k : Nat} (h : 1 <= cntN ks k) : ks.getD (lastN ks k) .no ≠ .no := fun e => by
 have := Qg0 ks k h
 rw [e] at this
 simp [Nd.isNo] at this
theorem Qdh (h : p.size = 0) : bytesOf p = [] := List.eq_nil_of_length_eq_zero (by rw [bytesOf_length, h])
theorem Qg3 (q : ByteArray) (t : Nd) (r : List Nat) : (underN q t).get r = if r.take q.size = bytesOf q then t.get (r.drop q.size) else none := by
 unfold underN
 by_cases h : q.size = 0
 ·rw [if_pos h, Qdh h, h, List.take_zero, List.drop_zero, if_pos rfl]
 ·rw [if_neg h, Qdy]
theorem Qya {a b r : List Nat} (hn : a.length = n) : (a ++ b = r) ↔ (r.take n = a /\ b = r.drop n) := by
 constructor
 ·intro h
  rw [<- h, <- hn]
  simp
 ·intro h
  rw [<- h.1, h.2, List.take_append_drop]
variable {q : ByteArray}
theorem Qi5 (ht : t ≠ .no) (hs : ∀ h, t ≠ .stub h) (r : List Nat) : (behindN q t).get r = if r.take q.size = bytesOf q then t.get (r.drop q.size) else none := by
 cases t with
 | no => exact absurd rfl ht
 | stub h => exact absurd rfl (hs h)
 | br ks => exact Qg3 q _ r
 | leaf p v =>
  rw [behindN, Qbs, Qbs, Qb1]
  have := Qya (a := bytesOf q) (b := bytesOf p) (r := r) (bytesOf_length q)
  by_cases h : bytesOf q ++ bytesOf p = r
  ·rw [if_pos h, if_pos (this.1 h).1, if_pos (this.1 h).2]
  ·rw [if_neg h]
   by_cases c : r.take q.size = bytesOf q
   ·rw [if_pos c, if_neg fun d => h (this.2 ⟨c, d⟩)]
   ·rw [if_neg c]
 | ext p t =>
  rw [behindN, Qdy, Qdy, Qb1, size_append]
  by_cases c : r.take q.size = bytesOf q
  ·rw [if_pos c]
   by_cases d : (r.drop q.size).take p.size = bytesOf p
   ·rw [if_pos d, if_pos (by rw [List.take_add, c, d]), List.drop_drop]
   ·rw [if_neg d, if_neg]
    intro e
    apply d
    rw [List.take_add, c] at e
    exact List.append_cancel_left e
  ·rw [if_neg c, if_neg]
   intro e
   apply c
   have := congrArg (List.take q.size) e
   rw [List.take_take, Nat.min_eq_left (by omega)] at this
   rw [this, List.take_append_of_le_length (by rw [bytesOf_length]; exact Nat.le_refl _), List.take_of_length_le (by rw [bytesOf_length]; exact Nat.le_refl _)]
theorem Qdi {m : Nat} (h : m < 256) : bytesOf (textB [m]) = [m] := Qa5 (by simpa using h)
theorem Qlj (m : Nat) : (textB [m]).size = 1 := by rw [Qaa]; rfl
def bare (ks : List Nd) : Prop := ∀ x h, ks.getD x .no ≠ .stub h
theorem Qrq (hl : ks.length = 16) (hb : bare ks) (r : List Nat) : (brLead ks).get r = (Nd.br ks).get r := by
 unfold brLead
 split
 ·rename_i h1
  have e := Qea ks 16 (by omega)
  have b := Qgy (ks := ks) (k := 16) (by omega)
  rw [Qi5 b (hb _), Qlj, Qdi (by omega)]
  cases r with
  | nil => rw [Qg2, if_neg (by simp)]
  | cons x r =>
   rw [Qgk, List.take_succ_cons, List.take_zero, List.drop_succ_cons, List.drop_zero]
   by_cases a : x = lastN ks 16
   ·rw [if_pos (by rw [a]), a]
   ·rw [if_neg (by simpa using a)]
    by_cases c : ks.getD x .no = .no
    ·rw [c, Qgl]
    ·by_cases d : x < 16
     ·have := Qk0 c b a d e
      omega
     ·exfalso
      apply c
      rw [List.getD_eq_getElem?_getD, List.getElem?_eq_none (by omega)]
      rfl
 ·rfl
theorem Qlk (hl : ks.length = 16) (hx : x < 16) (t : Nd) (y : Nat) (r : List Nat) : (Nd.br (ks.set x t)).get (y :: r) = if y = x then t.get r else (Nd.br ks).get (y :: r) := by
 rw [Qgk, Qlg ks x y t (by omega), Qgk]
 split <;> rfl
theorem Qbt (h : t.can n) : ∀ g, t ≠ .stub g := fun g e => by rw [e, Nd.can] at h; exact h
theorem Qp3 (h : canAll ks n) : bare ks := fun x g => Qbt (Qcj h x) g
variable {r : ByteArray}
theorem Qcd (h0 : 0 < r.size) : bytesOf r = (bytesOf r)[0]! :: bytesOf (r.extract 1 r.size) := by
 rw [Qab]
 have a : 0 < (bytesOf r).length := by rw [bytesOf_length]; exact h0
 rw [getElem!_pos (bytesOf r) 0 a, <- List.drop_eq_getElem_cons a, List.drop_zero]
theorem Qed (ht : t.can n) (hne : t ≠ .no) (hq : nib (bytesOf q)) : (behindN q t).can (n + q.size) /\ behindN q t ≠ .no := by
 cases t with
 | no => exact absurd rfl hne
 | stub g => exact absurd rfl (Qbt ht g)
 | leaf p v =>
  rw [can_leaf] at ht
  rw [behindN, can_leaf, size_append, Qb1]
  exact ⟨⟨by omega, fun x a => (List.mem_append.1 a).elim (hq x) (ht.2.1 x), ht.2.2⟩, by simp⟩
 | ext p t =>
  rw [Qdg] at ht
  rw [behindN, Qdg, size_append, Qb1]
  exact ⟨⟨by omega, by omega, fun x a => (List.mem_append.1 a).elim (hq x) (ht.2.2.1 x), by rw [show n + q.size - (q.size + p.size) = n - p.size by omega]; exact ht.2.2.2.1, ht.2.2.2.2⟩, by simp⟩
 | br ks =>
  rw [behindN]
  unfold underN
  split
  ·rename_i h
   rw [h]
   exact ⟨ht, by simp⟩
  ·have := can_br.1 ht
   rw [Qdg]
   exact ⟨⟨by omega, by omega, hq, by rw [show n + q.size - q.size = n by omega]; exact ht, rfl⟩, by simp⟩
theorem Qi6 (ht : t.can n) (hne : t ≠ .no) (hq : nib (bytesOf q)) (hn : n + q.size <= 64) : t.room q := by
 cases t with
 | no => exact absurd rfl hne
 | stub g => exact absurd rfl (Qbt ht g)
 | leaf p v =>
  rw [can_leaf] at ht
  exact ⟨by rw [size_append]; omega, by rw [Qb1]; exact fun x a => (List.mem_append.1 a).elim (hq x) (ht.2.1 x)⟩
 | ext p t =>
  rw [Qdg] at ht
  exact ⟨by rw [size_append]; omega, by rw [Qb1]; exact fun x a => (List.mem_append.1 a).elim (hq x) (ht.2.2.1 x)⟩
 | br ks => exact ⟨by omega, hq⟩
theorem Qk1 (ht : (Nd.br ks).can n) (hq : nib (bytesOf q)) : (underN q (.br ks)).can (n + q.size) /\ underN q (.br ks) ≠ .no := Qed (t := .br ks) ht (by simp) hq
theorem Qdj (x : Nat) : none16.getD x .no = .no := by
 unfold none16
 rw [List.getD_eq_getElem?_getD, List.getElem?_replicate]
 split <;> rfl
theorem Qq9 : ∀ k, cntN none16 k = 0
 | 0 => rfl
 | k + 1 => by rw [Qcy, Qq9 k, Qdj]; rfl
theorem Qcz : none16.length = 16 := by simp [none16]
theorem Qp4 (n : Nat) : canAll none16 n := Qng fun x hx => by rw [List.eq_of_mem_replicate hx]; exact QCs n
section
variable {x y : Nat} {A : Nd} {r u : ByteArray} {n : Nat}
theorem Qrr (hx : x < 16) (hy : y < 16) (hxy : x ≠ y) (hA : A.can n) (hAn : A ≠ .no) (hr : (Nd.leaf (r.extract 1 r.size) u).can n) : (parted x A y r u).can (n + 1) := by
 unfold parted
 have a : (none16.set x A).length = 16 := by rw [List.length_set]; exact Qcz
 have b := Qlh Qcz hx A
 have c := Qlh a hy (Nd.leaf (r.extract 1 r.size) u)
 rw [Qdj, Qq8, Qq9, Qcc hAn] at b
 rw [Qlg none16 x y A (by rw [Qcz]; exact hx), if_neg (Ne.symm hxy), Qdj, Qq8, Qcc (t := .leaf _ _) (by simp)] at c
 rw [can_br]
 refine ⟨by omega, by rw [List.length_set]; exact a, ?_, by omega⟩
 rw [Nat.add_sub_cancel]
 exact Qec (Qec (Qp4 n) x hA) y hr
theorem Qrs (hx : x < 16) (hy : y < 16) (z : Nat) (s : List Nat) : (parted x A y r u).get (z :: s) = if z = y then (if bytesOf (r.extract 1 r.size) = s then some u else none) else if z = x then A.get s else none := by
 unfold parted
 have a : (none16.set x A).length = 16 := by rw [List.length_set]; exact Qcz
 rw [Qlk a hy, Qbs, Qlk Qcz hx, Qgk, Qdj, Qgl]
end
variable {e : Nd} {u : ByteArray}
theorem Qzf {A : Nd} {N y : Nat} (hr : r.size = n) (hN : N < n) (hnib : nib (bytesOf r)) (hu0 : 0 < u.size) (hu1 : u.size <= 100) (hx : x < 16) (hxy : x ≠ y) (hy : (bytesOf (r.extract N r.size))[0]! = y)
  (hA : A.can (n - N - 1)) (hAn : A ≠ .no) (hE : ∀ b z s, b.length = N -> e.get (b ++ z :: s) = if b = (bytesOf r).take N /\ z = x then A.get s else none) :
  (underN (r.extract 0 N) (parted x A y (r.extract N r.size) u)).can n /\ underN (r.extract 0 N) (parted x A y (r.extract N r.size) u) ≠ .no /\
   ∀ s, s.length = n -> (underN (r.extract 0 N) (parted x A y (r.extract N r.size) u)).get s = if s = bytesOf r then some u else e.get s := by
 have D : (r.extract N r.size).size = n - N := by rw [Qa6, hr]
 have k : nib (bytesOf (r.extract N r.size)) := by rw [Qab]; exact fun x hx => hnib x (List.mem_of_mem_drop hx)
 have w := Qcd (r := r.extract N r.size) (by omega)
 rw [hy] at w
 have l : y < 16 := k y (by rw [w]; simp)
 have F : (Nd.leaf ((r.extract N r.size).extract 1 (r.extract N r.size).size) u).can (n - N - 1) := by
  rw [can_leaf]
  refine ⟨by rw [Qa6, D], ?_, hu0, hu1⟩
  rw [Qab]
  exact fun x hx => k x (List.mem_of_mem_drop hx)
 have p := Qrr (r := r.extract N r.size) hx l hxy hA hAn F
 rw [show n - N - 1 + 1 = n - N by omega] at p
 have j : (r.extract 0 N).size = N := Qbe r N (by omega)
 have t : bytesOf (r.extract 0 N) = (bytesOf r).take N := Qb2 r N
 have C : nib (bytesOf (r.extract 0 N)) := by rw [t]; exact fun x hx => hnib x (List.mem_of_mem_take hx)
 have d := Qk1 (q := r.extract 0 N) (ks := (none16.set x A).set y (.leaf ((r.extract N r.size).extract 1 (r.extract N r.size).size) u)) p C
 rw [j, show n - N + N = n by omega] at d
 refine ⟨d.1, d.2, fun s G => ?_⟩
 have c : bytesOf r = (bytesOf r).take N ++ y :: bytesOf ((r.extract N r.size).extract 1 (r.extract N r.size).size) := by
  rw [<- w, Qab, List.take_append_drop]
 obtain ⟨b, z, o, rfl, v⟩ : ∃ b z o, s = b ++ z :: o /\ b.length = N := by
  refine ⟨s.take N, s[N]'(by omega), s.drop (N + 1), ?_, by rw [List.length_take]; omega⟩
  rw [<- List.drop_eq_getElem_cons, List.take_append_drop]
 rw [Qg3, j, t, List.take_left' v, List.drop_left' v, hE b z o v, Qrs hx l]
 generalize bytesOf ((r.extract N r.size).extract 1 (r.extract N r.size).size) = tl at c ⊢
 have E : ((bytesOf r).take N).length = N := by rw [List.length_take, bytesOf_length]; omega
 generalize (bytesOf r).take N = a at c E ⊢
 rw [c]
 by_cases f : b = a
 ·subst f
  rw [if_pos rfl]
  by_cases m : z = y
  ·subst m
   rw [if_pos rfl]
   by_cases g : tl = o
   ·rw [if_pos g, g, if_pos rfl]
   ·rw [if_neg g, if_neg (fun h => g (by simpa using (List.append_cancel_left h).symm)), if_neg (fun h => hxy h.2.symm)]
  ·have B : ¬ (b ++ z :: o = b ++ y :: tl) := fun h => m (by have := List.append_cancel_left h; simp only [List.cons.injEq] at this; exact this.1)
   rw [if_neg m, if_neg B]
   by_cases i : z = x
   ·rw [if_pos i, if_pos ⟨rfl, i⟩]
   ·rw [if_neg i, if_neg (fun h => i h.2)]
 ·rw [if_neg f, if_neg (fun h => f (List.append_inj_left h (by omega))), if_neg (fun h => f h.1)]
structure Grown (e X : Nd) (r u : ByteArray) : Prop where
 can : X.can r.size
 some : X ≠ .no
 br : e.isBr = true -> X.isBr = true
 get : ∀ s, s.length = r.size -> X.get s = if s = bytesOf r then Option.some u else e.get s
theorem Qgm {p r : List Nat} {N : Nat} (h : p.take N = r.take N) (hN : N < p.length) : p = r.take N ++ p[N] :: p.drop (N + 1) := by
 rw [<- h, <- List.drop_eq_getElem_cons, List.take_append_drop]
theorem QAo (he : e.can r.size) (hn : (e.next r).1 = .no) (hnib : nib (bytesOf r)) (hu0 : 0 < u.size) (hu1 : u.size <= 100) : Grown e (e.putAt r u) r u := by
 cases e with
 | stub g => exact absurd rfl (Qbt he g)
 | no =>
  refine ⟨can_leaf.2 ⟨rfl, hnib, hu0, hu1⟩, by simp [Nd.putAt], by simp [Nd.isBr], fun s _ => ?_⟩
  rw [show Nd.putAt .no r u = .leaf r u from rfl, Qbs, Qgl]
  by_cases h : bytesOf r = s
  ·rw [if_pos h, if_pos h.symm]
  ·rw [if_neg h, if_neg (Ne.symm h)]
 | br ks =>
  rw [can_br] at he
  have M := he.1
  have S := Qcd M
  have c : (bytesOf r)[0]! < 16 := hnib _ (by rw [S]; simp)
  have H : ks.getD ((bytesOf r)[0]!) .no = .no := hn
  rw [Nd.putAt]
  generalize (bytesOf r)[0]! = x at S c H ⊢
  have hc := Qlh he.2.1 c (Nd.leaf (r.extract 1 r.size) u)
  rw [H, Qq8, Qcc (t := .leaf _ _) (by simp)] at hc
  have X : (Nd.leaf (r.extract 1 r.size) u).can (r.size - 1) := by
   rw [can_leaf]
   exact ⟨by rw [Qa6], by rw [Qab]; exact fun x J => hnib x (List.mem_of_mem_drop J), hu0, hu1⟩
  refine ⟨can_br.2 ⟨M, by rw [List.length_set]; exact he.2.1, Qec he.2.2.1 x X, by omega⟩, by simp, fun _ => rfl, fun s hs => ?_⟩
  cases s with
  | nil => simp at hs; omega
  | cons z s =>
   rw [Qlk he.2.1 c, Qbs, S]
   by_cases V : z = x
   ·subst V
    rw [if_pos rfl]
    by_cases B : bytesOf (r.extract 1 r.size) = s
    ·rw [if_pos B, B, if_pos rfl]
    ·rw [if_neg B, if_neg (fun h => B (by simp only [List.cons.injEq] at h; exact h.2.symm)), Qgk, H, Qgl]
   ·rw [if_neg V, if_neg (fun h => V (by simp only [List.cons.injEq] at h; exact h.1))]
 | leaf p v =>
  rw [can_leaf] at he
  rw [Nd.putAt]
  have K := Ql1 (bytesOf p) (bytesOf r)
  have i := Qf8 (bytesOf p) (bytesOf r)
  have f := Qos (bytesOf p) (bytesOf r)
  rw [bytesOf_length, bytesOf_length] at K f
  generalize comm (bytesOf p) (bytesOf r) = N at K i f ⊢
  by_cases W : N = r.size
  ·rw [if_pos W]
   have Z : bytesOf p = bytesOf r := by
    rw [List.take_of_length_le (by rw [bytesOf_length]; omega), List.take_of_length_le (by rw [bytesOf_length]; omega)] at i
    exact i
   refine ⟨can_leaf.2 ⟨rfl, hnib, hu0, hu1⟩, by simp, by simp [Nd.isBr], fun s _ => ?_⟩
   rw [Qbs, Qbs, Z]
   by_cases h : bytesOf r = s
   ·rw [if_pos h, if_pos h.symm]
   ·rw [if_neg h, if_neg (Ne.symm h), if_neg h]
  ·rw [if_neg W]
   have E : N < r.size := by omega
   have d : N < (bytesOf p).length := by rw [bytesOf_length]; omega
   have y : N < (bytesOf r).length := by rw [bytesOf_length]; omega
   have A := Qgm i d
   rw [getElem!_pos (bytesOf p) N d]
   have n := f (by omega) (by omega)
   rw [List.getElem?_eq_getElem d, List.getElem?_eq_getElem y] at n
   have c : (bytesOf p)[N] < 16 := he.2.1 _ (List.getElem_mem _)
   have w : (bytesOf (r.extract N r.size))[0]! = (bytesOf r)[N] := by
    rw [Qab, getElem!_pos _ 0 (by rw [List.length_drop]; omega), List.getElem_drop]
    simp
   have o : (bytesOf p)[N] ≠ (bytesOf r)[N] := fun h => n (by rw [h])
   rw [w]
   generalize (bytesOf p)[N] = x at A c o ⊢
   have I : (bytesOf p).drop (N + 1) = bytesOf (p.extract (N + 1) p.size) := (Qab p (N + 1)).symm
   rw [I] at A
   have D : (Nd.leaf (p.extract (N + 1) p.size) v).can (r.size - N - 1) := by
    rw [can_leaf]
    exact ⟨by rw [Qa6]; omega, by rw [Qab]; exact fun x J => he.2.1 x (List.mem_of_mem_drop J), he.2.2⟩
   obtain ⟨j, l, O⟩ := Qzf (e := .leaf p v) rfl E hnib hu0 hu1 c o w D (by simp) (fun b z s C => by
    rw [Qbs, Qbs, A]
    have F : ((bytesOf r).take N).length = N := by rw [List.length_take, bytesOf_length]; omega
    generalize (bytesOf r).take N = a at F ⊢
    generalize bytesOf (p.extract (N + 1) p.size) = tl
    by_cases G : b = a /\ z = x
    ·obtain ⟨rfl, rfl⟩ := G
     have R : b = b /\ z = z := ⟨rfl, rfl⟩
     rw [if_pos R]
     by_cases h : tl = s
     ·have m : b ++ z :: tl = b ++ z :: s := by rw [h]
      rw [if_pos h, if_pos m]
     ·have m : ¬ (b ++ z :: tl = b ++ z :: s) := fun k => h (by simpa using List.append_cancel_left k)
      rw [if_neg h, if_neg m]
    ·have m : ¬ (a ++ x :: tl = b ++ z :: s) := fun k => G (by
      have P := List.append_inj_left k (by omega)
      subst P
      have := List.append_cancel_left k
      simp only [List.cons.injEq] at this
      exact ⟨rfl, this.1.symm⟩)
     rw [if_neg G, if_neg m])
   exact ⟨j, l, by simp [Nd.isBr], O⟩
 | ext p t =>
  have Y : ¬ begins p r := fun C => by
   rw [Nd.next, if_pos C] at hn
   rw [Qdg] at he
   exact Quz he.2.2.2.2 hn
  rw [Qdg] at he
  rw [Nd.putAt]
  have Q := Qjr Y
  have i := Qf8 (bytesOf p) (bytesOf r)
  have f := Qos (bytesOf p) (bytesOf r)
  rw [bytesOf_length, bytesOf_length] at f
  generalize comm (bytesOf p) (bytesOf r) = N at Q i f ⊢
  have E : N < r.size := by omega
  have d : N < (bytesOf p).length := by rw [bytesOf_length]; omega
  have y : N < (bytesOf r).length := by rw [bytesOf_length]; omega
  have A := Qgm i d
  rw [getElem!_pos (bytesOf p) N d]
  have n := f (by omega) (by omega)
  rw [List.getElem?_eq_getElem d, List.getElem?_eq_getElem y] at n
  have c : (bytesOf p)[N] < 16 := he.2.2.1 _ (List.getElem_mem _)
  have w : (bytesOf (r.extract N r.size))[0]! = (bytesOf r)[N] := by
   rw [Qab, getElem!_pos _ 0 (by rw [List.length_drop]; omega), List.getElem_drop]
   simp
  have o : (bytesOf p)[N] ≠ (bytesOf r)[N] := fun h => n (by rw [h])
  rw [w]
  generalize (bytesOf p)[N] = x at A c o ⊢
  have I : (bytesOf p).drop (N + 1) = bytesOf (p.extract (N + 1) p.size) := (Qab p (N + 1)).symm
  rw [I] at A
  have U : nib (bytesOf (p.extract (N + 1) p.size)) := by rw [Qab]; exact fun x J => he.2.2.1 x (List.mem_of_mem_drop J)
  obtain ⟨ks, rfl⟩ : ∃ ks, t = .br ks := by
   cases t with
   | br ks => exact ⟨ks, rfl⟩
   | _ => simp [Nd.isBr] at he
  have D := Qk1 (q := p.extract (N + 1) p.size) he.2.2.2.1 U
  rw [Qa6, show r.size - p.size + (p.size - (N + 1)) = r.size - N - 1 by omega] at D
  obtain ⟨j, l, O⟩ := Qzf (e := .ext p (.br ks)) rfl E hnib hu0 hu1 c o w D.1 D.2 (fun b z s C => by
   rw [Qdy, Qg3, Qa6]
   have F : ((bytesOf r).take N).length = N := by rw [List.length_take, bytesOf_length]; omega
   have L : p.size = N + (1 + (p.size - (N + 1))) := by omega
   have T : ((b ++ z :: s).take p.size = bytesOf p) ↔ ((b = (bytesOf r).take N /\ z = x) /\ s.take (p.size - (N + 1)) = bytesOf (p.extract (N + 1) p.size)) := by
    rw [A]
    generalize (bytesOf r).take N = a at F ⊢
    generalize bytesOf (p.extract (N + 1) p.size) = tl
    rw [L, List.take_add, List.take_left' C, List.drop_left' C, Nat.add_comm 1, List.take_succ_cons]
    constructor
    ·intro h
     have P := List.append_inj_left h (by omega)
     subst P
     have := List.append_cancel_left h
     simp only [List.cons.injEq] at this
     refine ⟨⟨rfl, this.1⟩, ?_⟩
     rw [<- this.2]
     congr 1
     omega
    ·rintro ⟨⟨rfl, rfl⟩, h⟩
     rw [<- h]
     congr 3
     omega
   have hd : (b ++ z :: s).drop p.size = s.drop (p.size - (N + 1)) := by
    conv => lhs; rw [L, <- List.drop_drop, List.drop_left' C, Nat.add_comm 1, List.drop_succ_cons]
   rw [hd]
   by_cases j : (b = (bytesOf r).take N /\ z = x)
   ·rw [if_pos j]
    by_cases l : s.take (p.size - (N + 1)) = bytesOf (p.extract (N + 1) p.size)
    ·rw [if_pos l, if_pos (T.2 ⟨j, l⟩)]
    ·rw [if_neg l, if_neg (fun h => l (T.1 h).2)]
   ·rw [if_neg j, if_neg (fun h => j (T.1 h).1)])
  exact ⟨j, l, by simp [Nd.isBr], O⟩
theorem Qfi (ht : t.can r.size) (hn : (t.next r).1 ≠ .no) : t.inner = true /\ (t.next r).2 <= r.size /\ 0 < (t.next r).2 /\ (t.next r).1.can (r.size - (t.next r).2) /\ (t.isBr = false -> (t.next r).1.isBr = true) /\ ∀ s : List Nat, s.take (t.next r).2 = (bytesOf r).take (t.next r).2 -> t.get s = (t.next r).1.get (s.drop (t.next r).2) := by
 cases t with
 | ext p t =>
  rw [Qdg] at ht
  rw [Nd.next] at hn ⊢
  by_cases b : begins p r
  ·rw [if_pos b]
   refine ⟨rfl, by omega, ht.1, ht.2.2.2.1, fun _ => ht.2.2.2.2, fun s a => ?_⟩
   unfold begins at b
   rw [b] at a
   rw [Qdy, if_pos a]
  ·rw [if_neg b] at hn
   exact absurd rfl hn
 | br ks =>
  rw [can_br] at ht
  rw [Nd.next] at hn ⊢
  refine ⟨rfl, ht.1, by omega, Qcj ht.2.2.1 _, fun h => by simp [Nd.isBr] at h, fun s a => ?_⟩
  have c := Qcd ht.1
  rw [c, List.take_succ_cons, List.take_zero] at a
  cases s with
  | nil => simp at a
  | cons z s =>
   rw [List.take_succ_cons, List.take_zero] at a
   simp only [List.cons.injEq, and_true] at a
   rw [Qgk, a]
   rfl
 | _ => exact absurd rfl hn
theorem Qyb {c : Nd} {K : Nat} (ht : t.can r.size) (hn : (t.next r).1 ≠ .no) (hK : (t.next r).2 = K) (hnib : nib (bytesOf r)) (h64 : r.size <= 64) (hc : c.can (r.size - K)) (hcb : t.isBr = false -> c ≠ .no) :
  (t.lead (r.extract 0 K) c).can r.size /\ t.lead (r.extract 0 K) c ≠ .no /\ (c ≠ .no -> t.isBr = true -> (t.lead (r.extract 0 K) c).isBr = true) /\ t.leads (r.extract 0 K) c /\
   ∀ s : List Nat, (t.lead (r.extract 0 K) c).get s = if s.take K = (bytesOf r).take K then c.get (s.drop K) else t.get s := by
 have o := Qfi ht hn
 rw [hK] at o
 have w : (r.extract 0 K).size = K := Qbe r K o.2.1
 have j : bytesOf (r.extract 0 K) = (bytesOf r).take K := Qb2 r K
 have v : nib (bytesOf (r.extract 0 K)) := by rw [j]; exact fun x G => hnib x (List.mem_of_mem_take G)
 cases t with
 | ext p t =>
  have b := hcb rfl
  have C := Qbt hc
  have h1 := Qed hc b v
  rw [w, show r.size - K + K = r.size by omega] at h1
  refine ⟨h1.1, h1.2, fun _ h => by simp [Nd.isBr] at h, ⟨b, Qi6 hc b v (by omega)⟩, fun s => ?_⟩
  rw [Nd.lead, Qi5 b C, w, j]
  by_cases h : s.take K = (bytesOf r).take K
  ·rw [if_pos h, if_pos h]
  ·rw [if_neg h, if_neg h, Qdy]
   rw [Nd.next] at hn hK
   by_cases e : begins p r
   ·rw [if_pos e] at hK
    have hK : p.size = K := hK
    subst hK
    unfold begins at e
    rw [e] at h
    rw [if_neg h]
   ·rw [if_neg e] at hn
    exact absurd rfl hn
 | br ks =>
  have B : K = 1 := hK.symm
  subst B
  rw [can_br] at ht
  have u : (bytesOf (r.extract 0 1))[0]! = (bytesOf r)[0]! := by
   have h1 : 0 < (bytesOf r).length := by rw [bytesOf_length]; exact ht.1
   rw [j, getElem!_pos _ 0 (by rw [List.length_take]; omega), getElem!_pos (bytesOf r) 0 h1, List.getElem_take]
  have A := Qcd ht.1
  have d : (bytesOf r)[0]! < 16 := hnib _ (by rw [A]; simp)
  have n : ks.getD ((bytesOf r)[0]!) .no ≠ .no := hn
  rw [Nd.lead, u]
  have m : (Nd.br ks).leads (r.extract 0 1) c ↔ (0 < (r.extract 0 1).size /\ (bytesOf r)[0]! < 16 /\ c.ok /\ (cntN (ks.set ((bytesOf r)[0]!) c) 16 = 1 -> ((ks.set ((bytesOf r)[0]!) c).getD (lastN (ks.set ((bytesOf r)[0]!) c) 16) .no).room (textB [lastN (ks.set ((bytesOf r)[0]!) c) 16]))) := by
   rw [Nd.leads, u]
  rw [m]
  clear m
  generalize (bytesOf r)[0]! = x at A d n ⊢
  have F : (bytesOf r).take 1 = [x] := by rw [A, List.take_succ_cons, List.take_zero]
  rw [F]
  have f := Qlh ht.2.1 d c
  rw [Qcc n] at f
  have a := Qec ht.2.2.1 x hc
  have g : (ks.set x c).length = 16 := by rw [List.length_set]; exact ht.2.1
  have i : ∀ s : List Nat, (Nd.br (ks.set x c)).get s = if s.take 1 = [x] then c.get (s.drop 1) else (Nd.br ks).get s := fun s => by
   cases s with
   | nil => rw [if_neg (by simp), Qg2, Qg2]
   | cons z s =>
    rw [Qlk ht.2.1 d, List.take_succ_cons, List.take_zero, List.drop_succ_cons, List.drop_zero]
    by_cases l : z = x
    ·rw [if_pos l, if_pos (by rw [l])]
    ·rw [if_neg l, if_neg (by simpa using l)]
  generalize hks : ks.set x c = ks' at f a g i ⊢
  have E := (Nd.can_ok c _ hc (by omega)).1
  refine ⟨?_, ?_, ?_, ⟨by omega, d, E, ?_⟩, fun s => by rw [Qrq g (Qp3 a)]; exact i s⟩
  ·unfold brLead
   split
   ·rename_i h1
    have D := Qea ks' 16 (by omega)
    have e := Qed (q := textB [lastN ks' 16]) (Qcj a (lastN ks' 16)) (Qgy (by omega)) (by rw [Qdi (by omega)]; intro y k; simp at k; omega)
    rw [Qlj, show r.size - 1 + 1 = r.size by omega] at e
    exact e.1
   ·exact can_br.2 ⟨ht.1, g, a, by omega⟩
  ·unfold brLead
   split
   ·rename_i h1
    have D := Qea ks' 16 (by omega)
    exact (Qed (q := textB [lastN ks' 16]) (Qcj a (lastN ks' 16)) (Qgy (by omega)) (by rw [Qdi (by omega)]; intro y k; simp at k; omega)).2
   ·simp
  ·intro b _
   rw [Qcc b] at f
   unfold brLead
   rw [if_neg (by omega)]
   rfl
  ·intro h1
   have D := Qea ks' 16 (by omega)
   exact Qi6 (Qcj a (lastN ks' 16)) (Qgy (by omega)) (by rw [Qdi (by omega)]; intro y k; simp at k; omega) (by rw [Qlj]; omega)
 | _ => exact absurd rfl hn
variable {r' : ByteArray}
theorem QAp {l : List (Nd × ByteArray)} (h : WayTo t r l e r') (u : ByteArray) (hu0 : 0 < u.size) (hu1 : u.size <= 100) : ∀ (_ : t.can r.size) (_ : nib (bytesOf r)) (_ : r.size <= 64), Grown t (endN l (e.putAt r' u)) r u /\ endOK l (e.putAt r' u) /\ nib (bytesOf r') /\ r'.size <= 64 /\ (∀ g, e ≠ .stub g) := by
 induction h with
 | @stop t r hn =>
  intro j a c
  exact ⟨QAo j hn a hu0 hu1, trivial, a, c, Qbt j⟩
 | @go t r l e r' hn _ ih =>
  intro j a c
  obtain ⟨E, F, G, y, H, z⟩ := Qfi j hn
  obtain ⟨g, o, A, B, C⟩ := ih (by rw [Qa6]; exact y) (by rw [Qab]; exact fun x w => a x (List.mem_of_mem_drop w)) (by rw [Qa6]; omega)
  have d := g.can
  rw [Qa6] at d
  obtain ⟨k, m, n, p, q⟩ := Qyb j hn rfl a c d (fun _ => g.some)
  refine ⟨⟨k, m, fun v => n g.some v, fun s D => ?_⟩, ⟨p, o⟩, A, B, C⟩
  rw [endN, q]
  by_cases i : s.take (t.next r).2 = (bytesOf r).take (t.next r).2
  ·rw [if_pos i, g.get _ (by rw [List.length_drop, Qa6]; omega), Qab, z s i]
   by_cases b : s = bytesOf r
   ·rw [if_pos b, if_pos (by rw [b])]
   ·have f : ¬ s.drop (t.next r).2 = (bytesOf r).drop (t.next r).2 := fun h => b (by rw [<- List.take_append_drop (t.next r).2 s, i, h, List.take_append_drop])
    rw [if_neg b, if_neg f]
  ·have f : ¬ s = bytesOf r := fun h => i (by rw [h])
   rw [if_neg i, if_neg f]
theorem Qv0 : ∀ (n : Nat) (t : Nd) (r : ByteArray), r.size <= n -> t.can r.size -> ∃ l e r', WayTo t r l e r' /\ l.length <= r.size
 | n, t, r, hn, ht => by
  by_cases h : (t.next r).1 = .no
  ·exact ⟨[], t, r, .stop h, Nat.zero_le _⟩
  ·obtain ⟨k1, k2, k3, k4, _, _⟩ := Qfi ht h
   match n, hn with
   | 0, hn => omega
   | n + 1, hn =>
    obtain ⟨l, e, r', hw, hl⟩ := Qv0 n (t.next r).1 (r.extract (t.next r).2 r.size) (by rw [Qa6]; omega) (by rw [Qa6]; exact k4)
    rw [Qa6] at hl
    exact ⟨_, e, r', .go h hw, by simp; omega⟩
theorem QAq {l : List (Nd × ByteArray)} (h : WayTo t r l e r') : ∀ (_ : t.can r.size), t.get (bytesOf r) = e.get (bytesOf r') /\ e.can r'.size /\ (e.next r').1 = .no /\ (l = [] -> e = t /\ r' = r) := by
 induction h with
 | @stop t r hn => exact fun a => ⟨rfl, a, hn, fun _ => ⟨rfl, rfl⟩⟩
 | @go t r l e r' hn _ ih =>
  intro a
  obtain ⟨_, i, _, f, _, g⟩ := Qfi a hn
  obtain ⟨b, c, d, _⟩ := ih (by rw [Qa6]; exact f)
  refine ⟨?_, c, d, fun h => by simp at h⟩
  rw [g _ rfl, <- b, Qab]
end Go.Proofs.YtakidhihbgfjlaaGreatDoor
