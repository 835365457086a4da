/-
  Parts of a tree (pure): which paths a tree sees: their ways meet no stub.
-/
import Derived.Test.YtakidhihbgfjlaaGreatDoorSxGbG
import Derived.Test.YtakidhihbgfjlaaGreatDoorSxRtG
import Derived.Test.YtakidhihbgfjlaaGreatDoorSxVbG
import Derived.RangeFuncNested
import Derived.RangeFuncBound
import Derived.Test.YtakidhihbgfjlaaGreatDoorSxVoG
namespace Go.Proofs.YtakidhihbgfjlaaGreatDoor
open Go.RowKit
set_option maxRecDepth 100000
set_option maxHeartbeats 25600000
mutual
def Nd.sees : Nd -> List Nat -> Prop
 | .no, _ => True
 | .leaf _ _, _ => True
 | .ext p t, r => r.take p.size = bytesOf p -> t.sees (r.drop p.size)
 | .br ks, r => match r with
  | [] => True
  | x :: r => seesAt ks x r
 | .stub _, _ => False
def seesAt : List Nd -> Nat -> List Nat -> Prop
 | [], _, _ => True
 | k :: _, 0, r => k.sees r
 | _ :: ks, x + 1, r => seesAt ks x r
end
theorem Qhx (r : List Nat) : Nd.no.sees r := by rw [Nd.sees]; trivial
theorem Qna (p v : ByteArray) (r : List Nat) : (Nd.leaf p v).sees r := by rw [Nd.sees]; trivial
theorem Qfh (p : ByteArray) (t : Nd) (r : List Nat) : (Nd.ext p t).sees r ↔ (r.take p.size = bytesOf p -> t.sees (r.drop p.size)) := by rw [Nd.sees]
theorem Qdx (h : List Nat) (r : List Nat) : ¬ (Nd.stub h).sees r := by rw [Nd.sees]; exact fun h => h
theorem Qro (ks : List Nd) (x : Nat) (r : List Nat) : seesAt ks x r ↔ (ks.getD x .no).sees r := by
 induction ks generalizing x with
 | nil => rw [seesAt]; simp [Nd.sees]
 | cons k ks ih =>
  cases x with
  | zero => rw [seesAt]; rfl
  | succ x => rw [seesAt, ih]; rfl
theorem Qhy (ks : List Nd) (x : Nat) (r : List Nat) : (Nd.br ks).sees (x :: r) ↔ (ks.getD x .no).sees r := by
 rw [Nd.sees]
 exact Qro ks x r
theorem Qhz (ks : List Nd) : (Nd.br ks).sees [] := by rw [Nd.sees]; trivial
theorem WayTo.sees {a : Nd} {r : ByteArray} {l : List (Nd × ByteArray)} {e : Nd} {r' : ByteArray} (h : WayTo a r l e r') : a.fits r.size -> a.sees (bytesOf r) -> e.sees (bytesOf r') := by
 induction h with
 | stop => exact fun _ h => h
 | @go t r l e r' hn hw ih =>
  intro b d
  cases t with
  | no => exact absurd rfl hn
  | leaf _ _ => exact absurd rfl hn
  | stub _ => exact absurd rfl hn
  | ext p t =>
   by_cases f : begins p r
   ·have c : (Nd.ext p t).next r = (t, p.size) := if_pos f
    rw [Nd.fits] at b
    rw [Qfh] at d
    refine ih ?_ ?_
    ·rw [c, Qa6]
     exact b.2.2
    ·rw [c, Qab]
     exact d f
   ·have c : (Nd.ext p t).next r = (.no, 0) := if_neg f
    rw [c] at hn
    exact absurd rfl hn
  | br ks =>
   rw [Nd.fits] at b
   have g := Qcd b.1
   rw [g, Qhy] at d
   refine ih ?_ d
   rw [Qa6]
   exact Qmo b.2 _
theorem Qpy (q : ByteArray) : behP [] q = [] := rfl
variable {n : Nat} {s p s1 : ByteArray}
theorem unTk (h : rdTk n s = .ok (p, s1)) : bytesOf s = bytesOf p ++ bytesOf s1 /\ (bytesOf p).length = n := by
 have k := (Qhp h).1
 have j := bytesOf_length s
 have g := Qao s
 have i : textB ((bytesOf s).take n ++ (bytesOf s).drop n) = s := by rw [List.take_append_drop, Qb0]
 have b : ∀ x ∈ (bytesOf s).take n ++ (bytesOf s).drop n, x < 256 := by rw [List.take_append_drop]; exact g
 have a := Qe0 _ _ b
 rw [i, List.length_take, Nat.min_eq_left (by omega), h] at a
 injection a with a
 injection a with h3 h4
 obtain ⟨c, d⟩ := Qln b
 have e : bytesOf p = (bytesOf s).take n := by rw [h3, Qa5 c]
 have f : bytesOf s1 = (bytesOf s).drop n := by rw [h4, Qa5 d]
 rw [e, f, List.take_append_drop, List.length_take]
 exact ⟨rfl, by omega⟩
theorem unNm (h : rdNm s = .ok (n, s1)) : bytesOf s = n :: bytesOf s1 := by
 have f := Qc2 h
 have d := bytesOf_length s
 have e := Qb0 s
 have c := Qao s
 cases he : bytesOf s with
 | nil => rw [he] at d; simp at d; omega
 | cons a r =>
  rw [he] at e c
  have b := Qc3 a r c
  rw [e, h] at b
  injection b with b
  injection b with h3 h4
  rw [h3, h4, Qa5 (Qnk c).2]
theorem Qcx (x : Nat) (l : List Nat) : nibs (x :: l) = x / 16 :: x % 16 :: nibs l := rfl
theorem Qpz : ∀ (l : List Nat) (c : Nat), (c + 1) / 2 = l.length -> (c < (nibs l).length -> (nibs l)[c]! = 0) -> pairsU ((nibs l).take c) = l
 | [], c, h, _ => by
  have : c = 0 := by simp at h; omega
  subst this
  rfl
 | x :: l, 0, h, _ => by simp at h
 | x :: l, 1, h, hz => by
  have hl : l = [] := by
   apply List.eq_nil_of_length_eq_zero
   rw [List.length_cons] at h
   omega
  subst hl
  have a := hz (by simp [Qcx])
  have b : x % 16 = 0 := by simpa [Qcx] using a
  rw [Qcx]
  show [x / 16 * 16] = [x]
  rw [show x / 16 * 16 = x by omega]
 | x :: l, c + 2, h, hz => by
  rw [Qcx, List.take_succ_cons, List.take_succ_cons, pairsU, Qpz l c (by simp at h; omega) (fun d => by
   have := hz (by rw [Qcx]; simp; omega)
   rw [Qcx] at this
   simpa using this), show x / 16 * 16 + x % 16 = x by omega]
theorem Qzd {c : Nat} {m : Nat} {q : ByteArray} (h : wrRead c p m = .ok q) (hp : (bytesOf p).length = (c + 1) / 2) : q.size = c /\ c <= m /\ (∀ x ∈ bytesOf q, x < 16) /\ pairsU (bytesOf q) = bytesOf p := by
 unfold wrRead at h
 split at h
 ·cases h
 ·rename_i hm
  unfold unpF at h
  split at h
  ·cases h
  ·rename_i q' hq
   split at hq
   ·cases hq
   ·rename_i hz
    cases h
    cases hq
    have f := Qsq (Qao p)
    have d : ∀ x ∈ (nibs (bytesOf p)).take c, x < 16 := fun x a => f x (List.mem_of_mem_take a)
    have g := Qbv (bytesOf p)
    rw [Qa5 (fun x a => Nat.lt_of_lt_of_le (d x a) (by omega)), Qaa, List.length_take]
    refine ⟨by omega, by omega, d, Qpz _ c hp.symm fun e => ?_⟩
    by_cases b : (nibs (bytesOf p))[c]! = 0
    ·exact b
    ·exact absurd ⟨e, b⟩ hz
def Od.code : Od -> List Nat
 | .gives t => t.witness true []
 | .ext p => 2 :: p.size :: pairsU (bytesOf p)
 | .br f => [3, f % 256, f / 256]
def Od.good : Od -> Prop
 | .gives t => t.cs
 | .ext p => 0 < p.size /\ p.size <= 63 /\ ∀ x ∈ bytesOf p, x < 16
 | .br f => 2 <= popN 16 f /\ f < 65536
theorem QCn {c : Nat} (h : rdPth s = .ok ((c, p), s1)) : bytesOf s = c :: (bytesOf p ++ bytesOf s1) /\ (bytesOf p).length = (c + 1) / 2 := by
 unfold rdPth at h
 split at h
 ·cases h
 ·rename_i h1
  split at h
  ·cases h
  ·rename_i h2
   cases h
   obtain ⟨a, b⟩ := unTk h2
   rw [unNm h1, a]
   exact ⟨rfl, b⟩
theorem unVl (h : rdVl s = .ok (p, s1)) : bytesOf s = p.size :: (bytesOf p ++ bytesOf s1) := by
 unfold rdVl at h
 split at h
 ·cases h
 ·rename_i h1
  obtain ⟨a, b⟩ := unTk h
  rw [unNm h1, a, <- b, bytesOf_length]
variable {t : Nd}
theorem Qcn (h : t ≠ .no) : t.witness true [] = t.wit true [] := by
 cases t with
 | no => exact absurd rfl h
 | leaf _ _ => simp [Nd.witness, Nd.shw, Nd.pick]
 | ext _ _ => simp [Nd.witness, Nd.shw, Nd.pick]
 | br _ => simp [Nd.witness, Nd.shw, Nd.pick]
 | stub _ => simp [Nd.witness, Nd.shw, Nd.pick]
theorem QCo {l : List Nat} (h : l.length = 2) : ∃ a b, l = [a, b] := by
 match l, h with
 | [a, b], _ => exact ⟨a, b, rfl⟩
variable {s' : ByteArray}
theorem unRd {d : Od} (h : opRd s = .ok (d, s')) : bytesOf s = d.code ++ bytesOf s' /\ d.good := by
 unfold opRd at h
 split at h
 ·cases h
 ·rename_i h1
  cases h
  rw [unNm h1]
  exact ⟨rfl, by rw [Od.good, Nd.cs]; trivial⟩
 ·rename_i h1
  rw [unNm h1]
  unfold opLeaf at h
  split at h
  ·cases h
  ·rename_i h2
   obtain ⟨c, e⟩ := QCn h2
   split at h
   ·cases h
   ·rename_i h3
    have f := unVl h3
    split at h
    ·cases h
    ·rename_i h4
     obtain ⟨i, o, j, k⟩ := Qzd h4 e
     split at h
     ·cases h
     ·rename_i hv
      cases h
      rw [c, f, Od.code, Qcn (by simp), Nd.wit, k, i, Nat.mod_eq_of_lt (by omega)]
      refine ⟨by simp, ?_⟩
      rw [Od.good, Nd.cs]
      exact ⟨⟨by omega, j⟩, by omega, by omega⟩
 ·rename_i h1
  rw [unNm h1]
  unfold opExt at h
  split at h
  ·cases h
  ·rename_i h2
   obtain ⟨c, e⟩ := QCn h2
   split at h
   ·cases h
   ·rename_i h4
    obtain ⟨i, o, j, k⟩ := Qzd h4 e
    split at h
    ·cases h
    ·rename_i hv
     cases h
     rw [c, Od.code, k, i]
     exact ⟨by simp, by omega, by omega, j⟩
 ·rename_i h1
  rw [unNm h1]
  unfold opBr at h
  split at h
  ·cases h
  ·rename_i p s2 h2
   obtain ⟨c, e⟩ := unTk h2
   split at h
   ·cases h
   ·rename_i hv
    cases h
    rw [c]
    have l := Qpw p
    have g := Qao p
    rw [Od.good, Od.code]
    refine ⟨?_, by omega, l⟩
    obtain ⟨a, b, n⟩ := QCo e
    unfold forkF
    rw [n] at g ⊢
    have r := g a (by simp)
    have q := g b (by simp)
    have m : (a + 256 * b) % 256 = a := by omega
    have f : (a + 256 * b) / 256 = b := by omega
    simp [m, f]
 ·rename_i h1
  rw [unNm h1]
  unfold opStub at h
  split at h
  ·cases h
  ·rename_i h2
   obtain ⟨c, e⟩ := unTk h2
   cases h
   rw [c, Od.code, Qcn (by simp), Nd.wit]
   exact ⟨by simp, by rw [Od.good, Nd.cs]; exact ⟨e, Qao _⟩⟩
 ·cases h
def spread : Nat -> Nat -> List Nd -> List Nd
 | 0, _, _ => []
 | n + 1, f, ks => if f % 2 = 1 then ks.headD .no :: spread n (f / 2) ks.tail else .no :: spread n (f / 2) ks
theorem Qg1 : ∀ (n f : Nat) (ks : List Nd), (spread n f ks).length = n
 | 0, _, _ => rfl
 | n + 1, f, ks => by
  rw [spread]
  split
  ·rw [List.length_cons, Qg1]
  ·rw [List.length_cons, Qg1]
variable {ks : List Nd}
theorem Qq0 (h : hasNo (t :: ks) = false) : t ≠ .no /\ hasNo ks = false := by
 cases t with
 | no => cases h
 | _ => exact ⟨by simp, h⟩
theorem Qew : ∀ (n f : Nat) (ks : List Nd), popN n f = ks.length -> hasNo ks = false -> some_ (spread n f ks) = ks
 | 0, f, ks, h, _ => by
  have : ks = [] := List.eq_nil_of_length_eq_zero (by rw [<- h]; rfl)
  rw [this]
  rfl
 | n + 1, f, ks, h, hn => by
  rw [popN] at h
  rw [spread]
  split
  ·rename_i hf
   cases ks with
   | nil => simp at h; omega
   | cons t ks =>
    obtain ⟨h1, h2⟩ := Qq0 hn
    show some_ (t :: spread n (f / 2) ks) = t :: ks
    rw [Qbi h1, Qew n (f / 2) ks (by simp at h; omega) h2]
  ·rename_i hf
   show some_ (spread n (f / 2) ks) = ks
   exact Qew n (f / 2) ks (by omega) hn
theorem Qex : ∀ (n f i : Nat) (ks : List Nd), popN n f = ks.length -> hasNo ks = false -> f < 2 ^ n -> forkB (spread n f ks) i = 2 ^ i * f
 | 0, f, i, ks, _, _, h => by
  have : f = 0 := by simp at h; omega
  subst this
  rfl
 | n + 1, f, i, ks, h, hn, hf => by
  rw [popN] at h
  rw [spread]
  have hf2 : f / 2 < 2 ^ n := by rw [Nat.pow_succ] at hf; omega
  have hp : 2 ^ (i + 1) = 2 ^ i * 2 := Nat.pow_succ ..
  split
  ·rename_i hf1
   cases ks with
   | nil => simp at h; omega
   | cons t ks =>
    obtain ⟨h1, h2⟩ := Qq0 hn
    have hk := Qex n (f / 2) (i + 1) ks (by simp at h; omega) h2 hf2
    have e : forkB (t :: spread n (f / 2) ks) i = 2 ^ i + forkB (spread n (f / 2) ks) (i + 1) := by
     cases t with
     | no => exact absurd rfl h1
     | _ => rfl
    show forkB (t :: spread n (f / 2) ks) i = _
    rw [e, hk, hp, Nat.mul_assoc]
    have : f = 1 + 2 * (f / 2) := by omega
    conv => rhs; rw [this, Nat.mul_add, Nat.mul_one]
  ·rename_i hf1
   rw [Qic, Qex n (f / 2) (i + 1) ks (by omega) hn hf2, hp, Nat.mul_assoc]
   have : f = 2 * (f / 2) := by omega
   conv => rhs; rw [this]
def wAll (ts : List Nd) : List Nat := ts.flatMap fun t => t.witness true []
theorem Qi0 (a b : List Nd) : wAll (a ++ b) = wAll a ++ wAll b := by unfold wAll; rw [List.flatMap_append]
theorem Qnb : ∀ (ks : List Nd) (i : Nat), wits ks i true [] = wAll (some_ ks)
 | [], _ => rfl
 | t :: ks, i => by
  rw [Qe4, Qpy, Qnb ks (i + 1)]
  by_cases h : t = .no
  ·subst h
   rfl
  ·rw [Qbi h]
   show _ = t.witness true [] ++ wAll (some_ ks)
   congr 1
   cases t with
   | no => exact absurd rfl h
   | _ => rfl
theorem Quy : ∀ (ks : List Nd), (∀ t ∈ some_ ks, t.cs) -> css ks
 | [], _ => by rw [css]; trivial
 | t :: ks, h => by
  rw [css]
  by_cases hn : t = .no
  ·subst hn
   exact ⟨by rw [Nd.cs]; trivial, Quy ks h⟩
  ·rw [Qbi hn] at h
   exact ⟨h t (by simp), Quy ks fun x hx => h x (by simp [hx])⟩
theorem QCp {d : Od} (hg : d.good) (hl : ks.length = d.takes) (hc : ∀ k ∈ ks, k.cs) (h : d.make ks = .ok t) : t.cs /\ t.witness true [] = wAll ks ++ d.code := by
 cases d with
 | gives u =>
  have : ks = [] := List.eq_nil_of_length_eq_zero hl
  subst this
  cases h
  exact ⟨hg, rfl⟩
 | ext p =>
  match ks, hl with
  | [k], _ =>
   rw [Od.make] at h
   split at h
   ·rename_i hs
    cases h
    have b : k.stands = true := hs
    have n : k ≠ .no := fun e => by rw [e] at b; cases b
    rw [Od.good] at hg
    refine ⟨by rw [Nd.cs]; exact ⟨hg.1, hg.2.1, hg.2.2, hc k (by simp), b⟩, ?_⟩
    rw [Qcn (by simp)]
    show (Nd.ext p k).wit true [] = _
    rw [Nd.wit_ext, Qpy]
    have e : k.shw true [] = k.witness true [] := by
     cases k with
     | no => exact absurd rfl n
     | _ => rfl
    rw [e]
    simp [wAll, Od.code]
   ·cases h
 | br f =>
  rw [Od.make] at h
  split at h
  ·cases h
  ·rename_i hn
   cases h
   have i : hasNo ks = false := by simpa using hn
   have a : popN 16 f = ks.length := hl.symm
   rw [Od.good] at hg
   have c := Qew 16 f ks a i
   have l := Qex 16 f 0 ks a i (by simpa using hg.2)
   have m := Qg1 16 f ks
   have g := Qnm (spread 16 f ks) 0 (List.replicate 16 .no) (by rw [m]) (by simp) (fun j _ g => by rw [List.getElem?_replicate]; simp [g])
   rw [Nat.pow_zero, Nat.one_mul] at l
   rw [c, l, List.take_zero, List.nil_append] at g
   rw [g]
   refine ⟨?_, ?_⟩
   ·rw [Nd.cs, c]
    exact ⟨m, Quy _ (by rw [c]; exact hc), by rw [<- a]; exact hg.1⟩
   ·rw [Qcn (by simp), Nd.wit, Qnb, c, l, Od.code]
theorem QCq {ts ts' : List Nd} (hc : ∀ t ∈ ts, t.cs) (h : stepO s ts = .ok (ts', s')) : (∀ t ∈ ts', t.cs) /\ wAll ts' ++ bytesOf s' = wAll ts ++ bytesOf s := by
 unfold stepO at h
 split at h
 ·cases h
 ·rename_i d s1 h1
  obtain ⟨b, f⟩ := unRd h1
  split at h
  ·cases h
  ·rename_i hl
   split at h
   ·cases h
   ·rename_i t h2
    cases h
    obtain ⟨i, j⟩ := QCp f (by rw [List.length_drop]; omega) (fun k g => hc k (List.mem_of_mem_drop g)) h2
    refine ⟨fun x a => ?_, ?_⟩
    ·rcases List.mem_append.1 a with a | a
     ·exact hc x (List.mem_of_mem_take a)
     ·rw [List.mem_singleton] at a
      rw [a]
      exact i
    ·have e : wAll ts = wAll (ts.take (ts.length - d.takes)) ++ wAll (ts.drop (ts.length - d.takes)) := by rw [<- Qi0, List.take_append_drop]
     have c : wAll [t] = t.witness true [] := by simp [wAll]
     rw [Qi0, e, b, c, j]
     simp
theorem QDo (L : Nat) : ∀ (n : Nat) (s : ByteArray) (ts ts' : List Nd), s.size <= n -> (∀ t ∈ ts, t.cs) -> runO L s.size s ts = .ok ts' -> (∀ t ∈ ts', t.cs) /\ wAll ts' = wAll ts ++ bytesOf s := by
 intro n
 induction n with
 | zero =>
  intro s ts ts' j b h
  have a : s.size = 0 := by omega
  rw [Qch a] at h
  cases h
  have : bytesOf s = [] := List.eq_nil_of_length_eq_zero (by rw [bytesOf_length, a])
  exact ⟨b, by rw [this, List.append_nil]⟩
 | succ n ih =>
  intro s ts ts' j b h
  by_cases a : s.size = 0
  ·rw [Qch a] at h
   cases h
   have : bytesOf s = [] := List.eq_nil_of_length_eq_zero (by rw [bytesOf_length, a])
   exact ⟨b, by rw [this, List.append_nil]⟩
  ·cases hs : stepO s ts with
   | error e =>
    rw [Qlc (by omega) hs] at h
    cases h
   | ok x =>
    obtain ⟨c, k⟩ := x
    rw [Qfd (by omega) hs] at h
    obtain ⟨d, g⟩ := QCq b hs
    have l := (Qeb hs).1
    obtain ⟨f, i⟩ := ih k c ts' (by omega) d h
    exact ⟨f, i.trans g⟩
theorem QAn {D : List Nat} {q : Nd} (h : openF D s = .ok q) : q.cs /\ q.fitB 0 = true /\ q.dig = D /\ textB (q.witness true []) = s /\ s.size <= 8000 := by
 unfold openF at h
 split at h
 ·cases h
 ·rename_i hz
  split at h
  ·cases h
  ·rename_i ts hr
   obtain ⟨c, e⟩ := QDo s.size s.size s [] ts (Nat.le_refl _) (fun t ht => by cases ht) hr
   split at h
   ·cases h
   ·rename_i t ht
    cases h
    unfold treeF at ht
    split at ht
    ·rename_i u
     split at ht
     ·cases ht
     ·rename_i hf
      split at ht
      ·rename_i hd
       cases ht
       have a : q.witness true [] = bytesOf s := by simpa [wAll] using e
       exact ⟨c q (by simp), by simpa using hf, hd, by rw [a, Qb0], by omega⟩
      ·cases ht
    ·cases ht
variable {r : ByteArray}
theorem Qy4 {e : Nd} (h : ∀ g, e ≠ .stub g) (hn : (e.next r).1 = .no) : e.sees (bytesOf r) := by
 cases e with
 | no => exact Qhx _
 | leaf p v => exact Qna _ _ _
 | stub g => exact absurd rfl (h g)
 | ext p t =>
  rw [Qfh]
  intro c
  have a : (Nd.ext p t).next r = (t, p.size) := if_pos c
  rw [a] at hn
  rw [show t = .no from hn]
  exact Qhx _
 | br ks =>
  by_cases b : 0 < r.size
  ·have d := Qcd b
   rw [d, Qhy, show ks.getD ((bytesOf r)[0]!) .no = .no from hn]
   exact Qhx _
  ·rw [Qdh (by omega)]
   exact Qhz _
theorem Qy5 {a : Nd} {l : List (Nd × ByteArray)} {e : Nd} {r' : ByteArray} (h : WayTo a r l e r') : a.fits r.size -> e.sees (bytesOf r') -> a.sees (bytesOf r) := by
 induction h with
 | stop => exact fun _ h => h
 | @go t r l e r' hn hw ih =>
  intro b f
  cases t with
  | no => exact absurd rfl hn
  | leaf _ _ => exact absurd rfl hn
  | stub _ => exact absurd rfl hn
  | ext p t =>
   by_cases d : begins p r
   ·have c : (Nd.ext p t).next r = (t, p.size) := if_pos d
    rw [Nd.fits] at b
    have := ih (by rw [c, Qa6]; exact b.2.2) f
    rw [c, Qab] at this
    rw [Qfh]
    exact fun _ => this
   ·have c : (Nd.ext p t).next r = (.no, 0) := if_neg d
    rw [c] at hn
    exact absurd rfl hn
  | br ks =>
   rw [Nd.fits] at b
   have := ih (by rw [Qa6]; exact Qmo b.2 _) f
   rw [Qcd b.1, Qhy]
   exact this
mutual
def Nd.cn : Nd -> Nat -> Prop
 | .no, _ => True
 | .leaf p v, n => p.size = n /\ nib (bytesOf p) /\ 0 < v.size /\ v.size <= 100
 | .ext p t, n => 0 < p.size /\ p.size < n /\ nib (bytesOf p) /\ t.cn (n - p.size) /\ t.stands = true
 | .br ks, n => 0 < n /\ ks.length = 16 /\ cnAll ks (n - 1) /\ 2 <= cntN ks 16
 | .stub h, _ => h.length = 32 /\ ∀ x ∈ h, x < 256
def cnAll : List Nd -> Nat -> Prop
 | [], _ => True
 | x :: xs, n => x.cn n /\ cnAll xs n
end
theorem Qi1 {x : Nd} : ∀ {l : List Nd}, cnAll l n -> x ∈ l -> x.cn n := by
 intro l
 induction l with
 | nil => intro _ h; cases h
 | cons y l ih =>
  intro h a
  rw [cnAll] at h
  rcases List.mem_cons.1 a with rfl | a
  ·exact h.1
  ·exact ih h.2 a
theorem Qrp {l : List Nd} (h : cnAll l n) (x : Nat) : (l.getD x .no).cn n := by
 rw [List.getD_eq_getElem?_getD]
 cases hk : l[x]? with
 | none => rw [Option.getD_none, Nd.cn]; trivial
 | some y => exact Qi1 h (List.mem_of_getElem? hk)
theorem cn_leaf {v : ByteArray} : (Nd.leaf p v).cn n ↔ p.size = n /\ nib (bytesOf p) /\ 0 < v.size /\ v.size <= 100 := by rw [Nd.cn]
theorem cn_ext : (Nd.ext p t).cn n ↔ 0 < p.size /\ p.size < n /\ nib (bytesOf p) /\ t.cn (n - p.size) /\ t.stands = true := by rw [Nd.cn]
theorem cn_br : (Nd.br ks).cn n ↔ 0 < n /\ ks.length = 16 /\ cnAll ks (n - 1) /\ 2 <= cntN ks 16 := by rw [Nd.cn]
theorem Qi2 (h : t.stands = true) : t ≠ .no := fun e => by rw [e] at h; cases h
mutual
theorem Nd.cn_ok : ∀ (t : Nd) (n : Nat), t.cn n -> n <= 64 -> t.ok /\ t.fits n
 | .no, n, _, _ => by rw [Nd.ok, Nd.fits]; exact ⟨trivial, trivial⟩
 | .leaf p v, n, h, hn => by
  rw [cn_leaf] at h
  rw [Nd.ok, Nd.fits]
  exact ⟨⟨⟨by omega, h.2.1⟩, by omega⟩, h.1⟩
 | .ext p t, n, h, hn => by
  rw [cn_ext] at h
  obtain ⟨h1, h2⟩ := Nd.cn_ok t (n - p.size) h.2.2.2.1 (by omega)
  rw [Nd.ok, Nd.fits]
  exact ⟨⟨⟨by omega, h.2.2.1⟩, h1, Qi2 h.2.2.2.2⟩, h.1, h.2.1, h2⟩
 | .br ks, n, h, hn => by
  rw [cn_br] at h
  obtain ⟨h1, h2⟩ := Qq1 ks (n - 1) h.2.2.1 (by omega)
  rw [Nd.ok, Nd.fits]
  exact ⟨⟨h.2.1, h1⟩, h.1, h2⟩
 | .stub _, _, h, _ => by rw [Nd.cn] at h; rw [Nd.ok, Nd.fits]; exact ⟨h, trivial⟩
theorem Qq1 : ∀ (ks : List Nd) (n : Nat), cnAll ks n -> n <= 64 -> oks ks /\ fitsAll ks n
 | [], _, _, _ => by rw [oks, fitsAll]; exact ⟨trivial, trivial⟩
 | t :: ks, n, h, hn => by
  rw [cnAll] at h
  obtain ⟨h1, h2⟩ := Nd.cn_ok t n h.1 hn
  obtain ⟨h3, h4⟩ := Qq1 ks n h.2 hn
  rw [oks, fitsAll]
  exact ⟨⟨h1, h3⟩, h2, h4⟩
end
mutual
theorem Qy6 : ∀ (t : Nd) (d : Nat), d <= 64 -> t.cs -> t.fitB d = true -> t.cn (64 - d)
 | .no, _, _, _, _ => by rw [Nd.cn]; trivial
 | .leaf p v, d, hd, h, hf => by
  rw [Nd.cs] at h
  rw [Nd.fitB] at hf
  have := of_decide_eq_true hf
  exact cn_leaf.2 ⟨by omega, h.1.2, h.2⟩
 | .ext p t, d, hd, h, hf => by
  rw [Nd.cs] at h
  rw [Nd.fitB, Bool.and_eq_true] at hf
  have h1 := of_decide_eq_true hf.1
  have h2 := Qy6 t (d + p.size) (by omega) h.2.2.2.1 hf.2
  rw [show 64 - (d + p.size) = 64 - d - p.size by omega] at h2
  exact cn_ext.2 ⟨h.1, by omega, h.2.2.1, h2, h.2.2.2.2⟩
 | .br ks, d, hd, h, hf => by
  rw [Nd.cs] at h
  rw [Nd.fitB, Bool.and_eq_true] at hf
  have h1 := of_decide_eq_true hf.1
  have h2 := Qze ks (d + 1) (by omega) h.2.1 hf.2
  rw [show 64 - (d + 1) = 64 - d - 1 by omega] at h2
  have h3 := Qqe ks 16 (by omega)
  rw [List.take_of_length_le (by omega)] at h3
  exact cn_br.2 ⟨by omega, h.1, h2, by rw [h3]; exact h.2.2⟩
 | .stub g, _, _, h, _ => by rw [Nd.cs] at h; rw [Nd.cn]; exact h
theorem Qze : ∀ (ks : List Nd) (d : Nat), d <= 64 -> css ks -> fitBs ks d = true -> cnAll ks (64 - d)
 | [], _, _, _, _ => by rw [cnAll]; trivial
 | t :: ks, d, hd, h, hf => by
  rw [css] at h
  rw [fitBs, Bool.and_eq_true] at hf
  rw [cnAll]
  exact ⟨Qy6 t d hd h.1 hf.1, Qze ks d hd h.2 hf.2⟩
end
theorem Qq2 (g : List Nat) : (Nd.stub g).rit = .text 0 0 g /\ (Nd.stub g).rcut = .stub g := ⟨rfl, rfl⟩
theorem Qq3 (hc : t.cn n) (hno : t ≠ .no) : ((∀ g, t ≠ .stub g) /\ t.code.length < 32 /\ t.rit = t.it /\ t.rcut = t.cut) \/ ∃ g, g.length = 32 /\ t.rit = .text 0 0 g /\ t.rcut = .stub g := by
 by_cases b : ∃ g, t = .stub g
 ·obtain ⟨g, rfl⟩ := b
  rw [Nd.cn] at hc
  exact .inr ⟨g, hc.1, rfl, rfl⟩
 ·have a : ∀ g, t ≠ .stub g := fun g e => b ⟨g, e⟩
  rcases Qe2 t hno a with ⟨a1, a2, a3⟩ | ⟨a1, a2, a3⟩
  ·exact .inl ⟨a, a1, a2, a3⟩
  ·exact .inr ⟨_, Qak _, a2, a3⟩
theorem Qnc {g : List Nat} (h : g.length = 32) : 32 <= (Nd.stub g).ref.length := by
 have : (Nd.stub g).ref = textCode g := by
  first
  | rfl
  | (rw [<- Qgz, (Qq2 g).1, It.code])
 rw [this]
 unfold textCode
 split
 ·omega
 ·rw [List.length_append]
  omega
theorem Qen (hc : (Nd.br ks).cn n) (h : (Nd.br ks).code.length < 32) : fits 2 (Nd.br ks).it := by
 obtain ⟨_, r, q, _⟩ := cn_br.1 hc
 rw [Qm2]
 intro x d
 rcases List.mem_append.1 d with d | d
 ·obtain ⟨t, j, rfl⟩ := List.mem_map.1 d
  have b := Qi1 q j
  have c := (QB5 r).2 t j
  by_cases a : t = .no
  ·subst a; exact Qbb ..
  ·rcases Qq3 b a with ⟨a0, a1, a2, _⟩ | ⟨g, a1, a2, _⟩
   ·rw [a2]
    have f := Qiw a a0 a1
    cases t with
    | no => exact absurd rfl a
    | stub g => exact absurd rfl (a0 g)
    | leaf p v => exact Qix p v
    | br ks' =>
     have := (QB5 (cn_br.1 b).2.1).1
     rw [f] at c
     omega
    | ext p t' =>
     have l := QD4 p t'
     obtain ⟨_, _, _, e, k⟩ := cn_ext.1 b
     cases t' with
     | br ks' =>
      have m := (QB5 (cn_br.1 e).2.1).1
      rw [f] at c
      by_cases i : (Nd.br ks').code.length < 32
      ·rw [Qiw (by simp) (by simp) i] at l
       omega
      ·have : ¬ (Nd.br ks').ref.length < 32 := fun o => i (Qw0 (by simp) (by simp) o).1
       omega
     | stub g =>
      rw [Nd.cn] at e
      have m := Qnc e.1
      rw [f] at c
      omega
     | _ => simp [Nd.stands] at k
   ·rw [a2]; exact Qbb ..
 ·obtain rfl : x = .text 0 0 [] := by simpa using d
  exact Qbb ..
theorem Qnd (hc : (Nd.ext p t).cn n) : fits 3 (Nd.ext p t).it := by
 obtain ⟨_, _, _, b, c⟩ := cn_ext.1 hc
 rw [Qkb]
 intro x a
 rcases List.mem_cons.1 a with rfl | a
 ·exact Qbb ..
 ·obtain rfl : x = t.rit := by simpa using a
  cases t with
  | br ks =>
   rcases Qe2 (.br ks) (by simp) (by simp) with ⟨a1, a2, _⟩ | ⟨a1, a2, _⟩
   ·rw [a2]; exact Qen b a1
   ·rw [a2]; exact Qbb ..
  | stub g => exact Qbb ..
  | _ => simp [Nd.stands] at c
theorem Qy7 (hc : t.cn n) : fits 4 t.it := by
 cases t with
 | no => rw [Nd.it]; exact Qbb ..
 | stub g => rw [Nd.it]; exact Qbb ..
 | leaf p v => exact Qb5 3 _ (Qb5 2 _ (Qb5 1 _ (Qix p v)))
 | ext p t => exact Qb5 3 _ (Qnd hc)
 | br ks =>
  obtain ⟨_, f, d, _⟩ := cn_br.1 hc
  rw [Qm2]
  intro x c
  rcases List.mem_append.1 c with c | c
  ·obtain ⟨t, e, rfl⟩ := List.mem_map.1 c
   have a := Qi1 d e
   by_cases b : t = .no
   ·subst b; exact Qbb ..
   ·rcases Qq3 a b with ⟨a0, a1, a2, _⟩ | ⟨g, a1, a2, _⟩
    ·rw [a2]
     cases t with
     | no => exact absurd rfl b
     | stub g => exact absurd rfl (a0 g)
     | leaf p v => exact Qb5 2 _ (Qb5 1 _ (Qix p v))
     | br ks' => exact Qb5 2 _ (Qen a a1)
     | ext p t' => exact Qnd a
    ·rw [a2]; exact Qbb ..
  ·obtain rfl : x = .text 0 0 [] := by simpa using c
   exact Qbb ..
theorem Qne (hc : t.cn n) (hn : n <= 64) : t.code.length <= 700 := by
 obtain ⟨a, _⟩ := t.cn_ok n hc hn
 cases t with
 | no => rw [Nd.code]; simp
 | stub g => rw [Nd.code]; simp
 | leaf p v =>
  obtain ⟨e, _, _, h⟩ := cn_leaf.1 hc
  rw [Nd.code]
  have b := Qcg (textCode (pathCode (bytesOf p) true) ++ textCode (bytesOf v))
  have c := Qae (pathCode (bytesOf p) true)
  have d := Qae (bytesOf v)
  rw [List.length_append] at b
  rw [Qaw, bytesOf_length] at c
  rw [bytesOf_length] at d
  omega
 | ext p t =>
  obtain ⟨_, e, _, f, _⟩ := cn_ext.1 hc
  rw [Nd.ref_ext]
  have b := Qcg (textCode (pathCode (bytesOf p) false) ++ t.ref)
  have c := Qae (pathCode (bytesOf p) false)
  rw [Nd.ok] at a
  have d := t.ref_le a.2.1
  rw [List.length_append] at b
  rw [Qaw, bytesOf_length] at c
  omega
 | br ks =>
  rw [Nd.ok] at a
  rw [Nd.code]
  have b := Qcg (refs ks ++ textCode [])
  have c := Qae []
  have d := Qw1 ks a.2
  rw [List.length_append] at b
  rw [a.1] at d
  simp at c
  omega
theorem Qjx (hc : t.cn n) (hno : t ≠ .no) {y : It} {N : Nat} (hg : y.good N) (hb : y.bare = t.rit) : y.isRef = true /\ y.emp = false := by
 rcases Qq3 hc hno with ⟨a0, a1, a2, _⟩ | ⟨g, a1, a2, _⟩
 ·have c := Qga t hno a0
  have d : ∃ l, t.it = .list 0 0 l := by
   cases t with
   | no => exact absurd rfl hno
   | stub g => exact absurd rfl (a0 g)
   | leaf p v => exact ⟨_, by rw [Nd.it]⟩
   | ext p t => exact ⟨_, Qkb p t⟩
   | br ks => exact ⟨_, Qm2 ks⟩
  obtain ⟨l, d⟩ := d
  rw [a2, d] at hb
  obtain ⟨a, b, m, rfl, f⟩ := Qe3 hb
  have := Qqv hg
  rw [hb, <- d, c] at this
  exact ⟨by simp [It.isRef]; omega, rfl⟩
 ·rw [a2] at hb
  obtain ⟨a, b, rfl⟩ := Qc6 hb
  exact ⟨by simp [It.isRef, a1], by
   have : g ≠ [] := fun e => by rw [e] at a1; cases a1
   simp [It.emp, this]⟩
def KidOKS (n : Nat) : Prop := ∀ (t : Nd) (dep : Nat) (y : It) (N : Nat), t.cn (64 - dep) -> dep <= 64 -> t ≠ .no -> (∀ g, t ≠ .stub g) -> y.good N -> y.bare = t.it -> fits n t.it -> rdF n y dep = .ok t.cut
theorem Qjy (ih : KidOKS n) {dep : Nat} {y : It} {N : Nat} (hc : t.cn (64 - dep)) (hd : dep <= 64) (hno : t ≠ .no) (hg : y.good N) (hb : y.bare = t.rit) (hf : fits n t.rit) : rdRef (rdF n) y dep = .ok t.rcut := by
 rcases Qq3 hc hno with ⟨a0, a1, a2, a3⟩ | ⟨g, a1, a2, a3⟩
 ·rw [a2] at hb hf
  rw [a3]
  have h := ih t dep y N hc hd hno a0 hg hb hf
  cases y with
  | text a b s =>
   cases n with
   | zero => rw [rdF] at h; cases h
   | succ n => rw [rdF] at h; cases h
  | list a b l => exact h
 ·rw [a2] at hb
  obtain ⟨a, b, rfl⟩ := Qc6 hb
  rw [a3]
  rfl
theorem Qgj {n : Nat} (ih : KidOKS n) {dep : Nat} (hd : dep <= 64) {N : Nat} : ∀ (ks : List Nd) (ys : List It), cnAll ks (64 - dep) -> goods N ys -> bares ys = ks.map Nd.rit -> (∀ x ∈ ks, fits n x.rit) -> rdKids (rdF n) dep ys = .ok (ks.map Nd.rcut)
 | [], ys, _, _, hb, _ => by
  cases ys with
  | nil => rw [rdKids]; rfl
  | cons y ys => rw [bares] at hb; cases hb
 | x :: ks, ys, hc, hg, hb, hf => by
  cases ys with
  | nil => rw [bares] at hb; cases hb
  | cons y ys =>
   rw [bares, List.map_cons] at hb
   rw [goods] at hg
   rw [cnAll] at hc
   obtain ⟨hb1, hb2⟩ := List.cons.inj hb
   have h2 := Qgj ih hd ks ys hc.2 hg.2 hb2 (fun z hz => hf z (List.mem_cons_of_mem _ hz))
   by_cases hno : x = .no
   ·subst hno
    rw [rdKids, if_pos (Qw2 hb1).1, h2]
    rfl
   ·rw [rdKids, if_neg (by rw [(Qjx hc.1 hno hg.1 hb1).2]; simp), Qjy ih hc.1 hd hno hg.1 hb1 (hf x (List.mem_cons_self ..))]
    simp only
    rw [h2]
    rfl
theorem Qi3 {N : Nat} {m : Nat} : ∀ (ks : List Nd) (ys : List It), cnAll ks m -> goods N ys -> bares ys = ks.map Nd.rit -> (ys.filter It.isRef).length = (ks.map one).sum /\ ys.all (fun x => x.isRef || x.emp) = true
 | [], ys, _, _, hb => by
  cases ys with
  | nil => exact ⟨rfl, rfl⟩
  | cons y ys => rw [bares] at hb; cases hb
 | x :: ks, ys, hc, hg, hb => by
  cases ys with
  | nil => rw [bares] at hb; cases hb
  | cons y ys =>
   rw [bares, List.map_cons] at hb
   rw [goods] at hg
   rw [cnAll] at hc
   obtain ⟨hb1, hb2⟩ := List.cons.inj hb
   obtain ⟨h2, h3⟩ := Qi3 ks ys hc.2 hg.2 hb2
   by_cases hno : x = .no
   ·subst hno
    obtain ⟨e1, e2⟩ := Qw2 hb1
    refine ⟨?_, by rw [List.all_cons, e1, e2, h3]; rfl⟩
    rw [List.filter_cons, e2, List.map_cons, List.sum_cons, Qq8]
    simpa using h2
   ·obtain ⟨e1, e2⟩ := Qjx hc.1 hno hg.1 hb1
    refine ⟨?_, by rw [List.all_cons, e1, h3]; rfl⟩
    rw [List.filter_cons, e1, if_pos rfl, List.length_cons, List.map_cons, List.sum_cons, Qcc hno, h2]
    omega
theorem Qq4 : ∀ n, KidOKS n
 | 0 => fun t dep y N hc hd hno hns hg hb hf => by
  exfalso
  cases t with
  | no => exact hno rfl
  | stub g => exact hns g rfl
  | leaf p v => rw [Nd.it] at hf; exact hf
  | ext p t => rw [Qkb] at hf; exact hf
  | br ks => rw [Qm2] at hf; exact hf
 | n + 1 => fun t dep y N hc hd hno hns hg hb hf => by
  have ih := Qq4 n
  cases t with
  | no => exact absurd rfl hno
  | stub g => exact absurd rfl (hns g)
  | leaf p v =>
   obtain ⟨h1, h2, h3, h4⟩ := cn_leaf.1 hc
   rw [Nd.it] at hb
   obtain ⟨a, b, m, rfl, hm⟩ := Qe3 hb
   have hml : m.length = 2 := by
    have := congrArg List.length hm
    rw [Qc5, List.length_map] at this
    exact this
   obtain ⟨u, K, rfl⟩ := Qo0 hml
   rw [bares, bares, bares] at hm
   obtain ⟨s, w⟩ := List.cons.inj hm
   obtain ⟨c, _⟩ := List.cons.inj w
   obtain ⟨L, M, rfl⟩ := Qc6 s
   obtain ⟨O, P, rfl⟩ := Qc6 c
   rw [rdF, Qvt, rdPath]
   simp only [Qgf h2, if_true]
   have q : (It.text O P (bytesOf v)).val? = true := by
    simp only [It.val?, bytesOf_length]
    rw [decide_eq_true h3, decide_eq_true h4]
    rfl
   rw [if_neg (by
    rw [q, bytesOf_length]
    rintro (h | h)
    ·omega
    ·cases h), Nd.cut, It.bytes, Qcr, Qcr]
  | ext p t =>
   obtain ⟨h1, h2, h3, h4, D⟩ := cn_ext.1 hc
   rw [Qkb] at hb hf
   obtain ⟨a, b, m, rfl, hm⟩ := Qe3 hb
   rw [It.good] at hg
   have hml : m.length = 2 := by
    have := congrArg List.length hm
    rw [Qc5, List.length_map] at this
    exact this
   obtain ⟨u, K, rfl⟩ := Qo0 hml
   rw [bares, bares, bares] at hm
   obtain ⟨s, w⟩ := List.cons.inj hm
   obtain ⟨c, _⟩ := List.cons.inj w
   obtain ⟨L, M, rfl⟩ := Qc6 s
   have i := hg.2.2.2
   rw [goods, goods] at i
   have H : dep + (bytesOf p).length <= 64 := by rw [bytesOf_length]; omega
   have G : t.cn (64 - (dep + (bytesOf p).length)) := by rw [bytesOf_length, show 64 - (dep + p.size) = 64 - dep - p.size by omega]; exact h4
   have l := Qjy ih G H (Qi2 D) i.2.1 c (hf _ (by simp))
   have o : K.tail17 = true := by
    cases t with
    | br ks =>
     rcases Qe2 (.br ks) (by simp) (by simp) with ⟨x1, x2, _⟩ | ⟨x1, x2, _⟩
     ·rw [x2, Qm2] at c
      obtain ⟨A, B, S, rfl, J⟩ := Qe3 c
      have R := Qqv i.2.1
      rw [c, <- Qm2, Qga _ (by simp) (by simp)] at R
      have d : S.length = 17 := by
       have := congrArg List.length J
       rw [Qc5, List.length_map, List.length_append, List.length_map, (cn_br.1 h4).2.1] at this
       exact this
      simp [It.tail17, d]
      omega
     ·rw [x2] at c
      obtain ⟨A, B, rfl⟩ := Qc6 c
      simp [It.tail17, Qak]
    | stub g =>
     rw [Nd.cn] at h4
     rw [(Qq2 g).1] at c
     obtain ⟨A, B, rfl⟩ := Qc6 c
     simp [It.tail17, h4.1]
    | _ => simp [Nd.stands] at D
   rw [rdF, Qvt, rdPath]
   simp only [Qgf h3, Bool.false_eq_true, if_false]
   rw [rdExt, if_neg (by
    rw [o, bytesOf_length]
    rintro (h | h | h)
    ·omega
    ·omega
    ·cases h), l, Qg9]
   simp only
   rw [Qcr]
  | br ks =>
   obtain ⟨h1, h2, h3, h4⟩ := cn_br.1 hc
   rw [Qm2] at hb hf
   obtain ⟨a, b, m, rfl, hm⟩ := Qe3 hb
   rw [It.good] at hg
   have d : m.length = 17 := by
    have := congrArg List.length hm
    rw [Qc5, List.length_map, List.length_append, List.length_map, h2] at this
    exact this
   have f : bares (m.take 16) = ks.map Nd.rit := by
    rw [Qc5] at hm ⊢
    rw [List.map_take, hm, List.take_left' (by rw [List.length_map, h2])]
   have e : bares (m.drop 16) = [.text 0 0 []] := by
    rw [Qc5] at hm ⊢
    rw [List.map_drop, hm, List.drop_left' (by rw [List.length_map, h2])]
   have j : goods N (m.take 16) := goods_iff.2 fun x r => goods_iff.1 hg.2.2.2 x (List.mem_of_mem_take r)
   have k : (m.drop 16).all It.emp = true := by
    cases hmd : m.drop 16 with
    | nil => rfl
    | cons y ys =>
     rw [hmd, bares] at e
     obtain ⟨Q, C⟩ := List.cons.inj e
     cases ys with
     | nil => simp [(Qw2 (y := y) Q).1]
     | cons z zs => rw [bares] at C; cases C
   obtain ⟨E, F⟩ := Qi3 ks (m.take 16) h3 j f
   have I : forks m = true := by
    unfold forks
    rw [F, k, E]
    have := Qqw ks 16 (by omega)
    rw [List.take_of_length_le (by omega)] at this
    rw [<- this]
    simp [h4]
   have l := Qgj ih (dep := dep + 1) (by omega) ks (m.take 16) (by rw [show 64 - (dep + 1) = 64 - dep - 1 by omega]; exact h3) j f (fun x r => hf _ (List.mem_append_left _ (List.mem_map_of_mem r)))
   rw [rdF, Qyw (by omega), if_pos d, rdBr, if_neg (by rw [I]; simp; omega), l, Qkc]
theorem QCr {dep : Nat} (hc : t.cn (64 - dep)) (hd : dep <= 64) (hno : t ≠ .no) (hns : ∀ g, t ≠ .stub g) : shF t.code (digB t.code) dep = .ok t.cut := by
 have f := Qne hc (by omega)
 have a := Qga t hno hns
 have c := Qy7 hc
 obtain ⟨y, b, e⟩ := Qti (x := t.it) (Qb5 5 _ (Qb5 4 _ c)) (by rw [a]; omega)
 rw [a] at b
 unfold shF
 rw [if_neg (by omega), if_neg (by simp), b]
 simp only
 obtain ⟨d, _⟩ := t.cn_ok _ hc (by omega)
 exact Qq4 6 t dep y 2048 hc hd hno hns (Qvu (t.code_byte d) b) (by rw [e, Qm3]) (Qb5 5 _ (Qb5 4 _ c))
theorem Qle (ht : t.cn r.size) (hn : (t.next r).1 ≠ .no) : (t.next r).2 <= r.size /\ 0 < (t.next r).2 /\ (t.next r).1.cn (r.size - (t.next r).2) /\ (∀ s : List Nat, s.take (t.next r).2 = (bytesOf r).take (t.next r).2 -> t.get s = (t.next r).1.get (s.drop (t.next r).2)) /\ (t.sees (bytesOf r) -> (t.next r).1.sees ((bytesOf r).drop (t.next r).2)) := by
 cases t with
 | ext p t =>
  rw [cn_ext] at ht
  rw [Nd.next] at hn ⊢
  by_cases b : begins p r
  ·rw [if_pos b]
   refine ⟨by omega, ht.1, ht.2.2.2.1, fun s a => ?_, fun h => ?_⟩
   ·unfold begins at b
    rw [b] at a
    rw [Qdy, if_pos a]
   ·unfold begins at b
    exact (Qfh _ _ _).1 h b
  ·rw [if_neg b] at hn
   exact absurd rfl hn
 | br ks =>
  rw [cn_br] at ht
  rw [Nd.next] at hn ⊢
  have c := Qcd ht.1
  refine ⟨ht.1, by omega, Qrp ht.2.2.1 _, fun s a => ?_, fun h => ?_⟩
  ·rw [c, List.take_succ_cons, List.take_zero] at a
   cases s with
   | nil => simp at a
   | cons z s =>
    rw [List.take_succ_cons, List.take_zero] at a
    simp only [List.cons.injEq, and_true] at a
    rw [Qgk, a]
    rfl
  ·rw [c] at h
   have d := (Qhy _ _ _).1 h
   have e : (bytesOf r).drop 1 = bytesOf (r.extract 1 r.size) := by conv => lhs; rw [c, List.drop_succ_cons, List.drop_zero]
   show (ks.getD ((bytesOf r)[0]!) .no).sees ((bytesOf r).drop 1)
   rw [e]
   exact d
 | _ => exact absurd rfl hn
theorem Qlf : ∀ (n : Nat) (t : Nd) (r : ByteArray), r.size <= n -> t.cn r.size -> ∃ l e r', WayTo t r l e r' /\ l.length <= r.size
 | n, t, r, hn, ht => by
  by_cases h : (t.next r).1 = .no
  ·exact ⟨[], t, r, .stop h, Nat.zero_le _⟩
  ·obtain ⟨k1, k2, k3, _, _⟩ := Qle ht h
   match n, hn with
   | 0, hn => omega
   | n + 1, hn =>
    have hsz : (r.extract (t.next r).2 r.size).size = r.size - (t.next r).2 := Qa6 _ _
    obtain ⟨l, e, r', hw, hl⟩ := Qlf n (t.next r).1 (r.extract (t.next r).2 r.size) (by omega) (by rw [hsz]; exact k3)
    exact ⟨_, e, r', .go h hw, by rw [List.length_cons]; omega⟩
theorem Qy8 {m : Nat} (hc : t.cn r.size) (hr : r.size <= 64) (hn : r.size <= n) (hm : r.size <= m) : t.ways n r = t.ways m r := by
 obtain ⟨l, e, c, b, _⟩ := Qlf r.size t r (Nat.le_refl _) hc
 obtain ⟨_, a⟩ := t.cn_ok r.size hc hr
 rw [<- b.ways n a hn, b.ways m a hm]
theorem Qq5 (hc : t.cn r.size) (hn : (t.next r).1 = .no) : valAt t.cut r = t.get (bytesOf r) := by
 cases t with
 | no => rw [Nd.cut, Qgl]; rfl
 | stub g => rw [Nd.cut, Nd.get]; rfl
 | leaf p v =>
  rw [Nd.cut, Qbs]
  unfold valAt
  simp only
  by_cases e : p = r
  ·subst e
   rw [if_pos rfl, if_pos rfl]
  ·rw [if_neg e, if_neg fun h => e (Qav h)]
 | ext p t =>
  rw [cn_ext] at hc
  rw [Nd.next] at hn
  rw [Qg9, Qdy]
  by_cases a : begins p r
  ·rw [if_pos a] at hn
   exact absurd hn (Qi2 hc.2.2.2.2)
  ·unfold begins at a
   rw [if_neg a]
   rfl
 | br ks =>
  rw [cn_br] at hc
  rw [Nd.next] at hn
  rw [Qkc, Qcd hc.1, Qgk]
  have b : ks.getD ((bytesOf r)[0]!) .no = .no := hn
  rw [b, Qgl]
  rfl
theorem Qnf : ∀ (n : Nat) (t : Nd) (r : ByteArray), t.cn r.size -> t ≠ .no -> t.sees (bytesOf r) -> r.size <= n -> r.size <= 64 -> nib (bytesOf r) ->
  (∃ (e : Nd) (r' : ByteArray), t.cut.walk n r = (e, r') /\ (∀ g, e ≠ .stub g) /\ longs (t.ways n r).tail = [] /\ valAt e r' = t.get (bytesOf r)) \/
  ∃ (u : Nd) (r' : ByteArray), t.cut.walk n r = (.stub (digB u.code), r') /\ longs (t.ways n r).tail = u.prove r' /\ u.cn r'.size /\ u ≠ .no /\ u.sees (bytesOf r') /\ r'.size < r.size /\ nib (bytesOf r') /\ t.get (bytesOf r) = u.get (bytesOf r')
 | n, t, r, hc, hno, hse, hn, h64, hnb => by
  by_cases hx : (t.next r).1 = .no
  ·left
   have hcx : (t.cut.next r).1 = .no := by rw [Qm4, hx]; rfl
   refine ⟨t.cut, r, Qo2 hcx, ?_, ?_, Qq5 hc hx⟩
   ·cases t with
    | stub g => exact absurd hse (Qdx _ _)
    | no => exact absurd rfl hno
    | leaf p v => rw [Nd.cut]; simp
    | ext p t => rw [Qg9]; simp
    | br ks => rw [Qkc]; simp
   ·have hs : t.shownL = [t] := by unfold Nd.shownL; rw [Qd3 hno]; rfl
    cases n with
    | zero => rw [Nd.ways, hs]; rfl
    | succ n => rw [Nd.ways, if_pos (Nd.isNo_iff.2 hx), hs]; rfl
  ·obtain ⟨k1, k2, k3, k5, k6⟩ := Qle hc hx
   have hse1 := k6 hse
   rw [<- Qab] at hse1
   cases n with
   | zero => omega
   | succ n =>
    have hcx : (t.cut.next r).1 ≠ .no := by rw [Qm4]; exact QB6 hx
    have hsz : (r.extract (t.next r).2 r.size).size = r.size - (t.next r).2 := Qa6 _ _
    have hcu : (t.next r).1.cn (r.extract (t.next r).2 r.size).size := by rw [hsz]; exact k3
    have hget : t.get (bytesOf r) = (t.next r).1.get (bytesOf (r.extract (t.next r).2 r.size)) := by
     rw [Qab]
     exact k5 _ rfl
    have d : t.ways (n + 1) r = t :: (t.next r).1.ways n (r.extract (t.next r).2 r.size) := by rw [Nd.ways, if_neg (by rw [Qd3 hx]; simp)]
    have a := Ql2 hnb (t.next r).2
    rw [QB3 hcx, Qm4, d, hget, List.tail_cons]
    generalize r.extract (t.next r).2 r.size = r1 at *
    generalize (t.next r).1 = u at *
    simp only
    obtain ⟨f, b⟩ := Qiy hx n r1
    rcases Qe2 u hx (fun g e => by rw [e] at hse1; exact Qdx _ _ hse1) with ⟨a1, _, a3⟩ | ⟨a1, _, a3⟩
    ·have c : longs (u.ways n r1) = longs (u.ways n r1).tail := by
      rw [b]
      unfold longs
      rw [List.map_cons, List.filter_cons, if_neg (by simp; omega), List.tail_cons]
     rw [a3, c]
     rcases Qnf n u r1 hcu hx hse1 (by omega) (by omega) a with ⟨e, r', q1, q2, q3, q4⟩ | ⟨v, r', q1, q2, q3, q4, q4', q5, q6, q7⟩
     ·exact .inl ⟨e, r', q1, q2, q3, q4⟩
     ·exact .inr ⟨v, r', q1, q2, q3, q4, q4', by omega, q6, q7⟩
    ·right
     refine ⟨u, r1, ?_, ?_, hcu, hx, hse1, by omega, a, rfl⟩
     ·rw [a3]; exact Qo2 rfl
     ·rw [Nd.prove, Qy8 hcu (by omega) (show r1.size <= 64 by omega) (show r1.size <= n by omega), b, Qei]
      unfold longs
      rw [List.map_cons, List.filter_cons, if_pos (by simp; omega)]
theorem Qi4 : ∀ (m : Nat) (t : Nd) (r : ByteArray) (k : Nat) (X : List (List Nat)), r.size <= m -> t.cn r.size -> t ≠ .no -> t.sees (bytesOf r) -> r.size <= 64 -> nib (bytesOf r) ->
  verL (t.prove r ++ X) (digB t.code) r k = (if X = [] then .ok (t.get (bytesOf r)) else .error (.inNode (k + (t.prove r).length) (.base 4))) /\ ∀ j, j < (t.prove r).length -> verL ((t.prove r).take j) (digB t.code) r k = .error (.inNode (k + j) (.base 2))
 | m, t, r, k, X, hm, hc, hno, hse, h64, hnb => by
  obtain ⟨ts, hts⟩ := Qiy hno 64 r
  have hp : t.prove r = t.code :: longs ts := by rw [Nd.prove, hts, Qei]
  have hs := QCr (t := t) (dep := 64 - r.size) (by rw [show 64 - (64 - r.size) = r.size by omega]; exact hc) (by omega) hno (fun g e => by rw [e] at hse; exact Qdx _ _ hse)
  have hst : ∀ L, verL (t.code :: L) (digB t.code) r k = verT L (t.cut.walk 64 r).1 (t.cut.walk 64 r).2 (k + 1) := fun L => Qvv _ L _ r k hs
  have h0 : verL ((t.prove r).take 0) (digB t.code) r k = .error (.inNode (k + 0) (.base 2)) := by rw [List.take_zero, verL]; rfl
  have hw := Qnf 64 t r hc hno hse h64 h64 hnb
  rw [hts, List.tail_cons] at hw
  rcases hw with ⟨e, r', q1, q2, q3, q4⟩ | ⟨u, r', q1, q2, q3, q4, q4', q5, q6, q7⟩
  ·rw [hp, q3]
   refine ⟨?_, fun j hj => ?_⟩
   ·rw [List.cons_append, hst, q1, Qyy q2]
    simp only [List.nil_append, List.length_cons, List.length_nil]
    split
    ·rw [q4]
    ·rfl
   ·have : j = 0 := by simp at hj; omega
    subst this
    rw [hp, q3] at h0
    exact h0
  ·cases m with
   | zero => omega
   | succ m =>
    have ih := Qi4 m u r' (k + 1) X (by omega) q3 q4 q4' (by omega) q6
    rw [hp, q2]
    refine ⟨?_, fun j hj => ?_⟩
    ·rw [List.cons_append, hst, q1]
     show verL _ _ _ _ = _
     rw [ih.1, q7]
     simp only [List.length_cons]
     split
     ·rfl
     ·rw [show k + 1 + (u.prove r').length = k + ((u.prove r').length + 1) by omega]
    ·cases j with
     | zero => rw [hp, q2] at h0; exact h0
     | succ j =>
      rw [List.take_succ_cons, hst, q1]
      show verL _ _ _ _ = _
      rw [ih.2 j (by simpa using hj), show k + 1 + j = k + (j + 1) by omega]
theorem Qq6 (hc : t.cn 64) (hp : p.size = 64) (hnb : nib (bytesOf p)) (hse : t.sees (bytesOf p)) : verF t.dig p (t.prove p) = .ok (t.get (bytesOf p)) := by
 by_cases a : t = .no
 ·subst a
  rw [Qz1, verF, if_pos ⟨rfl, Nd.dig_no⟩, Qgl]
 ·obtain ⟨L, c⟩ := Qs5 a p
  have b : ∀ g, t ≠ .stub g := fun g e => by rw [e] at hse; exact Qdx _ _ hse
  have h := (Qi4 64 t p 0 [] (by omega) (by rw [hp]; exact hc) a hse (by omega) hnb).1
  rw [List.append_nil, if_pos rfl] at h
  rw [verF, if_neg (by rw [c]; simp), Nd.dig_eq ((Nd.shown_sel a b).1 _), h]
end Go.Proofs.YtakidhihbgfjlaaGreatDoor
