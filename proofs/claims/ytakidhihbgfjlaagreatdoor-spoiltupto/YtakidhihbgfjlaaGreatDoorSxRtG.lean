/-
  What was written is read again (pure): the operations of a node.
-/
import Derived.Test.YtakidhihbgfjlaaGreatDoorSxOdG
import Derived.Test.YtakidhihbgfjlaaGreatDoorSxFull
namespace Go.Proofs.YtakidhihbgfjlaaGreatDoor
open Go.RowKit
set_option maxRecDepth 100000
set_option maxHeartbeats 25600000
variable {b : List Nat}
theorem Qln {a : List Nat} (h : ∀ x ∈ a ++ b, x < 256) : (∀ x ∈ a, x < 256) /\ ∀ x ∈ b, x < 256 := ⟨fun x hx => h x (List.mem_append_left _ hx), fun x hx => h x (List.mem_append_right _ hx)⟩
theorem Qv8 (p r : List Nat) (h : ∀ x ∈ p ++ r, x < 256) : (textB (p ++ r)).extract 0 p.length = textB p := by
 apply Qav
 have e : ∀ (s : ByteArray) (n : Nat), bytesOf (s.extract 0 n) = (bytesOf s).take n := fun s n => by
  unfold bytesOf
  rw [ByteArray.data_extract, Array.toList_extract]
  simp [List.extract, List.map_take]
 rw [e, Qa5 h, Qa5 (Qln h).1]
 simp
theorem Qnj (p r : List Nat) (h : ∀ x ∈ p ++ r, x < 256) : (textB (p ++ r)).extract p.length (textB (p ++ r)).size = textB r := by
 apply Qav
 rw [Qe6, Qa5 h, Qa5 (Qln h).2]
 simp
theorem Qe0 (p r : List Nat) (h : ∀ x ∈ p ++ r, x < 256) : rdTk p.length (textB (p ++ r)) = .ok (textB p, textB r) := by
 unfold rdTk
 rw [if_neg (by rw [Qaa]; simp), Qv8 p r h, Qnj p r h]
theorem Qc3 (n : Nat) (r : List Nat) (h : ∀ x ∈ n :: r, x < 256) : rdNm (textB (n :: r)) = .ok (n, textB r) := by
 unfold rdNm
 rw [if_neg (by rw [Qaa]; simp), Qa5 h]
 have := Qnj [n] r h
 simp only [List.length_singleton, List.singleton_append] at this
 rw [this]
 rfl
theorem Qnk {a : Nat} (h : ∀ x ∈ a :: b, x < 256) : a < 256 /\ ∀ x ∈ b, x < 256 := ⟨h a (List.mem_cons_self ..), fun x hx => h x (List.mem_cons_of_mem _ hx)⟩
theorem Qia : ∀ q : List Nat, (∀ x ∈ q, x < 16) -> nibs (pairsU q) = q ++ (if q.length % 2 = 1 then [0] else [])
 | [], _ => rfl
 | [a], h => by
  have := h a (by simp)
  rw [pairsU]
  simp [nibs]
 | a :: b :: r, h => by
  have h1 := h a (by simp)
  have h2 := h b (by simp)
  have ih := Qia r fun x hx => h x (by simp [hx])
  rw [pairsU, nibs, List.flatMap_cons, <- nibs, ih, show (a * 16 + b) / 16 = a by omega, show (a * 16 + b) % 16 = b by omega]
  by_cases ho : r.length % 2 = 1
  ·rw [if_pos ho, if_pos (by simp only [List.length_cons]; omega)]; rfl
  ·rw [if_neg ho, if_neg (by simp only [List.length_cons]; omega)]; rfl
theorem Qba : ∀ q : List Nat, (∀ x ∈ q, x < 16) -> ∀ x ∈ pairsU q, x < 256
 | [], _ => fun x hx => by cases hx
 | [a], h => fun x hx => by
  have := h a (by simp)
  rw [pairsU] at hx
  simp at hx
  omega
 | a :: b :: r, h => fun x hx => by
  have h1 := h a (by simp)
  have h2 := h b (by simp)
  rw [pairsU] at hx
  rcases List.mem_cons.1 hx with e | hx
  ·omega
  ·exact Qba r (fun y hy => h y (by simp [hy])) x hx
theorem Qib (q : ByteArray) (m : Nat) (h : ∀ x ∈ bytesOf q, x < 16) (hm : q.size <= m) : wrRead q.size (textB (pairsU (bytesOf q))) m = .ok q := by
 unfold wrRead unpF
 rw [if_neg (by omega), Qa5 (Qba _ h), Qia _ h, bytesOf_length]
 have c : (bytesOf q).length = q.size := bytesOf_length q
 rw [if_neg ?_]
 ·rw [List.take_append_of_le_length (by omega), List.take_of_length_le (by omega), Qb0]
 ·rintro ⟨a, b⟩
  apply b
  split at a
  ·rename_i hodd
   rw [if_pos hodd, getElem!_pos _ _ (by simp; omega), List.getElem_append_right (by omega)]
   simp [c]
  ·simp at a
   omega
theorem Qk3 (q : ByteArray) (r : List Nat) (h : ∀ x ∈ bytesOf q, x < 16) (hq : q.size < 256) (hr : ∀ x ∈ r, x < 256) : rdPth (textB (q.size :: (pairsU (bytesOf q) ++ r))) = .ok ((q.size, textB (pairsU (bytesOf q))), textB r) := by
 have b : ∀ x ∈ pairsU (bytesOf q) ++ r, x < 256 := fun x a => by
  rcases List.mem_append.1 a with a | a
  ·exact Qba _ h x a
  ·exact hr x a
 unfold rdPth
 rw [Qc3 q.size _ (fun x a => by rcases List.mem_cons.1 a with e | a; omega; exact b x a)]
 have := Qe0 (pairsU (bytesOf q)) r b
 rw [Qb3, bytesOf_length] at this
 show (match rdTk ((q.size + 1) / 2) (textB (pairsU (bytesOf q) ++ r)) with | .error e => _ | .ok (p, s2) => _) = _
 rw [this]
theorem Qv9 (v : ByteArray) (r : List Nat) (hv : v.size < 256) (hr : ∀ x ∈ r, x < 256) : rdVl (textB (v.size :: (bytesOf v ++ r))) = .ok (v, textB r) := by
 have b : ∀ x ∈ bytesOf v ++ r, x < 256 := fun x a => by
  rcases List.mem_append.1 a with a | a
  ·exact Qao v x a
  ·exact hr x a
 unfold rdVl
 rw [Qc3 v.size _ (fun x a => by rcases List.mem_cons.1 a with e | a; omega; exact b x a)]
 have := Qe0 (bytesOf v) r b
 rw [bytesOf_length, Qb0] at this
 exact this
theorem Qva (p v : ByteArray) (r : List Nat) (hp : nibOK p) (hv : 0 < v.size /\ v.size <= 100) (hr : ∀ x ∈ r, x < 256) : opRd (textB ((Nd.leaf p v).wit true [] ++ r)) = .ok (.gives (.leaf p v), textB r) := by
 have e : (Nd.leaf p v).wit true [] ++ r = 1 :: (p.size :: (pairsU (bytesOf p) ++ (v.size :: (bytesOf v ++ r)))) := by
  rw [Nd.wit, Nat.mod_eq_of_lt (by omega)]
  simp
 have b : ∀ x ∈ v.size :: (bytesOf v ++ r), x < 256 := fun x a => by
  rcases List.mem_cons.1 a with e | a
  ·omega
  ·rcases List.mem_append.1 a with a | a
   ·exact Qao v x a
   ·exact hr x a
 have c : ∀ x ∈ 1 :: (p.size :: (pairsU (bytesOf p) ++ (v.size :: (bytesOf v ++ r)))), x < 256 := fun x a => by
  rcases List.mem_cons.1 a with e | a
  ·omega
  ·rcases List.mem_cons.1 a with e | a
   ·have := hp.1; omega
   ·rcases List.mem_append.1 a with a | a
    ·exact Qba _ hp.2 x a
    ·exact b x a
 rw [e]
 unfold opRd
 rw [Qc3 1 _ c]
 show opLeaf _ = _
 unfold opLeaf
 rw [Qk3 p _ hp.2 (by have := hp.1; omega) b]
 dsimp only
 rw [Qv9 v r (by omega) hr]
 dsimp only
 rw [Qib p 64 hp.2 hp.1]
 dsimp only
 rw [if_neg (by omega)]
theorem Qyf (p : ByteArray) (r : List Nat) (h0 : 0 < p.size) (hp : p.size <= 63) (hn : ∀ x ∈ bytesOf p, x < 16) (hr : ∀ x ∈ r, x < 256) : opRd (textB (2 :: (p.size :: (pairsU (bytesOf p) ++ r)))) = .ok (.ext p, textB r) := by
 have b : ∀ x ∈ 2 :: (p.size :: (pairsU (bytesOf p) ++ r)), x < 256 := fun x a => by
  rcases List.mem_cons.1 a with e | a
  ·omega
  ·rcases List.mem_cons.1 a with e | a
   ·omega
   ·rcases List.mem_append.1 a with a | a
    ·exact Qba _ hn x a
    ·exact hr x a
 unfold opRd
 rw [Qc3 2 _ b]
 show opExt _ = _
 unfold opExt
 rw [Qk3 p _ hn (by omega) hr]
 dsimp only
 rw [Qib p 63 hn hp]
 dsimp only
 rw [if_neg (by omega)]
theorem QAu (f : Nat) (r : List Nat) (hf : f < 65536) (h2 : 2 <= popN 16 f) (hr : ∀ x ∈ r, x < 256) : opRd (textB (3 :: f % 256 :: f / 256 :: r)) = .ok (.br f, textB r) := by
 have b : ∀ x ∈ 3 :: f % 256 :: f / 256 :: r, x < 256 := fun x a => by
  rcases List.mem_cons.1 a with e | a
  ·omega
  ·rcases List.mem_cons.1 a with e | a
   ·omega
   ·rcases List.mem_cons.1 a with e | a
    ·omega
    ·exact hr x a
 unfold opRd
 rw [Qc3 3 _ b]
 show opBr _ = _
 unfold opBr
 have := Qe0 [f % 256, f / 256] r (Qnk b).2
 simp only [List.length_cons, List.length_nil, Nat.zero_add, Nat.reduceAdd, List.cons_append, List.nil_append] at this
 rw [this]
 have c : forkF (textB [f % 256, f / 256]) = f := by
  unfold forkF
  rw [Qa5 (fun x a => by simp at a; omega)]
  show f % 256 + 256 * (f / 256) = f
  omega
 dsimp only
 rw [c, if_neg (by omega)]
theorem Qnl (h r : List Nat) (hl : h.length = 32) (hb : ∀ x ∈ h, x < 256) (hr : ∀ x ∈ r, x < 256) : opRd (textB (4 :: (h ++ r))) = .ok (.gives (.stub h), textB r) := by
 have b : ∀ x ∈ h ++ r, x < 256 := fun x a => by
  rcases List.mem_append.1 a with a | a
  ·exact hb x a
  ·exact hr x a
 unfold opRd
 rw [Qc3 4 _ (fun x a => by rcases List.mem_cons.1 a with e | a; omega; exact b x a)]
 show opStub _ = _
 unfold opStub
 have := Qe0 h r b
 rw [hl] at this
 rw [this]
 dsimp only
 rw [Qa5 hb]
inductive Steps : ByteArray -> List Nd -> ByteArray -> List Nd -> Prop
 | refl (s : ByteArray) (ts : List Nd) : Steps s ts s ts
 | step {s : ByteArray} {ts : List Nd} {s1 : ByteArray} {ts1 : List Nd} {s2 : ByteArray} {ts2 : List Nd} (h0 : 0 < s.size) (h : stepO s ts = .ok (ts1, s1)) (k : Steps s1 ts1 s2 ts2) : Steps s ts s2 ts2
variable {s s1 : ByteArray} {ts : List Nd}
theorem Steps.trans {s2 : ByteArray} {ts1 ts2 : List Nd} (h : Steps s ts s1 ts1) (k : Steps s1 ts1 s2 ts2) : Steps s ts s2 ts2 := by
 induction h with
 | refl => exact k
 | step h0 h _ ih => exact .step h0 h (ih k)
theorem Steps.run {s' : ByteArray} {ts' : List Nd} (L : Nat) (h : Steps s ts s' ts') : runO L s.size s ts = runO L s'.size s' ts' := by
 induction h with
 | refl => rfl
 | step h0 h _ ih => rw [Qfd h0 h, ih]
variable {t : Nd}
theorem Steps.one {d : Od} (h0 : 0 < s.size) (h : opRd s = .ok (d, s1)) {ks : List Nd} (hk : ks.length = d.takes) (hm : d.make ks = .ok t) : Steps s (ts ++ ks) s1 (ts ++ [t]) := by
 refine .step h0 ?_ (.refl _ _)
 unfold stepO
 rw [h]
 dsimp only
 have a : (ts ++ ks).length - d.takes = ts.length := by rw [List.length_append, hk]; omega
 rw [if_neg (by rw [List.length_append]; omega), a, List.drop_left, hm]
 dsimp only
 rw [List.take_left]
def some_ : List Nd -> List Nd
 | [] => []
 | .no :: ks => some_ ks
 | t :: ks => t :: some_ ks
theorem Qbi (h : t ≠ .no) (ks : List Nd) : some_ (t :: ks) = t :: some_ ks := by
 cases t with
 | no => exact absurd rfl h
 | _ => rfl
theorem QAv (ks : List Nd) : hasNo (some_ ks) = false := by
 induction ks with
 | nil => rfl
 | cons t ks ih =>
  cases t with
  | no => exact ih
  | _ => exact ih
theorem Qlo (h : t ≠ .no) (i : Nat) : bit t i = 2 ^ i := by
 cases t with
 | no => exact absurd rfl h
 | _ => rfl
theorem Qvb (ks : List Nd) (i : Nat) : ∃ m, forkB ks i = 2 ^ i * m := by
 induction ks generalizing i with
 | nil => exact ⟨0, rfl⟩
 | cons t ks ih =>
  obtain ⟨m, a⟩ := ih (i + 1)
  rw [Qbm, a, Nat.pow_succ]
  by_cases h : t = .no
  ·subst h
   exact ⟨2 * m, by simp [bit, Nat.mul_assoc]⟩
  ·rw [Qlo h]
   exact ⟨1 + 2 * m, by rw [Nat.mul_add, Nat.mul_one, Nat.mul_assoc]⟩
theorem QCv (k : Nat) : ∀ (n m : Nat), k < n -> tzN n (2 ^ k + 2 ^ (k + 1) * m) = k := by
 induction k with
 | zero =>
  intro n m a
  obtain ⟨n, rfl⟩ : ∃ j, n = j + 1 := ⟨n - 1, by omega⟩
  rw [tzN, if_pos (by omega)]
 | succ k ih =>
  intro n m a
  obtain ⟨n, rfl⟩ : ∃ j, n = j + 1 := ⟨n - 1, by omega⟩
  have e : 2 ^ (k + 1) + 2 ^ (k + 1 + 1) * m = 2 * (2 ^ k + 2 ^ (k + 1) * m) := by
   rw [Nat.pow_succ 2 (k + 1), Nat.pow_succ 2 k, Nat.mul_add]
   generalize 2 ^ k = z
   rw [Nat.mul_comm z 2, <- Nat.mul_assoc, Nat.mul_comm (2 * z) 2, Nat.mul_assoc 2 (2 * z) m]
  rw [e, tzN, if_neg (by omega), show 2 * (2 ^ k + 2 ^ (k + 1) * m) / 2 = 2 ^ k + 2 ^ (k + 1) * m by omega, ih n m (by omega)]
  omega
theorem Qk4 (h : t ≠ .no) (ks : List Nd) (i : Nat) (hi : i < 16) : tzN 16 (forkB (t :: ks) i) = i /\ forkB (t :: ks) i - 2 ^ i = forkB ks (i + 1) /\ 0 < forkB (t :: ks) i := by
 obtain ⟨m, a⟩ := Qvb ks (i + 1)
 have b : 0 < 2 ^ i := Nat.pow_pos (by decide)
 rw [Qbm, Qlo h]
 refine ⟨?_, by omega, by omega⟩
 rw [a]
 exact QCv i 16 m hi
theorem Qic (ks : List Nd) (i : Nat) : forkB (.no :: ks) i = forkB ks (i + 1) := by rw [forkB]
theorem Qqc (ks : List Nd) (i : Nat) (h : i + ks.length <= 16) : popN 16 (forkB ks i) = (some_ ks).length := by
 induction ks generalizing i with
 | nil => rw [forkB, Qn4]; rfl
 | cons t ks ih =>
  rw [List.length_cons] at h
  by_cases a : t = .no
  ·subst a
   rw [Qic, ih (i + 1) (by omega)]
   rfl
  ·obtain ⟨c, d, e⟩ := Qk4 a ks i (by omega)
   have b := Qfo (t :: ks) i
   rw [List.length_cons] at b
   have f : 2 ^ (i + (ks.length + 1)) <= 2 ^ 16 := Nat.pow_le_pow_right (by decide) (by omega)
   have g : 0 < 2 ^ i := Nat.pow_pos (by decide)
   have := (Qju 16 (forkB (t :: ks) i) e (by omega)).1
   rw [c, d, ih (i + 1) (by omega)] at this
   rw [Qbi a, List.length_cons]
   exact this.symm
theorem Qnm (ks : List Nd) (i : Nat) (r : List Nd) (h : i + ks.length = 16) (hr : r.length = 16) (hn : ∀ j, i <= j -> j < 16 -> r[j]? = some .no) : joinL (some_ ks) (forkB ks i) r = r.take i ++ ks := by
 induction ks generalizing i r with
 | nil =>
  rw [some_, joinL, List.append_nil, List.take_of_length_le (by simp at h; omega)]
 | cons t ks ih =>
  rw [List.length_cons] at h
  by_cases b : t = .no
  ·subst b
   rw [Qic]
   show joinL (some_ ks) _ _ = _
   rw [ih (i + 1) r (by omega) hr fun j c a => hn j (by omega) a]
   rw [List.take_add_one, hn i (Nat.le_refl _) (by omega)]
   simp
  ·obtain ⟨c, a, -⟩ := Qk4 b ks i (by omega)
   rw [Qbi b, joinL, c, a, ih (i + 1) (r.set i t) (by omega) (by rw [List.length_set, hr]) fun j e d => by rw [List.getElem?_set_ne (by omega)]; exact hn j (by omega) d]
   rw [List.take_add_one, List.getElem?_set_self (by omega), List.take_set_of_le (by omega)]
   simp
def Nd.pickN (t : Nd) (all : Bool) (ps : List ByteArray) (c : Nd) : Nd :=
 match t with
 | .no => .no
 | _ => if (all || decide (ps ≠ []) || decide (t.ref.length < 32)) = true then c else .stub t.dig
mutual
def Nd.prt : Nd -> Bool -> List ByteArray -> Nd
 | .no, _, _ => .no
 | .leaf p v, _, _ => .leaf p v
 | .ext p t, all, ps => .ext p (t.pickN all (behP ps p) (t.prt all (behP ps p)))
 | .br ks, all, ps => .br (prts ks 0 all ps)
 | .stub h, _, _ => .stub h
def prts : List Nd -> Nat -> Bool -> List ByteArray -> List Nd
 | [], _, _, _ => []
 | t :: ks, i, all, ps => t.pickN all (behP ps (textB [i])) (t.prt all (behP ps (textB [i]))) :: prts ks (i + 1) all ps
end
def Nd.prs (t : Nd) (all : Bool) (ps : List ByteArray) : Nd := t.pickN all ps (t.prt all ps)
mutual
def Nd.cs : Nd -> Prop
 | .no => True
 | .leaf p v => nibOK p /\ 0 < v.size /\ v.size <= 100
 | .ext p t => 0 < p.size /\ p.size <= 63 /\ (∀ x ∈ bytesOf p, x < 16) /\ t.cs /\ t.stands = true
 | .br ks => ks.length = 16 /\ css ks /\ 2 <= (some_ ks).length
 | .stub h => h.length = 32 /\ ∀ x ∈ h, x < 256
def css : List Nd -> Prop
 | [] => True
 | t :: ks => t.cs /\ css ks
end
mutual
theorem Nd.cs_ok : ∀ t : Nd, t.cs -> t.ok
 | .no, _ => by rw [Nd.ok]; trivial
 | .leaf p v, h => by rw [Nd.cs] at h; rw [Nd.ok]; exact ⟨h.1, by omega⟩
 | .ext p t, h => by
  rw [Nd.cs] at h
  rw [Nd.ok]
  exact ⟨⟨by omega, h.2.2.1⟩, t.cs_ok h.2.2.2.1, fun e => by rw [e] at h; exact absurd h.2.2.2.2 (by simp [Nd.stands])⟩
 | .br ks, h => by rw [Nd.cs] at h; rw [Nd.ok]; exact ⟨h.1, Qzg ks h.2.1⟩
 | .stub h, k => by rw [Nd.cs] at k; rw [Nd.ok]; exact k
theorem Qzg : ∀ ks : List Nd, css ks -> oks ks
 | [], _ => trivial
 | t :: ks, h => by rw [css] at h; rw [oks]; exact ⟨t.cs_ok h.1, Qzg ks h.2⟩
end
theorem Qc4 (h : t ≠ .no) (all : Bool) (ps : List ByteArray) : (t.shw all ps = t.wit all ps /\ t.prs all ps = t.prt all ps) \/ (t.shw all ps = 4 :: t.dig /\ t.prs all ps = .stub t.dig) := by
 unfold Nd.shw Nd.prs
 cases t with
 | no => exact absurd rfl h
 | leaf _ _ => simp only [Nd.pick, Nd.pickN]; split <;> simp
 | ext _ _ => simp only [Nd.pick, Nd.pickN]; split <;> simp
 | br _ => simp only [Nd.pick, Nd.pickN]; split <;> simp
 | stub _ => simp only [Nd.pick, Nd.pickN]; split <;> simp
theorem QCw (all : Bool) (ps : List ByteArray) : Nd.no.shw all ps = [] /\ Nd.no.prs all ps = .no := ⟨rfl, rfl⟩
theorem Qzh (h : t ≠ .no) (all : Bool) (ps : List ByteArray) : t.prs all ps ≠ .no := by
 rcases Qc4 h all ps with ⟨-, e⟩ | ⟨-, e⟩
 ·rw [e]
  cases t with
  | no => exact absurd rfl h
  | _ => rw [Nd.prt]; simp
 ·rw [e]; simp
theorem Qrx (h : t.stands = true) (all : Bool) (ps : List ByteArray) : (t.prs all ps).stands = true := by
 have a : t ≠ .no := fun e => by rw [e] at h; cases h
 rcases Qc4 a all ps with ⟨-, e⟩ | ⟨-, e⟩
 ·rw [e]
  cases t with
  | br _ => rw [Nd.prt]; rfl
  | stub _ => rw [Nd.prt]; rfl
  | _ => cases h
 ·rw [e]; rfl
theorem Qe1 (t : Nd) (ks : List Nd) (i : Nat) (all : Bool) (ps : List ByteArray) : prts (t :: ks) i all ps = t.prs all (behP ps (textB [i])) :: prts ks (i + 1) all ps := by rw [prts]; rfl
theorem Qez (ks : List Nd) (i : Nat) (all : Bool) (ps : List ByteArray) : (prts ks i all ps).length = ks.length := by
 induction ks generalizing i with
 | nil => rw [prts]
 | cons t ks ih => rw [Qe1, List.length_cons, ih, List.length_cons]
theorem Qk5 (ks : List Nd) (i j : Nat) (all : Bool) (ps : List ByteArray) : forkB (prts ks i all ps) j = forkB ks j := by
 induction ks generalizing i j with
 | nil => rw [prts]
 | cons t ks ih =>
  rw [Qe1, Qbm, Qbm, ih]
  by_cases h : t = .no
  ·subst h; rfl
  ·rw [Qlo h, Qlo (Qzh h _ _)]
mutual
theorem Qqd : ∀ t : Nd, t.cs -> ∀ (all : Bool) (ps : List ByteArray), ∀ x ∈ t.wit all ps, x < 256
 | .no, _ => fun all ps x hx => by rw [Nd.wit] at hx; cases hx
 | .leaf p v, h => fun all ps x hx => by
  rw [Nd.cs] at h
  rw [Nd.wit] at hx
  rcases List.mem_cons.1 hx with e | hx
  ·omega
  ·rcases List.mem_cons.1 hx with e | hx
   ·have := h.1.1; omega
   ·rcases List.mem_append.1 hx with hx | hx
    ·exact Qba _ h.1.2 x hx
    ·rcases List.mem_cons.1 hx with e | hx
     ·omega
     ·exact Qao v x hx
 | .ext p t, h => fun all ps x hx => by
  rw [Nd.cs] at h
  rw [Nd.wit_ext] at hx
  rcases List.mem_append.1 hx with hx | hx
  ·have hne : t ≠ .no := fun e => by rw [e] at h; exact absurd h.2.2.2.2 (by simp [Nd.stands])
   rcases Qc4 hne all (behP ps p) with ⟨e, -⟩ | ⟨e, -⟩
   ·rw [e] at hx; exact Qqd t h.2.2.2.1 _ _ x hx
   ·rw [e] at hx
    rcases List.mem_cons.1 hx with e | hx
    ·omega
    ·exact t.dig_byte (t.cs_ok h.2.2.2.1) x hx
  ·rcases List.mem_cons.1 hx with e | hx
   ·omega
   ·rcases List.mem_cons.1 hx with e | hx
    ·omega
    ·exact Qba _ h.2.2.1 x hx
 | .br ks, h => fun all ps x hx => by
  rw [Nd.cs] at h
  rw [Nd.wit] at hx
  rcases List.mem_append.1 hx with hx | hx
  ·exact Qid ks h.2.1 0 all ps x hx
  ·have hl := Qfo ks 0
   rw [h.1] at hl
   simp only [List.mem_cons, List.not_mem_nil, or_false] at hx
   omega
 | .stub g, h => fun all ps x hx => by
  rw [Nd.cs] at h
  rw [Nd.wit] at hx
  rcases List.mem_cons.1 hx with e | hx
  ·omega
  ·exact h.2 x hx
theorem Qid : ∀ ks : List Nd, css ks -> ∀ (i : Nat) (all : Bool) (ps : List ByteArray), ∀ x ∈ wits ks i all ps, x < 256
 | [], _ => fun i all ps x hx => by rw [wits] at hx; cases hx
 | t :: ks, h => fun i all ps x hx => by
  rw [css] at h
  rw [Qe4] at hx
  rcases List.mem_append.1 hx with hx | hx
  ·by_cases hne : t = .no
   ·subst hne; cases hx
   ·rcases Qc4 hne all (behP ps (textB [i])) with ⟨e, -⟩ | ⟨e, -⟩
    ·rw [e] at hx; exact Qqd t h.1 _ _ x hx
    ·rw [e] at hx
     rcases List.mem_cons.1 hx with e | hx
     ·omega
     ·exact t.dig_byte (t.cs_ok h.1) x hx
  ·exact Qid ks h.2 (i + 1) all ps x hx
end
def WitS (t : Nd) : Prop := ∀ (all : Bool) (ps : List ByteArray) (r : List Nat) (ts : List Nd), (∀ x ∈ r, x < 256) -> Steps (textB (t.wit all ps ++ r)) ts (textB r) (ts ++ [t.prt all ps])
theorem Qd1 {a : Nat} {l : List Nat} : 0 < (textB (a :: l)).size := by rw [Qaa]; simp
theorem Qie (hc : t.cs) (hne : t ≠ .no) (h : WitS t) (all : Bool) (ps : List ByteArray) (r : List Nat) (ts : List Nd) (hr : ∀ x ∈ r, x < 256) : Steps (textB (t.shw all ps ++ r)) ts (textB r) (ts ++ [t.prs all ps]) := by
 rcases Qc4 hne all ps with ⟨e1, e2⟩ | ⟨e1, e2⟩
 ·rw [e1, e2]; exact h all ps r ts hr
 ·rw [e1, e2]
  have := Steps.one (ts := ts) (ks := []) Qd1 (Qnl t.dig r (t.dig_length (t.cs_ok hc)) (t.dig_byte (t.cs_ok hc)) hr) rfl rfl
  rw [List.append_nil] at this
  exact this
mutual
theorem Qif : ∀ t : Nd, t.cs -> t ≠ .no -> WitS t
 | .no, _, h => absurd rfl h
 | .leaf p v, h, _ => fun all ps r ts hr => by
  rw [Nd.cs] at h
  have e : (Nd.leaf p v).wit all ps = (Nd.leaf p v).wit true [] := by rw [Nd.wit, Nd.wit]
  rw [e, Nd.prt]
  have hs : 0 < (textB ((Nd.leaf p v).wit true [] ++ r)).size := by rw [Nd.wit]; exact Qd1
  have := Steps.one (ts := ts) (ks := []) hs (Qva p v r h.1 h.2 hr) rfl rfl
  rw [List.append_nil] at this
  exact this
 | .ext p t, h, _ => fun all ps r ts hr => by
  rw [Nd.cs] at h
  have hne : t ≠ .no := fun e => by rw [e] at h; exact absurd h.2.2.2.2 (by simp [Nd.stands])
  rw [Nd.wit_ext, List.append_assoc, show (Nd.ext p t).prt all ps = .ext p (t.prs all (behP ps p)) by rw [Nd.prt]; rfl]
  have hb : ∀ x ∈ 2 :: p.size :: pairsU (bytesOf p) ++ r, x < 256 := fun x hx => by
   rcases List.mem_append.1 hx with hx | hx
   ·rcases List.mem_cons.1 hx with e | hx
    ·omega
    ·rcases List.mem_cons.1 hx with e | hx
     ·omega
     ·exact Qba _ h.2.2.1 x hx
   ·exact hr x hx
  refine (Qie h.2.2.2.1 hne (Qif t h.2.2.2.1 hne) all (behP ps p) _ ts hb).trans ?_
  refine Steps.one Qd1 (Qyf p r h.1 h.2.1 h.2.2.1 hr) rfl ?_
  show (if (t.prs all (behP ps p)).stands = true then Except.ok (Nd.ext p (t.prs all (behP ps p))) else Except.error (Er.base 8)) = _
  rw [if_pos (Qrx h.2.2.2.2 _ _)]
 | .br ks, h, _ => fun all ps r ts hr => by
  rw [Nd.cs] at h
  rw [Nd.wit, List.append_assoc, Nd.prt]
  have hl := Qfo ks 0
  rw [h.1] at hl
  have hb : ∀ x ∈ [3, forkB ks 0 % 256, forkB ks 0 / 256] ++ r, x < 256 := fun x hx => by
   rcases List.mem_append.1 hx with hx | hx
   ·simp only [List.mem_cons, List.not_mem_nil, or_false] at hx
    omega
   ·exact hr x hx
  refine (Qig ks h.2.1 0 all ps _ ts hb).trans ?_
  have hlen : (some_ (prts ks 0 all ps)).length = popN 16 (forkB ks 0) := by
   rw [<- Qk5 ks 0 0 all ps, Qqc _ 0 (by rw [Qez, h.1]; decide)]
  have h2 : 2 <= popN 16 (forkB ks 0) := by rw [Qqc ks 0 (by rw [h.1]; decide)]; exact h.2.2
  refine Steps.one Qd1 (QAu (forkB ks 0) r (by omega) h2 hr) hlen ?_
  rw [Od.make, if_neg (by rw [QAv]; simp), <- Qk5 ks 0 0 all ps, Qnm _ 0 _ (by rw [Qez, h.1]) (by simp) fun j _ hj => List.getElem?_replicate_of_lt hj]
  simp
 | .stub g, h, _ => fun all ps r ts hr => by
  rw [Nd.cs] at h
  rw [Nd.wit, Nd.prt]
  have := Steps.one (ts := ts) (ks := []) Qd1 (Qnl g r h.1 h.2 hr) rfl rfl
  rw [List.append_nil] at this
  exact this
theorem Qig : ∀ ks : List Nd, css ks -> ∀ (i : Nat) (all : Bool) (ps : List ByteArray) (r : List Nat) (ts : List Nd), (∀ x ∈ r, x < 256) -> Steps (textB (wits ks i all ps ++ r)) ts (textB r) (ts ++ some_ (prts ks i all ps))
 | [], _ => fun i all ps r ts hr => by
  rw [wits, prts, some_, List.append_nil]
  exact .refl _ _
 | t :: ks, h => fun i all ps r ts hr => by
  rw [css] at h
  rw [Qe4, Qe1, List.append_assoc]
  by_cases hne : t = .no
  ·subst hne
   exact Qig ks h.2 (i + 1) all ps r ts hr
  ·have hb : ∀ x ∈ wits ks (i + 1) all ps ++ r, x < 256 := fun x hx => by
    rcases List.mem_append.1 hx with hx | hx
    ·exact Qid ks h.2 _ _ _ x hx
    ·exact hr x hx
   refine (Qie h.1 hne (Qif t h.1 hne) all (behP ps (textB [i])) _ ts hb).trans ?_
   have := Qig ks h.2 (i + 1) all ps r (ts ++ [t.prs all (behP ps (textB [i]))]) hr
   rw [List.append_assoc, List.singleton_append] at this
   rw [Qbi (Qzh hne _ _)]
   exact this
end
theorem Qp5 (hc : t.cs) (all : Bool) (ps : List ByteArray) (L : Nat) : runO L (textB (t.witness all ps)).size (textB (t.witness all ps)) [] = .ok [t.prs all ps] := by
 by_cases a : t = .no
 ·subst a
  have b : opRd (textB [0]) = .ok (.gives .no, textB []) := by
   unfold opRd
   rw [Qc3 0 [] (by simp)]
   rfl
  have c := (Steps.one (ts := []) (ks := []) Qd1 b rfl rfl).run L
  rw [show Nd.no.witness all ps = [0] from rfl]
  exact c.trans (Qch (by rw [Qaa]; rfl))
 ·have d : t.witness all ps = t.shw all ps := by
   cases t with
   | no => exact absurd rfl a
   | _ => rfl
  have h := (Qie hc a (Qif t hc a) all ps [] [] (by simp)).run L
  rw [List.append_nil] at h
  rw [d]
  exact h.trans (Qch (by rw [Qaa]; rfl))
theorem Qnn (hc : t.cs) (all : Bool) (ps : List ByteArray) (hl : (t.witness all ps).length <= 8000) (hf : (t.prs all ps).fitB 0 = true) (hd : (t.prs all ps).dig = t.dig) : openF t.dig (textB (t.witness all ps)) = .ok (t.prs all ps) := by
 refine Qjw (by rw [Qaa]; exact hl) (Qp5 hc all ps _) ?_
 show (if (t.prs all ps).fitB 0 = false then Except.error (Er.base 8) else if (t.prs all ps).dig = t.dig then Except.ok (t.prs all ps) else Except.error (Er.base 7)) = _
 rw [if_neg (by rw [hf]; simp), if_pos hd]
theorem Qp6 (a b : List Nd) : some_ (a ++ b) = some_ a ++ some_ b := by
 induction a with
 | nil => rfl
 | cons t a ih =>
  by_cases h : t = .no
  ·subst h; exact ih
  ·rw [List.cons_append, Qbi h, Qbi h, ih, List.cons_append]
theorem Qqe (ks : List Nd) (k : Nat) (hk : k <= ks.length) : cntN ks k = (some_ (ks.take k)).length := by
 induction k with
 | zero => rfl
 | succ k ih =>
  rw [cntN, ih (by omega), List.take_add_one, Qp6, List.length_append, List.getD_eq_getElem?_getD, List.getElem?_eq_getElem (by omega)]
  simp only [Option.getD_some, Option.toList_some]
  by_cases h : ks[k] = .no
  ·rw [h]; rfl
  ·rw [Qbi h, if_neg (fun e => h (Nd.isNo_iff.1 e))]; rfl
mutual
theorem Qfm : ∀ (t : Nd) (n : Nat), n <= 64 -> t.can n -> t.cs
 | .no, _, _, _ => by rw [Nd.cs]; trivial
 | .leaf p v, n, hn, h => by
  rw [Nd.can] at h
  rw [Nd.cs]
  exact ⟨⟨by omega, h.2.1⟩, h.2.2⟩
 | .ext p t, n, hn, h => by
  rw [Nd.can] at h
  rw [Nd.cs]
  refine ⟨h.1, by omega, h.2.2.1, Qfm t _ (by omega) h.2.2.2.1, ?_⟩
  have := h.2.2.2.2
  cases t with
  | br _ => rfl
  | _ => cases this
 | .br ks, n, hn, h => by
  rw [Nd.can] at h
  rw [Nd.cs]
  have := h.2.2.2
  rw [Qqe ks 16 (by omega), List.take_of_length_le (by omega)] at this
  exact ⟨h.2.1, Qvc ks _ (by omega) h.2.2.1, this⟩
 | .stub _, _, _, h => by rw [Nd.can] at h; exact h.elim
theorem Qvc : ∀ (ks : List Nd) (n : Nat), n <= 64 -> canAll ks n -> css ks
 | [], _, _, _ => by rw [css]; trivial
 | t :: ks, n, hn, h => by
  rw [canAll] at h
  rw [css]
  exact ⟨Qfm t n hn h.1, Qvc ks n hn h.2⟩
end
theorem Qlp {c : Nd} (all : Bool) (ps : List ByteArray) (d : Nat) (h : c.fitB d = true) : (t.pickN all ps c).fitB d = true := by
 cases t with
 | no => simp only [Nd.pickN]; rw [Nd.fitB]
 | leaf _ _ => simp only [Nd.pickN]; split; exact h; rw [Nd.fitB]
 | ext _ _ => simp only [Nd.pickN]; split; exact h; rw [Nd.fitB]
 | br _ => simp only [Nd.pickN]; split; exact h; rw [Nd.fitB]
 | stub _ => simp only [Nd.pickN]; split; exact h; rw [Nd.fitB]
mutual
theorem Qlq : ∀ (t : Nd) (n : Nat), n <= 64 -> t.can n -> ∀ (all : Bool) (ps : List ByteArray), (t.prt all ps).fitB (64 - n) = true
 | .no, _, _, _ => fun _ _ => by rw [Nd.prt, Nd.fitB]
 | .leaf p v, n, hn, h => fun _ _ => by
  rw [Nd.can] at h
  rw [Nd.prt, Nd.fitB]
  exact decide_eq_true (by omega)
 | .ext p t, n, hn, h => fun all ps => by
  rw [Nd.can] at h
  rw [Nd.prt, Nd.fitB, decide_eq_true (by omega), Bool.true_and]
  refine Qlp _ _ _ ?_
  have := Qlq t (n - p.size) (by omega) h.2.2.2.1 all (behP ps p)
  rw [show 64 - (n - p.size) = 64 - n + p.size by omega] at this
  exact this
 | .br ks, n, hn, h => fun all ps => by
  rw [Nd.can] at h
  rw [Nd.prt, Nd.fitB, decide_eq_true (by omega), Bool.true_and]
  have := Qqf ks (n - 1) (by omega) h.2.2.1 0 all ps
  rw [show 64 - (n - 1) = 64 - n + 1 by omega] at this
  exact this
 | .stub _, _, _, h => by rw [Nd.can] at h; exact h.elim
theorem Qqf : ∀ (ks : List Nd) (n : Nat), n <= 64 -> canAll ks n -> ∀ (i : Nat) (all : Bool) (ps : List ByteArray), fitBs (prts ks i all ps) (64 - n) = true
 | [], _, _, _ => fun _ _ _ => by rw [prts, fitBs]
 | t :: ks, n, hn, h => fun i all ps => by
  rw [canAll] at h
  rw [Qe1, fitBs, Qqf ks n hn h.2 (i + 1) all ps, Bool.and_true]
  exact Qlp _ _ _ (Qlq t n hn h.1 all _)
end
mutual
theorem Qih : ∀ (t : Nd) (ps : List ByteArray), t.prt true ps = t
 | .no, _ => by rw [Nd.prt]
 | .leaf _ _, _ => by rw [Nd.prt]
 | .ext p t, ps => by
  rw [Nd.prt, Qih t]
  cases t <;> simp [Nd.pickN]
 | .br ks, ps => by rw [Nd.prt, Qk6 ks]
 | .stub _, _ => by rw [Nd.prt]
theorem Qk6 : ∀ (ks : List Nd) (i : Nat) (ps : List ByteArray), prts ks i true ps = ks
 | [], _, _ => by rw [prts]
 | t :: ks, i, ps => by
  rw [prts, Qih t, Qk6 ks]
  cases t <;> simp [Nd.pickN]
end
theorem Qry (hc : t.ok) (h : ¬ t.ref.length < 32) : (Nd.stub t.dig).ref = t.ref := by
 have b := t.dig_length hc
 show textCode t.dig = t.ref
 rw [Qc1 b]
 unfold Nd.dig
 rw [if_neg h]
 have d : t.dig = t.ref.drop 1 := by unfold Nd.dig; rw [if_neg h]
 have a : ∀ c : List Nat, ¬ (refOf c).length < 32 -> 160 :: (refOf c).drop 1 = refOf c := fun c hcc => by
  unfold refOf at hcc ⊢
  split at hcc
  ·rename_i h1; exact absurd h1 hcc
  ·rename_i h1
   rw [if_neg h1, Qc1 (Qak _)]
   rfl
 cases t with
 | no => exact absurd (by show (textCode []).length < 32; have := Qae []; simp at this; omega) h
 | leaf _ _ => exact a _ h
 | ext _ _ => exact a _ h
 | br _ => exact a _ h
 | stub g =>
  have := hc
  rw [Nd.ok] at this
  show 160 :: (textCode g).drop 1 = textCode g
  rw [Qc1 this.1]
  rfl
theorem Qlr {c : Nd} (hc : t.ok) (all : Bool) (ps : List ByteArray) (hr : c.ref = t.ref) : (t.pickN all ps c).ref = t.ref := by
 have a : (if (all || decide (ps ≠ []) || decide (t.ref.length < 32)) = true then c else .stub t.dig).ref = t.ref := by
  split
  ·exact hr
  ·rename_i h
   refine Qry hc fun b => h ?_
   simp [b]
 cases t with
 | no => rfl
 | leaf _ _ => exact a
 | ext _ _ => exact a
 | br _ => exact a
 | stub _ => exact a
mutual
theorem Qp7 : ∀ t : Nd, t.cs -> ∀ (all : Bool) (ps : List ByteArray), (t.prt all ps).ref = t.ref
 | .no, _ => fun _ _ => by rw [Nd.prt]
 | .leaf _ _, _ => fun _ _ => by rw [Nd.prt]
 | .ext p t, h => fun all ps => by
  rw [Nd.cs] at h
  have e := Qlr (t.cs_ok h.2.2.2.1) all (behP ps p) (Qp7 t h.2.2.2.1 all (behP ps p))
  rw [Nd.prt]
  show refOf (Nd.code _) = refOf (Nd.code _)
  rw [Nd.ref_ext, Nd.ref_ext, e]
 | .br ks, h => fun all ps => by
  rw [Nd.cs] at h
  rw [Nd.prt]
  show refOf (Nd.code _) = refOf (Nd.code _)
  rw [Nd.code, Nd.code, Qqg ks h.2.1 0 all ps]
 | .stub _, _ => fun _ _ => by rw [Nd.prt]
theorem Qqg : ∀ ks : List Nd, css ks -> ∀ (i : Nat) (all : Bool) (ps : List ByteArray), refs (prts ks i all ps) = refs ks
 | [], _ => fun _ _ _ => by rw [prts]
 | t :: ks, h => fun i all ps => by
  rw [css] at h
  rw [Qe1, Qbh, Qbh, Qqg ks h.2 (i + 1) all ps]
  congr 1
  exact Qlr (t.cs_ok h.1) all _ (Qp7 t h.1 all _)
end
theorem QAw (h : t.cs) (all : Bool) (ps : List ByteArray) : (t.prs all ps).dig = t.dig := by
 have e : (t.prs all ps).ref = t.ref := Qlr (t.cs_ok h) all ps (Qp7 t h all ps)
 unfold Nd.dig
 rw [e]
theorem Qno (h : t.can 64) (all : Bool) (ps : List ByteArray) (hl : (t.witness all ps).length <= 8000) : openF t.dig (textB (t.witness all ps)) = .ok (t.prs all ps) :=
 Qnn (Qfm t 64 (by omega) h) all ps hl (Qlp _ _ _ (Qlq t 64 (by omega) h all ps)) (QAw (Qfm t 64 (by omega) h) all ps)
mutual
def Nd.lvs : Nd -> Nat
 | .no => 0
 | .leaf _ _ => 1
 | .ext _ t => t.lvs
 | .br ks => lvss ks
 | .stub _ => 1
def lvss : List Nd -> Nat
 | [] => 0
 | t :: ks => t.lvs + lvss ks
end
theorem Qqh (hc : t.cs) (all : Bool) (ps : List ByteArray) (n : Nat) (h0 : 70 <= n) (h : (t.wit all ps).length + 37 <= n) : (t.shw all ps).length + 37 <= n := by
 by_cases a : t = .no
 ·subst a
  show 0 + 37 <= n
  omega
 ·rcases Qc4 a all ps with ⟨e, -⟩ | ⟨e, -⟩
  ·rw [e]; exact h
  ·rw [e, List.length_cons, t.dig_length (t.cs_ok hc)]; omega
mutual
theorem Qvd : ∀ t : Nd, t.cs -> t ≠ .no -> ∀ (all : Bool) (ps : List ByteArray), 0 < t.lvs /\ (t.wit all ps).length + 37 <= 172 * t.lvs
 | .no, _, h => absurd rfl h
 | .leaf p v, h, _ => fun _ _ => by
  rw [Nd.cs] at h
  rw [Nd.wit, Nd.lvs]
  simp only [List.length_cons, List.length_append, Qb3, bytesOf_length]
  have := h.1.1
  omega
 | .ext p t, h, _ => fun all ps => by
  rw [Nd.cs] at h
  have hst := h.2.2.2.2
  have hne : t ≠ .no := fun e => by rw [e] at hst; cases hst
  rw [Nd.wit_ext, Nd.lvs]
  simp only [List.length_cons, List.length_append, Qb3, bytesOf_length]
  cases t with
  | no => exact absurd rfl hne
  | leaf _ _ => cases hst
  | ext _ _ => cases hst
  | br ks =>
   have hc := h.2.2.2.1
   have h1 := Qls ks (by rw [Nd.cs] at hc; exact hc.2.1) 0 all (behP ps p)
   have h2 : 2 <= (some_ ks).length := by rw [Nd.cs] at hc; exact hc.2.2
   have h3 : ((Nd.br ks).wit all (behP ps p)).length = (wits ks 0 all (behP ps p)).length + 3 := by rw [Nd.wit, List.length_append]; rfl
   rw [Nd.lvs]
   rcases Qc4 hne all (behP ps p) with ⟨e, -⟩ | ⟨e, -⟩
   ·rw [e]; omega
   ·rw [e, List.length_cons, (Nd.br ks).dig_length ((Nd.br ks).cs_ok hc)]; omega
  | stub g =>
   have hc := h.2.2.2.1
   rcases Qc4 hne all (behP ps p) with ⟨e, -⟩ | ⟨e, -⟩
   ·rw [e, Nd.wit, List.length_cons]
    rw [Nd.cs] at hc
    rw [Nd.lvs]; omega
   ·rw [e, List.length_cons, (Nd.stub g).dig_length ((Nd.stub g).cs_ok hc), Nd.lvs]; omega
 | .br ks, h, _ => fun all ps => by
  rw [Nd.cs] at h
  have h1 := Qls ks h.2.1 0 all ps
  have h2 := h.2.2
  rw [Nd.wit, Nd.lvs, List.length_append]
  simp only [List.length_cons, List.length_nil]
  omega
 | .stub g, h, _ => fun _ _ => by
  rw [Nd.cs] at h
  rw [Nd.wit, Nd.lvs, List.length_cons]
  omega
theorem Qls : ∀ ks : List Nd, css ks -> ∀ (i : Nat) (all : Bool) (ps : List ByteArray), (wits ks i all ps).length + 37 * (some_ ks).length <= 172 * lvss ks /\ (some_ ks).length <= lvss ks
 | [], _ => fun _ _ _ => by rw [wits, lvss, some_]; simp
 | t :: ks, h => fun i all ps => by
  rw [css] at h
  have ih := Qls ks h.2 (i + 1) all ps
  rw [Qe4, lvss, List.length_append]
  by_cases hne : t = .no
  ·subst hne
   rw [show some_ (.no :: ks) = some_ ks from rfl, (QCw _ _).1, Nd.lvs]
   simp only [List.length_nil]
   omega
  ·obtain ⟨h1, h2⟩ := Qvd t h.1 hne all (behP ps (textB [i]))
   have h3 := Qqh h.1 all (behP ps (textB [i])) (172 * t.lvs) (by omega) h2
   rw [Qbi hne, List.length_cons]
   omega
end
theorem Qii (hc : t.cs) (all : Bool) (ps : List ByteArray) : (t.witness all ps).length <= 172 * t.lvs + 1 := by
 by_cases a : t = .no
 ·subst a; show 1 <= _; omega
 ·have c : t.witness all ps = t.shw all ps := by
   cases t with
   | no => exact absurd rfl a
   | _ => rfl
  obtain ⟨d, b⟩ := Qvd t hc a all ps
  have := Qqh hc all ps (172 * t.lvs) (by omega) b
  rw [c]
  omega
mutual
def Nd.pths : Nd -> List (List Nat)
 | .no => []
 | .leaf p _ => [bytesOf p]
 | .ext p t => t.pths.map (bytesOf p ++ ·)
 | .br ks => pthss ks 0
 | .stub _ => []
def pthss : List Nd -> Nat -> List (List Nat)
 | [], _ => []
 | t :: ks, i => t.pths.map (i :: ·) ++ pthss ks (i + 1)
end
mutual
theorem Qlt : ∀ (t : Nd) (n : Nat), t.can n -> t.pths.length = t.lvs
 | .no, _, _ => by rw [Nd.pths, Nd.lvs]; rfl
 | .leaf _ _, _, _ => by rw [Nd.pths, Nd.lvs]; rfl
 | .ext p t, n, h => by
  rw [Nd.can] at h
  rw [Nd.pths, Nd.lvs, List.length_map, Qlt t _ h.2.2.2.1]
 | .br ks, n, h => by
  rw [Nd.can] at h
  rw [Nd.pths, Nd.lvs, Qnp ks _ h.2.2.1]
 | .stub _, _, h => by rw [Nd.can] at h; exact h.elim
theorem Qnp : ∀ (ks : List Nd) (n : Nat), canAll ks n -> ∀ i, (pthss ks i).length = lvss ks
 | [], _, _ => fun _ => by rw [pthss, lvss]; rfl
 | t :: ks, n, h => fun i => by
  rw [canAll] at h
  rw [pthss, lvss, List.length_append, List.length_map, Qlt t n h.1, Qnp ks n h.2]
end
mutual
theorem Qlu : ∀ (t : Nd) (n : Nat), t.can n -> ∀ s ∈ t.pths, s.length = n /\ t.get s ≠ none
 | .no, _, _ => fun s hs => by rw [Nd.pths] at hs; cases hs
 | .leaf p v, n, h => fun s hs => by
  rw [Nd.can] at h
  rw [Nd.pths] at hs
  obtain rfl := List.mem_singleton.1 hs
  rw [Nd.get, if_pos rfl, bytesOf_length]
  exact ⟨h.1, by simp⟩
 | .ext p t, n, h => fun s hs => by
  rw [Nd.can] at h
  rw [Nd.pths] at hs
  obtain ⟨s', hs', rfl⟩ := List.mem_map.1 hs
  obtain ⟨h1, h2⟩ := Qlu t _ h.2.2.2.1 s' hs'
  have hl : (bytesOf p).length = p.size := bytesOf_length p
  refine ⟨by rw [List.length_append, hl]; omega, ?_⟩
  rw [Nd.get, if_pos (by rw [<- hl, List.take_left]), <- hl, List.drop_left]
  exact h2
 | .br ks, n, h => fun s hs => by
  rw [Nd.can] at h
  rw [Nd.pths] at hs
  obtain ⟨j, s', rfl, h1, h2⟩ := Qij ks _ h.2.2.1 0 s hs
  refine ⟨by rw [List.length_cons]; omega, ?_⟩
  rw [Nd.get]
  simpa using h2
 | .stub _, _, h => by rw [Nd.can] at h; exact h.elim
theorem Qij : ∀ (ks : List Nd) (n : Nat), canAll ks n -> ∀ i, ∀ s ∈ pthss ks i, ∃ j s', s = (i + j) :: s' /\ s'.length = n /\ getAt ks j s' ≠ none
 | [], _, _ => fun _ s hs => by rw [pthss] at hs; cases hs
 | t :: ks, n, h => fun i s hs => by
  rw [canAll] at h
  rw [pthss] at hs
  rcases List.mem_append.1 hs with hs | hs
  ·obtain ⟨s', hs', rfl⟩ := List.mem_map.1 hs
   obtain ⟨h1, h2⟩ := Qlu t n h.1 s' hs'
   exact ⟨0, s', rfl, h1, by rw [getAt]; exact h2⟩
  ·obtain ⟨j, s', rfl, h1, h2⟩ := Qij ks n h.2 (i + 1) s hs
   exact ⟨j + 1, s', by rw [show i + 1 + j = i + (j + 1) by omega], h1, by rw [getAt]; exact h2⟩
end
theorem Qik {α β : Type} {f : α -> β} (hf : ∀ a b, f a = f b -> a = b) : ∀ {l : List α}, l.Nodup -> (l.map f).Nodup
 | [], _ => List.nodup_nil
 | a :: l, h => by
  rw [List.nodup_cons] at h
  rw [List.map_cons, List.nodup_cons]
  refine ⟨fun hm => ?_, Qik hf h.2⟩
  obtain ⟨b, hb, e⟩ := List.mem_map.1 hm
  exact h.1 (hf _ _ e ▸ hb)
mutual
theorem Qg6 : ∀ (t : Nd) (n : Nat), t.can n -> t.pths.Nodup
 | .no, _, _ => by rw [Nd.pths]; exact List.nodup_nil
 | .leaf _ _, _, _ => by rw [Nd.pths]; simp
 | .ext p t, n, h => by
  rw [Nd.can] at h
  rw [Nd.pths]
  exact Qik (fun a b e => List.append_cancel_left e) (Qg6 t _ h.2.2.2.1)
 | .br ks, n, h => by
  rw [Nd.can] at h
  rw [Nd.pths]
  exact Qil ks _ h.2.2.1 0
 | .stub _, _, h => by rw [Nd.can] at h; exact h.elim
theorem Qil : ∀ (ks : List Nd) (n : Nat), canAll ks n -> ∀ i, (pthss ks i).Nodup
 | [], _, _ => fun _ => by rw [pthss]; exact List.nodup_nil
 | t :: ks, n, h => fun i => by
  rw [canAll] at h
  rw [pthss, List.nodup_append]
  refine ⟨Qik (fun a b e => by cases e; rfl) (Qg6 t n h.1), Qil ks n h.2 (i + 1), fun a ha b hb e => ?_⟩
  obtain ⟨s', -, rfl⟩ := List.mem_map.1 ha
  obtain ⟨j, s2, rfl, -⟩ := Qij ks n h.2 (i + 1) b hb
  have := (List.cons.inj e).1
  omega
end
theorem Qyg {l k : List (List Nat)} (h : l.Nodup) (hs : ∀ x ∈ l, x ∈ k) : l.length <= k.length := by
 induction l generalizing k with
 | nil => simp
 | cons x l ih =>
  rw [List.nodup_cons] at h
  have d := hs x (List.mem_cons_self ..)
  have := ih (k := k.erase x) h.2 fun y c => (List.mem_erase_of_ne (a := y) (b := x) (fun e => by rw [e] at c; exact h.1 c)).2 (hs y (List.mem_cons_of_mem _ c))
  rw [List.length_erase_of_mem d] at this
  have f := List.length_pos_of_mem d
  rw [List.length_cons]
  omega
theorem Qnq (h : t.can 64) {m : Mp} (hg : ∀ s, s.length = 64 -> t.get s = getN m s) : t.lvs <= m.length := by
 rw [<- Qlt t 64 h]
 have := Qyg (k := m.map pth) (Qg6 t 64 h) fun s c => by
  obtain ⟨b, a⟩ := Qlu t 64 h s c
  rw [hg s b] at a
  unfold getN at a
  cases hf : m.find? (fun x => decide (pth x = s)) with
  | none => rw [hf] at a; exact absurd rfl a
  | some x =>
   have := List.find?_some hf
   exact List.mem_map.2 ⟨x, List.mem_of_find?_eq_some hf, by simpa using this⟩
 rwa [List.length_map] at this
end Go.Proofs.YtakidhihbgfjlaaGreatDoor
