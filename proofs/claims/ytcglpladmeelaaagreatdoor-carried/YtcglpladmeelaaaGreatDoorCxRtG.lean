/-
  What was written is read again (pure): the operations of a node.
-/
import Derived.Test.YtcglpladmeelaaaGreatDoorCxOdG
import Derived.Test.YtcglpladmeelaaaGreatDoorCxFull
import Derived.Test.YtcglpladmeelaaaGreatDoorCxSaG
namespace Go.Proofs.YtcglpladmeelaaaGreatDoor
open Go.RowKit
set_option maxRecDepth 100000
set_option maxHeartbeats 25600000
theorem byte_app {a b : List Nat} (h : ∀ x ∈ a ++ b, x < 256) : (∀ x ∈ a, x < 256) /\ ∀ x ∈ b, x < 256 := ⟨fun x hx => h x (List.mem_append_left _ hx), fun x hx => h x (List.mem_append_right _ hx)⟩
theorem text_head (p r : List Nat) (h : ∀ x ∈ p ++ r, x < 256) : (textB (p ++ r)).extract 0 p.length = textB p := by
 apply bytesOf_inj
 have e : ∀ (s : ByteArray) (n : Nat), bytesOf (s.extract 0 n) = (bytesOf s).take n := fun s n => by
  unfold bytesOf
  rw [ByteArray.data_extract, Array.toList_extract]
  simp [List.extract, List.map_take]
 rw [e, bytesOf_textB h, bytesOf_textB (byte_app h).1]
 simp
theorem text_tail (p r : List Nat) (h : ∀ x ∈ p ++ r, x < 256) : (textB (p ++ r)).extract p.length (textB (p ++ r)).size = textB r := by
 apply bytesOf_inj
 rw [bytesOf_drop, bytesOf_textB h, bytesOf_textB (byte_app h).2]
 simp
theorem rdTk_text (p r : List Nat) (h : ∀ x ∈ p ++ r, x < 256) : rdTk p.length (textB (p ++ r)) = .ok (textB p, textB r) := by
 unfold rdTk
 rw [if_neg (by rw [textB_size]; simp), text_head p r h, text_tail p r h]
theorem rdNm_text (n : Nat) (r : List Nat) (h : ∀ x ∈ n :: r, x < 256) : rdNm (textB (n :: r)) = .ok (n, textB r) := by
 unfold rdNm
 rw [if_neg (by rw [textB_size]; simp), bytesOf_textB h]
 have := text_tail [n] r h
 simp only [List.length_singleton, List.singleton_append] at this
 rw [this]
 rfl
theorem byte_cons {a : Nat} {b : List Nat} (h : ∀ x ∈ a :: b, x < 256) : a < 256 /\ ∀ x ∈ b, x < 256 := ⟨h a (List.mem_cons_self ..), fun x hx => h x (List.mem_cons_of_mem _ hx)⟩
theorem nibs_pairsU : ∀ q : List Nat, (∀ x ∈ q, x < 16) -> nibs (pairsU q) = q ++ (if q.length % 2 = 1 then [0] else [])
 | [], _ => rfl
 | [a], h => by
  have := h a (by simp)
  rw [pairsU]
  simp [nibs]
 | a :: b :: r, h => by
  have h1 := h a (by simp)
  have h2 := h b (by simp)
  have ih := nibs_pairsU r fun x hx => h x (by simp [hx])
  rw [pairsU, nibs, List.flatMap_cons, <- nibs, ih, show (a * 16 + b) / 16 = a by omega, show (a * 16 + b) % 16 = b by omega]
  by_cases ho : r.length % 2 = 1
  ·rw [if_pos ho, if_pos (by simp only [List.length_cons]; omega)]; rfl
  ·rw [if_neg ho, if_neg (by simp only [List.length_cons]; omega)]; rfl
theorem pairsU_byte : ∀ q : List Nat, (∀ x ∈ q, x < 16) -> ∀ x ∈ pairsU q, x < 256
 | [], _ => fun x hx => by cases hx
 | [a], h => fun x hx => by
  have := h a (by simp)
  rw [pairsU] at hx
  simp at hx
  omega
 | a :: b :: r, h => fun x hx => by
  have h1 := h a (by simp)
  have h2 := h b (by simp)
  rw [pairsU] at hx
  rcases List.mem_cons.1 hx with e | hx
  ·omega
  ·exact pairsU_byte r (fun y hy => h y (by simp [hy])) x hx
theorem wrRead_text (q : ByteArray) (m : Nat) (h : ∀ x ∈ bytesOf q, x < 16) (hm : q.size <= m) : wrRead q.size (textB (pairsU (bytesOf q))) m = .ok q := by
 unfold wrRead unpF
 rw [if_neg (by omega), bytesOf_textB (pairsU_byte _ h), nibs_pairsU _ h, bytesOf_length]
 have c : (bytesOf q).length = q.size := bytesOf_length q
 rw [if_neg ?_]
 ·rw [List.take_append_of_le_length (by omega), List.take_of_length_le (by omega), textB_bytesOf]
 ·rintro ⟨a, b⟩
  apply b
  split at a
  ·rename_i hodd
   rw [if_pos hodd, getElem!_pos _ _ (by simp; omega), List.getElem_append_right (by omega)]
   simp [c]
  ·simp at a
   omega
theorem rdPth_text (q : ByteArray) (r : List Nat) (h : ∀ x ∈ bytesOf q, x < 16) (hq : q.size < 256) (hr : ∀ x ∈ r, x < 256) : rdPth (textB (q.size :: (pairsU (bytesOf q) ++ r))) = .ok ((q.size, textB (pairsU (bytesOf q))), textB r) := by
 have b : ∀ x ∈ pairsU (bytesOf q) ++ r, x < 256 := fun x a => by
  rcases List.mem_append.1 a with a | a
  ·exact pairsU_byte _ h x a
  ·exact hr x a
 unfold rdPth
 rw [rdNm_text q.size _ (fun x a => by rcases List.mem_cons.1 a with e | a; omega; exact b x a)]
 have := rdTk_text (pairsU (bytesOf q)) r b
 rw [pairsU_length, bytesOf_length] at this
 show (match rdTk ((q.size + 1) / 2) (textB (pairsU (bytesOf q) ++ r)) with | .error e => _ | .ok (p, s2) => _) = _
 rw [this]
theorem rdVl_text (v : ByteArray) (r : List Nat) (hv : v.size < 256) (hr : ∀ x ∈ r, x < 256) : rdVl (textB (v.size :: (bytesOf v ++ r))) = .ok (v, textB r) := by
 have b : ∀ x ∈ bytesOf v ++ r, x < 256 := fun x a => by
  rcases List.mem_append.1 a with a | a
  ·exact bytesOf_lt v x a
  ·exact hr x a
 unfold rdVl
 rw [rdNm_text v.size _ (fun x a => by rcases List.mem_cons.1 a with e | a; omega; exact b x a)]
 have := rdTk_text (bytesOf v) r b
 rw [bytesOf_length, textB_bytesOf] at this
 exact this
theorem opRd_leaf (p v : ByteArray) (r : List Nat) (hp : nibOK p) (hv : 0 < v.size /\ v.size <= 100) (hr : ∀ x ∈ r, x < 256) : opRd (textB ((Nd.leaf p v).wit true [] ++ r)) = .ok (.gives (.leaf p v), textB r) := by
 have e : (Nd.leaf p v).wit true [] ++ r = 1 :: (p.size :: (pairsU (bytesOf p) ++ (v.size :: (bytesOf v ++ r)))) := by
  rw [Nd.wit, Nat.mod_eq_of_lt (by omega)]
  simp
 have b : ∀ x ∈ v.size :: (bytesOf v ++ r), x < 256 := fun x a => by
  rcases List.mem_cons.1 a with e | a
  ·omega
  ·rcases List.mem_append.1 a with a | a
   ·exact bytesOf_lt v x a
   ·exact hr x a
 have c : ∀ x ∈ 1 :: (p.size :: (pairsU (bytesOf p) ++ (v.size :: (bytesOf v ++ r)))), x < 256 := fun x a => by
  rcases List.mem_cons.1 a with e | a
  ·omega
  ·rcases List.mem_cons.1 a with e | a
   ·have := hp.1; omega
   ·rcases List.mem_append.1 a with a | a
    ·exact pairsU_byte _ hp.2 x a
    ·exact b x a
 rw [e]
 unfold opRd
 rw [rdNm_text 1 _ c]
 show opLeaf _ = _
 unfold opLeaf
 rw [rdPth_text p _ hp.2 (by have := hp.1; omega) b]
 dsimp only
 rw [rdVl_text v r (by omega) hr]
 dsimp only
 rw [wrRead_text p 64 hp.2 hp.1]
 dsimp only
 rw [if_neg (by omega)]
theorem opRd_ext (p : ByteArray) (r : List Nat) (h0 : 0 < p.size) (hp : p.size <= 63) (hn : ∀ x ∈ bytesOf p, x < 16) (hr : ∀ x ∈ r, x < 256) : opRd (textB (2 :: (p.size :: (pairsU (bytesOf p) ++ r)))) = .ok (.ext p, textB r) := by
 have b : ∀ x ∈ 2 :: (p.size :: (pairsU (bytesOf p) ++ r)), x < 256 := fun x a => by
  rcases List.mem_cons.1 a with e | a
  ·omega
  ·rcases List.mem_cons.1 a with e | a
   ·omega
   ·rcases List.mem_append.1 a with a | a
    ·exact pairsU_byte _ hn x a
    ·exact hr x a
 unfold opRd
 rw [rdNm_text 2 _ b]
 show opExt _ = _
 unfold opExt
 rw [rdPth_text p _ hn (by omega) hr]
 dsimp only
 rw [wrRead_text p 63 hn hp]
 dsimp only
 rw [if_neg (by omega)]
theorem opRd_br (f : Nat) (r : List Nat) (hf : f < 65536) (h2 : 2 <= popN 16 f) (hr : ∀ x ∈ r, x < 256) : opRd (textB (3 :: f % 256 :: f / 256 :: r)) = .ok (.br f, textB r) := by
 have b : ∀ x ∈ 3 :: f % 256 :: f / 256 :: r, x < 256 := fun x a => by
  rcases List.mem_cons.1 a with e | a
  ·omega
  ·rcases List.mem_cons.1 a with e | a
   ·omega
   ·rcases List.mem_cons.1 a with e | a
    ·omega
    ·exact hr x a
 unfold opRd
 rw [rdNm_text 3 _ b]
 show opBr _ = _
 unfold opBr
 have := rdTk_text [f % 256, f / 256] r (byte_cons b).2
 simp only [List.length_cons, List.length_nil, Nat.zero_add, Nat.reduceAdd, List.cons_append, List.nil_append] at this
 rw [this]
 have c : forkF (textB [f % 256, f / 256]) = f := by
  unfold forkF
  rw [bytesOf_textB (fun x a => by simp at a; omega)]
  show f % 256 + 256 * (f / 256) = f
  omega
 dsimp only
 rw [c, if_neg (by omega)]
theorem opRd_stub (h r : List Nat) (hl : h.length = 32) (hb : ∀ x ∈ h, x < 256) (hr : ∀ x ∈ r, x < 256) : opRd (textB (4 :: (h ++ r))) = .ok (.gives (.stub h), textB r) := by
 have b : ∀ x ∈ h ++ r, x < 256 := fun x a => by
  rcases List.mem_append.1 a with a | a
  ·exact hb x a
  ·exact hr x a
 unfold opRd
 rw [rdNm_text 4 _ (fun x a => by rcases List.mem_cons.1 a with e | a; omega; exact b x a)]
 show opStub _ = _
 unfold opStub
 have := rdTk_text h r b
 rw [hl] at this
 rw [this]
 dsimp only
 rw [bytesOf_textB hb]
inductive Steps : ByteArray -> List Nd -> ByteArray -> List Nd -> Prop
 | refl (s : ByteArray) (ts : List Nd) : Steps s ts s ts
 | step {s : ByteArray} {ts : List Nd} {s1 : ByteArray} {ts1 : List Nd} {s2 : ByteArray} {ts2 : List Nd} (h0 : 0 < s.size) (h : stepO s ts = .ok (ts1, s1)) (k : Steps s1 ts1 s2 ts2) : Steps s ts s2 ts2
theorem Steps.trans {s s1 s2 : ByteArray} {ts ts1 ts2 : List Nd} (h : Steps s ts s1 ts1) (k : Steps s1 ts1 s2 ts2) : Steps s ts s2 ts2 := by
 induction h with
 | refl => exact k
 | step h0 h _ ih => exact .step h0 h (ih k)
theorem Steps.run {s s' : ByteArray} {ts ts' : List Nd} (L : Nat) (h : Steps s ts s' ts') : runO L s.size s ts = runO L s'.size s' ts' := by
 induction h with
 | refl => rfl
 | step h0 h _ ih => rw [runO_step h0 h, ih]
theorem Steps.one {s s1 : ByteArray} {ts : List Nd} {d : Od} {t : Nd} (h0 : 0 < s.size) (h : opRd s = .ok (d, s1)) {ks : List Nd} (hk : ks.length = d.takes) (hm : d.make ks = .ok t) : Steps s (ts ++ ks) s1 (ts ++ [t]) := by
 refine .step h0 ?_ (.refl _ _)
 unfold stepO
 rw [h]
 dsimp only
 have a : (ts ++ ks).length - d.takes = ts.length := by rw [List.length_append, hk]; omega
 rw [if_neg (by rw [List.length_append]; omega), a, List.drop_left, hm]
 dsimp only
 rw [List.take_left]
def some_ : List Nd -> List Nd
 | [] => []
 | .no :: ks => some_ ks
 | t :: ks => t :: some_ ks
theorem some_cons {t : Nd} (h : t ≠ .no) (ks : List Nd) : some_ (t :: ks) = t :: some_ ks := by
 cases t with
 | no => exact absurd rfl h
 | _ => rfl
theorem some_no (ks : List Nd) : hasNo (some_ ks) = false := by
 induction ks with
 | nil => rfl
 | cons t ks ih =>
  cases t with
  | no => exact ih
  | _ => exact ih
theorem bit_pos {t : Nd} (h : t ≠ .no) (i : Nat) : bit t i = 2 ^ i := by
 cases t with
 | no => exact absurd rfl h
 | _ => rfl
theorem forkB_dvd (ks : List Nd) (i : Nat) : ∃ m, forkB ks i = 2 ^ i * m := by
 induction ks generalizing i with
 | nil => exact ⟨0, rfl⟩
 | cons t ks ih =>
  obtain ⟨m, a⟩ := ih (i + 1)
  rw [forkB_cons, a, Nat.pow_succ]
  by_cases h : t = .no
  ·subst h
   exact ⟨2 * m, by simp [bit, Nat.mul_assoc]⟩
  ·rw [bit_pos h]
   exact ⟨1 + 2 * m, by rw [Nat.mul_add, Nat.mul_one, Nat.mul_assoc]⟩
theorem tzN_at (k : Nat) : ∀ (n m : Nat), k < n -> tzN n (2 ^ k + 2 ^ (k + 1) * m) = k := by
 induction k with
 | zero =>
  intro n m a
  obtain ⟨n, rfl⟩ : ∃ j, n = j + 1 := ⟨n - 1, by omega⟩
  rw [tzN, if_pos (by omega)]
 | succ k ih =>
  intro n m a
  obtain ⟨n, rfl⟩ : ∃ j, n = j + 1 := ⟨n - 1, by omega⟩
  have e : 2 ^ (k + 1) + 2 ^ (k + 1 + 1) * m = 2 * (2 ^ k + 2 ^ (k + 1) * m) := by
   rw [Nat.pow_succ 2 (k + 1), Nat.pow_succ 2 k, Nat.mul_add]
   generalize 2 ^ k = z
   rw [Nat.mul_comm z 2, <- Nat.mul_assoc, Nat.mul_comm (2 * z) 2, Nat.mul_assoc 2 (2 * z) m]
  rw [e, tzN, if_neg (by omega), show 2 * (2 ^ k + 2 ^ (k + 1) * m) / 2 = 2 ^ k + 2 ^ (k + 1) * m by omega, ih n m (by omega)]
  omega
theorem fork_first {t : Nd} (h : t ≠ .no) (ks : List Nd) (i : Nat) (hi : i < 16) : tzN 16 (forkB (t :: ks) i) = i /\ forkB (t :: ks) i - 2 ^ i = forkB ks (i + 1) /\ 0 < forkB (t :: ks) i := by
 obtain ⟨m, a⟩ := forkB_dvd ks (i + 1)
 have b : 0 < 2 ^ i := Nat.pow_pos (by decide)
 rw [forkB_cons, bit_pos h]
 refine ⟨?_, by omega, by omega⟩
 rw [a]
 exact tzN_at i 16 m hi
theorem fork_none (ks : List Nd) (i : Nat) : forkB (.no :: ks) i = forkB ks (i + 1) := by rw [forkB]
theorem pop_fork (ks : List Nd) (i : Nat) (h : i + ks.length <= 16) : popN 16 (forkB ks i) = (some_ ks).length := by
 induction ks generalizing i with
 | nil => rw [forkB, popN_zero]; rfl
 | cons t ks ih =>
  rw [List.length_cons] at h
  by_cases a : t = .no
  ·subst a
   rw [fork_none, ih (i + 1) (by omega)]
   rfl
  ·obtain ⟨c, d, e⟩ := fork_first a ks i (by omega)
   have b := forkB_lt (t :: ks) i
   rw [List.length_cons] at b
   have f : 2 ^ (i + (ks.length + 1)) <= 2 ^ 16 := Nat.pow_le_pow_right (by decide) (by omega)
   have g : 0 < 2 ^ i := Nat.pow_pos (by decide)
   have := (popN_clear 16 (forkB (t :: ks) i) e (by omega)).1
   rw [c, d, ih (i + 1) (by omega)] at this
   rw [some_cons a, List.length_cons]
   exact this.symm
theorem join_fork (ks : List Nd) (i : Nat) (r : List Nd) (h : i + ks.length = 16) (hr : r.length = 16) (hn : ∀ j, i <= j -> j < 16 -> r[j]? = some .no) : joinL (some_ ks) (forkB ks i) r = r.take i ++ ks := by
 induction ks generalizing i r with
 | nil =>
  rw [some_, joinL, List.append_nil, List.take_of_length_le (by simp at h; omega)]
 | cons t ks ih =>
  rw [List.length_cons] at h
  by_cases b : t = .no
  ·subst b
   rw [fork_none]
   show joinL (some_ ks) _ _ = _
   rw [ih (i + 1) r (by omega) hr fun j c a => hn j (by omega) a]
   rw [List.take_add_one, hn i (Nat.le_refl _) (by omega)]
   simp
  ·obtain ⟨c, a, -⟩ := fork_first b ks i (by omega)
   rw [some_cons b, joinL, c, a, ih (i + 1) (r.set i t) (by omega) (by rw [List.length_set, hr]) fun j e d => by rw [List.getElem?_set_ne (by omega)]; exact hn j (by omega) d]
   rw [List.take_add_one, List.getElem?_set_self (by omega), List.take_set_of_le (by omega)]
   simp
def Nd.pickN (t : Nd) (all : Bool) (ps : List ByteArray) (c : Nd) : Nd :=
 match t with
 | .no => .no
 | _ => if (all || decide (ps ≠ []) || decide (t.ref.length < 32)) = true then c else .stub t.dig
mutual
def Nd.prt : Nd -> Bool -> List ByteArray -> Nd
 | .no, _, _ => .no
 | .leaf p v, _, _ => .leaf p v
 | .ext p t, all, ps => .ext p (t.pickN all (behP ps p) (t.prt all (behP ps p)))
 | .br ks, all, ps => .br (prts ks 0 all ps)
 | .stub h, _, _ => .stub h
def prts : List Nd -> Nat -> Bool -> List ByteArray -> List Nd
 | [], _, _, _ => []
 | t :: ks, i, all, ps => t.pickN all (behP ps (textB [i])) (t.prt all (behP ps (textB [i]))) :: prts ks (i + 1) all ps
end
def Nd.prs (t : Nd) (all : Bool) (ps : List ByteArray) : Nd := t.pickN all ps (t.prt all ps)
mutual
def Nd.cs : Nd -> Prop
 | .no => True
 | .leaf p v => nibOK p /\ 0 < v.size /\ v.size <= 100
 | .ext p t => 0 < p.size /\ p.size <= 63 /\ (∀ x ∈ bytesOf p, x < 16) /\ t.cs /\ t.stands = true
 | .br ks => ks.length = 16 /\ css ks /\ 2 <= (some_ ks).length
 | .stub h => h.length = 32 /\ ∀ x ∈ h, x < 256
def css : List Nd -> Prop
 | [] => True
 | t :: ks => t.cs /\ css ks
end
mutual
theorem Nd.cs_ok : ∀ t : Nd, t.cs -> t.ok
 | .no, _ => by rw [Nd.ok]; trivial
 | .leaf p v, h => by rw [Nd.cs] at h; rw [Nd.ok]; exact ⟨h.1, by omega⟩
 | .ext p t, h => by
  rw [Nd.cs] at h
  rw [Nd.ok]
  exact ⟨⟨by omega, h.2.2.1⟩, t.cs_ok h.2.2.2.1, fun e => by rw [e] at h; exact absurd h.2.2.2.2 (by simp [Nd.stands])⟩
 | .br ks, h => by rw [Nd.cs] at h; rw [Nd.ok]; exact ⟨h.1, css_ok ks h.2.1⟩
 | .stub h, k => by rw [Nd.cs] at k; rw [Nd.ok]; exact k
theorem css_ok : ∀ ks : List Nd, css ks -> oks ks
 | [], _ => trivial
 | t :: ks, h => by rw [css] at h; rw [oks]; exact ⟨t.cs_ok h.1, css_ok ks h.2⟩
end
theorem shw_cases {t : Nd} (h : t ≠ .no) (all : Bool) (ps : List ByteArray) : (t.shw all ps = t.wit all ps /\ t.prs all ps = t.prt all ps) \/ (t.shw all ps = 4 :: t.dig /\ t.prs all ps = .stub t.dig) := by
 unfold Nd.shw Nd.prs
 cases t with
 | no => exact absurd rfl h
 | leaf _ _ => simp only [Nd.pick, Nd.pickN]; split <;> simp
 | ext _ _ => simp only [Nd.pick, Nd.pickN]; split <;> simp
 | br _ => simp only [Nd.pick, Nd.pickN]; split <;> simp
 | stub _ => simp only [Nd.pick, Nd.pickN]; split <;> simp
theorem shw_no (all : Bool) (ps : List ByteArray) : Nd.no.shw all ps = [] /\ Nd.no.prs all ps = .no := ⟨rfl, rfl⟩
theorem prs_no {t : Nd} (h : t ≠ .no) (all : Bool) (ps : List ByteArray) : t.prs all ps ≠ .no := by
 rcases shw_cases h all ps with ⟨-, e⟩ | ⟨-, e⟩
 ·rw [e]
  cases t with
  | no => exact absurd rfl h
  | _ => rw [Nd.prt]; simp
 ·rw [e]; simp
theorem prs_stands {t : Nd} (h : t.stands = true) (all : Bool) (ps : List ByteArray) : (t.prs all ps).stands = true := by
 have a : t ≠ .no := fun e => by rw [e] at h; cases h
 rcases shw_cases a all ps with ⟨-, e⟩ | ⟨-, e⟩
 ·rw [e]
  cases t with
  | br _ => rw [Nd.prt]; rfl
  | stub _ => rw [Nd.prt]; rfl
  | _ => cases h
 ·rw [e]; rfl
theorem prts_cons (t : Nd) (ks : List Nd) (i : Nat) (all : Bool) (ps : List ByteArray) : prts (t :: ks) i all ps = t.prs all (behP ps (textB [i])) :: prts ks (i + 1) all ps := by rw [prts]; rfl
theorem prts_length (ks : List Nd) (i : Nat) (all : Bool) (ps : List ByteArray) : (prts ks i all ps).length = ks.length := by
 induction ks generalizing i with
 | nil => rw [prts]
 | cons t ks ih => rw [prts_cons, List.length_cons, ih, List.length_cons]
theorem forkB_prts (ks : List Nd) (i j : Nat) (all : Bool) (ps : List ByteArray) : forkB (prts ks i all ps) j = forkB ks j := by
 induction ks generalizing i j with
 | nil => rw [prts]
 | cons t ks ih =>
  rw [prts_cons, forkB_cons, forkB_cons, ih]
  by_cases h : t = .no
  ·subst h; rfl
  ·rw [bit_pos h, bit_pos (prs_no h _ _)]
mutual
theorem wit_byte : ∀ t : Nd, t.cs -> ∀ (all : Bool) (ps : List ByteArray), ∀ x ∈ t.wit all ps, x < 256
 | .no, _ => fun all ps x hx => by rw [Nd.wit] at hx; cases hx
 | .leaf p v, h => fun all ps x hx => by
  rw [Nd.cs] at h
  rw [Nd.wit] at hx
  rcases List.mem_cons.1 hx with e | hx
  ·omega
  ·rcases List.mem_cons.1 hx with e | hx
   ·have := h.1.1; omega
   ·rcases List.mem_append.1 hx with hx | hx
    ·exact pairsU_byte _ h.1.2 x hx
    ·rcases List.mem_cons.1 hx with e | hx
     ·omega
     ·exact bytesOf_lt v x hx
 | .ext p t, h => fun all ps x hx => by
  rw [Nd.cs] at h
  rw [Nd.wit_ext] at hx
  rcases List.mem_append.1 hx with hx | hx
  ·have hne : t ≠ .no := fun e => by rw [e] at h; exact absurd h.2.2.2.2 (by simp [Nd.stands])
   rcases shw_cases hne all (behP ps p) with ⟨e, -⟩ | ⟨e, -⟩
   ·rw [e] at hx; exact wit_byte t h.2.2.2.1 _ _ x hx
   ·rw [e] at hx
    rcases List.mem_cons.1 hx with e | hx
    ·omega
    ·exact t.dig_byte (t.cs_ok h.2.2.2.1) x hx
  ·rcases List.mem_cons.1 hx with e | hx
   ·omega
   ·rcases List.mem_cons.1 hx with e | hx
    ·omega
    ·exact pairsU_byte _ h.2.2.1 x hx
 | .br ks, h => fun all ps x hx => by
  rw [Nd.cs] at h
  rw [Nd.wit] at hx
  rcases List.mem_append.1 hx with hx | hx
  ·exact wits_byte ks h.2.1 0 all ps x hx
  ·have hl := forkB_lt ks 0
   rw [h.1] at hl
   simp only [List.mem_cons, List.not_mem_nil, or_false] at hx
   omega
 | .stub g, h => fun all ps x hx => by
  rw [Nd.cs] at h
  rw [Nd.wit] at hx
  rcases List.mem_cons.1 hx with e | hx
  ·omega
  ·exact h.2 x hx
theorem wits_byte : ∀ ks : List Nd, css ks -> ∀ (i : Nat) (all : Bool) (ps : List ByteArray), ∀ x ∈ wits ks i all ps, x < 256
 | [], _ => fun i all ps x hx => by rw [wits] at hx; cases hx
 | t :: ks, h => fun i all ps x hx => by
  rw [css] at h
  rw [wits_cons] at hx
  rcases List.mem_append.1 hx with hx | hx
  ·by_cases hne : t = .no
   ·subst hne; cases hx
   ·rcases shw_cases hne all (behP ps (textB [i])) with ⟨e, -⟩ | ⟨e, -⟩
    ·rw [e] at hx; exact wit_byte t h.1 _ _ x hx
    ·rw [e] at hx
     rcases List.mem_cons.1 hx with e | hx
     ·omega
     ·exact t.dig_byte (t.cs_ok h.1) x hx
  ·exact wits_byte ks h.2 (i + 1) all ps x hx
end
def WitS (t : Nd) : Prop := ∀ (all : Bool) (ps : List ByteArray) (r : List Nat) (ts : List Nd), (∀ x ∈ r, x < 256) -> Steps (textB (t.wit all ps ++ r)) ts (textB r) (ts ++ [t.prt all ps])
theorem full_size {a : Nat} {l : List Nat} : 0 < (textB (a :: l)).size := by rw [textB_size]; simp
theorem shw_steps {t : Nd} (hc : t.cs) (hne : t ≠ .no) (h : WitS t) (all : Bool) (ps : List ByteArray) (r : List Nat) (ts : List Nd) (hr : ∀ x ∈ r, x < 256) : Steps (textB (t.shw all ps ++ r)) ts (textB r) (ts ++ [t.prs all ps]) := by
 rcases shw_cases hne all ps with ⟨e1, e2⟩ | ⟨e1, e2⟩
 ·rw [e1, e2]; exact h all ps r ts hr
 ·rw [e1, e2]
  have := Steps.one (ts := ts) (ks := []) full_size (opRd_stub t.dig r (t.dig_length (t.cs_ok hc)) (t.dig_byte (t.cs_ok hc)) hr) rfl rfl
  rw [List.append_nil] at this
  exact this
mutual
theorem wit_steps : ∀ t : Nd, t.cs -> t ≠ .no -> WitS t
 | .no, _, h => absurd rfl h
 | .leaf p v, h, _ => fun all ps r ts hr => by
  rw [Nd.cs] at h
  have e : (Nd.leaf p v).wit all ps = (Nd.leaf p v).wit true [] := by rw [Nd.wit, Nd.wit]
  rw [e, Nd.prt]
  have hs : 0 < (textB ((Nd.leaf p v).wit true [] ++ r)).size := by rw [Nd.wit]; exact full_size
  have := Steps.one (ts := ts) (ks := []) hs (opRd_leaf p v r h.1 h.2 hr) rfl rfl
  rw [List.append_nil] at this
  exact this
 | .ext p t, h, _ => fun all ps r ts hr => by
  rw [Nd.cs] at h
  have hne : t ≠ .no := fun e => by rw [e] at h; exact absurd h.2.2.2.2 (by simp [Nd.stands])
  rw [Nd.wit_ext, List.append_assoc, show (Nd.ext p t).prt all ps = .ext p (t.prs all (behP ps p)) by rw [Nd.prt]; rfl]
  have hb : ∀ x ∈ 2 :: p.size :: pairsU (bytesOf p) ++ r, x < 256 := fun x hx => by
   rcases List.mem_append.1 hx with hx | hx
   ·rcases List.mem_cons.1 hx with e | hx
    ·omega
    ·rcases List.mem_cons.1 hx with e | hx
     ·omega
     ·exact pairsU_byte _ h.2.2.1 x hx
   ·exact hr x hx
  refine (shw_steps h.2.2.2.1 hne (wit_steps t h.2.2.2.1 hne) all (behP ps p) _ ts hb).trans ?_
  refine Steps.one full_size (opRd_ext p r h.1 h.2.1 h.2.2.1 hr) rfl ?_
  show (if (t.prs all (behP ps p)).stands = true then Except.ok (Nd.ext p (t.prs all (behP ps p))) else Except.error (Er.base 8)) = _
  rw [if_pos (prs_stands h.2.2.2.2 _ _)]
 | .br ks, h, _ => fun all ps r ts hr => by
  rw [Nd.cs] at h
  rw [Nd.wit, List.append_assoc, Nd.prt]
  have hl := forkB_lt ks 0
  rw [h.1] at hl
  have hb : ∀ x ∈ [3, forkB ks 0 % 256, forkB ks 0 / 256] ++ r, x < 256 := fun x hx => by
   rcases List.mem_append.1 hx with hx | hx
   ·simp only [List.mem_cons, List.not_mem_nil, or_false] at hx
    omega
   ·exact hr x hx
  refine (kid_steps ks h.2.1 0 all ps _ ts hb).trans ?_
  have hlen : (some_ (prts ks 0 all ps)).length = popN 16 (forkB ks 0) := by
   rw [<- forkB_prts ks 0 0 all ps, pop_fork _ 0 (by rw [prts_length, h.1]; decide)]
  have h2 : 2 <= popN 16 (forkB ks 0) := by rw [pop_fork ks 0 (by rw [h.1]; decide)]; exact h.2.2
  refine Steps.one full_size (opRd_br (forkB ks 0) r (by omega) h2 hr) hlen ?_
  rw [Od.make, if_neg (by rw [some_no]; simp), <- forkB_prts ks 0 0 all ps, join_fork _ 0 _ (by rw [prts_length, h.1]) (by simp) fun j _ hj => List.getElem?_replicate_of_lt hj]
  simp
 | .stub g, h, _ => fun all ps r ts hr => by
  rw [Nd.cs] at h
  rw [Nd.wit, Nd.prt]
  have := Steps.one (ts := ts) (ks := []) full_size (opRd_stub g r h.1 h.2 hr) rfl rfl
  rw [List.append_nil] at this
  exact this
theorem kid_steps : ∀ ks : List Nd, css ks -> ∀ (i : Nat) (all : Bool) (ps : List ByteArray) (r : List Nat) (ts : List Nd), (∀ x ∈ r, x < 256) -> Steps (textB (wits ks i all ps ++ r)) ts (textB r) (ts ++ some_ (prts ks i all ps))
 | [], _ => fun i all ps r ts hr => by
  rw [wits, prts, some_, List.append_nil]
  exact .refl _ _
 | t :: ks, h => fun i all ps r ts hr => by
  rw [css] at h
  rw [wits_cons, prts_cons, List.append_assoc]
  by_cases hne : t = .no
  ·subst hne
   exact kid_steps ks h.2 (i + 1) all ps r ts hr
  ·have hb : ∀ x ∈ wits ks (i + 1) all ps ++ r, x < 256 := fun x hx => by
    rcases List.mem_append.1 hx with hx | hx
    ·exact wits_byte ks h.2 _ _ _ x hx
    ·exact hr x hx
   refine (shw_steps h.1 hne (wit_steps t h.1 hne) all (behP ps (textB [i])) _ ts hb).trans ?_
   have := kid_steps ks h.2 (i + 1) all ps r (ts ++ [t.prs all (behP ps (textB [i]))]) hr
   rw [List.append_assoc, List.singleton_append] at this
   rw [some_cons (prs_no hne _ _)]
   exact this
end
theorem witness_run {t : Nd} (hc : t.cs) (all : Bool) (ps : List ByteArray) (L : Nat) : runO L (textB (t.witness all ps)).size (textB (t.witness all ps)) [] = .ok [t.prs all ps] := by
 by_cases a : t = .no
 ·subst a
  have b : opRd (textB [0]) = .ok (.gives .no, textB []) := by
   unfold opRd
   rw [rdNm_text 0 [] (by simp)]
   rfl
  have c := (Steps.one (ts := []) (ks := []) full_size b rfl rfl).run L
  rw [show Nd.no.witness all ps = [0] from rfl]
  exact c.trans (runO_zero (by rw [textB_size]; rfl))
 ·have d : t.witness all ps = t.shw all ps := by
   cases t with
   | no => exact absurd rfl a
   | _ => rfl
  have h := (shw_steps hc a (wit_steps t hc a) all ps [] [] (by simp)).run L
  rw [List.append_nil] at h
  rw [d]
  exact h.trans (runO_zero (by rw [textB_size]; rfl))
theorem witness_open {t : Nd} (hc : t.cs) (all : Bool) (ps : List ByteArray) (hl : (t.witness all ps).length <= 8000) (hf : (t.prs all ps).fitB 0 = true) (hd : (t.prs all ps).dig = t.dig) : openF t.dig (textB (t.witness all ps)) = .ok (t.prs all ps) := by
 refine openF_good (by rw [textB_size]; exact hl) (witness_run hc all ps _) ?_
 show (if (t.prs all ps).fitB 0 = false then Except.error (Er.base 8) else if (t.prs all ps).dig = t.dig then Except.ok (t.prs all ps) else Except.error (Er.base 7)) = _
 rw [if_neg (by rw [hf]; simp), if_pos hd]
theorem some_append (a b : List Nd) : some_ (a ++ b) = some_ a ++ some_ b := by
 induction a with
 | nil => rfl
 | cons t a ih =>
  by_cases h : t = .no
  ·subst h; exact ih
  ·rw [List.cons_append, some_cons h, some_cons h, ih, List.cons_append]
theorem cnt_some (ks : List Nd) (k : Nat) (hk : k <= ks.length) : cntN ks k = (some_ (ks.take k)).length := by
 induction k with
 | zero => rfl
 | succ k ih =>
  rw [cntN, ih (by omega), List.take_add_one, some_append, List.length_append, List.getD_eq_getElem?_getD, List.getElem?_eq_getElem (by omega)]
  simp only [Option.getD_some, Option.toList_some]
  by_cases h : ks[k] = .no
  ·rw [h]; rfl
  ·rw [some_cons h, if_neg (fun e => h (Nd.isNo_iff.1 e))]; rfl
mutual
theorem can_cs : ∀ (t : Nd) (n : Nat), n <= 64 -> t.can n -> t.cs
 | .no, _, _, _ => by rw [Nd.cs]; trivial
 | .leaf p v, n, hn, h => by
  rw [Nd.can] at h
  rw [Nd.cs]
  exact ⟨⟨by omega, h.2.1⟩, h.2.2⟩
 | .ext p t, n, hn, h => by
  rw [Nd.can] at h
  rw [Nd.cs]
  refine ⟨h.1, by omega, h.2.2.1, can_cs t _ (by omega) h.2.2.2.1, ?_⟩
  have := h.2.2.2.2
  cases t with
  | br _ => rfl
  | _ => cases this
 | .br ks, n, hn, h => by
  rw [Nd.can] at h
  rw [Nd.cs]
  have := h.2.2.2
  rw [cnt_some ks 16 (by omega), List.take_of_length_le (by omega)] at this
  exact ⟨h.2.1, can_css ks _ (by omega) h.2.2.1, this⟩
 | .stub _, _, _, h => by rw [Nd.can] at h; exact h.elim
theorem can_css : ∀ (ks : List Nd) (n : Nat), n <= 64 -> canAll ks n -> css ks
 | [], _, _, _ => by rw [css]; trivial
 | t :: ks, n, hn, h => by
  rw [canAll] at h
  rw [css]
  exact ⟨can_cs t n hn h.1, can_css ks n hn h.2⟩
end
theorem fit_pick {t c : Nd} (all : Bool) (ps : List ByteArray) (d : Nat) (h : c.fitB d = true) : (t.pickN all ps c).fitB d = true := by
 cases t with
 | no => simp only [Nd.pickN]; rw [Nd.fitB]
 | leaf _ _ => simp only [Nd.pickN]; split; exact h; rw [Nd.fitB]
 | ext _ _ => simp only [Nd.pickN]; split; exact h; rw [Nd.fitB]
 | br _ => simp only [Nd.pickN]; split; exact h; rw [Nd.fitB]
 | stub _ => simp only [Nd.pickN]; split; exact h; rw [Nd.fitB]
mutual
theorem can_fit : ∀ (t : Nd) (n : Nat), n <= 64 -> t.can n -> ∀ (all : Bool) (ps : List ByteArray), (t.prt all ps).fitB (64 - n) = true
 | .no, _, _, _ => fun _ _ => by rw [Nd.prt, Nd.fitB]
 | .leaf p v, n, hn, h => fun _ _ => by
  rw [Nd.can] at h
  rw [Nd.prt, Nd.fitB]
  exact decide_eq_true (by omega)
 | .ext p t, n, hn, h => fun all ps => by
  rw [Nd.can] at h
  rw [Nd.prt, Nd.fitB, decide_eq_true (by omega), Bool.true_and]
  refine fit_pick _ _ _ ?_
  have := can_fit t (n - p.size) (by omega) h.2.2.2.1 all (behP ps p)
  rw [show 64 - (n - p.size) = 64 - n + p.size by omega] at this
  exact this
 | .br ks, n, hn, h => fun all ps => by
  rw [Nd.can] at h
  rw [Nd.prt, Nd.fitB, decide_eq_true (by omega), Bool.true_and]
  have := can_fits ks (n - 1) (by omega) h.2.2.1 0 all ps
  rw [show 64 - (n - 1) = 64 - n + 1 by omega] at this
  exact this
 | .stub _, _, _, h => by rw [Nd.can] at h; exact h.elim
theorem can_fits : ∀ (ks : List Nd) (n : Nat), n <= 64 -> canAll ks n -> ∀ (i : Nat) (all : Bool) (ps : List ByteArray), fitBs (prts ks i all ps) (64 - n) = true
 | [], _, _, _ => fun _ _ _ => by rw [prts, fitBs]
 | t :: ks, n, hn, h => fun i all ps => by
  rw [canAll] at h
  rw [prts_cons, fitBs, can_fits ks n hn h.2 (i + 1) all ps, Bool.and_true]
  exact fit_pick _ _ _ (can_fit t n hn h.1 all _)
end
theorem stands_ref {t : Nd} (hc : t.ok) (h : ¬ t.ref.length < 32) : (Nd.stub t.dig).ref = t.ref := by
 have b := t.dig_length hc
 show textCode t.dig = t.ref
 rw [textCode_big b]
 unfold Nd.dig
 rw [if_neg h]
 have d : t.dig = t.ref.drop 1 := by unfold Nd.dig; rw [if_neg h]
 have a : ∀ c : List Nat, ¬ (refOf c).length < 32 -> 160 :: (refOf c).drop 1 = refOf c := fun c hcc => by
  unfold refOf at hcc ⊢
  split at hcc
  ·rename_i h1; exact absurd h1 hcc
  ·rename_i h1
   rw [if_neg h1, textCode_big (digB_length _)]
   rfl
 cases t with
 | no => exact absurd (by show (textCode []).length < 32; have := textCode_length []; simp at this; omega) h
 | leaf _ _ => exact a _ h
 | ext _ _ => exact a _ h
 | br _ => exact a _ h
 | stub g =>
  have := hc
  rw [Nd.ok] at this
  show 160 :: (textCode g).drop 1 = textCode g
  rw [textCode_big this.1]
  rfl
theorem pick_ref {t c : Nd} (hc : t.ok) (all : Bool) (ps : List ByteArray) (hr : c.ref = t.ref) : (t.pickN all ps c).ref = t.ref := by
 have a : (if (all || decide (ps ≠ []) || decide (t.ref.length < 32)) = true then c else .stub t.dig).ref = t.ref := by
  split
  ·exact hr
  ·rename_i h
   refine stands_ref hc fun b => h ?_
   simp [b]
 cases t with
 | no => rfl
 | leaf _ _ => exact a
 | ext _ _ => exact a
 | br _ => exact a
 | stub _ => exact a
mutual
theorem prt_ref : ∀ t : Nd, t.cs -> ∀ (all : Bool) (ps : List ByteArray), (t.prt all ps).ref = t.ref
 | .no, _ => fun _ _ => by rw [Nd.prt]
 | .leaf _ _, _ => fun _ _ => by rw [Nd.prt]
 | .ext p t, h => fun all ps => by
  rw [Nd.cs] at h
  have e := pick_ref (t.cs_ok h.2.2.2.1) all (behP ps p) (prt_ref t h.2.2.2.1 all (behP ps p))
  rw [Nd.prt]
  show refOf (Nd.code _) = refOf (Nd.code _)
  rw [Nd.ref_ext, Nd.ref_ext, e]
 | .br ks, h => fun all ps => by
  rw [Nd.cs] at h
  rw [Nd.prt]
  show refOf (Nd.code _) = refOf (Nd.code _)
  rw [Nd.code, Nd.code, prts_ref ks h.2.1 0 all ps]
 | .stub _, _ => fun _ _ => by rw [Nd.prt]
theorem prts_ref : ∀ ks : List Nd, css ks -> ∀ (i : Nat) (all : Bool) (ps : List ByteArray), refs (prts ks i all ps) = refs ks
 | [], _ => fun _ _ _ => by rw [prts]
 | t :: ks, h => fun i all ps => by
  rw [css] at h
  rw [prts_cons, refs_cons, refs_cons, prts_ref ks h.2 (i + 1) all ps]
  congr 1
  exact pick_ref (t.cs_ok h.1) all _ (prt_ref t h.1 all _)
end
theorem prs_dig {t : Nd} (h : t.cs) (all : Bool) (ps : List ByteArray) : (t.prs all ps).dig = t.dig := by
 have e : (t.prs all ps).ref = t.ref := pick_ref (t.cs_ok h) all ps (prt_ref t h all ps)
 unfold Nd.dig
 rw [e]
theorem open_witness {t : Nd} (h : t.can 64) (all : Bool) (ps : List ByteArray) (hl : (t.witness all ps).length <= 8000) : openF t.dig (textB (t.witness all ps)) = .ok (t.prs all ps) :=
 witness_open (can_cs t 64 (by omega) h) all ps hl (fit_pick _ _ _ (can_fit t 64 (by omega) h all ps)) (prs_dig (can_cs t 64 (by omega) h) all ps)
mutual
def Nd.lvs : Nd -> Nat
 | .no => 0
 | .leaf _ _ => 1
 | .ext _ t => t.lvs
 | .br ks => lvss ks
 | .stub _ => 1
def lvss : List Nd -> Nat
 | [] => 0
 | t :: ks => t.lvs + lvss ks
end
theorem pick_len {t : Nd} (hc : t.cs) (all : Bool) (ps : List ByteArray) (n : Nat) (h0 : 70 <= n) (h : (t.wit all ps).length + 37 <= n) : (t.shw all ps).length + 37 <= n := by
 by_cases a : t = .no
 ·subst a
  show 0 + 37 <= n
  omega
 ·rcases shw_cases a all ps with ⟨e, -⟩ | ⟨e, -⟩
  ·rw [e]; exact h
  ·rw [e, List.length_cons, t.dig_length (t.cs_ok hc)]; omega
mutual
theorem wit_len : ∀ t : Nd, t.cs -> t ≠ .no -> ∀ (all : Bool) (ps : List ByteArray), 0 < t.lvs /\ (t.wit all ps).length + 37 <= 172 * t.lvs
 | .no, _, h => absurd rfl h
 | .leaf p v, h, _ => fun _ _ => by
  rw [Nd.cs] at h
  rw [Nd.wit, Nd.lvs]
  simp only [List.length_cons, List.length_append, pairsU_length, bytesOf_length]
  have := h.1.1
  omega
 | .ext p t, h, _ => fun all ps => by
  rw [Nd.cs] at h
  have hst := h.2.2.2.2
  have hne : t ≠ .no := fun e => by rw [e] at hst; cases hst
  rw [Nd.wit_ext, Nd.lvs]
  simp only [List.length_cons, List.length_append, pairsU_length, bytesOf_length]
  cases t with
  | no => exact absurd rfl hne
  | leaf _ _ => cases hst
  | ext _ _ => cases hst
  | br ks =>
   have hc := h.2.2.2.1
   have h1 := wits_len ks (by rw [Nd.cs] at hc; exact hc.2.1) 0 all (behP ps p)
   have h2 : 2 <= (some_ ks).length := by rw [Nd.cs] at hc; exact hc.2.2
   have h3 : ((Nd.br ks).wit all (behP ps p)).length = (wits ks 0 all (behP ps p)).length + 3 := by rw [Nd.wit, List.length_append]; rfl
   rw [Nd.lvs]
   rcases shw_cases hne all (behP ps p) with ⟨e, -⟩ | ⟨e, -⟩
   ·rw [e]; omega
   ·rw [e, List.length_cons, (Nd.br ks).dig_length ((Nd.br ks).cs_ok hc)]; omega
  | stub g =>
   have hc := h.2.2.2.1
   rcases shw_cases hne all (behP ps p) with ⟨e, -⟩ | ⟨e, -⟩
   ·rw [e, Nd.wit, List.length_cons]
    rw [Nd.cs] at hc
    rw [Nd.lvs]; omega
   ·rw [e, List.length_cons, (Nd.stub g).dig_length ((Nd.stub g).cs_ok hc), Nd.lvs]; omega
 | .br ks, h, _ => fun all ps => by
  rw [Nd.cs] at h
  have h1 := wits_len ks h.2.1 0 all ps
  have h2 := h.2.2
  rw [Nd.wit, Nd.lvs, List.length_append]
  simp only [List.length_cons, List.length_nil]
  omega
 | .stub g, h, _ => fun _ _ => by
  rw [Nd.cs] at h
  rw [Nd.wit, Nd.lvs, List.length_cons]
  omega
theorem wits_len : ∀ ks : List Nd, css ks -> ∀ (i : Nat) (all : Bool) (ps : List ByteArray), (wits ks i all ps).length + 37 * (some_ ks).length <= 172 * lvss ks /\ (some_ ks).length <= lvss ks
 | [], _ => fun _ _ _ => by rw [wits, lvss, some_]; simp
 | t :: ks, h => fun i all ps => by
  rw [css] at h
  have ih := wits_len ks h.2 (i + 1) all ps
  rw [wits_cons, lvss, List.length_append]
  by_cases hne : t = .no
  ·subst hne
   rw [show some_ (.no :: ks) = some_ ks from rfl, (shw_no _ _).1, Nd.lvs]
   simp only [List.length_nil]
   omega
  ·obtain ⟨h1, h2⟩ := wit_len t h.1 hne all (behP ps (textB [i]))
   have h3 := pick_len h.1 all (behP ps (textB [i])) (172 * t.lvs) (by omega) h2
   rw [some_cons hne, List.length_cons]
   omega
end
theorem witness_len {t : Nd} (hc : t.cs) (all : Bool) (ps : List ByteArray) : (t.witness all ps).length <= 172 * t.lvs + 1 := by
 by_cases a : t = .no
 ·subst a; show 1 <= _; omega
 ·have c : t.witness all ps = t.shw all ps := by
   cases t with
   | no => exact absurd rfl a
   | _ => rfl
  obtain ⟨d, b⟩ := wit_len t hc a all ps
  have := pick_len hc all ps (172 * t.lvs) (by omega) b
  rw [c]
  omega
mutual
def Nd.pths : Nd -> List (List Nat)
 | .no => []
 | .leaf p _ => [bytesOf p]
 | .ext p t => t.pths.map (bytesOf p ++ ·)
 | .br ks => pthss ks 0
 | .stub _ => []
def pthss : List Nd -> Nat -> List (List Nat)
 | [], _ => []
 | t :: ks, i => t.pths.map (i :: ·) ++ pthss ks (i + 1)
end
mutual
theorem pths_len : ∀ (t : Nd) (n : Nat), t.can n -> t.pths.length = t.lvs
 | .no, _, _ => by rw [Nd.pths, Nd.lvs]; rfl
 | .leaf _ _, _, _ => by rw [Nd.pths, Nd.lvs]; rfl
 | .ext p t, n, h => by
  rw [Nd.can] at h
  rw [Nd.pths, Nd.lvs, List.length_map, pths_len t _ h.2.2.2.1]
 | .br ks, n, h => by
  rw [Nd.can] at h
  rw [Nd.pths, Nd.lvs, pthss_len ks _ h.2.2.1]
 | .stub _, _, h => by rw [Nd.can] at h; exact h.elim
theorem pthss_len : ∀ (ks : List Nd) (n : Nat), canAll ks n -> ∀ i, (pthss ks i).length = lvss ks
 | [], _, _ => fun _ => by rw [pthss, lvss]; rfl
 | t :: ks, n, h => fun i => by
  rw [canAll] at h
  rw [pthss, lvss, List.length_append, List.length_map, pths_len t n h.1, pthss_len ks n h.2]
end
mutual
theorem pths_get : ∀ (t : Nd) (n : Nat), t.can n -> ∀ s ∈ t.pths, s.length = n /\ t.get s ≠ none
 | .no, _, _ => fun s hs => by rw [Nd.pths] at hs; cases hs
 | .leaf p v, n, h => fun s hs => by
  rw [Nd.can] at h
  rw [Nd.pths] at hs
  obtain rfl := List.mem_singleton.1 hs
  rw [Nd.get, if_pos rfl, bytesOf_length]
  exact ⟨h.1, by simp⟩
 | .ext p t, n, h => fun s hs => by
  rw [Nd.can] at h
  rw [Nd.pths] at hs
  obtain ⟨s', hs', rfl⟩ := List.mem_map.1 hs
  obtain ⟨h1, h2⟩ := pths_get t _ h.2.2.2.1 s' hs'
  have hl : (bytesOf p).length = p.size := bytesOf_length p
  refine ⟨by rw [List.length_append, hl]; omega, ?_⟩
  rw [Nd.get, if_pos (by rw [<- hl, List.take_left]), <- hl, List.drop_left]
  exact h2
 | .br ks, n, h => fun s hs => by
  rw [Nd.can] at h
  rw [Nd.pths] at hs
  obtain ⟨j, s', rfl, h1, h2⟩ := pthss_get ks _ h.2.2.1 0 s hs
  refine ⟨by rw [List.length_cons]; omega, ?_⟩
  rw [Nd.get]
  simpa using h2
 | .stub _, _, h => by rw [Nd.can] at h; exact h.elim
theorem pthss_get : ∀ (ks : List Nd) (n : Nat), canAll ks n -> ∀ i, ∀ s ∈ pthss ks i, ∃ j s', s = (i + j) :: s' /\ s'.length = n /\ getAt ks j s' ≠ none
 | [], _, _ => fun _ s hs => by rw [pthss] at hs; cases hs
 | t :: ks, n, h => fun i s hs => by
  rw [canAll] at h
  rw [pthss] at hs
  rcases List.mem_append.1 hs with hs | hs
  ·obtain ⟨s', hs', rfl⟩ := List.mem_map.1 hs
   obtain ⟨h1, h2⟩ := pths_get t n h.1 s' hs'
   exact ⟨0, s', rfl, h1, by rw [getAt]; exact h2⟩
  ·obtain ⟨j, s', rfl, h1, h2⟩ := pthss_get ks n h.2 (i + 1) s hs
   exact ⟨j + 1, s', by rw [show i + 1 + j = i + (j + 1) by omega], h1, by rw [getAt]; exact h2⟩
end
theorem nodup_map {α β : Type} {f : α -> β} (hf : ∀ a b, f a = f b -> a = b) : ∀ {l : List α}, l.Nodup -> (l.map f).Nodup
 | [], _ => List.nodup_nil
 | a :: l, h => by
  rw [List.nodup_cons] at h
  rw [List.map_cons, List.nodup_cons]
  refine ⟨fun hm => ?_, nodup_map hf h.2⟩
  obtain ⟨b, hb, e⟩ := List.mem_map.1 hm
  exact h.1 (hf _ _ e ▸ hb)
mutual
theorem pths_nodup : ∀ (t : Nd) (n : Nat), t.can n -> t.pths.Nodup
 | .no, _, _ => by rw [Nd.pths]; exact List.nodup_nil
 | .leaf _ _, _, _ => by rw [Nd.pths]; simp
 | .ext p t, n, h => by
  rw [Nd.can] at h
  rw [Nd.pths]
  exact nodup_map (fun a b e => List.append_cancel_left e) (pths_nodup t _ h.2.2.2.1)
 | .br ks, n, h => by
  rw [Nd.can] at h
  rw [Nd.pths]
  exact pthss_nodup ks _ h.2.2.1 0
 | .stub _, _, h => by rw [Nd.can] at h; exact h.elim
theorem pthss_nodup : ∀ (ks : List Nd) (n : Nat), canAll ks n -> ∀ i, (pthss ks i).Nodup
 | [], _, _ => fun _ => by rw [pthss]; exact List.nodup_nil
 | t :: ks, n, h => fun i => by
  rw [canAll] at h
  rw [pthss, List.nodup_append]
  refine ⟨nodup_map (fun a b e => by cases e; rfl) (pths_nodup t n h.1), pthss_nodup ks n h.2 (i + 1), fun a ha b hb e => ?_⟩
  obtain ⟨s', -, rfl⟩ := List.mem_map.1 ha
  obtain ⟨j, s2, rfl, -⟩ := pthss_get ks n h.2 (i + 1) b hb
  have := (List.cons.inj e).1
  omega
end
theorem nodup_le {l k : List (List Nat)} (h : l.Nodup) (hs : ∀ x ∈ l, x ∈ k) : l.length <= k.length := by
 induction l generalizing k with
 | nil => simp
 | cons x l ih =>
  rw [List.nodup_cons] at h
  have d := hs x (List.mem_cons_self ..)
  have := ih (k := k.erase x) h.2 fun y c => (List.mem_erase_of_ne (a := y) (b := x) (fun e => by rw [e] at c; exact h.1 c)).2 (hs y (List.mem_cons_of_mem _ c))
  rw [List.length_erase_of_mem d] at this
  have f := List.length_pos_of_mem d
  rw [List.length_cons]
  omega
theorem leaves_le {t : Nd} (h : t.can 64) {m : Mp} (hg : ∀ s, s.length = 64 -> t.get s = getN m s) : t.lvs <= m.length := by
 rw [<- pths_len t 64 h]
 have := nodup_le (k := m.map pth) (pths_nodup t 64 h) fun s c => by
  obtain ⟨b, a⟩ := pths_get t 64 h s c
  rw [hg s b] at a
  unfold getN at a
  cases hf : m.find? (fun x => decide (pth x = s)) with
  | none => rw [hf] at a; exact absurd rfl a
  | some x =>
   have := List.find?_some hf
   exact List.mem_map.2 ⟨x, List.mem_of_find?_eq_some hf, by simpa using this⟩
 rwa [List.length_map] at this
theorem behP_mem {ps : List ByteArray} {q p : ByteArray} (h : p ∈ ps) (hb : begins q p) : p.extract q.size p.size ∈ behP ps q := by
 unfold behP
 exact List.mem_filterMap.2 ⟨p, h, by rw [if_pos hb]⟩
theorem xopen_ok (sent : Nat -> Addr) {w : World} (s : ByteArray) {D : List Nat} {t : Nd} (hok : openF D s = .ok t) (hF : Faults w sent) (hB : Bru w) (hT : Tabs w) (hM : 15 <= w.heap.size) (hD : D.length = 32) (hDb : ∀ x ∈ D, x < 256) :
  Calls Tryz.prog 7 #[.agg (D.map encB).toArray, .string s] w fun e w' => ∃ b S', e = .returned (.tuple #[.pointer (some ⟨b, 0, none⟩), faultV 0 0 0 0]) /\ TreeAt S' w' b t /\ w.heap.size <= b /\ FrX w.heap.size (fun _ => False) (fun _ => none) S' w w' := by
 obtain ⟨A, T⟩ : ∃ A, (D.map encB).toArray = A := ⟨_, rfl⟩
 obtain ⟨d, F, p, o⟩ := alloc2 w (.cells A 38) (.cells #[.int .i64 0, .int .i64 0, .int .i64 0, .int .i64 0] 34)
 obtain ⟨i, L⟩ : ∃ x, (w.alloc (.cells A 38)).alloc (.cells #[.int .i64 0, .int .i64 0, .int .i64 0, .int .i64 0] 34) = x := ⟨_, rfl⟩
 rw [L] at d F p o
 obtain ⟨a, G⟩ : ∃ x, w.heap.size + 1 = x := ⟨_, rfl⟩
 rw [G] at p o
 have E : i.rangeAt w.heap.size 0 (D.map encB) := fun j u hu => by
  rw [Nat.zero_add, World.cell?, F, <- T]
  simpa using hu
 have J := Hid.hide (topen_any (w := i) sent s (hF.below d) (hB.below d) (hT.below d hM) (Nat.le_trans hM d.size) hD hDb)
 rw [hok] at J
 have q : Hid (Below w.heap.size w i /\ i.heap[a]? = some (.cells #[.int .i64 0, .int .i64 0, .int .i64 0, .int .i64 0] 34 (0, 0)) /\ w.heap.size + 1 = a /\ i.heap.size = a + 1) := ⟨d, p, G, o⟩
 have Z : (Tryz.prog.info? 38).map (·.size) = some (D.map encB).length := by rw [List.length_map, hD]; kernel_rfl
 rw [T] at J ⊢
 clear hF hB hT hM hD hDb d F p o G hok
 go_enter Tryz.func7, Tryz.ntmps7
 go_upto_region 1 with fail
 rw [q.out.2.2.1]
 clear L
 go_wp2_with (refine wpList_load_mid rfl 38 _ rfl w.heap.size 0 rfl (D.map encB) _ E Tryz.underlying38 rfl Z ?_)
 refine J.out.mono ?_
 intro e m U
 obtain ⟨z, K, rfl, R, f⟩ := U.good t rfl
 obtain ⟨n, O, H, N⟩ := alloc2 m (.cells #[z] 63) (.cells #[z] 65)
 obtain ⟨y0, -⟩ := box1 (heap_new m (.cells #[z] 63))
 obtain ⟨W2, W⟩ : ∃ x, (m.alloc (.cells #[z] 63)).alloc (.cells #[z] 65) = x := ⟨_, rfl⟩
 rw [W] at n O H N
 have P : W2.heap[a]? = some (.cells #[.int .i64 0, .int .i64 0, .int .i64 0, .int .i64 0] 34 (0, 0)) := (n.block a (by have := q.out; have := f.size; omega)).trans ((f.other a (by have := q.out; omega) rfl (fun h => h)).trans q.out.2.1)
 obtain ⟨c0, c1, c2, c3, f0, f1, f2, f3⟩ := fault_cells P
 have g := fault_only (w := W2) (b := a) (.int .i64 0) (.int .i64 0) (.int .i64 0) (.int .i64 0)
 have I : Hid (XoS w (.ok t) (.returned (.tuple #[.pointer (some ⟨m.heap.size + 1, 0, none⟩), faultV 0 0 0 0])) ((((W2.setCell ⟨a, 0, none⟩ (.int .i64 0)).setCell ⟨a, 1, none⟩ (.int .i64 0)).setCell ⟨a, 2, none⟩ (.int .i64 0)).setCell ⟨a, 3, none⟩ (.int .i64 0))) := by
  refine ⟨fun _ Q => (by cases Q), fun t' Q => ?_⟩
  cases Q
  have hW := q.out
  have ab := f.size
  have V : K a = none := f.new a (by omega) rfl
  have l : FrX i.heap.size (fun _ => False) (fun _ => none) K i W2 := f.behind n
  refine ⟨m.heap.size + 1, K, rfl, ⟨f.forest.fresh (by omega), z, R, (g.block _ (by omega) (by omega)).trans H⟩, by omega, ?_⟩
  have X : Forest w.heap.size K ((((W2.setCell ⟨a, 0, none⟩ (.int .i64 0)).setCell ⟨a, 1, none⟩ (.int .i64 0)).setCell ⟨a, 2, none⟩ (.int .i64 0)).setCell ⟨a, 3, none⟩ (.int .i64 0)) := (forest_only l.forest g V).lowB (by omega)
  have hs := g.size
  have aa := l.size
  have d := hW.1
  exact ⟨g.os.trans (l.os.trans d.os), g.tape.trans (l.tape.trans d.tape), g.output.trans (l.output.trans d.output), by omega, fun k Y _ _ => (g.block k (by omega) (by omega)).trans ((l.other k (by omega) rfl (fun h => h)).trans (d.block k Y)), X, fun _ _ h => (by cases h), fun k Y _ => l.new k (by omega) rfl⟩
 have HZ := Hid.hide R
 have S := Hid.hide P
 clear U f n O H N g E J P R
 rcases HZ.out with ⟨-, rfl⟩ | ⟨-, c, rfl, -⟩
 ·go_wp2
  obtain ⟨r, y, B, C, -⟩ := fault_cells (fault_set S.out (.int .i64 0) (.int .i64 0) (.int .i64 0) (.int .i64 0))
  generalize World.setCell _ ⟨a, 3, none⟩ _ = w3 at I r y B C ⊢
  refine bodyPost_ret (v := .tuple #[.pointer (some ⟨m.heap.size + 1, 0, none⟩), faultV 0 0 0 0]) (by simp [results, Tryz.results7, go_sem, r, y, B, C, faultV]) rfl ?_
  exact I.out.good t rfl
 ·go_wp2
  obtain ⟨r, y, B, C, -⟩ := fault_cells (fault_set S.out (.int .i64 0) (.int .i64 0) (.int .i64 0) (.int .i64 0))
  generalize World.setCell _ ⟨a, 3, none⟩ _ = w3 at I r y B C ⊢
  refine bodyPost_ret (v := .tuple #[.pointer (some ⟨m.heap.size + 1, 0, none⟩), faultV 0 0 0 0]) (by simp [results, Tryz.results7, go_sem, r, y, B, C, faultV]) rfl ?_
  exact I.out.good t rfl
end Go.Proofs.YtcglpladmeelaaaGreatDoor
