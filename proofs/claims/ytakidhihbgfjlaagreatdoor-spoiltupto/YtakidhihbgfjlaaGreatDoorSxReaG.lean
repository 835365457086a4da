/-
  Heads read: Number, readLength, readText, readHead of package item.
-/
import Derived.Test.YtakidhihbgfjlaaGreatDoorSxNibG
import Derived.Test.YtakidhihbgfjlaaGreatDoorSxErrG
namespace Go.Proofs.YtakidhihbgfjlaaGreatDoor
open Go.RowKit
set_option maxRecDepth 100000
set_option maxHeartbeats 25600000
def numB (l : List Nat) : Nat := l.foldl (fun n x => n * 256 + x) 0
theorem Qfj (l : List Nat) (x : Nat) : numB (l ++ [x]) = numB l * 256 + x := by
 unfold numB
 rw [List.foldl_append]
 rfl
theorem QAr : ∀ (l : List Nat), (∀ x ∈ l, x < 256) -> numB l < 256 ^ l.length := by
 intro l
 induction hl : l.length generalizing l with
 | zero =>
  intro _
  have : l = [] := List.eq_nil_of_length_eq_zero hl
  subst this
  decide
 | succ n ih =>
  intro h
  have a : l ≠ [] := fun e => by rw [e] at hl; simp at hl
  rw [<- List.dropLast_concat_getLast a, Qfj]
  have c := ih l.dropLast (by simp [hl]) (fun x b => h x (List.dropLast_subset l b))
  have d := h _ (List.getLast_mem a)
  rw [Nat.pow_succ]
  omega
def lenF (l : List Nat) (kind : Nat) : Except Bool (Nat × Nat) :=
 let k := l[0]! - kind
 if k <= 55 then (if l.length - 1 < k then .error false else .ok (1, k))
 else if l.length < k - 54 then .error false
 else
  let n := numB ((l.drop 1).take (k - 55))
  if l[1]! = 0 \/ n <= 55 then .error true
  else if l.length - (k - 54) < n then .error false else .ok (k - 54, n)
variable {l : List Nat} {kind : Nat}
theorem Qrt (h : l[0]! - kind <= 55) : lenF l kind = if l.length - 1 < l[0]! - kind then .error false else .ok (1, l[0]! - kind) := by
 unfold lenF
 simp only [h, if_true]
theorem Qru (h : ¬ l[0]! - kind <= 55) : lenF l kind = if l.length < l[0]! - kind - 54 then .error false else if l[1]! = 0 \/ numB ((l.drop 1).take (l[0]! - kind - 55)) <= 55 then .error true else if l.length - (l[0]! - kind - 54) < numB ((l.drop 1).take (l[0]! - kind - 55)) then .error false else .ok (l[0]! - kind - 54, numB ((l.drop 1).take (l[0]! - kind - 55))) := by
 unfold lenF
 simp only [h, if_false]
theorem Qyc : ∀ (k : Nat) (d : List Nat), (∀ x ∈ d, x < 256) -> k <= d.length -> numB d / 256 ^ k = numB (d.take (d.length - k)) := by
 intro k
 induction k with
 | zero => intro d _ _; simp
 | succ k ih =>
  intro d b c
  have a : d ≠ [] := fun e => by subst e; simp at c
  obtain ⟨r, x, rfl⟩ : ∃ r x, d = r ++ [x] := ⟨d.dropLast, d.getLast a, (List.dropLast_concat_getLast a).symm⟩
  have g : x < 256 := b x (by simp)
  simp only [List.length_append, List.length_cons, List.length_nil] at c ⊢
  rw [Qfj, Nat.pow_succ, Nat.mul_comm (256 ^ k) 256, <- Nat.div_div_eq_div_mul, show (numB r * 256 + x) / 256 = numB r by omega, ih r (fun y f => b y (by simp [f])) (by omega)]
  rw [show r.length + (0 + 1) - (k + 1) = r.length - k by omega, List.take_append_of_le_length (by omega)]
theorem Qll : ∀ (r : List Nat) (x : Nat), x ≠ 0 -> numB (x :: r) ≠ 0 := by
 have h : ∀ (r : List Nat) (n : Nat), n ≠ 0 -> r.foldl (fun n x => n * 256 + x) n ≠ 0 := by
  intro r
  induction r with
  | nil => intro n a; exact a
  | cons y r ih => intro n a; exact ih _ (by simp only; omega)
 intro r x b
 unfold numB
 rw [List.foldl_cons]
 exact h r _ (by omega)
theorem Qv1 (d : List Nat) (hd : ∀ x ∈ d, x < 256) (h8 : d.length <= 8) (h0 : d ≠ [] -> d[0]! ≠ 0) : bigE (numB d) = d := by
 have g : ∀ i, i <= 8 -> bigAt (numB d) i = d.take (i - (8 - d.length)) := by
  intro i
  induction i with
  | zero => intro _; simp [bigAt]
  | succ i ih =>
   intro m
   rw [bigAt, ih (by omega)]
   have e : 2 ^ (56 - 8 * i) = 256 ^ (7 - i) := by
    rw [show (256 : Nat) = 2 ^ 8 by decide, <- Nat.pow_mul]
    congr 1
    omega
   rw [e]
   by_cases k : d.length <= 7 - i
   ·have c := QAr d hd
    have : numB d / 256 ^ (7 - i) = 0 := Nat.div_eq_of_lt (Nat.lt_of_lt_of_le c (Nat.pow_le_pow_right (by decide) k))
    rw [if_pos this, show i - (8 - d.length) = 0 by omega, show i + 1 - (8 - d.length) = 0 by omega]
   ·rw [Qyc (7 - i) d hd (by omega)]
    obtain ⟨j, h⟩ : ∃ j, d.length - (7 - i) = j + 1 := ⟨d.length - (7 - i) - 1, by omega⟩
    have b : j < d.length := by omega
    rw [h, show i - (8 - d.length) = j by omega, show i + 1 - (8 - d.length) = j + 1 by omega]
    have l : d.take (j + 1) = d.take j ++ [d[j]] := (List.take_append_getElem b).symm
    have f : numB (d.take (j + 1)) ≠ 0 := by
     cases hdd : d with
     | nil => rw [hdd] at b; simp at b
     | cons a r =>
      have := h0 (by rw [hdd]; simp)
      rw [hdd] at this
      rw [List.take_succ_cons]
      exact Qll _ _ (by simpa using this)
    rw [if_neg f, l, Qfj]
    have := hd d[j] (List.getElem_mem b)
    rw [show (numB (d.take j) * 256 + d[j]) % 256 = d[j] by omega]
 have := g 8 (Nat.le_refl _)
 unfold bigE
 rw [this, List.take_of_length_le (by omega)]
theorem Qgn (h : 0 < l.length) : l.take 1 = [l[0]!] := by
 cases l with
 | nil => simp at h
 | cons a r => simp
variable {a b : Nat}
theorem Qv2 (hl : ∀ x ∈ l, x < 256) (hp : 0 < l.length) (hk : kind <= l[0]!) (h63 : l[0]! - kind <= 63) (h : lenF l kind = .ok (a, b)) : l.take a = headB kind b /\ a + b <= l.length /\ 1 <= a /\ a <= 9 := by
 have d : l[0]! < 256 := by
  rw [getElem!_pos l 0 hp]
  exact hl _ (List.getElem_mem hp)
 by_cases c : l[0]! - kind <= 55
 ·rw [Qrt c] at h
  split at h
  ·cases h
  ·injection h with h
   injection h with h1 h2
   subst h1 h2
   refine ⟨?_, by omega, by omega, by omega⟩
   unfold headB
   rw [if_pos c, Qgn hp]
   congr 1
   omega
 ·rw [Qru c] at h
  split at h
  ·cases h
  ·rename_i hlen
   split at h
   ·cases h
   ·rename_i hz
    split at h
    ·cases h
    ·rename_i hr
     injection h with h
     injection h with h1 h2
     have j : l[1]! ≠ 0 := fun e => hz (.inl e)
     have f : ¬ numB ((l.drop 1).take (l[0]! - kind - 55)) <= 55 := fun e => hz (.inr e)
     have i : ((l.drop 1).take (l[0]! - kind - 55)).length = l[0]! - kind - 55 := by
      rw [List.length_take, List.length_drop]
      omega
     have g : bigE (numB ((l.drop 1).take (l[0]! - kind - 55))) = (l.drop 1).take (l[0]! - kind - 55) := by
      refine Qv1 _ (fun x k => hl x (List.mem_of_mem_drop (List.mem_of_mem_take k))) (by omega) (fun _ => ?_)
      have e : ((l.drop 1).take (l[0]! - kind - 55))[0]! = l[1]! := by
       rw [getElem!_pos _ 0 (by omega), getElem!_pos l 1 (by omega), List.getElem_take, List.getElem_drop]
      rw [e]
      exact j
     rw [h2] at g f
     refine ⟨?_, by omega, by omega, by omega⟩
     unfold headB
     rw [if_neg f, g, i, <- h1]
     cases hll : l with
     | nil => rw [hll] at hp; simp at hp
     | cons x r =>
      rw [hll] at c d hk hlen h63
      simp only [List.getElem!_cons_zero, List.drop_succ_cons, List.drop_zero] at c d hk hlen h63 ⊢
      rw [show x - kind - 54 = (x - kind - 55) + 1 by omega, List.take_succ_cons]
      congr 1
      omega
def HeadOK (l : List Nat) (list : Bool) (size len : Nat) : Prop :=
 size + len <= l.length /\ 0 < size + len /\ size <= 9 /\ (list = true -> l.take size = headB 192 len) /\ (list = false -> l.take (size + len) = textCode ((l.drop size).take len))
theorem HeadOK.byte (hp : 0 < l.length) (h : l[0]! < 128) : HeadOK l false 0 1 := by
 refine ⟨by omega, by omega, by omega, by simp, fun _ => ?_⟩
 rw [Nat.zero_add, List.drop_zero, Qgn hp]
 unfold textCode
 rw [if_pos ⟨rfl, by simpa using h⟩]
 rfl
theorem HeadOK.text (hl : ∀ x ∈ l, x < 256) (hp : 0 < l.length) (hk : 128 <= l[0]!) (hk2 : l[0]! < 192) (h : lenF l 128 = .ok (a, b)) (hn : ¬ (b = 1 /\ l[a]! < 128)) : HeadOK l false a b := by
 obtain ⟨f, g, j, i⟩ := Qv2 hl hp hk (by omega) h
 refine ⟨g, by omega, i, by simp, fun _ => ?_⟩
 have c : ((l.drop a).take b).length = b := by rw [List.length_take, List.length_drop]; omega
 unfold textCode
 rw [if_neg, c, <- f, List.take_add]
 rintro ⟨d, e⟩
 rw [c] at d
 refine hn ⟨d, ?_⟩
 rw [getElem!_pos _ 0 (by omega), List.getElem_take, List.getElem_drop] at e
 rw [getElem!_pos l a (by omega)]
 simpa using e
theorem HeadOK.list (hl : ∀ x ∈ l, x < 256) (hp : 0 < l.length) (hk : 192 <= l[0]!) (h : lenF l 192 = .ok (a, b)) : HeadOK l true a b := by
 have f : l[0]! < 256 := by
  rw [getElem!_pos l 0 hp]
  exact hl _ (List.getElem_mem hp)
 obtain ⟨c, d, g, e⟩ := Qv2 hl hp hk (by omega) h
 exact ⟨d, by omega, e, fun _ => c, by simp⟩
inductive It where
 | text (fr to : Nat) (t : List Nat)
 | list (fr to : Nat) (l : List It)
def It.fr : It -> Nat
 | .text a _ _ => a
 | .list a _ _ => a
def It.to : It -> Nat
 | .text _ a _ => a
 | .list _ a _ => a
mutual
def It.code : It -> List Nat
 | .text _ _ t => textCode t
 | .list _ _ l => listCode (codes l)
def codes : List It -> List Nat
 | [] => []
 | x :: l => x.code ++ codes l
end
def headF (l : List Nat) : Except Nat (Bool × Nat × Nat) :=
 if l.length = 0 then .error 2
 else if l[0]! < 128 then .ok (false, 0, 1)
 else if l[0]! < 192 then
  match lenF l 128 with
  | .error x => .error (if x then 3 else 2)
  | .ok (a, b) => if b = 1 /\ l[a]! < 128 then .error 3 else .ok (false, a, b)
 else
  match lenF l 192 with
  | .error x => .error (if x then 3 else 2)
  | .ok (a, b) => .ok (true, a, b)
def readIts (rd : Nat -> Except Er It) (n : Nat) : Nat -> Nat -> Except Er (List It)
 | 0, _ => .ok []
 | k + 1, fr =>
  if fr < n then
   match rd fr with
   | .error e => .error e
   | .ok x =>
    match readIts rd n k x.to with
    | .error e => .error e
    | .ok l => .ok (x :: l)
  else .ok []
def readIt : Nat -> List Nat -> Nat -> Except Er It
 | 0, l, fr =>
  match headF (l.drop fr) with
  | .error e => .error (.place fr (.base e))
  | .ok (lst, a, b) => if lst then .error (.place fr (.base 5)) else .ok (.text fr (fr + a + b) ((l.drop (fr + a)).take b))
 | d + 1, l, fr =>
  match headF (l.drop fr) with
  | .error e => .error (.place fr (.base e))
  | .ok (lst, a, b) =>
   if lst then
    match readIts (readIt d (l.take (fr + a + b))) (fr + a + b) b (fr + a) with
    | .error e => .error e
    | .ok its => .ok (.list fr (fr + a + b) its)
   else .ok (.text fr (fr + a + b) ((l.drop (fr + a)).take b))
def decF (l : List Nat) : Except Er It :=
 if 2048 < l.length then .error (.base 1)
 else
  match readIt 6 l 0 with
  | .error e => .error e
  | .ok x => if x.to < l.length then .error (.place x.to (.base 4)) else .ok x
theorem Qqa (hl : ∀ x ∈ l, x < 256) {lst : Bool} (h : headF l = .ok (lst, a, b)) : HeadOK l lst a b := by
 unfold headF at h
 by_cases i : l.length = 0
 ·rw [if_pos i] at h
  cases h
 ·rw [if_neg i] at h
  by_cases c : l[0]! < 128
  ·rw [if_pos c] at h
   cases h
   exact HeadOK.byte (by omega) c
  ·rw [if_neg c] at h
   by_cases d : l[0]! < 192
   ·rw [if_pos d] at h
    cases hf : lenF l 128 with
    | error x => rw [hf] at h; cases h
    | ok p =>
     obtain ⟨f, g⟩ := p
     rw [hf] at h
     simp only at h
     by_cases e : g = 1 /\ l[f]! < 128
     ·rw [if_pos e] at h
      cases h
     ·rw [if_neg e] at h
      cases h
      exact HeadOK.text hl (by omega) (by omega) d hf e
   ·rw [if_neg d] at h
    cases hf : lenF l 192 with
    | error x => rw [hf] at h; cases h
    | ok p =>
     obtain ⟨f, g⟩ := p
     rw [hf] at h
     cases h
     exact HeadOK.list hl (by omega) (by omega) hf
def ReadOK (l : List Nat) (fr : Nat) (x : It) : Prop := x.fr = fr /\ fr < x.to /\ x.to <= l.length /\ x.code = (l.drop fr).take (x.to - fr)
theorem Qrv {rd : Nat -> Except Er It} {n : Nat} (hn : n = l.length) (hr : ∀ fr x, fr <= l.length -> rd fr = .ok x -> ReadOK l fr x) :
  ∀ (k fr : Nat) (its : List It), fr <= n -> n - fr <= k -> readIts rd n k fr = .ok its -> codes its = l.drop fr := by
 intro k
 induction k with
 | zero =>
  intro fr its b d h
  cases h
  rw [List.drop_of_length_le (by omega)]
  rfl
 | succ k ih =>
  intro fr its b d h
  rw [readIts] at h
  by_cases a : fr < n
  ·rw [if_pos a] at h
   cases h1 : rd fr with
   | error e => rw [h1] at h; cases h
   | ok x =>
    rw [h1] at h
    simp only at h
    obtain ⟨_, f, g, c⟩ := hr fr x (by omega) h1
    cases h2 : readIts rd n k x.to with
    | error e => rw [h2] at h; cases h
    | ok its2 =>
     rw [h2] at h
     cases h
     rw [codes, c, ih x.to its2 (by omega) (by omega) h2, show l.drop x.to = (l.drop fr).drop (x.to - fr) by rw [List.drop_drop]; congr 1; omega, List.take_append_drop]
  ·rw [if_neg a] at h
   cases h
   rw [List.drop_of_length_le (by omega)]
   rfl
theorem Qk2 (hl : ∀ x ∈ l, x < 256) (k : Nat) : ∀ x ∈ l.drop k, x < 256 := fun x hx => hl x (List.mem_of_mem_drop hx)
theorem Qrw (hl : ∀ x ∈ l, x < 256) (k : Nat) : ∀ x ∈ l.take k, x < 256 := fun x hx => hl x (List.mem_of_mem_take hx)
theorem Qni (hl : ∀ x ∈ l, x < 256) {fr : Nat} (hfr : fr <= l.length) (h : headF (l.drop fr) = .ok (false, a, b)) : ReadOK l fr (.text fr (fr + a + b) ((l.drop (fr + a)).take b)) := by
 obtain ⟨c, e, _, _, d⟩ := Qqa (Qk2 hl fr) h
 rw [List.length_drop] at c
 refine ⟨rfl, by simp only [It.to]; omega, by simp only [It.to]; omega, ?_⟩
 simp only [It.to, It.code]
 rw [show fr + a + b - fr = a + b by omega, d rfl, List.drop_drop]
theorem Qfk : ∀ (d : Nat) (l : List Nat) (fr : Nat) (x : It), (∀ y ∈ l, y < 256) -> fr <= l.length -> readIt d l fr = .ok x -> ReadOK l fr x := by
 intro d
 induction d with
 | zero =>
  intro l fr x f c h
  rw [readIt] at h
  cases h1 : headF (l.drop fr) with
  | error e => rw [h1] at h; cases h
  | ok p =>
   obtain ⟨g, a, b⟩ := p
   rw [h1] at h
   cases g with
   | true => cases h
   | false =>
    cases h
    exact Qni f c h1
 | succ d ih =>
  intro l fr x f c h
  rw [readIt] at h
  cases h1 : headF (l.drop fr) with
  | error e => rw [h1] at h; cases h
  | ok p =>
   obtain ⟨g, a, b⟩ := p
   rw [h1] at h
   cases g with
   | false =>
    cases h
    exact Qni f c h1
   | true =>
    simp only [if_true] at h
    cases h2 : readIts (readIt d (l.take (fr + a + b))) (fr + a + b) b (fr + a) with
    | error e => rw [h2] at h; cases h
    | ok its =>
     rw [h2] at h
     cases h
     obtain ⟨o, u, _, q, _⟩ := Qqa (Qk2 f fr) h1
     rw [List.length_drop] at o
     have j : (l.take (fr + a + b)).length = fr + a + b := by rw [List.length_take]; omega
     have s := Qrv j.symm (fun k t m n => ih _ k t (Qrw f _) m n) b (fr + a) its (by omega) (by omega) h2
     refine ⟨rfl, by simp only [It.to]; omega, by simp only [It.to]; omega, ?_⟩
     simp only [It.to, It.code]
     have r : (l.take (fr + a + b)).drop (fr + a) = ((l.drop fr).drop a).take b := by rw [List.drop_take, List.drop_drop, show fr + a + b - (fr + a) = b by omega]
     rw [s, r]
     unfold listCode
     have i : (((l.drop fr).drop a).take b).length = b := by rw [List.length_take, List.length_drop, List.length_drop]; omega
     rw [i, <- q rfl, show fr + a + b - fr = a + b by omega, List.take_add]
theorem QAs (hl : ∀ y ∈ l, y < 256) {x : It} (h : decF l = .ok x) : l.length <= 2048 /\ x.fr = 0 /\ x.to = l.length /\ x.code = l := by
 unfold decF at h
 by_cases b : 2048 < l.length
 ·rw [if_pos b] at h
  cases h
 ·rw [if_neg b] at h
  cases h1 : readIt 6 l 0 with
  | error e => rw [h1] at h; cases h
  | ok y =>
   rw [h1] at h
   simp only at h
   obtain ⟨d, g, i, f⟩ := Qfk 6 l 0 y hl (by omega) h1
   by_cases c : y.to < l.length
   ·rw [if_pos c] at h
    cases h
   ·rw [if_neg c] at h
    cases h
    have a : x.to = l.length := by omega
    refine ⟨by omega, d, a, ?_⟩
    rw [f, a, List.drop_zero, Nat.sub_zero, List.take_of_length_le (Nat.le_refl _)]
end Go.Proofs.YtakidhihbgfjlaaGreatDoor
