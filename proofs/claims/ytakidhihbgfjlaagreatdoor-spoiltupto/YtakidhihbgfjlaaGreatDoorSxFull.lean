/-
  A code is accepted, and gives what was encoded: items, paths, accounts; and a code has the length that its parts make. Plain facts on lists of bytes.
-/
import Derived.Test.YtakidhihbgfjlaaGreatDoorSxBarG
import Derived.Test.YtakidhihbgfjlaaGreatDoorSxNibG
namespace Go.Proofs.YtakidhihbgfjlaaGreatDoor
open Go.RowKit
set_option maxRecDepth 100000
set_option maxHeartbeats 25600000
theorem Qjj (n : Nat) (hn : n < 18446744073709551616) : ∀ i, i <= 8 -> numB (bigAt n i) = n / 2 ^ (64 - 8 * i) /\ (bigAt n i ≠ [] -> (bigAt n i)[0]! ≠ 0) := by
 intro i
 induction i with
 | zero =>
  intro _
  refine ⟨?_, fun h => absurd rfl h⟩
  rw [bigAt]
  show 0 = n / 2 ^ 64
  rw [Nat.div_eq_of_lt (by simpa using hn)]
 | succ i ih =>
  intro g
  obtain ⟨b, c⟩ := ih (by omega)
  have e : 2 ^ (64 - 8 * i) = 2 ^ (56 - 8 * i) * 256 := by
   rw [show 64 - 8 * i = 56 - 8 * i + 8 by omega, Nat.pow_add]
  rw [e, <- Nat.div_div_eq_div_mul] at b
  rw [bigAt, show 64 - 8 * (i + 1) = 56 - 8 * i by omega]
  generalize hq : n / 2 ^ (56 - 8 * i) = q at b ⊢
  by_cases d : q = 0
  ·rw [if_pos d]
   exact ⟨by rw [b, d], c⟩
  ·rw [if_neg d]
   refine ⟨by rw [Qfj, b]; omega, fun _ => ?_⟩
   cases hb : bigAt n i with
   | nil =>
    rw [hb] at b
    have f : (0 : Nat) = q / 256 := b
    simp only [List.nil_append, List.getElem!_cons_zero]
    omega
   | cons a r =>
    rw [hb] at c
    have := c (by simp)
    simpa using this
variable {n : Nat}
theorem Qmk (hn : n < 18446744073709551616) : numB (bigE n) = n := by
 have := (Qjj n hn 8 (Nat.le_refl _)).1
 simpa [bigE] using this
theorem Qr9 (hn : n < 18446744073709551616) : bigE n ≠ [] -> (bigE n)[0]! ≠ 0 := (Qjj n hn 8 (Nat.le_refl _)).2
theorem Qol (n : Nat) : (bigE n).length <= 8 := Qck n 8
theorem Qth (n : Nat) : ∀ x ∈ bigE n, x < 256 := by
 have h : ∀ i, ∀ x ∈ bigAt n i, x < 256 := by
  intro i
  induction i with
  | zero => intro x a; cases a
  | succ i ih =>
   intro x a
   rw [bigAt] at a
   split at a
   ·exact ih x a
   ·rcases List.mem_append.1 a with h | h
    ·exact ih x h
    ·rw [List.mem_singleton.1 h]
     omega
 exact h 8
theorem Qpo (hn : n < 18446744073709551616) (h0 : n ≠ 0) : bigE n ≠ [] := fun h => h0 (by have := Qmk hn; rw [h] at this; exact this.symm)
theorem Qml {k : Nat} (hk : k = 128 \/ k = 192) (hn : n < 18446744073709551616) (t : List Nat) (ht : n <= t.length) : lenF (headB k n ++ t) k = .ok ((headB k n).length, n) := by
 unfold lenF headB
 by_cases h : n <= 55
 ·rw [if_pos h]
  have e : (k + n) % 256 - k = n := by omega
  simp only [List.cons_append, List.nil_append, List.getElem!_cons_zero, List.length_cons, List.length_nil, e]
  rw [if_pos h, if_neg (by omega)]
 ·rw [if_neg h]
  have g := Qol n
  have d := Qmk hn
  have f := Qr9 hn (Qpo hn (by omega))
  have a := Qpo hn (by omega : n ≠ 0)
  generalize bigE n = B at g d f a ⊢
  have i : 1 <= B.length := by
   cases B with
   | nil => exact absurd rfl a
   | cons => simp
  have e : (k + 55 + B.length) % 256 - k = 55 + B.length := by omega
  have b : (((k + 55 + B.length) % 256 :: B ++ t).drop 1).take B.length = B := by
   simp
  have c : ((k + 55 + B.length) % 256 :: B ++ t)[1]! = B[0]! := by
   cases B with
   | nil => exact absurd rfl a
   | cons x r => simp
  simp only [List.cons_append, List.getElem!_cons_zero, e] at b c ⊢
  rw [if_neg (by omega), show 55 + B.length - 55 = B.length by omega, b, c, d, show 55 + B.length - 54 = B.length + 1 by omega]
  simp only [List.length_cons, List.length_append]
  rw [if_neg (by omega), if_neg (by omega), if_neg (by omega)]
theorem Qmm (t r : List Nat) : (textCode t ++ r).drop ((textCode t).length - t.length) = t ++ r := by
 unfold textCode
 split
 ·simp
 ·rw [List.length_append, Nat.add_sub_cancel, List.append_assoc, List.drop_append_of_le_length (Nat.le_refl _), List.drop_length, List.nil_append]
theorem Qra (t r : List Nat) (ht : t.length < 18446744073709551616) : headF (textCode t ++ r) = .ok (false, (textCode t).length - t.length, t.length) := by
 unfold headF
 have j := (Qb9 t).1
 rw [if_neg (by rw [List.length_append]; omega)]
 by_cases a : t.length = 1 /\ t[0]! < 128
 ·have e : textCode t = t := by
   unfold textCode
   rw [if_pos a]
   rfl
  obtain ⟨x, rfl⟩ := List.length_eq_one_iff.1 a.1
  rw [e]
  have g : x < 128 := by simpa using a.2
  simp [g]
 ·have e : textCode t = headB 128 t.length ++ t := by
   unfold textCode
   rw [if_neg a]
  rw [e, List.append_assoc, Qml (.inl rfl) ht (t ++ r) (by rw [List.length_append]; omega)]
  have f : 128 <= (headB 128 t.length ++ (t ++ r))[0]! /\ (headB 128 t.length ++ (t ++ r))[0]! < 192 := by
   have i := Qol t.length
   unfold headB
   split
   ·simp only [List.cons_append, List.getElem!_cons_zero]
    omega
   ·simp only [List.cons_append, List.getElem!_cons_zero]
    omega
  rw [if_neg (by omega), if_pos f.2]
  simp only
  have h : (headB 128 t.length ++ t).length - t.length = (headB 128 t.length).length := by rw [List.length_append]; omega
  rw [h, if_neg]
  rintro ⟨d, b⟩
  refine a ⟨d, ?_⟩
  have c : (headB 128 t.length).length < (headB 128 t.length ++ (t ++ r)).length := by rw [List.length_append, List.length_append]; omega
  rw [getElem!_pos (headB 128 t.length ++ (t ++ r)) _ c, List.getElem_append_right (Nat.le_refl _)] at b
  simp only [Nat.sub_self] at b
  rw [List.getElem_append_left (by omega)] at b
  rw [getElem!_pos t 0 (by omega)]
  exact b
theorem Qom (p r : List Nat) (hp : p.length < 18446744073709551616) : headF (listCode p ++ r) = .ok (true, (headB 192 p.length).length, p.length) := by
 unfold headF listCode
 have b := Qcs 192 p.length
 rw [if_neg (by rw [List.length_append, List.length_append]; omega), List.append_assoc, Qml (.inr rfl) hp (p ++ r) (by rw [List.length_append]; omega)]
 have a : 192 <= (headB 192 p.length ++ (p ++ r))[0]! := by
  have c := Qol p.length
  unfold headB
  split
  ·simp only [List.cons_append, List.getElem!_cons_zero]
   omega
  ·simp only [List.cons_append, List.getElem!_cons_zero]
   omega
 rw [if_neg (by omega), if_neg (by omega)]
def fits : Nat -> It -> Prop
 | _, .text _ _ _ => True
 | 0, .list _ _ _ => False
 | d + 1, .list _ _ l => ∀ x ∈ l, fits d x
def ReadFull (rd : Nat -> Except Er It) (l : List Nat) (x : It) : Prop :=
 ∀ (fr : Nat) (r : List Nat), fr <= l.length -> l.drop fr = x.code ++ r -> ∃ y, rd fr = .ok y /\ y.bare = x.bare /\ y.to = fr + x.code.length
theorem Qmn {rd : Nat -> Except Er It} {l : List Nat} (hn : n = l.length) : ∀ (its : List It) (k fr : Nat), fr <= n -> l.drop fr = codes its -> (codes its).length <= k -> (∀ x ∈ its, ReadFull rd l x) -> ∃ ys, readIts rd n k fr = .ok ys /\ bares ys = bares its := by
 intro its
 induction its with
 | nil =>
  intro k fr d a b _
  refine ⟨[], ?_, rfl⟩
  have p : l.length <= fr := by
   have := congrArg List.length a
   rw [List.length_drop] at this
   simp only [codes, List.length_nil] at this
   omega
  cases k with
  | zero => rfl
  | succ k => rw [readIts, if_neg (by omega)]
 | cons x its ih =>
  intro k fr d a b f
  rw [codes] at a b
  have q := Qpi x
  rw [List.length_append] at b
  have e : fr < n := by
   have := congrArg List.length a
   rw [List.length_drop, List.length_append] at this
   omega
  cases k with
  | zero => omega
  | succ k =>
   obtain ⟨y, g, h, i⟩ := f x (List.mem_cons_self ..) fr (codes its) (by omega) a
   have c := congrArg List.length a
   rw [List.length_drop, List.length_append] at c
   obtain ⟨ys, j, m⟩ := ih k y.to (by omega) (by rw [i, <- List.drop_drop, a, List.drop_left]) (by omega) (fun z o => f z (List.mem_cons_of_mem _ o))
   refine ⟨y :: ys, ?_, by rw [bares, bares, h, m]⟩
   rw [readIts, if_pos e, g]
   simp only
   rw [j]
theorem Qon : ∀ (d : Nat) (x : It) (l : List Nat), fits d x -> x.code.length < 18446744073709551616 -> ReadFull (readIt d l) l x := by
 have i : ∀ (d a b : Nat) (t : List Nat) (l : List Nat), (It.text a b t).code.length < 18446744073709551616 -> ReadFull (readIt d l) l (.text a b t) := by
  intro d a b t l j c r s f
  rw [It.code] at f j ⊢
  have C := Qb9 t
  have g := Qra t r (by omega)
  have o := Qmm t r
  rw [<- f] at g o
  rw [List.drop_drop] at o
  refine ⟨.text c (c + ((textCode t).length - t.length) + t.length) t, ?_, rfl, ?_⟩
  ·have e : (l.drop (c + ((textCode t).length - t.length))).take t.length = t := by rw [o, List.take_left]
   cases d with
   | zero => rw [readIt, g]; simp only [Bool.false_eq_true, if_false]; rw [e]
   | succ d => rw [readIt, g]; simp only [Bool.false_eq_true, if_false]; rw [e]
  ·rw [It.to]
   omega
 intro d
 induction d with
 | zero =>
  intro x l p j
  cases x with
  | text a b t => exact i 0 a b t l j
  | list a b its => exact absurd p (by simp [fits])
 | succ d ih =>
  intro x l p j
  cases x with
  | text a b t => exact i (d + 1) a b t l j
  | list a b its =>
   intro c r s f
   rw [It.code] at f j ⊢
   have k : (listCode (codes its)).length = (headB 192 (codes its).length).length + (codes its).length := by unfold listCode; rw [List.length_append]
   have g := Qom (codes its) r (by omega)
   rw [<- f] at g
   obtain ⟨h, n⟩ : ∃ h, (headB 192 (codes its).length).length = h := ⟨_, rfl⟩
   rw [n] at g k
   have q := congrArg List.length f
   rw [List.length_drop, List.length_append, k] at q
   have v : (l.take (c + h + (codes its).length)).length = c + h + (codes its).length := by rw [List.length_take]; omega
   have w : (l.take (c + h + (codes its).length)).drop (c + h) = codes its := by
    rw [List.drop_take, show c + h + (codes its).length - (c + h) = (codes its).length by omega, <- List.drop_drop, f]
    unfold listCode
    rw [List.append_assoc, <- n, List.drop_left, List.take_left]
   have m : ∀ y ∈ its, fits d y := p
   obtain ⟨B, z, A⟩ := Qmn v.symm its (codes its).length (c + h) (by omega) w (Nat.le_refl _) (fun y u => ih y _ (m y u) (by have := Qsr u; omega))
   refine ⟨.list c (c + h + (codes its).length) B, ?_, by rw [It.bare, It.bare, A], ?_⟩
   ·rw [readIt, g]
    simp only [if_true]
    rw [z]
   ·rw [It.to, k]
    omega
theorem Qti {x : It} (hf : fits 6 x) (hx : x.code.length <= 2048) : ∃ y, decF x.code = .ok y /\ y.bare = x.bare := by
 obtain ⟨y, a, b, c⟩ := Qon 6 x x.code hf (by omega) 0 [] (by omega) (by simp)
 refine ⟨y, ?_, b⟩
 unfold decF
 rw [if_neg (by omega), a]
 simp only
 rw [if_neg (by omega)]
theorem Qfx : ∀ q : List Nat, q.length % 2 = 0 -> (∀ x ∈ q, x < 16) -> nibs (pairs q) = q
 | [], _, _ => rfl
 | [_], h, _ => by simp at h
 | a :: b :: r, h, hb => by
  have ha : a < 16 := hb a (by simp)
  have hb' : b < 16 := hb b (by simp)
  have e : nibs ((a * 16 + b) :: pairs r) = [(a * 16 + b) / 16, (a * 16 + b) % 16] ++ nibs (pairs r) := rfl
  rw [pairs, e, Qfx r (by simp only [List.length_cons] at h; omega) (fun x hx => hb x (by simp [hx])), show (a * 16 + b) / 16 = a by omega, show (a * 16 + b) % 16 = b by omega]
  rfl
theorem Qgf {p : List Nat} (hp : ∀ x ∈ p, x < 16) (leaf : Bool) : unpackF (pathCode p leaf) = some (p, leaf) := by
 unfold pathCode
 by_cases h : p.length % 2 = 1
 ·rw [h, if_pos rfl]
  cases p with
  | nil => simp at h
  | cons a q =>
   have e : a < 16 := hp a (by simp)
   have b := Qfx q (by simp only [List.length_cons] at h; omega) (fun x d => hp x (by simp [d]))
   simp only [List.getElem!_cons_zero, List.drop_succ_cons, List.drop_zero]
   unfold unpackF
   cases leaf
   ·simp only [Bool.false_eq_true, if_false]
    rw [if_neg (by omega), if_pos (by omega), b, show (0 + (16 + a)) % 16 = a by omega, decide_eq_false (by omega)]
   ·simp only [if_true]
    rw [if_neg (by omega), if_pos (by omega), b, show (32 + (16 + a)) % 16 = a by omega, decide_eq_true (by omega)]
 ·have c : p.length % 2 = 0 := by omega
  rw [c, if_neg Nat.zero_ne_one, List.drop_zero]
  have b := Qfx p c hp
  cases leaf
  ·show unpackF (0 :: pairs p) = _
   simp only [unpackF]
   rw [b]
   rfl
  ·show unpackF (32 :: pairs p) = _
   simp only [unpackF]
   rw [b]
   rfl
theorem Qaw (p : List Nat) (leaf : Bool) : (pathCode p leaf).length = p.length / 2 + 1 := by
 unfold pathCode
 rw [List.length_cons, Qgg, List.length_drop]
 omega
end Go.Proofs.YtakidhihbgfjlaaGreatDoor
