/-
  A code is accepted, and gives what was encoded: items, paths, accounts; and a code has the length that its parts make. Plain facts on lists of bytes.
-/
import Derived.Test.YtjiikjpnlgogfaaGreatDoorSdBarG
import Derived.Test.YtjiikjpnlgogfaaGreatDoorSdNibG
namespace Go.Proofs.YtjiikjpnlgogfaaGreatDoor
open Go.RowKit
theorem numB_bigAt (n : Nat) (hn : n < 18446744073709551616) : ∀ i, i ≤ 8 → numB (bigAt n i) = n / 2 ^ (64 - 8 * i) ∧ (bigAt n i ≠ [] → (bigAt n i)[0]! ≠ 0) := by
 intro i
 induction i with
 | zero =>
  intro _
  refine ⟨?_, fun h => absurd rfl h⟩
  rw [bigAt]
  show 0 = n / 2 ^ 64
  rw [Nat.div_eq_of_lt (by simpa using hn)]
 | succ i ih =>
  intro hi
  obtain ⟨h1, h2⟩ := ih (by omega)
  have e : 2 ^ (64 - 8 * i) = 2 ^ (56 - 8 * i) * 256 := by
   rw [show 64 - 8 * i = 56 - 8 * i + 8 by omega, Nat.pow_add]
  rw [e, ← Nat.div_div_eq_div_mul] at h1
  rw [bigAt, show 64 - 8 * (i + 1) = 56 - 8 * i by omega]
  generalize hq : n / 2 ^ (56 - 8 * i) = q at h1 ⊢
  by_cases hz : q = 0
  ·rw [if_pos hz]
   exact ⟨by rw [h1, hz], h2⟩
  ·rw [if_neg hz]
   refine ⟨by rw [numB_snoc, h1]; omega, fun _ => ?_⟩
   cases hb : bigAt n i with
   | nil =>
    rw [hb] at h1
    have h0 : (0 : Nat) = q / 256 := h1
    simp only [List.nil_append, List.getElem!_cons_zero]
    omega
   | cons a r =>
    rw [hb] at h2
    have := h2 (by simp)
    simpa using this
theorem numB_bigE {n : Nat} (hn : n < 18446744073709551616) : numB (bigE n) = n := by
 have := (numB_bigAt n hn 8 (Nat.le_refl _)).1
 simpa [bigE] using this
theorem bigE_first {n : Nat} (hn : n < 18446744073709551616) : bigE n ≠ [] → (bigE n)[0]! ≠ 0 := (numB_bigAt n hn 8 (Nat.le_refl _)).2
theorem bigE_le (n : Nat) : (bigE n).length ≤ 8 := bigAt_length n 8
theorem bigE_byte (n : Nat) : ∀ x ∈ bigE n, x < 256 := by
 have h : ∀ i, ∀ x ∈ bigAt n i, x < 256 := by
  intro i
  induction i with
  | zero => intro x hx; cases hx
  | succ i ih =>
   intro x hx
   rw [bigAt] at hx
   split at hx
   ·exact ih x hx
   ·rcases List.mem_append.1 hx with h | h
    ·exact ih x h
    ·rw [List.mem_singleton.1 h]
     omega
 exact h 8
theorem bigE_pos {n : Nat} (hn : n < 18446744073709551616) (h0 : n ≠ 0) : bigE n ≠ [] := fun h => h0 (by have := numB_bigE hn; rw [h] at this; exact this.symm)
theorem lenF_full {k n : Nat} (hk : k = 128 ∨ k = 192) (hn : n < 18446744073709551616) (t : List Nat) (ht : n ≤ t.length) : lenF (headB k n ++ t) k = .ok ((headB k n).length, n) := by
 unfold lenF headB
 by_cases h : n ≤ 55
 ·rw [if_pos h]
  have e : (k + n) % 256 - k = n := by omega
  simp only [List.cons_append, List.nil_append, List.getElem!_cons_zero, List.length_cons, List.length_nil, e]
  rw [if_pos h, if_neg (by omega)]
 ·rw [if_neg h]
  have hm := bigE_le n
  have h1 := numB_bigE hn
  have hf := bigE_first hn (bigE_pos hn (by omega))
  have hne := bigE_pos hn (by omega : n ≠ 0)
  generalize bigE n = B at hm h1 hf hne ⊢
  have hp : 1 ≤ B.length := by
   cases B with
   | nil => exact absurd rfl hne
   | cons => simp
  have e : (k + 55 + B.length) % 256 - k = 55 + B.length := by omega
  have e1 : (((k + 55 + B.length) % 256 :: B ++ t).drop 1).take B.length = B := by
   simp
  have e2 : ((k + 55 + B.length) % 256 :: B ++ t)[1]! = B[0]! := by
   cases B with
   | nil => exact absurd rfl hne
   | cons x r => simp
  simp only [List.cons_append, List.getElem!_cons_zero, e] at e1 e2 ⊢
  rw [if_neg (by omega), show 55 + B.length - 55 = B.length by omega, e1, e2, h1, show 55 + B.length - 54 = B.length + 1 by omega]
  simp only [List.length_cons, List.length_append]
  rw [if_neg (by omega), if_neg (by omega), if_neg (by omega)]
theorem textCode_cut (t r : List Nat) : (textCode t ++ r).drop ((textCode t).length - t.length) = t ++ r := by
 unfold textCode
 split
 ·simp
 ·rw [List.length_append, Nat.add_sub_cancel, List.append_assoc, List.drop_append_of_le_length (Nat.le_refl _), List.drop_length, List.nil_append]
theorem headF_code (t r : List Nat) (ht : t.length < 18446744073709551616) : headF (textCode t ++ r) = .ok (false, (textCode t).length - t.length, t.length) := by
 unfold headF
 have hp := (textCode_pos t).1
 rw [if_neg (by rw [List.length_append]; omega)]
 by_cases h1 : t.length = 1 ∧ t[0]! < 128
 ·have e : textCode t = t := by
   unfold textCode
   rw [if_pos h1]
   rfl
  obtain ⟨x, rfl⟩ := List.length_eq_one_iff.1 h1.1
  rw [e]
  have h2 : x < 128 := by simpa using h1.2
  simp [h2]
 ·have e : textCode t = headB 128 t.length ++ t := by
   unfold textCode
   rw [if_neg h1]
  rw [e, List.append_assoc, lenF_full (.inl rfl) ht (t ++ r) (by rw [List.length_append]; omega)]
  have h0 : 128 ≤ (headB 128 t.length ++ (t ++ r))[0]! ∧ (headB 128 t.length ++ (t ++ r))[0]! < 192 := by
   have hm := bigE_le t.length
   unfold headB
   split
   ·simp only [List.cons_append, List.getElem!_cons_zero]
    omega
   ·simp only [List.cons_append, List.getElem!_cons_zero]
    omega
  rw [if_neg (by omega), if_pos h0.2]
  simp only
  have hl : (headB 128 t.length ++ t).length - t.length = (headB 128 t.length).length := by rw [List.length_append]; omega
  rw [hl, if_neg]
  rintro ⟨e1, e2⟩
  refine h1 ⟨e1, ?_⟩
  have hlt : (headB 128 t.length).length < (headB 128 t.length ++ (t ++ r)).length := by rw [List.length_append, List.length_append]; omega
  rw [getElem!_pos (headB 128 t.length ++ (t ++ r)) _ hlt, List.getElem_append_right (Nat.le_refl _)] at e2
  simp only [Nat.sub_self] at e2
  rw [List.getElem_append_left (by omega)] at e2
  rw [getElem!_pos t 0 (by omega)]
  exact e2
theorem headF_codes (p r : List Nat) (hp : p.length < 18446744073709551616) : headF (listCode p ++ r) = .ok (true, (headB 192 p.length).length, p.length) := by
 unfold headF listCode
 have h1 := headB_pos 192 p.length
 rw [if_neg (by rw [List.length_append, List.length_append]; omega), List.append_assoc, lenF_full (.inr rfl) hp (p ++ r) (by rw [List.length_append]; omega)]
 have h0 : 192 ≤ (headB 192 p.length ++ (p ++ r))[0]! := by
  have hm := bigE_le p.length
  unfold headB
  split
  ·simp only [List.cons_append, List.getElem!_cons_zero]
   omega
  ·simp only [List.cons_append, List.getElem!_cons_zero]
   omega
 rw [if_neg (by omega), if_neg (by omega)]
def fits : Nat → It → Prop
 | _, .text _ _ _ => True
 | 0, .list _ _ _ => False
 | d + 1, .list _ _ l => ∀ x ∈ l, fits d x
def ReadFull (rd : Nat → Except Er It) (l : List Nat) (x : It) : Prop :=
 ∀ (fr : Nat) (r : List Nat), fr ≤ l.length → l.drop fr = x.code ++ r → ∃ y, rd fr = .ok y ∧ y.bare = x.bare ∧ y.to = fr + x.code.length
theorem readIts_full {rd : Nat → Except Er It} {l : List Nat} {n : Nat} (hn : n = l.length) : ∀ (its : List It) (k fr : Nat), fr ≤ n → l.drop fr = codes its → (codes its).length ≤ k → (∀ x ∈ its, ReadFull rd l x) → ∃ ys, readIts rd n k fr = .ok ys ∧ bares ys = bares its := by
 intro its
 induction its with
 | nil =>
  intro k fr hfr hd hk _
  refine ⟨[], ?_, rfl⟩
  have hle : l.length ≤ fr := by
   have := congrArg List.length hd
   rw [List.length_drop] at this
   simp only [codes, List.length_nil] at this
   omega
  cases k with
  | zero => rfl
  | succ k => rw [readIts, if_neg (by omega)]
 | cons x its ih =>
  intro k fr hfr hd hk hr
  rw [codes] at hd hk
  have hx := code_pos x
  rw [List.length_append] at hk
  have hlt : fr < n := by
   have := congrArg List.length hd
   rw [List.length_drop, List.length_append] at this
   omega
  cases k with
  | zero => omega
  | succ k =>
   obtain ⟨y, h1, h2, h3⟩ := hr x (List.mem_cons_self ..) fr (codes its) (by omega) hd
   have hlen := congrArg List.length hd
   rw [List.length_drop, List.length_append] at hlen
   obtain ⟨ys, h4, h5⟩ := ih k y.to (by omega) (by rw [h3, ← List.drop_drop, hd, List.drop_left]) (by omega) (fun z hz => hr z (List.mem_cons_of_mem _ hz))
   refine ⟨y :: ys, ?_, by rw [bares, bares, h2, h5]⟩
   rw [readIts, if_pos hlt, h1]
   simp only
   rw [h4]
theorem readIt_full : ∀ (d : Nat) (x : It) (l : List Nat), fits d x → x.code.length < 18446744073709551616 → ReadFull (readIt d l) l x := by
 have htext : ∀ (d a b : Nat) (t : List Nat) (l : List Nat), (It.text a b t).code.length < 18446744073709551616 → ReadFull (readIt d l) l (.text a b t) := by
  intro d a b t l hx fr r hfr hd
  rw [It.code] at hd hx ⊢
  have hp := textCode_pos t
  have hh := headF_code t r (by omega)
  have hc := textCode_cut t r
  rw [← hd] at hh hc
  rw [List.drop_drop] at hc
  refine ⟨.text fr (fr + ((textCode t).length - t.length) + t.length) t, ?_, rfl, ?_⟩
  ·have e : (l.drop (fr + ((textCode t).length - t.length))).take t.length = t := by rw [hc, List.take_left]
   cases d with
   | zero => rw [readIt, hh]; simp only [Bool.false_eq_true, if_false]; rw [e]
   | succ d => rw [readIt, hh]; simp only [Bool.false_eq_true, if_false]; rw [e]
  ·rw [It.to]
   omega
 intro d
 induction d with
 | zero =>
  intro x l hf hx
  cases x with
  | text a b t => exact htext 0 a b t l hx
  | list a b its => exact absurd hf (by simp [fits])
 | succ d ih =>
  intro x l hf hx
  cases x with
  | text a b t => exact htext (d + 1) a b t l hx
  | list a b its =>
   intro fr r hfr hd
   rw [It.code] at hd hx ⊢
   have hl2 : (listCode (codes its)).length = (headB 192 (codes its).length).length + (codes its).length := by unfold listCode; rw [List.length_append]
   have hh := headF_codes (codes its) r (by omega)
   rw [← hd] at hh
   obtain ⟨h, hhh⟩ : ∃ h, (headB 192 (codes its).length).length = h := ⟨_, rfl⟩
   rw [hhh] at hh hl2
   have hlen := congrArg List.length hd
   rw [List.length_drop, List.length_append, hl2] at hlen
   have e1 : (l.take (fr + h + (codes its).length)).length = fr + h + (codes its).length := by rw [List.length_take]; omega
   have e2 : (l.take (fr + h + (codes its).length)).drop (fr + h) = codes its := by
    rw [List.drop_take, show fr + h + (codes its).length - (fr + h) = (codes its).length by omega, ← List.drop_drop, hd]
    unfold listCode
    rw [List.append_assoc, ← hhh, List.drop_left, List.take_left]
   have hfits : ∀ y ∈ its, fits d y := hf
   obtain ⟨ys, h1, h2⟩ := readIts_full e1.symm its (codes its).length (fr + h) (by omega) e2 (Nat.le_refl _) (fun y hy => ih y _ (hfits y hy) (by have := codes_mem hy; omega))
   refine ⟨.list fr (fr + h + (codes its).length) ys, ?_, by rw [It.bare, It.bare, h2], ?_⟩
   ·rw [readIt, hh]
    simp only [if_true]
    rw [h1]
   ·rw [It.to, hl2]
    omega
theorem decF_full {x : It} (hf : fits 6 x) (hx : x.code.length ≤ 2048) : ∃ y, decF x.code = .ok y ∧ y.bare = x.bare := by
 obtain ⟨y, h1, h2, h3⟩ := readIt_full 6 x x.code hf (by omega) 0 [] (by omega) (by simp)
 refine ⟨y, ?_, h2⟩
 unfold decF
 rw [if_neg (by omega), h1]
 simp only
 rw [if_neg (by omega)]
theorem nibs_pairs : ∀ q : List Nat, q.length % 2 = 0 → (∀ x ∈ q, x < 16) → nibs (pairs q) = q
 | [], _, _ => rfl
 | [_], h, _ => by simp at h
 | a :: b :: r, h, hb => by
  have ha : a < 16 := hb a (by simp)
  have hb' : b < 16 := hb b (by simp)
  have e : nibs ((a * 16 + b) :: pairs r) = [(a * 16 + b) / 16, (a * 16 + b) % 16] ++ nibs (pairs r) := rfl
  rw [pairs, e, nibs_pairs r (by simp only [List.length_cons] at h; omega) (fun x hx => hb x (by simp [hx])), show (a * 16 + b) / 16 = a by omega, show (a * 16 + b) % 16 = b by omega]
  rfl
theorem unpackF_full {p : List Nat} (hp : ∀ x ∈ p, x < 16) (leaf : Bool) : unpackF (pathCode p leaf) = some (p, leaf) := by
 unfold pathCode
 by_cases h : p.length % 2 = 1
 ·rw [h, if_pos rfl]
  cases p with
  | nil => simp at h
  | cons a q =>
   have ha : a < 16 := hp a (by simp)
   have hq := nibs_pairs q (by simp only [List.length_cons] at h; omega) (fun x hx => hp x (by simp [hx]))
   simp only [List.getElem!_cons_zero, List.drop_succ_cons, List.drop_zero]
   unfold unpackF
   cases leaf
   ·simp only [Bool.false_eq_true, if_false]
    rw [if_neg (by omega), if_pos (by omega), hq, show (0 + (16 + a)) % 16 = a by omega, decide_eq_false (by omega)]
   ·simp only [if_true]
    rw [if_neg (by omega), if_pos (by omega), hq, show (32 + (16 + a)) % 16 = a by omega, decide_eq_true (by omega)]
 ·have h0 : p.length % 2 = 0 := by omega
  rw [h0, if_neg Nat.zero_ne_one, List.drop_zero]
  have hq := nibs_pairs p h0 hp
  cases leaf
  ·show unpackF (0 :: pairs p) = _
   simp only [unpackF]
   rw [hq]
   rfl
  ·show unpackF (32 :: pairs p) = _
   simp only [unpackF]
   rw [hq]
   rfl
theorem pathCode_length (p : List Nat) (leaf : Bool) : (pathCode p leaf).length = p.length / 2 + 1 := by
 unfold pathCode
 rw [List.length_cons, pairs_length, List.length_drop]
 omega
end Go.Proofs.YtjiikjpnlgogfaaGreatDoor
