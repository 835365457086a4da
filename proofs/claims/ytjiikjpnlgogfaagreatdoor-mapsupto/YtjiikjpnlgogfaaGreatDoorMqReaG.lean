/-
  Heads read: Number, readLength, readText, readHead of package item.
  What a head that is accepted says: it is the head that would be written. Plain facts on lists of bytes.
  What reading an item gives: a function of the bytes alone, with the places and the faults. What is accepted is the code; and a code is accepted. Plain facts on lists of bytes.
-/
import Derived.Test.YtjiikjpnlgogfaaGreatDoorMqNibG
import Derived.Test.YtjiikjpnlgogfaaGreatDoorMqErrG
namespace Go.Proofs.YtjiikjpnlgogfaaGreatDoor
open Go.RowKit

/-- Bytes as a number, the highest first. -/
def numB (l : List Nat) : Nat := l.foldl (fun n x => n * 256 + x) 0
theorem numB_snoc (l : List Nat) (x : Nat) : numB (l ++ [x]) = numB l * 256 + x := by
  unfold numB
  rw [List.foldl_append]
  rfl
theorem numB_lt : ∀ (l : List Nat), (∀ x ∈ l, x < 256) → numB l < 256 ^ l.length := by
  intro l
  induction hl : l.length generalizing l with
  | zero =>
    intro _
    have : l = [] := List.eq_nil_of_length_eq_zero hl
    subst this
    decide
  | succ n ih =>
    intro h
    have hne : l ≠ [] := fun e => by rw [e] at hl; simp at hl
    rw [← List.dropLast_concat_getLast hne, numB_snoc]
    have h1 := ih l.dropLast (by simp [hl]) (fun x hx => h x (List.dropLast_subset l hx))
    have h2 := h _ (List.getLast_mem hne)
    rw [Nat.pow_succ]
    omega

end Go.Proofs.YtjiikjpnlgogfaaGreatDoor

namespace Go.Proofs.YtjiikjpnlgogfaaGreatDoor
open Go.RowKit

theorem numB_cut : ∀ (k : Nat) (d : List Nat), (∀ x ∈ d, x < 256) → k ≤ d.length → numB d / 256 ^ k = numB (d.take (d.length - k)) := by
  intro k
  induction k with
  | zero => intro d _ _; simp
  | succ k ih =>
    intro d hd hk
    have hne : d ≠ [] := fun e => by subst e; simp at hk
    obtain ⟨r, x, rfl⟩ : ∃ r x, d = r ++ [x] := ⟨d.dropLast, d.getLast hne, (List.dropLast_concat_getLast hne).symm⟩
    have hx : x < 256 := hd x (by simp)
    simp only [List.length_append, List.length_cons, List.length_nil] at hk ⊢
    rw [numB_snoc, Nat.pow_succ, Nat.mul_comm (256 ^ k) 256, ← Nat.div_div_eq_div_mul, show (numB r * 256 + x) / 256 = numB r by omega, ih r (fun y hy => hd y (by simp [hy])) (by omega)]
    rw [show r.length + (0 + 1) - (k + 1) = r.length - k by omega, List.take_append_of_le_length (by omega)]

theorem numB_cons_pos : ∀ (r : List Nat) (x : Nat), x ≠ 0 → numB (x :: r) ≠ 0 := by
  have h : ∀ (r : List Nat) (n : Nat), n ≠ 0 → r.foldl (fun n x => n * 256 + x) n ≠ 0 := by
    intro r
    induction r with
    | nil => intro n hn; exact hn
    | cons y r ih => intro n hn; exact ih _ (by simp only; omega)
  intro r x hx
  unfold numB
  rw [List.foldl_cons]
  exact h r _ (by omega)

/-- A number's bytes, read and written again. -/
theorem bigE_numB (d : List Nat) (hd : ∀ x ∈ d, x < 256) (h8 : d.length ≤ 8) (h0 : d ≠ [] → d[0]! ≠ 0) : bigE (numB d) = d := by
  have key : ∀ i, i ≤ 8 → bigAt (numB d) i = d.take (i - (8 - d.length)) := by
    intro i
    induction i with
    | zero => intro _; simp [bigAt]
    | succ i ih =>
      intro hi
      rw [bigAt, ih (by omega)]
      have e : 2 ^ (56 - 8 * i) = 256 ^ (7 - i) := by
        rw [show (256 : Nat) = 2 ^ 8 by decide, ← Nat.pow_mul]
        congr 1
        omega
      rw [e]
      by_cases hk : d.length ≤ 7 - i
      · have hlt := numB_lt d hd
        have : numB d / 256 ^ (7 - i) = 0 := Nat.div_eq_of_lt (Nat.lt_of_lt_of_le hlt (Nat.pow_le_pow_right (by decide) hk))
        rw [if_pos this, show i - (8 - d.length) = 0 by omega, show i + 1 - (8 - d.length) = 0 by omega]
      · rw [numB_cut (7 - i) d hd (by omega)]
        obtain ⟨j, hj⟩ : ∃ j, d.length - (7 - i) = j + 1 := ⟨d.length - (7 - i) - 1, by omega⟩
        have hjd : j < d.length := by omega
        rw [hj, show i - (8 - d.length) = j by omega, show i + 1 - (8 - d.length) = j + 1 by omega]
        have hs : d.take (j + 1) = d.take j ++ [d[j]] := (List.take_append_getElem hjd).symm
        have hn0 : numB (d.take (j + 1)) ≠ 0 := by
          cases hdd : d with
          | nil => rw [hdd] at hjd; simp at hjd
          | cons a r =>
            have := h0 (by rw [hdd]; simp)
            rw [hdd] at this
            rw [List.take_succ_cons]
            exact numB_cons_pos _ _ (by simpa using this)
        rw [if_neg hn0, hs, numB_snoc]
        have := hd d[j] (List.getElem_mem hjd)
        rw [show (numB (d.take j) * 256 + d[j]) % 256 = d[j] by omega]
  have := key 8 (Nat.le_refl _)
  unfold bigE
  rw [this, List.take_of_length_le (by omega)]

end Go.Proofs.YtjiikjpnlgogfaaGreatDoor

namespace Go.Proofs.YtjiikjpnlgogfaaGreatDoor
open Go.RowKit

/-- An item, and where it stood. -/
inductive It where
  | text (fr to : Nat) (t : List Nat)
  | list (fr to : Nat) (l : List It)

def It.fr : It → Nat
  | .text a _ _ => a
  | .list a _ _ => a
mutual
def It.code : It → List Nat
  | .text _ _ t => textCode t
  | .list _ _ l => listCode (codes l)
def codes : List It → List Nat
  | [] => []
  | x :: l => x.code ++ codes l
end
end Go.Proofs.YtjiikjpnlgogfaaGreatDoor
