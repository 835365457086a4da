/-
  A code is accepted, and gives what was encoded: items, paths, accounts; and a code has the length that its parts make. Plain facts on lists of bytes.
-/
import Derived.Test.YtjiikjpnlgogfaaGreatDoorMqBarG
import Derived.Test.YtjiikjpnlgogfaaGreatDoorMqNibG
namespace Go.Proofs.YtjiikjpnlgogfaaGreatDoor
open Go.RowKit

theorem bigE_le (n : Nat) : (bigE n).length ≤ 8 := bigAt_length n 8
theorem bigE_byte (n : Nat) : ∀ x ∈ bigE n, x < 256 := by
  have h : ∀ i, ∀ x ∈ bigAt n i, x < 256 := by
    intro i
    induction i with
    | zero => intro x hx; cases hx
    | succ i ih =>
      intro x hx
      rw [bigAt] at hx
      split at hx
      · exact ih x hx
      · rcases List.mem_append.1 hx with h | h
        · exact ih x h
        · rw [List.mem_singleton.1 h]
          omega
  exact h 8
/-- Of at most so many lists in one another. -/
def fits : Nat → It → Prop
  | _, .text _ _ _ => True
  | 0, .list _ _ _ => False
  | d + 1, .list _ _ l => ∀ x ∈ l, fits d x

theorem pathCode_length (p : List Nat) (leaf : Bool) : (pathCode p leaf).length = p.length / 2 + 1 := by
  unfold pathCode
  rw [List.length_cons, pairs_length, List.length_drop]
  omega

end Go.Proofs.YtjiikjpnlgogfaaGreatDoor
