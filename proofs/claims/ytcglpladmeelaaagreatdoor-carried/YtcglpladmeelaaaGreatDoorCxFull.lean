/-
  A code is accepted, and gives what was encoded: items, paths, accounts; and a code has the length that its parts make. Plain facts on lists of bytes.
-/
import Derived.Test.YtcglpladmeelaaaGreatDoorCxBarG
import Derived.Test.YtcglpladmeelaaaGreatDoorCxNibG
namespace Go.Proofs.YtcglpladmeelaaaGreatDoor
open Go.RowKit
set_option maxRecDepth 100000
set_option maxHeartbeats 25600000
theorem bigE_byte (n : Nat) : ∀ x ∈ bigE n, x < 256 := by
 have h : ∀ i, ∀ x ∈ bigAt n i, x < 256 := by
  intro i
  induction i with
  | zero => intro x a; cases a
  | succ i ih =>
   intro x a
   rw [bigAt] at a
   split at a
   ·exact ih x a
   ·rcases List.mem_append.1 a with h | h
    ·exact ih x h
    ·rw [List.mem_singleton.1 h]
     omega
 exact h 8
def fits : Nat -> It -> Prop
 | _, .text _ _ _ => True
 | 0, .list _ _ _ => False
 | d + 1, .list _ _ l => ∀ x ∈ l, fits d x
theorem pathCode_length (p : List Nat) (leaf : Bool) : (pathCode p leaf).length = p.length / 2 + 1 := by
 unfold pathCode
 rw [List.length_cons, pairs_length, List.length_drop]
 omega
end Go.Proofs.YtcglpladmeelaaaGreatDoor
