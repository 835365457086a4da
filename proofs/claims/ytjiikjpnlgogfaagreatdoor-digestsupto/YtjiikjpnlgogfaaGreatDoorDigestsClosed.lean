/-
  The closed facts of the row of twigslaw.Digests, one by one.
-/
import Derived.Test.YtjiikjpnlgogfaaGreatDoorDigestsLift
namespace Go.Proofs.YtjiikjpnlgogfaaGreatDoor
open Go.ChangeShapes Go.WideShapes Go.ChangeAt Go.RowKit

set_option maxHeartbeats 16000000 in
theorem closedUpto : joinedFacts Tryz.prog 3 Tryz.f3 (Rows.OpenSpec.upto Rows.digestsSpec).bare Rows.digestsUptoRow = true := by
  unfold joinedFacts
  simp only [Bool.and_eq_true]
  repeat' apply And.intro
  all_goals (as_aux_lemma => kernel_rfl)
end Go.Proofs.YtjiikjpnlgogfaaGreatDoor
