/-
  The closed facts of the row of twigslaw.Codes, one by one.
-/
import Derived.Test.YtjiikjpnlgogfaaGreatDoorTabW
namespace Go.Proofs.YtjiikjpnlgogfaaGreatDoor
open Go.ChangeShapes Go.WideShapes Go.ChangeAt Go.RowKit

set_option maxHeartbeats 16000000 in
theorem closedCodes : joinedFacts Tryz.prog 4 Tryz.f4 (Rows.OpenSpec.upto Rows.codesSpec).bare Rows.codesUptoRow = true := by
  unfold joinedFacts
  simp only [Bool.and_eq_true]
  repeat' apply And.intro
  all_goals (as_aux_lemma => kernel_rfl)
end Go.Proofs.YtjiikjpnlgogfaaGreatDoor
