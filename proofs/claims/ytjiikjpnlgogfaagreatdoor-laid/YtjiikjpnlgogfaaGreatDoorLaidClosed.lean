/-
  The closed facts of the row of twigskeep.Laid, one by one.
-/
import Derived.Test.YtjiikjpnlgogfaaGreatDoorTabW
namespace Go.Proofs.YtjiikjpnlgogfaaGreatDoor
open Go.ChangeShapes Go.WideShapes Go.ChangeAt Go.RowKit

set_option maxHeartbeats 16000000 in
theorem closedLaid : joinedFacts Tryz.prog 6 Tryz.f6 (OpenSpec.ofChange Rows.laidSpec).bare Rows.laidRow = true := by
  unfold joinedFacts
  simp only [Bool.and_eq_true]
  repeat' apply And.intro
  all_goals (as_aux_lemma => kernel_rfl)
end Go.Proofs.YtjiikjpnlgogfaaGreatDoor
