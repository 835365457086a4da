/-
  The closed facts of the row of twigslaw.Maps, one by one.
-/
import Derived.Test.YtjiikjpnlgogfaaGreatDoorTabW
namespace Go.Proofs.YtjiikjpnlgogfaaGreatDoor
open Go.ChangeShapes Go.WideShapes Go.ChangeAt Go.RowKit

set_option maxHeartbeats 16000000 in
theorem closedMaps : joinedFacts Tryz.prog 5 Tryz.f5 (Rows.OpenSpec.upto Rows.mapsSpec).bare Rows.mapsUptoRow = true := by
  unfold joinedFacts
  simp only [Bool.and_eq_true]
  repeat' apply And.intro
  all_goals (as_aux_lemma => kernel_rfl)
end Go.Proofs.YtjiikjpnlgogfaaGreatDoor
