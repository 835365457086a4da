/-
  The closed facts of the row of twigskeep.Honest, one by one.
-/
import Derived.Test.YtjiikjpnlgogfaaGreatDoorTabW
namespace Go.Proofs.YtjiikjpnlgogfaaGreatDoor
open Go.ChangeShapes Go.WideShapes Go.ChangeAt Go.RowKit

set_option maxHeartbeats 16000000 in
theorem closedHonest : joinedFacts Tryz.prog 9 Tryz.f9 (OpenSpec.ofChange Rows.honestSpec).bare Rows.honestRow = true := by
  unfold joinedFacts
  simp only [Bool.and_eq_true]
  repeat' apply And.intro
  all_goals (as_aux_lemma => kernel_rfl)
end Go.Proofs.YtjiikjpnlgogfaaGreatDoor
