/-
  The closed facts of the row of twigskeep.Orders, one by one.
-/
import Derived.Test.YtjiikjpnlgogfaaGreatDoorTabW
namespace Go.Proofs.YtjiikjpnlgogfaaGreatDoor
open Go.ChangeShapes Go.WideShapes Go.ChangeAt Go.RowKit

set_option maxHeartbeats 16000000 in
theorem closedOrders : joinedFacts Tryz.prog 7 Tryz.f7 (OpenSpec.ofChange Rows.ordersSpec).bare Rows.ordersRow = true := by
  unfold joinedFacts
  simp only [Bool.and_eq_true]
  repeat' apply And.intro
  all_goals (as_aux_lemma => kernel_rfl)
end Go.Proofs.YtjiikjpnlgogfaaGreatDoor
