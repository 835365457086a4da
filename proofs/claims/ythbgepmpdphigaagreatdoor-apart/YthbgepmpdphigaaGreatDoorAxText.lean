/-
  Texts put together byte by byte.
-/
import Derived.Test.YthbgepmpdphigaaGreatDoorAxNibG
namespace Go.Proofs.YthbgepmpdphigaaGreatDoor
open Go.RowKit
set_option maxRecDepth 100000
set_option maxHeartbeats 25600000
theorem Qu0 (w : World) (z : Nat) : (convert 95 9 (.slice (some ⟨w.heap.size, 0, none⟩) 1 1)).run Tryz.prog (w.alloc (.cells #[.int .u8 (z : Int)] 5)) = .ok (.string (textB [z])) (w.alloc (.cells #[.int .u8 (z : Int)] 5)) :=
 Qag _ 95 9 5 Tryz.underlying95 Tryz.underlying5 Tryz.underlying9 (Own.ofCells w 5 [z] (by unfold maxLen; simp))
end Go.Proofs.YthbgepmpdphigaaGreatDoor
