/-
  Texts put together byte by byte.
-/
import Derived.Test.YtakidhihbgfjlaaGreatDoorSxNibG
namespace Go.Proofs.YtakidhihbgfjlaaGreatDoor
open Go.RowKit
set_option maxRecDepth 100000
set_option maxHeartbeats 25600000
theorem Qvo (w : World) (z : Nat) : (convert 41 9 (.slice (some ⟨w.heap.size, 0, none⟩) 1 1)).run Tryz.prog (w.alloc (.cells #[.int .u8 (z : Int)] 5)) = .ok (.string (textB [z])) (w.alloc (.cells #[.int .u8 (z : Int)] 5)) :=
 Qag _ 41 9 5 Tryz.underlying41 Tryz.underlying5 Tryz.underlying9 (Own.ofCells w 5 [z] (by unfold maxLen; simp))
end Go.Proofs.YtakidhihbgfjlaaGreatDoor
