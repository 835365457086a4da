/-
  Texts put together byte by byte.
-/
import Derived.Test.YtjiikjpnlgogfaaGreatDoorSdNibG
namespace Go.Proofs.YtjiikjpnlgogfaaGreatDoor
open Go.RowKit
theorem byte_text (w : World) (z : Nat) : (convert 111 9 (.slice (some ⟨w.heap.size, 0, none⟩) 1 1)).run Tryz.prog (w.alloc (.cells #[.int .u8 (z : Int)] 5)) = .ok (.string (textB [z])) (w.alloc (.cells #[.int .u8 (z : Int)] 5)) :=
 run_own_text _ 111 9 5 Tryz.underlying111 Tryz.underlying5 Tryz.underlying9 (Own.ofCells w 5 [z] (by unfold maxLen; simp))
end Go.Proofs.YtjiikjpnlgogfaaGreatDoor
