/-
  Texts put together byte by byte.
-/
import Derived.Test.YtjiikjpnlgogfaaGreatDoorMqNibG
namespace Go.Proofs.YtjiikjpnlgogfaaGreatDoor
open Go.RowKit

theorem byte_text (w : World) (z : Nat) : (convert 111 9 (.slice (some ⟨w.heap.size, 0, none⟩) 1 1)).run Tryz.prog (w.alloc (.cells #[.int .u8 (z : Int)] 5)) = .ok (.string (textB [z])) (w.alloc (.cells #[.int .u8 (z : Int)] 5)) :=
  run_own_text _ 111 9 5 Tryz.underlying111 Tryz.underlying5 Tryz.underlying9 (Own.ofCells w 5 [z] (by unfold maxLen; simp))

theorem textB_append (a b : List Nat) : textB a ++ textB b = textB (a ++ b) := by
  apply ByteArray.ext
  simp [textB, ByteArray.data_append]

theorem add_text (a b : List Nat) (h : a.length + b.length ≤ 140737488355328) (W : World) : Sem.run Tryz.prog (Op.stringOp .add (textB a) (textB b)) W = .ok (.string (textB (a ++ b))) W := by
  rw [← textB_append]
  exact run_string_add_sum W _ _ (by rw [textB_size, textB_size]; omega)

end Go.Proofs.YtjiikjpnlgogfaaGreatDoor
