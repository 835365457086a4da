/-
  Items in memory: a tree of rows, and what it stands for.
-/
import Derived.Test.YtakidhihbgfjlaaGreatDoorSxReaG
import Derived.Test.YtakidhihbgfjlaaGreatDoorSxOwnG
namespace Go.Proofs.YtakidhihbgfjlaaGreatDoor
open Go.RowKit
set_option maxRecDepth 100000
set_option maxHeartbeats 25600000
mutual
def It.bare : It -> It
 | .text _ _ t => .text 0 0 t
 | .list _ _ l => .list 0 0 (bares l)
def bares : List It -> List It
 | [] => []
 | x :: l => x.bare :: bares l
end
theorem Qc5 (l : List It) : bares l = l.map It.bare := by
 induction l with
 | nil => rfl
 | cons x l ih => rw [bares, ih, List.map_cons]
mutual
theorem Qnx : ∀ x : It, x.bare.code = x.code
 | .text _ _ _ => by rw [It.bare, It.code, It.code]
 | .list _ _ l => by rw [It.bare, It.code, It.code, Qis l]
theorem Qis : ∀ l : List It, codes (bares l) = codes l
 | [] => rfl
 | x :: l => by rw [bares, codes, codes, Qnx x, Qis l]
end
section
end
end Go.Proofs.YtakidhihbgfjlaaGreatDoor
