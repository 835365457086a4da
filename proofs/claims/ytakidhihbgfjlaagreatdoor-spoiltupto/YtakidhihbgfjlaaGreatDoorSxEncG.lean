/-
  appendItem and appendItems of package item.
-/
import Derived.Test.YtakidhihbgfjlaaGreatDoorSxBarG
namespace Go.Proofs.YtakidhihbgfjlaaGreatDoor
open Go.RowKit
set_option maxRecDepth 100000
set_option maxHeartbeats 25600000
theorem Qdq (t : List Nat) : 0 < (listCode t).length := by
 unfold listCode
 have := Qcs 192 t.length
 rw [List.length_append]
 omega
end Go.Proofs.YtakidhihbgfjlaaGreatDoor
