/-
  appendItem and appendItems of package item.
  appendItems of package item: the loop; and appendItem, whole.
-/
import Derived.Test.YtcglpladmeelaaaGreatDoorCxBarG
namespace Go.Proofs.YtcglpladmeelaaaGreatDoor
open Go.RowKit
set_option maxRecDepth 100000
set_option maxHeartbeats 25600000
theorem listCode_pos (t : List Nat) : 0 < (listCode t).length := by
 unfold listCode
 have := headB_pos 192 t.length
 rw [List.length_append]
 omega
end Go.Proofs.YtcglpladmeelaaaGreatDoor
