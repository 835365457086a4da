/-
  appendItem and appendItems of package item.
  appendItems of package item: the loop; and appendItem, whole.
-/
import Derived.Test.YtjiikjpnlgogfaaGreatDoorSdBarG
namespace Go.Proofs.YtjiikjpnlgogfaaGreatDoor
open Go.RowKit
end Go.Proofs.YtjiikjpnlgogfaaGreatDoor
namespace Go.Proofs.YtjiikjpnlgogfaaGreatDoor
open Go.RowKit
theorem listCode_pos (t : List Nat) : 0 < (listCode t).length := by
 unfold listCode
 have := headB_pos 192 t.length
 rw [List.length_append]
 omega
end Go.Proofs.YtjiikjpnlgogfaaGreatDoor
