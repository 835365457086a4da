/-
  Reading nodes out of items: references, extensions, leaves.
  Reading extensions and leaves.
  Reading leaves and extensions: readPath whole.
  Reading branches: hasForks.
  Reading branches, and any node.
  Reading branches, the walk.
  Reading a node: read whole.
-/
import Derived.Test.YtcglpladmeelaaaGreatDoorCxVeA
import Derived.Test.YtcglpladmeelaaaGreatDoorCxTreA
namespace Go.Proofs.YtcglpladmeelaaaGreatDoor
open Go.RowKit
set_option maxRecDepth 100000
set_option maxHeartbeats 25600000
section
variable {B : Nat} {S : Wood} {w : World} (sent : Nat -> Addr) (fr en : Nat) (tx0 : ByteArray) (g cap : Nat) (fr' en' : Nat) (l' : Bool) (tx' : ByteArray) (p' : Option Addr) (m' c' : Nat) (p : ByteArray) (dep : Nat)
end
section
variable {B : Nat} {S : Wood} {w : World} (sent : Nat -> Addr) (fr en : Nat) (tx : ByteArray) (dep : Nat)
end
theorem textB_bytesOf (s : ByteArray) : textB (bytesOf s) = s := bytesOf_inj (by rw [bytesOf_textB (bytesOf_lt s)])
end Go.Proofs.YtcglpladmeelaaaGreatDoor
