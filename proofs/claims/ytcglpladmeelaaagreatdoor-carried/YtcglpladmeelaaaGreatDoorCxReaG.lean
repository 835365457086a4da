/-
  Heads read: Number, readLength, readText, readHead of package item.
  What a head that is accepted says: it is the head that would be written. Plain facts on lists of bytes.
  What reading an item gives: a function of the bytes alone, with the places and the faults. What is accepted is the code; and a code is accepted. Plain facts on lists of bytes.
-/
import Derived.Test.YtcglpladmeelaaaGreatDoorCxNibG
import Derived.Test.YtcglpladmeelaaaGreatDoorCxErrG
namespace Go.Proofs.YtcglpladmeelaaaGreatDoor
open Go.RowKit
set_option maxRecDepth 100000
set_option maxHeartbeats 25600000
inductive It where
 | text (fr to : Nat) (t : List Nat)
 | list (fr to : Nat) (l : List It)
def It.fr : It -> Nat
 | .text a _ _ => a
 | .list a _ _ => a
mutual
def It.code : It -> List Nat
 | .text _ _ t => textCode t
 | .list _ _ l => listCode (codes l)
def codes : List It -> List Nat
 | [] => []
 | x :: l => x.code ++ codes l
end
end Go.Proofs.YtcglpladmeelaaaGreatDoor
