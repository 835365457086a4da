/-
  errors.As at the errors of package fault, for the three kinds that are asked for.
-/
import Derived.Test.YtcglpladmeelaaaGreatDoorCxErrG
import Derived.RowKitTokens
namespace Go.Proofs.YtcglpladmeelaaaGreatDoor
open Go.RowKit Go.Extern.Stop Go.Stop Go.Extern
set_option maxRecDepth 100000
set_option maxHeartbeats 25600000
def Er.asP : Er -> Option (Nat × Er)
 | .base _ => none
 | .place k e => some (k, e)
 | .noNode e => e.asP
 | .inNode _ e => e.asP
 | .inProof _ e => e.asP
def Er.asN : Er -> Option (Nat × Er)
 | .base _ => none
 | .place _ e => e.asN
 | .noNode e => e.asN
 | .inNode k e => some (k, e)
 | .inProof _ e => e.asN
def Er.asQ : Er -> Option (Nat × Er)
 | .base _ => none
 | .place _ e => e.asQ
 | .noNode e => e.asQ
 | .inNode _ e => e.asQ
 | .inProof k e => some (k, e)
end Go.Proofs.YtcglpladmeelaaaGreatDoor
