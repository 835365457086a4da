/-
  Items of whatever making: a plain tree; how it may lie in memory: read (rows anywhere), or made anew (rows in blocks of their own, each apart from the others).
  twigslaw: copied: an item of its own.
  Package twigsref: Plain: an item that was read, without its places.
-/
import Derived.Test.YtcglpladmeelaaaGreatDoorCxEncG
import Derived.Test.YtcglpladmeelaaaGreatDoorCxFull
namespace Go.Proofs.YtcglpladmeelaaaGreatDoor
open Go.RowKit
set_option maxRecDepth 100000
set_option maxHeartbeats 25600000
theorem headB_byte' : ∀ k n b, b ∈ headB k n -> b < 256 := fun k n b hb => by
 unfold headB at hb
 split at hb
 ·rw [List.mem_singleton.1 hb]; omega
 ·rcases List.mem_cons.1 hb with rfl | hb
  ·omega
  ·exact bigE_byte n b hb
end Go.Proofs.YtcglpladmeelaaaGreatDoor
