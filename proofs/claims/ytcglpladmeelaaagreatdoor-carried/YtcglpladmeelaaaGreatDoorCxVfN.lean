/-
  Verify whole.
-/
import Derived.Test.YtcglpladmeelaaaGreatDoorCxVeC
namespace Go.Proofs.YtcglpladmeelaaaGreatDoor
open Go.RowKit
set_option maxRecDepth 100000
set_option maxHeartbeats 25600000
theorem there_cells {w : World} {g : Nat} {cs : Array Value} {t : TypeId} {n : Nat} (h : w.heap[g]? = some (.cells cs t (0, 0))) (hn : cs.size = n) : w.there g 0 n := by
 intro j a
 refine ⟨?_, ?_⟩
 ·simp only [World.cell?, h, Nat.zero_add]
  rw [Array.getElem?_eq_getElem (by omega)]
  rfl
 ·simp [World.frozen?, h]
end Go.Proofs.YtcglpladmeelaaaGreatDoor
