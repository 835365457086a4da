/-
  Items of whatever making: a plain tree; how it may lie in memory: read (rows anywhere), or made anew (rows in blocks of their own, each apart from the others).
-/
import Derived.Test.YtakidhihbgfjlaaGreatDoorSxEncG
import Derived.Test.YtakidhihbgfjlaaGreatDoorSxFull
namespace Go.Proofs.YtakidhihbgfjlaaGreatDoor
open Go.RowKit
set_option maxRecDepth 100000
set_option maxHeartbeats 25600000
theorem Qi7 : ∀ k n b, b ∈ headB k n -> b < 256 := fun k n b hb => by
 unfold headB at hb
 split at hb
 ·rw [List.mem_singleton.1 hb]; omega
 ·rcases List.mem_cons.1 hb with rfl | hb
  ·omega
  ·exact Qth n b hb
end Go.Proofs.YtakidhihbgfjlaaGreatDoor
