/-
  DecodeAccount and EncodeAccount of package twigs.
-/
import Derived.Test.YtakidhihbgfjlaaGreatDoorSxAccH
import Derived.Test.YtakidhihbgfjlaaGreatDoorSxBarG
import Derived.Test.YtakidhihbgfjlaaGreatDoorSxEncG
import Derived.Test.YtakidhihbgfjlaaGreatDoorSxSmaG
import Derived.LaidEql
import Derived.Laws.StructEq
import Derived.MapKept
import Derived.Test.YtakidhihbgfjlaaGreatDoorSxReaG
import Derived.Deep.RegionHeld3
namespace Go.Proofs.YtakidhihbgfjlaaGreatDoor
open Go.RowKit
set_option maxRecDepth 100000
set_option maxHeartbeats 25600000
theorem Qsq {l : List Nat} (hl : ∀ y ∈ l, y < 256) : ∀ y ∈ nibs l, y < 16 := by
 intro y c
 obtain ⟨x, b, a⟩ := List.mem_flatMap.1 c
 have := hl x b
 rcases List.mem_cons.1 a with rfl | h
 ·omega
 ·rcases List.mem_cons.1 h with rfl | h
  ·omega
  ·cases h
end Go.Proofs.YtakidhihbgfjlaaGreatDoor
