/-
  DecodeAccount and EncodeAccount of package twigs.
  Accounts and paths: what is accepted is the code of what is given. Plain facts.
  DecodeAccount of package twigs, exactly.
-/
import Derived.Test.YtcglpladmeelaaaGreatDoorCxAccH
import Derived.Test.YtcglpladmeelaaaGreatDoorCxBarG
import Derived.Test.YtcglpladmeelaaaGreatDoorCxEncG
import Derived.Test.YtcglpladmeelaaaGreatDoorCxSmaG
import Derived.LaidEql
import Derived.Laws.StructEq
import Derived.MapKept
import Derived.Test.YtcglpladmeelaaaGreatDoorCxReaG
import Derived.Deep.RegionHeld3
namespace Go.Proofs.YtcglpladmeelaaaGreatDoor
open Go.RowKit
set_option maxRecDepth 100000
set_option maxHeartbeats 25600000
theorem nibs_lt {l : List Nat} (hl : ∀ y ∈ l, y < 256) : ∀ y ∈ nibs l, y < 16 := by
 intro y c
 obtain ⟨x, b, a⟩ := List.mem_flatMap.1 c
 have := hl x b
 rcases List.mem_cons.1 a with rfl | h
 ·omega
 ·rcases List.mem_cons.1 h with rfl | h
  ·omega
  ·cases h
end Go.Proofs.YtcglpladmeelaaaGreatDoor
