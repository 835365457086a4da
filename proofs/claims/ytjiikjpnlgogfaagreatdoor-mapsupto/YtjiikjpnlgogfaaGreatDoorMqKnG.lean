/-
  Package twigskeep: a value out of raw bytes.
  Package twigskeep: a key out of raw bytes.
  Package twigskeep: maps of known making: where a key stands (find).
  Package twigskeep: where a key stands (find): the walk.
  Package twigskeep: a map without a key (Known.without): what a walk over arrays of 32 bytes wants, and the state of its loop.
  Package twigskeep: a map without a key (Known.without).
  Package twigskeep: a map without a key (Known.without): the walk.
  Package twigskeep: a map with a key more, or with another value for it (Known.with).
  Package twigskeep: a map of known making out of raw bytes (known).
-/
import Derived.Test.YtjiikjpnlgogfaaGreatDoorMqSmaG
import Derived.BigQuiet
import Derived.Test.YtjiikjpnlgogfaaGreatDoorMqText
import Derived.Test.YtjiikjpnlgogfaaGreatDoorMqNodD
import Derived.Test.YtjiikjpnlgogfaaGreatDoorMqNodB
import Derived.Great.BuildSlice
namespace Go.Proofs.YtjiikjpnlgogfaaGreatDoor
open Go.RowKit

end Go.Proofs.YtjiikjpnlgogfaaGreatDoor

namespace Go.Proofs.YtjiikjpnlgogfaaGreatDoor
open Go.RowKit

end Go.Proofs.YtjiikjpnlgogfaaGreatDoor

namespace Go.Proofs.YtjiikjpnlgogfaaGreatDoor
open Go.RowKit

/-- A map of known making, in memory. -/
structure Kn (w : World) (C : Nat) (ks vs : Value) (m : List (Array Nat × ByteArray)) : Prop where
  keys : OwnC w C 32 ks m.length (m.flatMap fun x => x.1.toList.map encB)
  vals : OwnC w C 1 vs m.length (m.map fun x => .string x.2)
  ok : ∀ x ∈ m, x.1.size = 32 ∧ Bytes x.1 ∧ 0 < x.2.size ∧ x.2.size ≤ 100
  apart : ∀ g, ks.ownBlock = some g → vs.ownBlock ≠ some g
end Go.Proofs.YtjiikjpnlgogfaaGreatDoor

namespace Go.Proofs.YtjiikjpnlgogfaaGreatDoor
open Go.RowKit

end Go.Proofs.YtjiikjpnlgogfaaGreatDoor

namespace Go.Proofs.YtjiikjpnlgogfaaGreatDoor
open Go.RowKit

def offAt : Value → Nat
  | .pointer (some a) => a.off
  | _ => 0
@[simp] theorem offAt_pointer (b o : Nat) : offAt (.pointer (some ⟨b, o, none⟩)) = o := rfl
@[simp] theorem cells_agg (cs : Array Value) : Value.cells (.agg cs) = cs := rfl
end Go.Proofs.YtjiikjpnlgogfaaGreatDoor

namespace Go.Proofs.YtjiikjpnlgogfaaGreatDoor
open Go.RowKit

end Go.Proofs.YtjiikjpnlgogfaaGreatDoor

namespace Go.Proofs.YtjiikjpnlgogfaaGreatDoor
open Go.RowKit

end Go.Proofs.YtjiikjpnlgogfaaGreatDoor

namespace Go.Proofs.YtjiikjpnlgogfaaGreatDoor
open Go.RowKit

end Go.Proofs.YtjiikjpnlgogfaaGreatDoor

namespace Go.Proofs.YtjiikjpnlgogfaaGreatDoor
open Go.RowKit

end Go.Proofs.YtjiikjpnlgogfaaGreatDoor
