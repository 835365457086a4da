/-
  Items in memory: a tree of rows, and what it stands for.
  readText and readHead of package item.
-/
import Derived.Test.YtjiikjpnlgogfaaGreatDoorMqReaG
import Derived.Test.YtjiikjpnlgogfaaGreatDoorMqOwnG
namespace Go.Proofs.YtjiikjpnlgogfaaGreatDoor
open Go.RowKit

section
end

end Go.Proofs.YtjiikjpnlgogfaaGreatDoor

namespace Go.Proofs.YtjiikjpnlgogfaaGreatDoor
open Go.RowKit

theorem byte_lt (s : ByteArray) : ∀ x ∈ bytesOf s, x < 256 := by
  intro x hx
  unfold bytesOf at hx
  obtain ⟨y, _, rfl⟩ := List.mem_map.1 hx
  exact UInt8.toNat_lt y

end Go.Proofs.YtjiikjpnlgogfaaGreatDoor
