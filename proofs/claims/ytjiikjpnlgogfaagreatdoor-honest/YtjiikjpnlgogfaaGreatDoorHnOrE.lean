/-
  Package twigskeep: Orders: the walk.
-/
import Derived.Test.YtjiikjpnlgogfaaGreatDoorHnOrdA
import Derived.Test.YtjiikjpnlgogfaaGreatDoorHnWriG
namespace Go.Proofs.YtjiikjpnlgogfaaGreatDoor
open Go.RowKit

/-- A map's two rows, laid into a new variable. -/
theorem laid_map (w : World) (a b : Value) : Below w.heap.size w (w.alloc (.cells #[a, b] 54)) ∧ (w.alloc (.cells #[a, b] 54)).cell? ⟨w.heap.size, 0, none⟩ = some a ∧ (w.alloc (.cells #[a, b] 54)).cell? ⟨w.heap.size, 1, none⟩ = some b ∧ (w.alloc (.cells #[a, b] 54)).heap.size = w.heap.size + 1 :=
  ⟨(Below.refl _ _).alloc (Nat.le_refl _) _, by rw [World.cell?_alloc_new]; rfl, by rw [World.cell?_alloc_new]; rfl, by simp⟩

end Go.Proofs.YtjiikjpnlgogfaaGreatDoor
