/-
  Appending a row that may be nil.
-/
import Derived.Test.YtjiikjpnlgogfaaGreatDoorSdRawG
namespace Go.Proofs.YtjiikjpnlgogfaaGreatDoor
open Go.RowKit
theorem run_append_nil {P : Program} (w : World) (t ty e : TypeId) (i : TypeInfo) (ht : P.underlying t = some (.slice e)) (hi : P.info? e = some i) (base : Option Addr) (n c : Nat) (hle : n ≤ c) :
  (Builtin.append_ #[t, t] ty #[.slice base n c, .slice none 0 0]).run P w = .ok (.slice base n c) w := by
 cases base <;> simp [Builtin.append_, run_underlying ht, sizeOf, typeInfo, hi, hle, Builtin.lenOf, Builtin.firstCells, storeCells]
theorem OwnC.cap {w : World} {B size : Nat} {v : Value} {n : Nat} {cs : List Value} (h : OwnC w B size v n cs) : ∃ p c, v = .slice p n c ∧ n ≤ c := by
 rcases h.2 with ⟨e1, e2⟩ | ⟨g, cap, e1, _, _, e2, _⟩
 ·subst e2; exact ⟨none, 0, e1, Nat.le_refl _⟩
 ·exact ⟨_, cap, e1, e2⟩
end Go.Proofs.YtjiikjpnlgogfaaGreatDoor
