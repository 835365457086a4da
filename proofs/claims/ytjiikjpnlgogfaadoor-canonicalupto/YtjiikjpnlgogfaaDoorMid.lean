/-
  A whole row of numbers read out of a block and laid into another: small facts.
-/
import Derived.Test.YtjiikjpnlgogfaaDoorTheta
import Derived.Deep.MidRow
namespace Go.Proofs.YtjiikjpnlgogfaaDoor
open Go.RowKit

theorem Row.range {enc : Nat → Value} {w : World} {b off : Nat} {d : Array Nat} (h : Row enc w b off d) : w.rangeAt b off (d.toList.map enc) := by
  intro j v hv
  have hj : j < d.size := by
    have := (List.getElem?_eq_some_iff.1 hv).1
    simpa using this
  rw [(h j hj).1]
  rw [← hv]
  simp [hj]

theorem Row.there {enc : Nat → Value} {w : World} {b off : Nat} {d : Array Nat} (h : Row enc w b off d) : w.there b off d.size :=
  fun j hj => ⟨by rw [(h j hj).1]; rfl, (h j hj).2⟩

theorem Row.of_setCells {enc : Nat → Value} {w : World} {b off : Nat} (d : Array Nat) (h : w.there b off d.size) : Row enc (w.setCells b off (d.toList.map enc)) b off d := by
  intro j hj
  have ht : w.there b off (d.toList.map enc).length := by simpa using h
  refine ⟨World.rangeAt_setCells_same w b off _ ht j _ ?_, by rw [World.frozen?_setCells]; exact (h j hj).2⟩
  simp [hj]

theorem heap_setCells (b : Nat) : ∀ (vs : List Value) (o : Nat) (w : World) (k : Nat), k ≠ b → (w.setCells b o vs).heap[k]? = w.heap[k]?
  | [], _, _, _, _ => rfl
  | v :: r, o, w, k, h => by
    rw [World.setCells, heap_setCells b r (o + 1) _ k h]
    exact Below.heap_setCell w _ v k h

theorem size_setCells (b : Nat) : ∀ (vs : List Value) (o : Nat) (w : World), (w.setCells b o vs).heap.size = w.heap.size ∧ (w.setCells b o vs).os = w.os ∧ (w.setCells b o vs).tape = w.tape ∧ (w.setCells b o vs).output = w.output
  | [], _, _ => ⟨rfl, rfl, rfl, rfl⟩
  | v :: r, o, w => by
    rw [World.setCells]
    obtain ⟨h1, h2, h3, h4⟩ := size_setCells b r (o + 1) (w.setCell ⟨b, o, none⟩ v)
    exact ⟨h1.trans (by simp [World.setCell]), h2, h3, h4⟩

theorem Row.setCellsOther {enc : Nat → Value} {w : World} {b off : Nat} {d : Array Nat} (h : Row enc w b off d) (b' o : Nat) (hb : b ≠ b') (vs : List Value) : Row enc (w.setCells b' o vs) b off d :=
  h.of_eq (heap_setCells b' vs o w b hb)

theorem Step.setCellsOther {b lo hi : Nat} {w w1 : World} (h : Step b lo hi w w1) (hb : b < w.heap.size) {b' o : Nat} (hp : w.heap.size ≤ b') (vs : List Value) : Step b lo hi w (w1.setCells b' o vs) := by
  obtain ⟨h1, h2, h3, h4⟩ := size_setCells b' vs o w1
  exact ⟨h2.trans h.os, h3.trans h.tape, h4.trans h.output, by rw [h1]; exact h.size, fun k hk hkb => (heap_setCells b' vs o w1 k (by omega)).trans (h.block k hk hkb),
    fun o' ho => (World.cell?_of_block (heap_setCells b' vs o w1 b (by omega))).trans (h.cell o' ho), fun o' => (World.frozen?_of_block (heap_setCells b' vs o w1 b (by omega))).trans (h.froz o')⟩

theorem oneCell_enc (d : Array Nat) (k : IntKind) : ∀ v ∈ d.toList.map (fun n : Nat => Value.int k (n : Int)), v.oneCell' = true := by
  intro v hv
  simp only [List.mem_map] at hv
  obtain ⟨n, _, rfl⟩ := hv
  rfl

end Go.Proofs.YtjiikjpnlgogfaaDoor
