/-
  What a call leaves as it was: all but one block.
-/
import Derived.Test.YtjiikjpnlgogfaaDoorErr
namespace Go.Proofs.YtjiikjpnlgogfaaDoor
open Go.RowKit

/-- Only the block tb may be another. -/
structure Only (tb : Nat) (w w' : World) : Prop where
  os : w'.os = w.os
  tape : w'.tape = w.tape
  output : w'.output = w.output
  size : w.heap.size ≤ w'.heap.size
  block : ∀ k, k < w.heap.size → k ≠ tb → w'.heap[k]? = w.heap[k]?
theorem Only.below {tb B : Nat} {w0 w w' : World} (h : Only tb w w') (hb : Below B w0 w) (h1 : B ≤ tb) (h2 : B ≤ w.heap.size) : Below B w0 w' :=
  ⟨h.os.trans hb.os, h.tape.trans hb.tape, h.output.trans hb.output, Nat.le_trans hb.size h.size, fun k hk => (h.block k (by omega) (by omega)).trans (hb.block k hk)⟩
theorem Only.refl (tb : Nat) (w : World) : Only tb w w := ⟨rfl, rfl, rfl, Nat.le_refl _, fun _ _ _ => rfl⟩
theorem Only.trans {tb : Nat} {w w1 w2 : World} (h : Only tb w w1) (k : Only tb w1 w2) : Only tb w w2 :=
  ⟨k.os.trans h.os, k.tape.trans h.tape, k.output.trans h.output, Nat.le_trans h.size k.size, fun i hi hne => (k.block i (Nat.lt_of_lt_of_le hi h.size) hne).trans (h.block i hi hne)⟩
theorem Only.of_below {tb : Nat} {w w' : World} (h : Below w.heap.size w w') : Only tb w w' := ⟨h.os, h.tape, h.output, h.size, fun k hk _ => h.block k hk⟩
theorem Only.alloc {tb : Nat} {w w' : World} (h : Only tb w w') (o : Obj) : Only tb w (w'.alloc o) := h.trans (.of_below ((Below.refl _ _).alloc (Nat.le_refl _) o))

/-- A block's cells, none frozen. -/
def Held (w : World) (b : Nat) (cs : List Value) : Prop := b < w.heap.size ∧ ∀ j v, cs[j]? = some v → w.cell? ⟨b, j, none⟩ = some v ∧ w.frozen? ⟨b, j, none⟩ = false
theorem Held.fresh (w : World) (cs : List Value) (t : TypeId) : Held (w.alloc (.cells cs.toArray t)) w.heap.size cs :=
  ⟨by simp, fun j v h => ⟨by rw [World.cell?_alloc_new]; simpa using h, World.frozen?_alloc_new _ _ _ _⟩⟩
theorem Held.keep {w w' : World} {b : Nat} {cs : List Value} (h : Held w b cs) (e : w'.heap[b]? = w.heap[b]?) (hs : w.heap.size ≤ w'.heap.size) : Held w' b cs :=
  ⟨Nat.lt_of_lt_of_le h.1 hs, fun j v hj => ⟨(World.cell?_of_block e).trans (h.2 j v hj).1, (World.frozen?_of_block e).trans (h.2 j v hj).2⟩⟩
theorem Held.below {w w' : World} {b : Nat} {cs : List Value} (h : Held w b cs) (hb : Below w.heap.size w w') : Held w' b cs := h.keep (hb.block b h.1) hb.size
theorem Held.alloc {w : World} {b : Nat} {cs : List Value} (h : Held w b cs) (o : Obj) : Held (w.alloc o) b cs := h.keep (Below.heap_alloc _ _ _ h.1) (by simp)
theorem Held.only {tb : Nat} {w w' : World} {b : Nat} {cs : List Value} (h : Held w b cs) (ho : Only tb w w') (hne : b ≠ tb) : Held w' b cs := h.keep (ho.block b h.1 hne) ho.size
theorem Held.drew {w : World} {b : Nat} {cs : List Value} (h : Held w b cs) : Held w.drew b cs := h
end Go.Proofs.YtjiikjpnlgogfaaDoor
