/-
  What a call of a method does to one row of cells of one block, all else staying as it was: small facts on worlds, of whatever program.
-/
import Derived.Test.YtakidhihbgfjlaaGreatDoorProg
import Derived.WalkKit
import Derived.WalkSpells
import Derived.WalkLawsBesides
namespace Go.Proofs.YtakidhihbgfjlaaGreatDoor
open Go.RowKit
set_option maxRecDepth 100000
set_option maxHeartbeats 25600000
abbrev encB (n : Nat) : Value := .int .u8 (n : Int)
abbrev encL (n : Nat) : Value := .int .u64 (n : Int)
variable {k : IntKind}
theorem Qas {a b : Int} (h : a = b) : Value.int k a = .int k b := by rw [h]
theorem Qzv {a b : Int} (h : a = b) : Ending.returned (.int k a) = .returned (.int k b) := by rw [h]
def Row (enc : Nat -> Value) (w : World) (b off : Nat) (d : Array Nat) : Prop :=
 ∀ j, j < d.size -> w.cell? ⟨b, off + j, none⟩ = some (enc d[j]!) /\ w.frozen? ⟨b, off + j, none⟩ = false
structure Step (b lo hi : Nat) (w w' : World) : Prop where
 os : w'.os = w.os
 tape : w'.tape = w.tape
 output : w'.output = w.output
 size : w.heap.size <= w'.heap.size
 block : ∀ k, k < w.heap.size -> k ≠ b -> w'.heap[k]? = w.heap[k]?
 cell : ∀ o, (o < lo \/ hi <= o) -> w'.cell? ⟨b, o, none⟩ = w.cell? ⟨b, o, none⟩
 froz : ∀ o, w'.frozen? ⟨b, o, none⟩ = w.frozen? ⟨b, o, none⟩
theorem Step.refl (b lo hi : Nat) (w : World) : Step b lo hi w w := ⟨rfl, rfl, rfl, Nat.le_refl _, fun _ _ _ => rfl, fun _ _ => rfl, fun _ => rfl⟩
theorem Step.trans {b lo hi : Nat} {w w1 w2 : World} (h : Step b lo hi w w1) (k : Step b lo hi w1 w2) : Step b lo hi w w2 :=
 ⟨k.os.trans h.os, k.tape.trans h.tape, k.output.trans h.output, Nat.le_trans h.size k.size,
  fun i hi hb => (k.block i (Nat.lt_of_lt_of_le hi h.size) hb).trans (h.block i hi hb), fun o ho => (k.cell o ho).trans (h.cell o ho), fun o => (k.froz o).trans (h.froz o)⟩
variable {b lo hi : Nat} {w w1 : World}
theorem Step.widen {lo' hi' : Nat} (h : Step b lo hi w w1) (h1 : lo' <= lo) (h2 : hi <= hi') : Step b lo' hi' w w1 :=
 ⟨h.os, h.tape, h.output, h.size, h.block, fun o ho => h.cell o (by omega), h.froz⟩
theorem Step.drew {b lo hi : Nat} {w w1 : World} (h : Step b lo hi w w1) : Step b lo hi w w1.drew := ⟨h.os, h.tape, h.output, h.size, h.block, h.cell, h.froz⟩
theorem Step.drewN {b lo hi : Nat} {w w1 : World} (h : Step b lo hi w w1) (n : Nat) : Step b lo hi w (w1.drewN n) := ⟨h.os, h.tape, h.output, h.size, h.block, h.cell, h.froz⟩
theorem Step.alloc {b lo hi : Nat} {w w1 : World} (h : Step b lo hi w w1) (hb : b < w.heap.size) (o : Obj) : Step b lo hi w (w1.alloc o) := by
 have f := h.size
 exact ⟨h.os, h.tape, h.output, by simp; omega, fun k d c => (Below.heap_alloc w1 o k (by omega)).trans (h.block k d c),
  fun a e => (World.cell?_alloc_past _ _ _ (by omega)).trans (h.cell a e), fun a => (World.frozen?_alloc_past _ _ _ (by omega)).trans (h.froz a)⟩
theorem Step.setOther (h : Step b lo hi w w1) (hb : b < w.heap.size) {p : Addr} (hp : w.heap.size <= p.block) (u : Value) : Step b lo hi w (w1.setCell p u) :=
 ⟨h.os, h.tape, h.output, by simpa [World.setCell] using h.size, fun k hk hkb => (Below.heap_setCell w1 p u k (by omega)).trans (h.block k hk hkb),
  fun o ho => (World.cell?_of_block (Below.heap_setCell w1 p u b (by omega))).trans (h.cell o ho), fun o => (World.frozen?_of_block (Below.heap_setCell w1 p u b (by omega))).trans (h.froz o)⟩
theorem Step.set (h : Step b lo hi w w1) {o : Nat} (h1 : lo <= o) (h2 : o < hi) (u : Value) : Step b lo hi w (w1.setCell ⟨b, o, none⟩ u) :=
 ⟨h.os, h.tape, h.output, by simpa [World.setCell] using h.size, fun k hk hkb => (Below.heap_setCell w1 _ u k (by simpa using hkb)).trans (h.block k hk hkb),
  fun o' ho => (World.cell?_setCell_other _ _ _ _ (fun e => by have e2 := congrArg Addr.off e; simp only at e2; omega)).trans (h.cell o' ho), fun o' => (World.frozen?_setCell _ _ _ _).trans (h.froz o')⟩
variable {enc : Nat -> Value} {off : Nat} {d : Array Nat}
theorem Row.of_eq {w' : World} (h : Row enc w b off d) (hb : w'.heap[b]? = w.heap[b]?) : Row enc w' b off d :=
 fun j hj => ⟨(World.cell?_of_block hb).trans (h j hj).1, (World.frozen?_of_block hb).trans (h j hj).2⟩
theorem Row.drew {enc : Nat -> Value} {w : World} {b off : Nat} {d : Array Nat} (h : Row enc w b off d) : Row enc w.drew b off d := h
theorem Row.drewN {enc : Nat -> Value} {w : World} {b off : Nat} {d : Array Nat} (h : Row enc w b off d) (n : Nat) : Row enc (w.drewN n) b off d := h
theorem Row.alloc {enc : Nat -> Value} {w : World} {b off : Nat} {d : Array Nat} (h : Row enc w b off d) (hb : b < w.heap.size) (o : Obj) : Row enc (w.alloc o) b off d :=
 h.of_eq (Below.heap_alloc w o b hb)
theorem Row.setOther (h : Row enc w b off d) (p : Addr) (hp : b ≠ p.block) (u : Value) : Row enc (w.setCell p u) b off d :=
 h.of_eq (Below.heap_setCell w p u b hp)
theorem Row.setBeside (h : Row enc w b off d) {o : Nat} (ho : o < off \/ off + d.size <= o) (u : Value) : Row enc (w.setCell ⟨b, o, none⟩ u) b off d :=
 fun j hj => ⟨(World.cell?_setCell_other _ _ _ _ (fun e => by have e2 := congrArg Addr.off e; simp only at e2; omega)).trans (h j hj).1, (World.frozen?_setCell _ _ _ _).trans (h j hj).2⟩
theorem Qd5 (d : Array Nat) (j x : Nat) (hj : j < d.size) : (d.set! j x)[j]! = x := by
 simp [hj]
theorem Qcp (d : Array Nat) (i j x : Nat) (hij : i ≠ j) : (d.set! i x)[j]! = d[j]! := by
 simp only [getElem!_def, Array.set!_eq_setIfInBounds, Array.getElem?_setIfInBounds]
 rw [if_neg hij]
theorem Row.set {enc : Nat -> Value} {w : World} {b off : Nat} {d : Array Nat} (h : Row enc w b off d) {j o : Nat} (ho : o = off + j) (hj : j < d.size) (x : Nat) {v : Value} (hv : v = enc x) : Row enc (w.setCell ⟨b, o, none⟩ v) b off (d.set! j x) := by
 subst hv ho
 intro i g
 have a : i < d.size := by simpa using g
 refine ⟨?_, (World.frozen?_setCell _ _ _ _).trans (h i a).2⟩
 by_cases e : i = j
 ·subst e
  rw [Qd5 d i x a]
  exact World.cell?_setCell_same _ _ _ (h i a).1
 ·rw [Qcp d j i x (fun c => e c.symm)]
  exact (World.cell?_setCell_other _ _ _ _ (fun c => by have f := congrArg Addr.off c; simp only at f; omega)).trans (h i a).1
theorem Step.row (h : Step b lo hi w w1) {b' : Nat} (hr : Row enc w b' off d) (hb' : b' < w.heap.size) (ho : b' ≠ b \/ off + d.size <= lo \/ hi <= off) : Row enc w1 b' off d := by
 by_cases e : b' = b
 ·subst e
  intro j a
  exact ⟨(h.cell _ (by omega)).trans (hr j a).1, (h.froz _).trans (hr j a).2⟩
 ·exact hr.of_eq (h.block b' hb' e)
theorem Step.below {B : Nat} {w0 : World} (h0 : Below B w0 w) (h : Step b lo hi w w1) (hb : B <= b) (hB : B <= w.heap.size) : Below B w0 w1 :=
 h0.trans ⟨h.os, h.tape, h.output, h.size, fun k hk => h.block k (by omega) (by omega)⟩
theorem Row.new (w : World) (d : Array Nat) (t : TypeId) : Row enc (w.alloc (.cells (d.map enc) t)) w.heap.size 0 d := by
 intro j a
 refine ⟨?_, World.frozen?_alloc_new _ _ _ _⟩
 rw [Nat.zero_add, World.cell?_alloc_new]
 simp [a]
end Go.Proofs.YtakidhihbgfjlaaGreatDoor
