/-
  Package twigskeep: Storage: what holds behind its two trees, and what VerifyStorage answers there.
-/
import Derived.Test.YtcglpladmeelaaaGreatDoorCxOaG
import Derived.Test.YtcglpladmeelaaaGreatDoorCxVoG
import Derived.Test.YtcglpladmeelaaaGreatDoorCxSaG
import Derived.Test.YtcglpladmeelaaaGreatDoorCxVaG
import Derived.Test.YtcglpladmeelaaaGreatDoorCxFull
import Derived.Test.YtcglpladmeelaaaGreatDoorCxAuG
namespace Go.Proofs.YtcglpladmeelaaaGreatDoor
open Go.RowKit
set_option maxRecDepth 100000
set_option maxHeartbeats 25600000
structure StKit (P : World -> Prop) (F : Nat -> Prop) (B : Nat) (J : Wood) : Prop where
 more : ∀ W W', P W -> Below W.heap.size W W' -> P W'
 fr : ∀ W W', P W -> Fr B J J W W' -> P W'
 set : ∀ W W' f, P W -> F f -> Only f W W' -> P W'
 wood : ∀ k, F k -> J k = none
 fresh : ∀ W k, P W -> W.heap.size <= k -> F k
theorem run_build_str (w : World) (s : ByteArray) : (Instr.buildSlice 24 1 #[(0, .string s)]).run Tryz.prog w = .ok (.slice (some ⟨w.heap.size, 0, none⟩) 1 1) (w.alloc (.cells #[.string s] 9)) := by
 obtain ⟨i, b, c, a, d⟩ := info_parts strZ
 refine run_buildSlice w _ 9 1 _ #[.string s] i (.string ⟨#[]⟩) Tryz.underlying24 b c (by rw [a]; decide) (by rw [a]; decide) ?_
 rw [a]
 have := Great.fill_whole (s := 1) (by decide) [.string s] ((Array.range (1 * 1)).map ((Value.string ⟨#[]⟩).cells[· % (Value.string ⟨#[]⟩).cells.size]!)) (by simp [Value.cells]) (by simp)
 simpa [Value.cells] using this
structure GenQ (w : World) (R : World) (U : Nat -> Prop) (B : Nat) (S : Wood) (bt : Nat) (t : Nd) (W : World) : Prop where
 below : Below w.heap.size w W
 size : R.heap.size <= W.heap.size
 keep : ∀ k, U k -> W.heap[k]? = R.heap[k]?
 wood : Forest B S W
 tree : TreeAt S W bt t
def GenF (w : World) (U : Nat -> Prop) (S : Wood) (bt : Nat) (k : Nat) : Prop := w.heap.size <= k /\ S k = none /\ k ≠ bt /\ ¬ U k
theorem GenQ.kit {w R : World} {U : Nat -> Prop} {B : Nat} {S : Wood} {bt : Nat} {t : Nd} (hB : w.heap.size <= B) (hU : ∀ k, U k -> k < R.heap.size /\ S k = none) : StKit (GenQ w R U B S bt t) (GenF w U S bt) B S := by
 have g : ∀ W W', GenQ w R U B S bt t W -> Fr B S S W W' -> GenQ w R U B S bt t W' := fun W W' h c =>
  ⟨h.below.trans (((c.x (fun _ => False)).below h.wood fun _ h => h.elim).mono hB), Nat.le_trans h.size c.size, fun k a => (c.other k (Nat.lt_of_lt_of_le (hU k a).1 h.size) (hU k a).2).trans (h.keep k a), c.forest, h.tree.frame c⟩
 refine ⟨fun W W' h i => g W W' h (Fr.of_below h.wood i), g, fun W W' f h b d => ?_, fun k b => b.2.1, fun W k h a => ?_⟩
 ·exact ⟨d.below h.below b.1 h.below.size, Nat.le_trans h.size d.size, fun k a => (d.block k (Nat.lt_of_lt_of_le (hU k a).1 h.size) (fun e => b.2.2.2 (e ▸ a))).trans (h.keep k a), forest_only h.wood d b.2.1, h.tree.only d b.2.2.1.symm⟩
 ·exact ⟨Nat.le_trans h.below.size a, h.wood.fresh a, fun e => by have := h.tree.lt; omega, fun j => by have := (hU k j).1; have := h.size; omega⟩
theorem GenQ.kn {w R : World} {U : Nat -> Prop} {B : Nat} {S : Wood} {bt : Nat} {t : Nd} {W : World} (h : GenQ w R U B S bt t W) {C : Nat} {ks vs : Value} {m : Mp} (hk : Kn R C ks vs m) (hb : ∀ j, ks.ownBlock = some j \/ vs.ownBlock = some j -> U j) : Kn W C ks vs m :=
 hk.keep2 h.size fun j hj => h.keep j (hb j hj)
theorem GenQ.next {w R : World} {U U' : Nat -> Prop} {B : Nat} {S : Wood} {bt : Nat} {t : Nd} {W : World} (h : GenQ w R U B S bt t W) : GenQ w W U' B S bt t W :=
 ⟨h.below, Nat.le_refl _, fun _ _ => rfl, h.wood, h.tree⟩
end Go.Proofs.YtcglpladmeelaaaGreatDoor
