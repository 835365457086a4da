/-
  What a call leaves as it was: all but one block.
  Number and Tell of package fault.
  Package twigslaw: sameFault of a fault and itself.
-/
import Derived.Test.YthbgepmpdphigaaGreatDoorAxErrG
import Derived.Test.YthbgepmpdphigaaGreatDoorAxAsB
import Derived.Deep.DeepCutAuto
namespace Go.Proofs.YthbgepmpdphigaaGreatDoor
open Go.RowKit
set_option maxRecDepth 100000
set_option maxHeartbeats 25600000
structure Only (tb : Nat) (w w' : World) : Prop where
 os : w'.os = w.os
 tape : w'.tape = w.tape
 output : w'.output = w.output
 size : w.heap.size <= w'.heap.size
 block : ∀ k, k < w.heap.size -> k ≠ tb -> w'.heap[k]? = w.heap[k]?
theorem Only.below {tb B : Nat} {w0 w w' : World} (h : Only tb w w') (hb : Below B w0 w) (h1 : B <= tb) (h2 : B <= w.heap.size) : Below B w0 w' :=
 ⟨h.os.trans hb.os, h.tape.trans hb.tape, h.output.trans hb.output, Nat.le_trans hb.size h.size, fun k hk => (h.block k (by omega) (by omega)).trans (hb.block k hk)⟩
theorem Only.refl (tb : Nat) (w : World) : Only tb w w := ⟨rfl, rfl, rfl, Nat.le_refl _, fun _ _ _ => rfl⟩
theorem Only.trans {tb : Nat} {w w1 w2 : World} (h : Only tb w w1) (k : Only tb w1 w2) : Only tb w w2 :=
 ⟨k.os.trans h.os, k.tape.trans h.tape, k.output.trans h.output, Nat.le_trans h.size k.size, fun i hi hne => (k.block i (Nat.lt_of_lt_of_le hi h.size) hne).trans (h.block i hi hne)⟩
theorem Only.of_below {tb : Nat} {w w' : World} (h : Below w.heap.size w w') : Only tb w w' := ⟨h.os, h.tape, h.output, h.size, fun k hk _ => h.block k hk⟩
theorem Only.alloc {tb : Nat} {w w' : World} (h : Only tb w w') (o : Obj) : Only tb w (w'.alloc o) := h.trans (.of_below ((Below.refl _ _).alloc (Nat.le_refl _) o))
open Go.RowKit Go.Stop
theorem Qdv (w : World) : Calls Tryz.prog 31 #[.nilIface] w fun e w' => e = .returned (.int .i64 0) /\ w' = w := by
 go_enter Tryz.func31, Tryz.ntmps31
 go_wp2
 go_ret
 exact ⟨rfl, rfl⟩
def Er.at_ (e : Er) : Nat := (e.asP.map (·.1)).getD 0
def Er.node (e : Er) : Nat := (e.asN.map (·.1)).getD 0
def Er.proof (e : Er) : Nat := (e.asQ.map (·.1)).getD 0
abbrev faultV (err proof node at_ : Nat) : Value := .agg #[.int .i64 (err : Int), .int .i64 (proof : Int), .int .i64 (node : Int), .int .i64 (at_ : Int)]
def typeAt (w : World) : Prop := w.cell? ⟨12, 0, none⟩ = some (.iface 199 (.agg #[.pointer (some ⟨17, 70, none⟩)]))
theorem Qwm (w : World) : Calls Tryz.prog 27 #[.nilIface] w fun e w' => e = .returned (faultV 0 0 0 0) /\ Below w.heap.size w w' := by
 have a := Hid.hide (fun t W => Qz6 t W)
 go_enter Tryz.func27, Tryz.ntmps27
 go_wp2_with (first | (go_at_call 31; refine (Qdv _).mono ?_; rintro e b ⟨rfl, rfl⟩) | (go_at_call 44; refine (a.out _ _).mono ?_; rintro e b ⟨rfl, rfl⟩))
 refine bodyPost_ret (v := faultV 0 0 0 0) (by simp [results, Tryz.results27, go_sem]) rfl ⟨rfl, ?_⟩
 exact (((((Below.refl _ _).alloc (Nat.le_refl _) _).alloc (by simp) _).alloc (by simp; omega) _).alloc (by simp; omega) _).alloc (by simp; omega) _
open Go.RowKit
end Go.Proofs.YthbgepmpdphigaaGreatDoor
