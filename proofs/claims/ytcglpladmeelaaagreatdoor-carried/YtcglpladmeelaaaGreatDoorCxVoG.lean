/-
  twigs.Verify.
-/
import Derived.Test.YtcglpladmeelaaaGreatDoorCxVfN
import Derived.Test.YtcglpladmeelaaaGreatDoorCxVeA
namespace Go.Proofs.YtcglpladmeelaaaGreatDoor
open Go.RowKit
set_option maxRecDepth 100000
set_option maxHeartbeats 25600000
theorem fault_cells {w : World} {b : Nat} {x0 x1 x2 x3 : Value} {t : TypeId} (h : w.heap[b]? = some (.cells #[x0, x1, x2, x3] t (0, 0))) : w.cell? ⟨b, 0, none⟩ = some x0 /\ w.cell? ⟨b, 1, none⟩ = some x1 /\ w.cell? ⟨b, 2, none⟩ = some x2 /\ w.cell? ⟨b, 3, none⟩ = some x3 /\ w.frozen? ⟨b, 0, none⟩ = false /\ w.frozen? ⟨b, 1, none⟩ = false /\ w.frozen? ⟨b, 2, none⟩ = false /\ w.frozen? ⟨b, 3, none⟩ = false := by
 refine ⟨?_, ?_, ?_, ?_, ?_, ?_, ?_, ?_⟩ <;> simp [World.cell?, World.frozen?, h]
def Nd.shownL (e : Nd) : List Nd := if e.isNo = true then [] else [e]
def provL : List Nd -> List (List Nat)
 | [] => []
 | t :: ts => t.code :: (ts.map Nd.code).filter (fun c => decide (32 <= c.length))
def Nd.ways : Nat -> Nd -> ByteArray -> List Nd
 | 0, t, _ => t.shownL
 | n + 1, t, r => if (t.next r).1.isNo = true then t.shownL else t :: (t.next r).1.ways n (r.extract (t.next r).2 r.size)
def Nd.prove (t : Nd) (p : ByteArray) : List (List Nat) := provL (t.ways 64 p)
theorem ways_cons {t : Nd} (h : t ≠ .no) (n : Nat) (r : ByteArray) : ∃ ts, t.ways n r = t :: ts := by
 have a : t.shownL = [t] := by unfold Nd.shownL; rw [isNo_false h]; rfl
 cases n with
 | zero => exact ⟨[], a⟩
 | succ n =>
  rw [Nd.ways]
  split
  ·exact ⟨[], a⟩
  ·exact ⟨_, rfl⟩
def longs (ts : List Nd) : List (List Nat) := (ts.map Nd.code).filter (fun c => decide (32 <= c.length))
theorem provL_cons (t : Nd) (ts : List Nd) : provL (t :: ts) = t.code :: longs ts := rfl
theorem prove_no (p : ByteArray) : Nd.no.prove p = [] := by
 unfold Nd.prove
 rw [Nd.ways, if_pos (show (Nd.no.next p).1.isNo = true from rfl)]
 rfl
theorem prove_some {t : Nd} (h : t ≠ .no) (p : ByteArray) : ∃ L, t.prove p = t.code :: L := by
 obtain ⟨b, a⟩ := ways_cons h 64 p
 exact ⟨_, by rw [Nd.prove, a, provL_cons]⟩
end Go.Proofs.YtcglpladmeelaaaGreatDoor
