/-
  What a call leaves as it was: all but one block.
  Number and Tell of package fault.
  Package twigslaw: sameFault of a fault and itself.
-/
import Derived.Test.YtcglpladmeelaaaGreatDoorCxErrG
import Derived.Test.YtcglpladmeelaaaGreatDoorCxAsB
import Derived.Deep.DeepCutAuto
namespace Go.Proofs.YtcglpladmeelaaaGreatDoor
open Go.RowKit
set_option maxRecDepth 100000
set_option maxHeartbeats 25600000
structure Only (tb : Nat) (w w' : World) : Prop where
 os : w'.os = w.os
 tape : w'.tape = w.tape
 output : w'.output = w.output
 size : w.heap.size <= w'.heap.size
 block : ∀ k, k < w.heap.size -> k ≠ tb -> w'.heap[k]? = w.heap[k]?
theorem Only.below {tb B : Nat} {w0 w w' : World} (h : Only tb w w') (hb : Below B w0 w) (h1 : B <= tb) (h2 : B <= w.heap.size) : Below B w0 w' :=
 ⟨h.os.trans hb.os, h.tape.trans hb.tape, h.output.trans hb.output, Nat.le_trans hb.size h.size, fun k hk => (h.block k (by omega) (by omega)).trans (hb.block k hk)⟩
theorem Only.refl (tb : Nat) (w : World) : Only tb w w := ⟨rfl, rfl, rfl, Nat.le_refl _, fun _ _ _ => rfl⟩
theorem Only.trans {tb : Nat} {w w1 w2 : World} (h : Only tb w w1) (k : Only tb w1 w2) : Only tb w w2 :=
 ⟨k.os.trans h.os, k.tape.trans h.tape, k.output.trans h.output, Nat.le_trans h.size k.size, fun i hi hne => (k.block i (Nat.lt_of_lt_of_le hi h.size) hne).trans (h.block i hi hne)⟩
theorem Only.of_below {tb : Nat} {w w' : World} (h : Below w.heap.size w w') : Only tb w w' := ⟨h.os, h.tape, h.output, h.size, fun k hk _ => h.block k hk⟩
theorem Only.alloc {tb : Nat} {w w' : World} (h : Only tb w w') (o : Obj) : Only tb w (w'.alloc o) := h.trans (.of_below ((Below.refl _ _).alloc (Nat.le_refl _) o))
open Go.RowKit Go.Stop
theorem errno_nil (w : World) : Calls Tryz.prog 30 #[.nilIface] w fun e w' => e = .returned (.int .i64 0) /\ w' = w := by
 go_enter Tryz.func30, Tryz.ntmps30
 go_wp2
 go_ret
 exact ⟨rfl, rfl⟩
theorem simple_num : ∀ e : Er, e.simple -> e.num ∈ nums
 | .base _, h => h
 | .place _ e, h => simple_num e h
 | .noNode _, _ => by simp [Er.num, nums]
 | .inNode _ e, h => simple_num e h
 | .inProof _ e, h => simple_num e h
theorem errno_any (sent : Nat -> Addr) (e0 : Er) (h0 : e0.simple) (w : World) (hF : Faults w sent) :
  Calls Tryz.prog 30 #[e0.val sent] w fun e w' => e = .returned (.int .i64 (e0.num : Int)) /\ Below w.heap.size w w' := by
 obtain ⟨t0, v0, u⟩ := e0.shape sent
 have c : Hid (∀ W, Below w.heap.size w W -> ∀ b ∈ nums, b ≠ 3 -> Calls Tryz.prog 45 #[.iface t0 v0, .iface 241 (.pointer (some (sent b)))] W fun e w' => e = .returned (.bool (decide (e0.num = b))) /\ Below W.heap.size W w') := by
  intro W hW b a h3
  have := is_any sent b a h3 e0 h0 W (hF.below hW)
  rw [u] at this
  exact this
 have d : Hid (Faults w sent) := hF
 have N := simple_num e0 h0
 obtain ⟨n, I⟩ : ∃ n, e0.num = n := ⟨_, rfl⟩
 rw [I] at N c ⊢
 rw [u]
 clear u h0 hF I
 have v : Hid (Below w.heap.size w w) := Below.refl _ _
 have Z : w.cell? ⟨0, 0, none⟩ = some (.iface 241 (.pointer (some (sent 1)))) := d.out.var 1 (by decide)
 go_enter Tryz.func30, Tryz.ntmps30
 go_wp2_with fail
 refine (c.out _ v.out 1 (by decide) (by decide)).mono ?_
 rintro e O ⟨rfl, a⟩
 have h : Hid (Below w.heap.size w O) := Below.behind v.out a
 clear a Z
 have g1 : O.cell? ⟨1, 0, none⟩ = some (.iface 241 (.pointer (some (sent 2)))) := (d.out.below h.out).var 2 (by decide)
 by_cases x : n = 1
 ·subst x
  go_wp2
  go_ret
  exact ⟨rfl, h.out⟩
 have ac : decide (n = 1) = false := decide_eq_false x
 go_wp2_with fail
 refine (c.out _ h.out 2 (by decide) (by decide)).mono ?_
 rintro e Q ⟨rfl, a⟩
 have i : Hid (Below w.heap.size w Q) := Below.behind h.out a
 clear a g1
 have g2 : Q.cell? ⟨2, 0, none⟩ = some (.iface 241 (.pointer (some (sent 4)))) := (d.out.below i.out).var 4 (by decide)
 by_cases y : n = 2
 ·subst y
  go_wp2
  go_ret
  exact ⟨rfl, i.out⟩
 have ae : decide (n = 2) = false := decide_eq_false y
 go_wp2_with fail
 refine (c.out _ i.out 4 (by decide) (by decide)).mono ?_
 rintro e R ⟨rfl, a⟩
 have j : Hid (Below w.heap.size w R) := Below.behind i.out a
 clear a g2
 have g3 : R.cell? ⟨3, 0, none⟩ = some (.iface 241 (.pointer (some (sent 5)))) := (d.out.below j.out).var 5 (by decide)
 by_cases z : n = 4
 ·subst z
  go_wp2
  go_ret
  exact ⟨rfl, j.out⟩
 have ag : decide (n = 4) = false := decide_eq_false z
 go_wp2_with fail
 refine (c.out _ j.out 5 (by decide) (by decide)).mono ?_
 rintro e S ⟨rfl, a⟩
 have k : Hid (Below w.heap.size w S) := Below.behind j.out a
 clear a g3
 have g4 : S.cell? ⟨4, 0, none⟩ = some (.iface 241 (.pointer (some (sent 6)))) := (d.out.below k.out).var 6 (by decide)
 by_cases B : n = 5
 ·subst B
  go_wp2
  go_ret
  exact ⟨rfl, k.out⟩
 have ah : decide (n = 5) = false := decide_eq_false B
 go_wp2_with fail
 refine (c.out _ k.out 6 (by decide) (by decide)).mono ?_
 rintro e T ⟨rfl, a⟩
 have l : Hid (Below w.heap.size w T) := Below.behind k.out a
 clear a g4
 have g5 : T.cell? ⟨5, 0, none⟩ = some (.iface 241 (.pointer (some (sent 7)))) := (d.out.below l.out).var 7 (by decide)
 by_cases C : n = 6
 ·subst C
  go_wp2
  go_ret
  exact ⟨rfl, l.out⟩
 have ai : decide (n = 6) = false := decide_eq_false C
 go_wp2_with fail
 refine (c.out _ l.out 7 (by decide) (by decide)).mono ?_
 rintro e U ⟨rfl, a⟩
 have m : Hid (Below w.heap.size w U) := Below.behind l.out a
 clear a g5
 have g6 : U.cell? ⟨6, 0, none⟩ = some (.iface 241 (.pointer (some (sent 8)))) := (d.out.below m.out).var 8 (by decide)
 by_cases D : n = 7
 ·subst D
  go_wp2
  go_ret
  exact ⟨rfl, m.out⟩
 have aj : decide (n = 7) = false := decide_eq_false D
 go_wp2_with fail
 refine (c.out _ m.out 8 (by decide) (by decide)).mono ?_
 rintro e V ⟨rfl, a⟩
 have o : Hid (Below w.heap.size w V) := Below.behind m.out a
 clear a g6
 have g7 : V.cell? ⟨7, 0, none⟩ = some (.iface 241 (.pointer (some (sent 9)))) := (d.out.below o.out).var 9 (by decide)
 by_cases E : n = 8
 ·subst E
  go_wp2
  go_ret
  exact ⟨rfl, o.out⟩
 have ak : decide (n = 8) = false := decide_eq_false E
 go_wp2_with fail
 refine (c.out _ o.out 9 (by decide) (by decide)).mono ?_
 rintro e X ⟨rfl, a⟩
 have p : Hid (Below w.heap.size w X) := Below.behind o.out a
 clear a g7
 have g8 : X.cell? ⟨8, 0, none⟩ = some (.iface 241 (.pointer (some (sent 10)))) := (d.out.below p.out).var 10 (by decide)
 by_cases F : n = 9
 ·subst F
  go_wp2
  go_ret
  exact ⟨rfl, p.out⟩
 have al : decide (n = 9) = false := decide_eq_false F
 go_wp2_with fail
 refine (c.out _ p.out 10 (by decide) (by decide)).mono ?_
 rintro e Y ⟨rfl, a⟩
 have q : Hid (Below w.heap.size w Y) := Below.behind p.out a
 clear a g8
 have g9 : Y.cell? ⟨9, 0, none⟩ = some (.iface 241 (.pointer (some (sent 11)))) := (d.out.below q.out).var 11 (by decide)
 by_cases G : n = 10
 ·subst G
  go_wp2
  go_ret
  exact ⟨rfl, q.out⟩
 have am : decide (n = 10) = false := decide_eq_false G
 go_wp2_with fail
 refine (c.out _ q.out 11 (by decide) (by decide)).mono ?_
 rintro e J ⟨rfl, a⟩
 have f : Hid (Below w.heap.size w J) := Below.behind q.out a
 clear a g9
 have L : J.cell? ⟨10, 0, none⟩ = some (.iface 241 (.pointer (some (sent 12)))) := (d.out.below f.out).var 12 (by decide)
 by_cases H : n = 11
 ·subst H
  go_wp2
  go_ret
  exact ⟨rfl, f.out⟩
 have ao : decide (n = 11) = false := decide_eq_false H
 go_wp2_with fail
 refine (c.out _ f.out 12 (by decide) (by decide)).mono ?_
 rintro e K ⟨rfl, a⟩
 have g : Hid (Below w.heap.size w K) := Below.behind f.out a
 clear a L
 have M : K.cell? ⟨11, 0, none⟩ = some (.iface 241 (.pointer (some (sent 13)))) := (d.out.below g.out).var 13 (by decide)
 by_cases s : n = 12
 ·subst s
  go_wp2
  go_ret
  exact ⟨rfl, g.out⟩
 have aa : decide (n = 12) = false := decide_eq_false s
 go_wp2_with fail
 refine (c.out _ g.out 13 (by decide) (by decide)).mono ?_
 rintro e P ⟨rfl, a⟩
 have r : Hid (Below w.heap.size w P) := Below.behind g.out a
 clear a M
 by_cases t : n = 13
 ·subst t
  go_wp2
  go_ret
  exact ⟨rfl, r.out⟩
 have ab : decide (n = 13) = false := decide_eq_false t
 obtain rfl : n = 3 := by
  simp only [nums, List.mem_cons, List.not_mem_nil, or_false] at N
  omega
 go_wp2
 go_ret
 exact ⟨rfl, r.out⟩
def Er.at_ (e : Er) : Nat := (e.asP.map (·.1)).getD 0
def Er.node (e : Er) : Nat := (e.asN.map (·.1)).getD 0
def Er.proof (e : Er) : Nat := (e.asQ.map (·.1)).getD 0
abbrev faultV (err proof node at_ : Nat) : Value := .agg #[.int .i64 (err : Int), .int .i64 (proof : Int), .int .i64 (node : Int), .int .i64 (at_ : Int)]
def typeAt (w : World) : Prop := w.cell? ⟨12, 0, none⟩ = some (.iface 177 (.agg #[.pointer (some ⟨17, 67, none⟩)]))
open Go.RowKit
end Go.Proofs.YtcglpladmeelaaaGreatDoor
