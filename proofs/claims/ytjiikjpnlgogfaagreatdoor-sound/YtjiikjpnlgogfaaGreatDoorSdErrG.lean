/-
  Errors as values: the thirteen of package fault, and what the layers wrap around them.
  errors.Is at the errors of package fault: how deep an error is wrapped does not count.
-/
import Derived.Test.YtjiikjpnlgogfaaGreatDoorSdOwnG
import Derived.Stop.Asserts
import Derived.LaidEql
namespace Go.Proofs.YtjiikjpnlgogfaaGreatDoor
open Go.RowKit
inductive Er where
 | base (n : Nat)
 | place (at_ : Nat) (e : Er)
 | noNode (e : Er)
 | inNode (n : Nat) (e : Er)
 | inProof (n : Nat) (e : Er)
theorem Hid.hide {p : Prop} (h : p) : Hid p := h
theorem Below.up {w w' : World} {o : Obj} (h : Below (w.alloc o).heap.size (w.alloc o) w') : Below w.heap.size w w' := ((Below.refl w.heap.size w).alloc (Nat.le_refl _) _).trans (h.mono (by simp))
theorem Below.behind {w W W' : World} (h : Below w.heap.size w W) (k : Below W.heap.size W W') : Below w.heap.size w W' := h.trans (k.mono h.size)
theorem newCell {w w1 : World} {cs : Array Value} {t : TypeId} (hb : Below (w.alloc (.cells cs t)).heap.size (w.alloc (.cells cs t)) w1) (j : Nat) {v : Value} (h : cs[j]? = some v) : w1.cell? ⟨w.heap.size, j, none⟩ = some v ∧ w1.frozen? ⟨w.heap.size, j, none⟩ = false :=
 ⟨((hb.cell (p := ⟨w.heap.size, j, none⟩) (by simp)).trans (World.cell?_alloc_new _ _ _ _)).trans h, (hb.frozen (p := ⟨w.heap.size, j, none⟩) (by simp)).trans (World.frozen?_alloc_new _ _ _ _)⟩
def Er.val (sent : Nat → Addr) : Er → Value
 | .base n => .iface 423 (.pointer (some (sent n)))
 | .place k e => .iface 199 (.agg #[.int .i64 (k : Int), e.val sent])
 | .noNode e => .iface 392 (.agg #[e.val sent])
 | .inNode k e => .iface 196 (.agg #[.int .i64 (k : Int), e.val sent])
 | .inProof k e => .iface 204 (.agg #[.int .i64 (k : Int), e.val sent])
theorem Er.shape (sent : Nat → Addr) (e : Er) : ∃ t v, e.val sent = .iface t v := by
 cases e <;> exact ⟨_, _, rfl⟩
def gOf : Nat → Nat
 | 1 => 0
 | 2 => 1
 | 3 => 14
 | 4 => 2
 | 5 => 3
 | 6 => 4
 | 7 => 5
 | 8 => 6
 | 9 => 7
 | 10 => 8
 | 11 => 9
 | 12 => 10
 | _ => 11
def nums : List Nat := [1, 2, 3, 4, 5, 6, 7, 8, 9, 10, 11, 12, 13]
structure Faults (w : World) (sent : Nat → Addr) : Prop where
 var : ∀ n ∈ nums, w.cell? ⟨gOf n, 0, none⟩ = some (.iface 423 (.pointer (some (sent n))))
 plain : ∀ n ∈ nums, Plain w (sent n).block
 apart : ∀ m ∈ nums, ∀ n ∈ nums, m ≠ n → sent m ≠ sent n
theorem Faults.low {w : World} {sent : Nat → Addr} (h : Faults w sent) {n : Nat} (hn : n ∈ nums) : gOf n < w.heap.size :=
 World.block_lt_of_cell? w _ (h.var n hn)
theorem Plain.lt {w : World} {g : Nat} (h : Plain w g) : g < w.heap.size := by
 obtain ⟨c, t, h⟩ := h
 exact (Array.getElem?_eq_some_iff.1 h).1
theorem Faults.below {w W : World} {sent : Nat → Addr} (h : Faults w sent) (hb : Below w.heap.size w W) : Faults W sent :=
 ⟨fun n hn => (hb.cell (h.low hn)).trans (h.var n hn), fun n hn => (h.plain n hn).keep (hb.block _ (h.plain n hn).lt), h.apart⟩
theorem Faults.keep {w W : World} {sent : Nat → Addr} (h : Faults w sent) {B : Nat} (hb : Below B w W) (h1 : ∀ n ∈ nums, gOf n < B) (h2 : ∀ n ∈ nums, (sent n).block < B) : Faults W sent :=
 ⟨fun n hn => (hb.cell (h1 n hn)).trans (h.var n hn), fun n hn => (h.plain n hn).keep (hb.block _ (h2 n hn)), h.apart⟩
end Go.Proofs.YtjiikjpnlgogfaaGreatDoor
namespace Go.Proofs.YtjiikjpnlgogfaaGreatDoor
open Go.RowKit Go.Stop
def Er.simple : Er → Prop
 | .base n => n ∈ nums
 | .place _ e => e.simple
 | .noNode e => e = .base 3
 | .inNode _ e => e.simple
 | .inProof _ e => e.simple
def Er.num : Er → Nat
 | .base n => n
 | .place _ e => e.num
 | .noNode _ => 8
 | .inNode _ e => e.num
 | .inProof _ e => e.num
def Er.depth : Er → Nat
 | .base _ => 0
 | .place _ e => e.depth + 1
 | .noNode e => e.depth + 1
 | .inNode _ e => e.depth + 1
 | .inProof _ e => e.depth + 1
theorem isTypeOf (v : Value) (w : World) : (Extern.ReflectliteType.typeOf #[.iface 423 v]).run Tryz.prog w = .ok (.iface 313 (.agg #[.pointer (some ⟨17, 423, none⟩)])) w := by kernel_rfl
theorem isComparable (w : World) : ((Extern.ReflectliteType.method fun t => do Extern.Rtype.noPackHeld "Comparable" t; pure (.bool (← typeInfo t).comparable)) #[.agg #[.pointer (some ⟨17, 423, none⟩)]]).run Tryz.prog w = .ok (.bool true) w := by kernel_rfl
theorem isCallComparable (w : World) : (callFunc 315 #[.agg #[.pointer (some ⟨17, 423, none⟩)]]).run Tryz.prog w = .ok (.value (.bool true)) w := by
 rw [@run_callFunc_extern Tryz.prog 315 _ (Extern.ReflectliteType.method fun t => do Extern.Rtype.noPackHeld "Comparable" t; pure (.bool (← typeInfo t).comparable)) Tryz.func315 (by kernel_rfl) (by kernel_rfl) (by kernel_rfl) (by kernel_rfl), isComparable]
 rfl
theorem isMethodComparable (v : Value) (w : World) : (Go.method 563 313 v "Comparable").run Tryz.prog w = .ok (315, v) w := by kernel_rfl
theorem isComp : (Tryz.prog.info? 423).map (·.comparable) = some true := by kernel_rfl
theorem isSize : (Tryz.prog.info? 452).map (·.size) = some 1 := by kernel_rfl
theorem noIsE (v : Value) (xT : TypeId) (w : World) : (Instr.typeAssert (.iface 423 v) xT 315 true).run Tryz.prog w = .ok (.tuple #[.nilIface, .bool false]) w := run_typeAssert_lacksB Tryz.underlying315 (by kernel_rfl) (by kernel_rfl) v xT w
theorem noUnwrapE (v : Value) (xT : TypeId) (w : World) : (Instr.typeAssert (.iface 423 v) xT 318 true).run Tryz.prog w = .ok (.tuple #[.nilIface, .bool false]) w := run_typeAssert_lacksB Tryz.underlying318 (by kernel_rfl) (by kernel_rfl) v xT w
theorem noUnwrapsE (v : Value) (xT : TypeId) (w : World) : (Instr.typeAssert (.iface 423 v) xT 320 true).run Tryz.prog w = .ok (.tuple #[.nilIface, .bool false]) w := run_typeAssert_lacksB Tryz.underlying320 (by kernel_rfl) (by kernel_rfl) v xT w
theorem noIsP (v : Value) (xT : TypeId) (w : World) : (Instr.typeAssert (.iface 199 v) xT 315 true).run Tryz.prog w = .ok (.tuple #[.nilIface, .bool false]) w := run_typeAssert_lacksB Tryz.underlying315 (by kernel_rfl) (by kernel_rfl) v xT w
theorem noIsN (v : Value) (xT : TypeId) (w : World) : (Instr.typeAssert (.iface 196 v) xT 315 true).run Tryz.prog w = .ok (.tuple #[.nilIface, .bool false]) w := run_typeAssert_lacksB Tryz.underlying315 (by kernel_rfl) (by kernel_rfl) v xT w
theorem noIsQ (v : Value) (xT : TypeId) (w : World) : (Instr.typeAssert (.iface 204 v) xT 315 true).run Tryz.prog w = .ok (.tuple #[.nilIface, .bool false]) w := run_typeAssert_lacksB Tryz.underlying315 (by kernel_rfl) (by kernel_rfl) v xT w
theorem hasUnwrapP (v : Value) (xT : TypeId) (w : World) : (Instr.typeAssert (.iface 199 v) xT 318 true).run Tryz.prog w = .ok (.tuple #[.iface 199 v, .bool true]) w := run_typeAssert_hasB Tryz.underlying318 (by kernel_rfl) v xT w
theorem hasUnwrapN (v : Value) (xT : TypeId) (w : World) : (Instr.typeAssert (.iface 196 v) xT 318 true).run Tryz.prog w = .ok (.tuple #[.iface 196 v, .bool true]) w := run_typeAssert_hasB Tryz.underlying318 (by kernel_rfl) v xT w
theorem hasUnwrapQ (v : Value) (xT : TypeId) (w : World) : (Instr.typeAssert (.iface 204 v) xT 318 true).run Tryz.prog w = .ok (.tuple #[.iface 204 v, .bool true]) w := run_typeAssert_hasB Tryz.underlying318 (by kernel_rfl) v xT w
theorem hasIsK (v : Value) (xT : TypeId) (w : World) : (Instr.typeAssert (.iface 392 v) xT 315 true).run Tryz.prog w = .ok (.tuple #[.iface 392 v, .bool true]) w := run_typeAssert_hasB Tryz.underlying315 (by kernel_rfl) v xT w
theorem hasUnwrapK (v : Value) (xT : TypeId) (w : World) : (Instr.typeAssert (.iface 392 v) xT 318 true).run Tryz.prog w = .ok (.tuple #[.iface 392 v, .bool true]) w := run_typeAssert_hasB Tryz.underlying318 (by kernel_rfl) v xT w
theorem methodIsK (a : Value) (w : World) : (Go.method 563 392 (.agg #[a]) "Is").run Tryz.prog w = .ok (326, .agg #[a]) w := by kernel_rfl
theorem methodUnwrapK (a : Value) (w : World) : (Go.method 563 392 (.agg #[a]) "Unwrap").run Tryz.prog w = .ok (327, .agg #[a]) w := by kernel_rfl
theorem methodUnwrapP (a b : Value) (w : World) : (Go.method 563 199 (.agg #[a, b]) "Unwrap").run Tryz.prog w = .ok (307, .agg #[a, b]) w := by kernel_rfl
theorem methodUnwrapN (a b : Value) (w : World) : (Go.method 563 196 (.agg #[a, b]) "Unwrap").run Tryz.prog w = .ok (305, .agg #[a, b]) w := by kernel_rfl
theorem methodUnwrapQ (a b : Value) (w : World) : (Go.method 563 204 (.agg #[a, b]) "Unwrap").run Tryz.prog w = .ok (309, .agg #[a, b]) w := by kernel_rfl
theorem unwrapP (k : Int) (t : TypeId) (v : Value) (w : World) : Calls Tryz.prog 307 #[.agg #[.int .i64 k, .iface t v]] w fun e w' => e = .returned (.iface t v) ∧ Below w.heap.size w w' := by
 go_enter Tryz.func307, Tryz.ntmps307
 go_wp2
 go_ret
 exact ⟨rfl, (Below.refl _ _).alloc (Nat.le_refl _) _⟩
theorem unwrapN (k : Int) (t : TypeId) (v : Value) (w : World) : Calls Tryz.prog 305 #[.agg #[.int .i64 k, .iface t v]] w fun e w' => e = .returned (.iface t v) ∧ Below w.heap.size w w' := by
 go_enter Tryz.func305, Tryz.ntmps305
 go_wp2
 go_ret
 exact ⟨rfl, (Below.refl _ _).alloc (Nat.le_refl _) _⟩
theorem unwrapQ (k : Int) (t : TypeId) (v : Value) (w : World) : Calls Tryz.prog 309 #[.agg #[.int .i64 k, .iface t v]] w fun e w' => e = .returned (.iface t v) ∧ Below w.heap.size w w' := by
 go_enter Tryz.func309, Tryz.ntmps309
 go_wp2
 go_ret
 exact ⟨rfl, (Below.refl _ _).alloc (Nat.le_refl _) _⟩
theorem unwrapK (t : TypeId) (v : Value) (w : World) : Calls Tryz.prog 327 #[.agg #[.iface t v]] w fun e w' => e = .returned (.iface t v) ∧ Below w.heap.size w w' := by
 go_enter Tryz.func327, Tryz.ntmps327
 go_wp2
 go_ret
 exact ⟨rfl, (Below.refl _ _).alloc (Nat.le_refl _) _⟩
theorem isK (sent : Nat → Addr) (b : Nat) (hb : b ∈ nums) (t : TypeId) (v : Value) (w : World) (hF : Faults w sent) : Calls Tryz.prog 326 #[.agg #[.iface t v], .iface 423 (.pointer (some (sent b)))] w fun e w' => e = .returned (.bool (decide (b = 8))) ∧ Below w.heap.size w w' := by
 obtain ⟨i, hi, hcmp⟩ := Option.map_eq_some_iff.1 isComp
 obtain ⟨j, hj, hjs⟩ := Option.map_eq_some_iff.1 isSize
 have g8 := hF.var 8 (by decide)
 have hFr := hF.below ((Below.refl w.heap.size w).alloc (Nat.le_refl _) (.cells #[.iface t v] 392))
 by_cases h8 : b = 8
 ·subst h8
  have heq := run_eql_iface_ptr_same (P := Tryz.prog) (w.alloc (.cells #[.iface t v] 392)) (sent 8) Tryz.underlying114 Tryz.underlying423 hi hcmp hj
  have g := hFr.var 8 (by decide)
  rw [show gOf 8 = 6 from rfl] at g
  clear hF hFr g8
  go_enter Tryz.func326, Tryz.ntmps326
  go_wp2
  go_ret
  exact ⟨rfl, (Below.refl _ _).alloc (Nat.le_refl _) _⟩
 ·obtain ⟨ca, ta, ha⟩ := hFr.plain b hb
  obtain ⟨cb, tb, hb8⟩ := hFr.plain 8 (by decide)
  have heq := run_eql_iface_ptr_other (P := Tryz.prog) (w.alloc (.cells #[.iface t v] 392)) Tryz.underlying114 Tryz.underlying423 hi hcmp hj (by rw [hjs]; decide) (hFr.apart b hb 8 (by decide) h8) ha hb8
  have g := hFr.var 8 (by decide)
  rw [show gOf 8 = 6 from rfl] at g
  rw [decide_eq_false h8]
  clear hF hFr g8 ha hb8
  go_enter Tryz.func326, Tryz.ntmps326
  go_wp2
  go_ret
  exact ⟨rfl, (Below.refl _ _).alloc (Nat.le_refl _) _⟩
set_option maxRecDepth 100000 in
set_option maxHeartbeats 1600000 in
theorem isLoop (sent : Nat → Addr) (b : Nat) (hb : b ∈ nums) (h3 : b ≠ 3) (e0 : Er) (h0 : e0.simple) (w : World) (hF : Faults w sent) :
  Calls Tryz.prog 146 #[e0.val sent, (Er.base b).val sent, .bool true] w fun e w' => e = .returned (.bool (decide (e0.num = b))) ∧ Below w.heap.size w w' := by
 obtain ⟨i, hi, hcmp⟩ := Option.map_eq_some_iff.1 isComp
 obtain ⟨j, hj, hjs⟩ := Option.map_eq_some_iff.1 isSize
 obtain ⟨t0, v0, hv0⟩ := e0.shape sent
 have HV : Hid (e0.val sent = .iface t0 v0 ∧ e0.simple) := ⟨hv0, h0⟩
 have HF : Hid (Faults w sent ∧ b ∈ nums) := ⟨hF, hb⟩
 have H3 : Hid (b ≠ 3) := h3
 rw [hv0]
 clear hF hb hv0 h0 h3
 unfold Er.val
 go_enter Tryz.func146, Tryz.ntmps146
 go_wp2
 go_loopg [0] e0.depth (fun gh x wr => ∃ e t v, gh = Er.depth e ∧ x = .iface t v ∧ e.val sent = .iface t v ∧ e.simple ∧ (e.num = b ↔ e0.num = b) ∧ Below w.heap.size w wr)
 case atStart => exact ⟨e0, t0, v0, rfl, rfl, HV.out.1, HV.out.2, Iff.rfl, Below.refl _ _⟩
 case round =>
  obtain ⟨e, t, v, rfl, rfl, hev, hes, hen, hbw⟩ := hrel
  cases e with
  | base n =>
   unfold Er.val at hev
   simp only [Value.iface.injEq] at hev
   obtain ⟨rfl, rfl⟩ := hev
   by_cases hnb : n = b
   ·subst hnb
    have heq := run_eql_iface_ptr_same (P := Tryz.prog) wr (sent n) Tryz.underlying114 Tryz.underlying423 hi hcmp hj
    have A : Aside (decide (e0.num = n) = true ∧ Below w.heap.size w wr) := ⟨decide_eq_true (hen.1 rfl), hbw⟩
    clear hes hen hbw
    go_wp2
    go_ret
    exact ⟨by rw [A.out.1]; rfl, A.out.2⟩
   ·have hFr := HF.out.1.below hbw
    obtain ⟨ca, ta, ha⟩ := hFr.plain n hes
    obtain ⟨cb, tb, hb⟩ := hFr.plain b HF.out.2
    have heq := run_eql_iface_ptr_other (P := Tryz.prog) wr Tryz.underlying114 Tryz.underlying423 hi hcmp hj (by rw [hjs]; decide) (hFr.apart n hes b HF.out.2 hnb) ha hb
    have nE := noIsE
    have uE := noUnwrapE
    have vE := noUnwrapsE
    have A : Aside (decide (e0.num = b) = false ∧ Below w.heap.size w wr) := ⟨decide_eq_false fun h => hnb (hen.2 h), hbw⟩
    clear hes hen hbw hFr ha hb
    go_wp2
    go_ret
    exact ⟨by rw [A.out.1]; rfl, A.out.2⟩
  | noNode e' =>
   obtain rfl : e' = .base 3 := hes
   unfold Er.val at hev
   rw [show (Er.base 3).val sent = .iface 423 (.pointer (some (sent 3))) from rfl] at hev
   simp only [Value.iface.injEq] at hev
   obtain ⟨rfl, rfl⟩ := hev
   have hty := run_eql_iface_types (P := Tryz.prog) 392 423 (.agg #[.iface 423 (.pointer (some (sent 3)))]) (.pointer (some (sent b))) Tryz.underlying114 (by decide)
   have nP := hasIsK
   have mI := methodIsK
   have uP := hasUnwrapK
   have mP := methodUnwrapK
   have HI := Hid.hide (isK sent b HF.out.2 423 (.pointer (some (sent 3))) wr (HF.out.1.below hbw))
   have HU := Hid.hide (fun W => unwrapK 423 (.pointer (some (sent 3))) W)
   by_cases h8 : b = 8
   ·subst h8
    have A : Aside (decide (e0.num = 8) = true ∧ Below w.heap.size w wr) := ⟨decide_eq_true (hen.1 rfl), hbw⟩
    clear hen hbw
    go_wp2_with (go_at_call 326; refine HI.out.mono ?_; rintro e1 w1 ⟨rfl, hb1⟩)
    go_ret
    exact ⟨by rw [A.out.1]; rfl, Below.behind A.out.2 hb1⟩
   ·have hd8 : decide (b = 8) = false := decide_eq_false h8
    have A : Aside (((Er.base 3).num = b ↔ e0.num = b) ∧ Below w.heap.size w wr) := ⟨⟨fun h => absurd h.symm H3.out, fun h => absurd (hen.2 h).symm h8⟩, hbw⟩
    rw [hd8] at HI
    clear hen hbw
    go_wp2_with (first | (go_at_call 326; refine HI.out.mono ?_; rintro e1 w1 ⟨rfl, hb1⟩) | (go_at_call 327; refine (HU.out _).mono ?_; rintro e1 w2 ⟨rfl, hb2⟩))
    go_roundg 0
    case measure => exact Nat.lt_succ_self _
    case rel => exact ⟨.base 3, _, _, rfl, rfl, rfl, by simp [Er.simple, nums], A.out.1, Below.behind (Below.behind A.out.2 hb1) hb2⟩
  | place k e' =>
   obtain ⟨t', v', hv'⟩ := e'.shape sent
   unfold Er.val at hev
   rw [hv'] at hev
   simp only [Value.iface.injEq] at hev
   obtain ⟨rfl, rfl⟩ := hev
   have hty := run_eql_iface_types (P := Tryz.prog) 199 423 (.agg #[.int .i64 (k : Int), .iface t' v']) (.pointer (some (sent b))) Tryz.underlying114 (by decide)
   have nP := noIsP
   have uP := hasUnwrapP
   have mP := methodUnwrapP
   have HU := Hid.hide (fun W => unwrapP (k : Int) t' v' W)
   have A : Aside (e'.val sent = .iface t' v' ∧ e'.simple ∧ (e'.num = b ↔ e0.num = b) ∧ Below w.heap.size w wr) := ⟨hv', hes, hen, hbw⟩
   clear hv' hes hen hbw
   go_wp2_with (go_at_call 307; refine (HU.out _).mono ?_; rintro e1 w1 ⟨rfl, hb1⟩)
   go_roundg e'.depth
   case measure => exact Nat.lt_succ_self _
   case rel => exact ⟨e', t', v', rfl, rfl, A.out.1, A.out.2.1, A.out.2.2.1, Below.behind A.out.2.2.2 hb1⟩
  | inNode k e' =>
   obtain ⟨t', v', hv'⟩ := e'.shape sent
   unfold Er.val at hev
   rw [hv'] at hev
   simp only [Value.iface.injEq] at hev
   obtain ⟨rfl, rfl⟩ := hev
   have hty := run_eql_iface_types (P := Tryz.prog) 196 423 (.agg #[.int .i64 (k : Int), .iface t' v']) (.pointer (some (sent b))) Tryz.underlying114 (by decide)
   have nP := noIsN
   have uP := hasUnwrapN
   have mP := methodUnwrapN
   have HU := Hid.hide (fun W => unwrapN (k : Int) t' v' W)
   have A : Aside (e'.val sent = .iface t' v' ∧ e'.simple ∧ (e'.num = b ↔ e0.num = b) ∧ Below w.heap.size w wr) := ⟨hv', hes, hen, hbw⟩
   clear hv' hes hen hbw
   go_wp2_with (go_at_call 305; refine (HU.out _).mono ?_; rintro e1 w1 ⟨rfl, hb1⟩)
   go_roundg e'.depth
   case measure => exact Nat.lt_succ_self _
   case rel => exact ⟨e', t', v', rfl, rfl, A.out.1, A.out.2.1, A.out.2.2.1, Below.behind A.out.2.2.2 hb1⟩
  | inProof k e' =>
   obtain ⟨t', v', hv'⟩ := e'.shape sent
   unfold Er.val at hev
   rw [hv'] at hev
   simp only [Value.iface.injEq] at hev
   obtain ⟨rfl, rfl⟩ := hev
   have hty := run_eql_iface_types (P := Tryz.prog) 204 423 (.agg #[.int .i64 (k : Int), .iface t' v']) (.pointer (some (sent b))) Tryz.underlying114 (by decide)
   have nP := noIsQ
   have uP := hasUnwrapQ
   have mP := methodUnwrapQ
   have HU := Hid.hide (fun W => unwrapQ (k : Int) t' v' W)
   have A : Aside (e'.val sent = .iface t' v' ∧ e'.simple ∧ (e'.num = b ↔ e0.num = b) ∧ Below w.heap.size w wr) := ⟨hv', hes, hen, hbw⟩
   clear hv' hes hen hbw
   go_wp2_with (go_at_call 309; refine (HU.out _).mono ?_; rintro e1 w1 ⟨rfl, hb1⟩)
   go_roundg e'.depth
   case measure => exact Nat.lt_succ_self _
   case rel => exact ⟨e', t', v', rfl, rfl, A.out.1, A.out.2.1, A.out.2.2.1, Below.behind A.out.2.2.2 hb1⟩
set_option maxRecDepth 100000 in
theorem is_any (sent : Nat → Addr) (b : Nat) (hb : b ∈ nums) (h3 : b ≠ 3) (e0 : Er) (h0 : e0.simple) (w : World) (hF : Faults w sent) :
  Calls Tryz.prog 81 #[e0.val sent, (Er.base b).val sent] w fun e w' => e = .returned (.bool (decide (e0.num = b))) ∧ Below w.heap.size w w' := by
 have h8 := @run_callFunc_extern Tryz.prog 145 _ Extern.ReflectliteType.typeOf Tryz.func145 (by kernel_rfl) (by kernel_rfl) (by kernel_rfl) (by kernel_rfl)
 have tT := isTypeOf
 have cT := isCallComparable
 have mR := isMethodComparable
 have hL := isLoop sent b hb h3 e0 h0 w hF
 obtain ⟨t0, v0, hv0⟩ := e0.shape sent
 rw [hv0] at hL ⊢
 clear hv0
 rw [show (Er.base b).val sent = .iface 423 (.pointer (some (sent b))) from rfl] at hL ⊢
 have HL := Hid.hide hL
 clear hL hF
 go_enter Tryz.func81, Tryz.ntmps81
 go_wp2_with (go_at_call 146; refine (HL.out).mono ?_; rintro e1 w1 ⟨rfl, hb1⟩)
 go_ret
 exact ⟨rfl, hb1⟩
end Go.Proofs.YtjiikjpnlgogfaaGreatDoor
