/-
  Errors as values: the thirteen of package fault, and what the layers wrap around them.
  errors.Is at the errors of package fault: how deep an error is wrapped does not count.
-/
import Derived.Test.YtcglpladmeelaaaGreatDoorCxOwnG
import Derived.Stop.Asserts
import Derived.LaidEql
namespace Go.Proofs.YtcglpladmeelaaaGreatDoor
open Go.RowKit
set_option maxRecDepth 100000
set_option maxHeartbeats 25600000
inductive Er where
 | base (n : Nat)
 | place (at_ : Nat) (e : Er)
 | noNode (e : Er)
 | inNode (n : Nat) (e : Er)
 | inProof (n : Nat) (e : Er)
theorem Hid.hide {p : Prop} (h : p) : Hid p := h
theorem Below.up {w w' : World} {o : Obj} (h : Below (w.alloc o).heap.size (w.alloc o) w') : Below w.heap.size w w' := ((Below.refl w.heap.size w).alloc (Nat.le_refl _) _).trans (h.mono (by simp))
theorem Below.behind {w W W' : World} (h : Below w.heap.size w W) (k : Below W.heap.size W W') : Below w.heap.size w W' := h.trans (k.mono h.size)
def Er.val (sent : Nat -> Addr) : Er -> Value
 | .base n => .iface 241 (.pointer (some (sent n)))
 | .place k e => .iface 95 (.agg #[.int .i64 (k : Int), e.val sent])
 | .noNode e => .iface 226 (.agg #[e.val sent])
 | .inNode k e => .iface 100 (.agg #[.int .i64 (k : Int), e.val sent])
 | .inProof k e => .iface 103 (.agg #[.int .i64 (k : Int), e.val sent])
theorem Er.shape (sent : Nat -> Addr) (e : Er) : ∃ t v, e.val sent = .iface t v := by
 cases e <;> exact ⟨_, _, rfl⟩
def gOf : Nat -> Nat
 | 1 => 0
 | 2 => 1
 | 3 => 15
 | 4 => 2
 | 5 => 3
 | 6 => 4
 | 7 => 5
 | 8 => 6
 | 9 => 7
 | 10 => 8
 | 11 => 9
 | 12 => 10
 | _ => 11
def nums : List Nat := [1, 2, 3, 4, 5, 6, 7, 8, 9, 10, 11, 12, 13]
structure Faults (w : World) (sent : Nat -> Addr) : Prop where
 var : ∀ n ∈ nums, w.cell? ⟨gOf n, 0, none⟩ = some (.iface 241 (.pointer (some (sent n))))
 plain : ∀ n ∈ nums, Plain w (sent n).block
 apart : ∀ m ∈ nums, ∀ n ∈ nums, m ≠ n -> sent m ≠ sent n
theorem Faults.low {w : World} {sent : Nat -> Addr} (h : Faults w sent) {n : Nat} (hn : n ∈ nums) : gOf n < w.heap.size :=
 World.block_lt_of_cell? w _ (h.var n hn)
theorem Plain.lt {w : World} {g : Nat} (h : Plain w g) : g < w.heap.size := by
 obtain ⟨c, t, h⟩ := h
 exact (Array.getElem?_eq_some_iff.1 h).1
theorem Faults.below {w W : World} {sent : Nat -> Addr} (h : Faults w sent) (hb : Below w.heap.size w W) : Faults W sent :=
 ⟨fun n hn => (hb.cell (h.low hn)).trans (h.var n hn), fun n hn => (h.plain n hn).keep (hb.block _ (h.plain n hn).lt), h.apart⟩
theorem Faults.keep {w W : World} {sent : Nat -> Addr} (h : Faults w sent) {B : Nat} (hb : Below B w W) (h1 : ∀ n ∈ nums, gOf n < B) (h2 : ∀ n ∈ nums, (sent n).block < B) : Faults W sent :=
 ⟨fun n hn => (hb.cell (h1 n hn)).trans (h.var n hn), fun n hn => (h.plain n hn).keep (hb.block _ (h2 n hn)), h.apart⟩
open Go.RowKit Go.Stop
def Er.simple : Er -> Prop
 | .base n => n ∈ nums
 | .place _ e => e.simple
 | .noNode e => e = .base 3
 | .inNode _ e => e.simple
 | .inProof _ e => e.simple
def Er.num : Er -> Nat
 | .base n => n
 | .place _ e => e.num
 | .noNode _ => 8
 | .inNode _ e => e.num
 | .inProof _ e => e.num
def Er.depth : Er -> Nat
 | .base _ => 0
 | .place _ e => e.depth + 1
 | .noNode e => e.depth + 1
 | .inNode _ e => e.depth + 1
 | .inProof _ e => e.depth + 1
theorem isTypeOf (v : Value) (w : World) : (Extern.ReflectliteType.typeOf #[.iface 241 v]).run Tryz.prog w = .ok (.iface 177 (.agg #[.pointer (some ⟨17, 241, none⟩)])) w := by kernel_rfl
theorem isComparable (w : World) : ((Extern.ReflectliteType.method fun t => do Extern.Rtype.noPackHeld "Comparable" t; pure (.bool (<- typeInfo t).comparable)) #[.agg #[.pointer (some ⟨17, 241, none⟩)]]).run Tryz.prog w = .ok (.bool true) w := by kernel_rfl
theorem isCallComparable (w : World) : (callFunc 151 #[.agg #[.pointer (some ⟨17, 241, none⟩)]]).run Tryz.prog w = .ok (.value (.bool true)) w := by
 rw [@run_callFunc_extern Tryz.prog 151 _ (Extern.ReflectliteType.method fun t => do Extern.Rtype.noPackHeld "Comparable" t; pure (.bool (<- typeInfo t).comparable)) Tryz.func151 (by kernel_rfl) (by kernel_rfl) (by kernel_rfl) (by kernel_rfl), isComparable]
 rfl
theorem isMethodComparable (v : Value) (w : World) : (Go.method 384 177 v "Comparable").run Tryz.prog w = .ok (151, v) w := by kernel_rfl
theorem isComp : (Tryz.prog.info? 241).map (·.comparable) = some true := by kernel_rfl
theorem isSize : (Tryz.prog.info? 273).map (·.size) = some 1 := by kernel_rfl
theorem noIsE (v : Value) (xT : TypeId) (w : World) : (Instr.typeAssert (.iface 241 v) xT 201 true).run Tryz.prog w = .ok (.tuple #[.nilIface, .bool false]) w := run_typeAssert_lacksB Tryz.underlying201 (by kernel_rfl) (by kernel_rfl) v xT w
theorem noUnwrapE (v : Value) (xT : TypeId) (w : World) : (Instr.typeAssert (.iface 241 v) xT 184 true).run Tryz.prog w = .ok (.tuple #[.nilIface, .bool false]) w := run_typeAssert_lacksB Tryz.underlying184 (by kernel_rfl) (by kernel_rfl) v xT w
theorem noUnwrapsE (v : Value) (xT : TypeId) (w : World) : (Instr.typeAssert (.iface 241 v) xT 186 true).run Tryz.prog w = .ok (.tuple #[.nilIface, .bool false]) w := run_typeAssert_lacksB Tryz.underlying186 (by kernel_rfl) (by kernel_rfl) v xT w
theorem noIsP (v : Value) (xT : TypeId) (w : World) : (Instr.typeAssert (.iface 95 v) xT 201 true).run Tryz.prog w = .ok (.tuple #[.nilIface, .bool false]) w := run_typeAssert_lacksB Tryz.underlying201 (by kernel_rfl) (by kernel_rfl) v xT w
theorem noIsN (v : Value) (xT : TypeId) (w : World) : (Instr.typeAssert (.iface 100 v) xT 201 true).run Tryz.prog w = .ok (.tuple #[.nilIface, .bool false]) w := run_typeAssert_lacksB Tryz.underlying201 (by kernel_rfl) (by kernel_rfl) v xT w
theorem noIsQ (v : Value) (xT : TypeId) (w : World) : (Instr.typeAssert (.iface 103 v) xT 201 true).run Tryz.prog w = .ok (.tuple #[.nilIface, .bool false]) w := run_typeAssert_lacksB Tryz.underlying201 (by kernel_rfl) (by kernel_rfl) v xT w
theorem hasUnwrapP (v : Value) (xT : TypeId) (w : World) : (Instr.typeAssert (.iface 95 v) xT 184 true).run Tryz.prog w = .ok (.tuple #[.iface 95 v, .bool true]) w := run_typeAssert_hasB Tryz.underlying184 (by kernel_rfl) v xT w
theorem hasUnwrapN (v : Value) (xT : TypeId) (w : World) : (Instr.typeAssert (.iface 100 v) xT 184 true).run Tryz.prog w = .ok (.tuple #[.iface 100 v, .bool true]) w := run_typeAssert_hasB Tryz.underlying184 (by kernel_rfl) v xT w
theorem hasUnwrapQ (v : Value) (xT : TypeId) (w : World) : (Instr.typeAssert (.iface 103 v) xT 184 true).run Tryz.prog w = .ok (.tuple #[.iface 103 v, .bool true]) w := run_typeAssert_hasB Tryz.underlying184 (by kernel_rfl) v xT w
theorem hasIsK (v : Value) (xT : TypeId) (w : World) : (Instr.typeAssert (.iface 226 v) xT 201 true).run Tryz.prog w = .ok (.tuple #[.iface 226 v, .bool true]) w := run_typeAssert_hasB Tryz.underlying201 (by kernel_rfl) v xT w
theorem hasUnwrapK (v : Value) (xT : TypeId) (w : World) : (Instr.typeAssert (.iface 226 v) xT 184 true).run Tryz.prog w = .ok (.tuple #[.iface 226 v, .bool true]) w := run_typeAssert_hasB Tryz.underlying184 (by kernel_rfl) v xT w
theorem methodIsK (a : Value) (w : World) : (Go.method 384 226 (.agg #[a]) "Is").run Tryz.prog w = .ok (161, .agg #[a]) w := by kernel_rfl
theorem methodUnwrapK (a : Value) (w : World) : (Go.method 384 226 (.agg #[a]) "Unwrap").run Tryz.prog w = .ok (162, .agg #[a]) w := by kernel_rfl
theorem methodUnwrapP (a b : Value) (w : World) : (Go.method 384 95 (.agg #[a, b]) "Unwrap").run Tryz.prog w = .ok (122, .agg #[a, b]) w := by kernel_rfl
theorem methodUnwrapN (a b : Value) (w : World) : (Go.method 384 100 (.agg #[a, b]) "Unwrap").run Tryz.prog w = .ok (124, .agg #[a, b]) w := by kernel_rfl
theorem methodUnwrapQ (a b : Value) (w : World) : (Go.method 384 103 (.agg #[a, b]) "Unwrap").run Tryz.prog w = .ok (126, .agg #[a, b]) w := by kernel_rfl
theorem unwrapP (k : Int) (t : TypeId) (v : Value) (w : World) : Calls Tryz.prog 122 #[.agg #[.int .i64 k, .iface t v]] w fun e w' => e = .returned (.iface t v) /\ Below w.heap.size w w' := by
 go_enter Tryz.func122, Tryz.ntmps122
 go_wp2
 go_ret
 exact ⟨rfl, (Below.refl _ _).alloc (Nat.le_refl _) _⟩
theorem unwrapN (k : Int) (t : TypeId) (v : Value) (w : World) : Calls Tryz.prog 124 #[.agg #[.int .i64 k, .iface t v]] w fun e w' => e = .returned (.iface t v) /\ Below w.heap.size w w' := by
 go_enter Tryz.func124, Tryz.ntmps124
 go_wp2
 go_ret
 exact ⟨rfl, (Below.refl _ _).alloc (Nat.le_refl _) _⟩
theorem unwrapQ (k : Int) (t : TypeId) (v : Value) (w : World) : Calls Tryz.prog 126 #[.agg #[.int .i64 k, .iface t v]] w fun e w' => e = .returned (.iface t v) /\ Below w.heap.size w w' := by
 go_enter Tryz.func126, Tryz.ntmps126
 go_wp2
 go_ret
 exact ⟨rfl, (Below.refl _ _).alloc (Nat.le_refl _) _⟩
theorem unwrapK (t : TypeId) (v : Value) (w : World) : Calls Tryz.prog 162 #[.agg #[.iface t v]] w fun e w' => e = .returned (.iface t v) /\ Below w.heap.size w w' := by
 go_enter Tryz.func162, Tryz.ntmps162
 go_wp2
 go_ret
 exact ⟨rfl, (Below.refl _ _).alloc (Nat.le_refl _) _⟩
theorem isK (sent : Nat -> Addr) (b : Nat) (hb : b ∈ nums) (t : TypeId) (v : Value) (w : World) (hF : Faults w sent) : Calls Tryz.prog 161 #[.agg #[.iface t v], .iface 241 (.pointer (some (sent b)))] w fun e w' => e = .returned (.bool (decide (b = 8))) /\ Below w.heap.size w w' := by
 obtain ⟨i, m, c⟩ := Option.map_eq_some_iff.1 isComp
 obtain ⟨j, n, o⟩ := Option.map_eq_some_iff.1 isSize
 have h := hF.var 8 (by decide)
 have a := hF.below ((Below.refl w.heap.size w).alloc (Nat.le_refl _) (.cells #[.iface t v] 226))
 by_cases f : b = 8
 ·subst f
  have l := run_eql_iface_ptr_same (P := Tryz.prog) (w.alloc (.cells #[.iface t v] 226)) (sent 8) Tryz.underlying67 Tryz.underlying241 m c n
  have g := a.var 8 (by decide)
  rw [show gOf 8 = 6 from rfl] at g
  clear hF a h
  go_enter Tryz.func161, Tryz.ntmps161
  go_wp2
  go_ret
  exact ⟨rfl, (Below.refl _ _).alloc (Nat.le_refl _) _⟩
 ·obtain ⟨p, r, k⟩ := a.plain b hb
  obtain ⟨q, s, d⟩ := a.plain 8 (by decide)
  have l := run_eql_iface_ptr_other (P := Tryz.prog) (w.alloc (.cells #[.iface t v] 226)) Tryz.underlying67 Tryz.underlying241 m c n (by rw [o]; decide) (a.apart b hb 8 (by decide) f) k d
  have g := a.var 8 (by decide)
  rw [show gOf 8 = 6 from rfl] at g
  rw [decide_eq_false f]
  clear hF a h k d
  go_enter Tryz.func161, Tryz.ntmps161
  go_wp2
  go_ret
  exact ⟨rfl, (Below.refl _ _).alloc (Nat.le_refl _) _⟩
theorem isLoop (sent : Nat -> Addr) (b : Nat) (hb : b ∈ nums) (h3 : b ≠ 3) (e0 : Er) (h0 : e0.simple) (w : World) (hF : Faults w sent) :
  Calls Tryz.prog 64 #[e0.val sent, (Er.base b).val sent, .bool true] w fun e w' => e = .returned (.bool (decide (e0.num = b))) /\ Below w.heap.size w w' := by
 obtain ⟨i, N, u⟩ := Option.map_eq_some_iff.1 isComp
 obtain ⟨j, O, Q⟩ := Option.map_eq_some_iff.1 isSize
 obtain ⟨R, S, B⟩ := e0.shape sent
 have I : Hid (e0.val sent = .iface R S /\ e0.simple) := ⟨B, h0⟩
 have r : Hid (Faults w sent /\ b ∈ nums) := ⟨hF, hb⟩
 have T : Hid (b ≠ 3) := h3
 rw [B]
 clear hF hb B h0 h3
 unfold Er.val
 go_enter Tryz.func64, Tryz.ntmps64
 go_wp2
 go_loopg [0] e0.depth (fun gh x wr => ∃ e t v, gh = Er.depth e /\ x = .iface t v /\ e.val sent = .iface t v /\ e.simple /\ (e.num = b ↔ e0.num = b) /\ Below w.heap.size w wr)
 case atStart => exact ⟨e0, R, S, rfl, rfl, I.out.1, I.out.2, Iff.rfl, Below.refl _ _⟩
 case round =>
  obtain ⟨e, t, v, rfl, rfl, a, f, d, c⟩ := hrel
  cases e with
  | base n =>
   unfold Er.val at a
   simp only [Value.iface.injEq] at a
   obtain ⟨rfl, rfl⟩ := a
   by_cases y : n = b
   ·subst y
    have M := run_eql_iface_ptr_same (P := Tryz.prog) wr (sent n) Tryz.underlying67 Tryz.underlying241 N u O
    have A : Aside (decide (e0.num = n) = true /\ Below w.heap.size w wr) := ⟨decide_eq_true (d.1 rfl), c⟩
    clear f d c
    go_wp2
    go_ret
    exact ⟨by rw [A.out.1]; rfl, A.out.2⟩
   ·have q := r.out.1.below c
    obtain ⟨U, Z, J⟩ := q.plain n f
    obtain ⟨V, tb, hb⟩ := q.plain b r.out.2
    have M := run_eql_iface_ptr_other (P := Tryz.prog) wr Tryz.underlying67 Tryz.underlying241 N u O (by rw [Q]; decide) (q.apart n f b r.out.2 y) J hb
    have Y := noIsE
    have uE := noUnwrapE
    have vE := noUnwrapsE
    have A : Aside (decide (e0.num = b) = false /\ Below w.heap.size w wr) := ⟨decide_eq_false fun h => y (d.2 h), c⟩
    clear f d c q J hb
    go_wp2
    go_ret
    exact ⟨by rw [A.out.1]; rfl, A.out.2⟩
  | noNode e' =>
   obtain rfl : e' = .base 3 := f
   unfold Er.val at a
   rw [show (Er.base 3).val sent = .iface 241 (.pointer (some (sent 3))) from rfl] at a
   simp only [Value.iface.injEq] at a
   obtain ⟨rfl, rfl⟩ := a
   have z := run_eql_iface_types (P := Tryz.prog) 226 241 (.agg #[.iface 241 (.pointer (some (sent 3)))]) (.pointer (some (sent b))) Tryz.underlying67 (by decide)
   have G := hasIsK
   have X := methodIsK
   have H := hasUnwrapK
   have F := methodUnwrapK
   have D := Hid.hide (isK sent b r.out.2 241 (.pointer (some (sent 3))) wr (r.out.1.below c))
   have p := Hid.hide (fun W => unwrapK 241 (.pointer (some (sent 3))) W)
   by_cases E : b = 8
   ·subst E
    have A : Aside (decide (e0.num = 8) = true /\ Below w.heap.size w wr) := ⟨decide_eq_true (d.1 rfl), c⟩
    clear d c
    go_wp2_with (go_at_call 161; refine D.out.mono ?_; rintro s C ⟨rfl, l⟩)
    go_ret
    exact ⟨by rw [A.out.1]; rfl, Below.behind A.out.2 l⟩
   ·have L : decide (b = 8) = false := decide_eq_false E
    have A : Aside (((Er.base 3).num = b ↔ e0.num = b) /\ Below w.heap.size w wr) := ⟨⟨fun h => absurd h.symm T.out, fun h => absurd (d.2 h).symm E⟩, c⟩
    rw [L] at D
    clear d c
    go_wp2_with (first | (go_at_call 161; refine D.out.mono ?_; rintro s C ⟨rfl, l⟩) | (go_at_call 162; refine (p.out _).mono ?_; rintro s w2 ⟨rfl, K⟩))
    go_roundg 0
    case measure => exact Nat.lt_succ_self _
    case rel => exact ⟨.base 3, _, _, rfl, rfl, rfl, by simp [Er.simple, nums], A.out.1, Below.behind (Below.behind A.out.2 l) K⟩
  | place k e' =>
   obtain ⟨m, o, g⟩ := e'.shape sent
   unfold Er.val at a
   rw [g] at a
   simp only [Value.iface.injEq] at a
   obtain ⟨rfl, rfl⟩ := a
   have z := run_eql_iface_types (P := Tryz.prog) 95 241 (.agg #[.int .i64 (k : Int), .iface m o]) (.pointer (some (sent b))) Tryz.underlying67 (by decide)
   have G := noIsP
   have H := hasUnwrapP
   have F := methodUnwrapP
   have p := Hid.hide (fun W => unwrapP (k : Int) m o W)
   have A : Aside (e'.val sent = .iface m o /\ e'.simple /\ (e'.num = b ↔ e0.num = b) /\ Below w.heap.size w wr) := ⟨g, f, d, c⟩
   clear g f d c
   go_wp2_with (go_at_call 122; refine (p.out _).mono ?_; rintro s C ⟨rfl, l⟩)
   go_roundg e'.depth
   case measure => exact Nat.lt_succ_self _
   case rel => exact ⟨e', m, o, rfl, rfl, A.out.1, A.out.2.1, A.out.2.2.1, Below.behind A.out.2.2.2 l⟩
  | inNode k e' =>
   obtain ⟨m, o, g⟩ := e'.shape sent
   unfold Er.val at a
   rw [g] at a
   simp only [Value.iface.injEq] at a
   obtain ⟨rfl, rfl⟩ := a
   have z := run_eql_iface_types (P := Tryz.prog) 100 241 (.agg #[.int .i64 (k : Int), .iface m o]) (.pointer (some (sent b))) Tryz.underlying67 (by decide)
   have G := noIsN
   have H := hasUnwrapN
   have F := methodUnwrapN
   have p := Hid.hide (fun W => unwrapN (k : Int) m o W)
   have A : Aside (e'.val sent = .iface m o /\ e'.simple /\ (e'.num = b ↔ e0.num = b) /\ Below w.heap.size w wr) := ⟨g, f, d, c⟩
   clear g f d c
   go_wp2_with (go_at_call 124; refine (p.out _).mono ?_; rintro s C ⟨rfl, l⟩)
   go_roundg e'.depth
   case measure => exact Nat.lt_succ_self _
   case rel => exact ⟨e', m, o, rfl, rfl, A.out.1, A.out.2.1, A.out.2.2.1, Below.behind A.out.2.2.2 l⟩
  | inProof k e' =>
   obtain ⟨m, o, g⟩ := e'.shape sent
   unfold Er.val at a
   rw [g] at a
   simp only [Value.iface.injEq] at a
   obtain ⟨rfl, rfl⟩ := a
   have z := run_eql_iface_types (P := Tryz.prog) 103 241 (.agg #[.int .i64 (k : Int), .iface m o]) (.pointer (some (sent b))) Tryz.underlying67 (by decide)
   have G := noIsQ
   have H := hasUnwrapQ
   have F := methodUnwrapQ
   have p := Hid.hide (fun W => unwrapQ (k : Int) m o W)
   have A : Aside (e'.val sent = .iface m o /\ e'.simple /\ (e'.num = b ↔ e0.num = b) /\ Below w.heap.size w wr) := ⟨g, f, d, c⟩
   clear g f d c
   go_wp2_with (go_at_call 126; refine (p.out _).mono ?_; rintro s C ⟨rfl, l⟩)
   go_roundg e'.depth
   case measure => exact Nat.lt_succ_self _
   case rel => exact ⟨e', m, o, rfl, rfl, A.out.1, A.out.2.1, A.out.2.2.1, Below.behind A.out.2.2.2 l⟩
theorem is_any (sent : Nat -> Addr) (b : Nat) (hb : b ∈ nums) (h3 : b ≠ 3) (e0 : Er) (h0 : e0.simple) (w : World) (hF : Faults w sent) :
  Calls Tryz.prog 45 #[e0.val sent, (Er.base b).val sent] w fun e w' => e = .returned (.bool (decide (e0.num = b))) /\ Below w.heap.size w w' := by
 have i := @run_callFunc_extern Tryz.prog 63 _ Extern.ReflectliteType.typeOf Tryz.func63 (by kernel_rfl) (by kernel_rfl) (by kernel_rfl) (by kernel_rfl)
 have l := isTypeOf
 have g := isCallComparable
 have j := isMethodComparable
 have a := isLoop sent b hb h3 e0 h0 w hF
 obtain ⟨k, m, c⟩ := e0.shape sent
 rw [c] at a ⊢
 clear c
 rw [show (Er.base b).val sent = .iface 241 (.pointer (some (sent b))) from rfl] at a ⊢
 have f := Hid.hide a
 clear a hF
 go_enter Tryz.func45, Tryz.ntmps45
 go_wp2_with (go_at_call 64; refine (f.out).mono ?_; rintro h n ⟨rfl, d⟩)
 go_ret
 exact ⟨rfl, d⟩
end Go.Proofs.YtcglpladmeelaaaGreatDoor
