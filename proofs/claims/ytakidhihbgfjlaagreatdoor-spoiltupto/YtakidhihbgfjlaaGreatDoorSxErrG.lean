/-
  Errors as values: the thirteen of package fault, and what the layers wrap around them.
-/
import Derived.Test.YtakidhihbgfjlaaGreatDoorSxOwnG
import Derived.Stop.Asserts
import Derived.LaidEql
namespace Go.Proofs.YtakidhihbgfjlaaGreatDoor
open Go.RowKit
set_option maxRecDepth 100000
set_option maxHeartbeats 25600000
inductive Er where
 | base (n : Nat)
 | place (at_ : Nat) (e : Er)
 | noNode (e : Er)
 | inNode (n : Nat) (e : Er)
 | inProof (n : Nat) (e : Er)
theorem Hq {p : Prop} (h : p) : Hid p := h
variable {w : World}
theorem Below.up {w' : World} {o : Obj} (h : Below (w.alloc o).heap.size (w.alloc o) w') : Below w.heap.size w w' := ((Below.refl w.heap.size w).alloc (Nat.le_refl _) _).trans (h.mono (by simp))
theorem Below.behind {W W' : World} (h : Below w.heap.size w W) (k : Below W.heap.size W W') : Below w.heap.size w W' := h.trans (k.mono h.size)
theorem Qd7 {w1 : World} {cs : Array Value} {t : TypeId} (hb : Below (w.alloc (.cells cs t)).heap.size (w.alloc (.cells cs t)) w1) (j : Nat) {v : Value} (h : cs[j]? = some v) : w1.cell? ⟨w.heap.size, j, none⟩ = some v /\ w1.frozen? ⟨w.heap.size, j, none⟩ = false :=
 ⟨((hb.cell (p := ⟨w.heap.size, j, none⟩) (by simp)).trans (World.cell?_alloc_new _ _ _ _)).trans h, (hb.frozen (p := ⟨w.heap.size, j, none⟩) (by simp)).trans (World.frozen?_alloc_new _ _ _ _)⟩
def Er.val (sent : Nat -> Addr) : Er -> Value
 | .base n => .iface 243 (.pointer (some (sent n)))
 | .place k e => .iface 91 (.agg #[.int .i64 (k : Int), e.val sent])
 | .noNode e => .iface 228 (.agg #[e.val sent])
 | .inNode k e => .iface 96 (.agg #[.int .i64 (k : Int), e.val sent])
 | .inProof k e => .iface 99 (.agg #[.int .i64 (k : Int), e.val sent])
theorem Er.shape (sent : Nat -> Addr) (e : Er) : ∃ t v, e.val sent = .iface t v := by
 cases e <;> exact ⟨_, _, rfl⟩
def gOf : Nat -> Nat
 | 1 => 0
 | 2 => 1
 | 3 => 15
 | 4 => 2
 | 5 => 3
 | 6 => 4
 | 7 => 5
 | 8 => 6
 | 9 => 7
 | 10 => 8
 | 11 => 9
 | 12 => 10
 | _ => 11
def nums : List Nat := [1, 2, 3, 4, 5, 6, 7, 8, 9, 10, 11, 12, 13]
structure Faults (w : World) (sent : Nat -> Addr) : Prop where
 var : ∀ n ∈ nums, w.cell? ⟨gOf n, 0, none⟩ = some (.iface 243 (.pointer (some (sent n))))
 plain : ∀ n ∈ nums, Plain w (sent n).block
 apart : ∀ m ∈ nums, ∀ n ∈ nums, m ≠ n -> sent m ≠ sent n
variable {sent : Nat -> Addr}
theorem Faults.low (h : Faults w sent) {n : Nat} (hn : n ∈ nums) : gOf n < w.heap.size :=
 World.block_lt_of_cell? w _ (h.var n hn)
theorem Plain.lt {g : Nat} (h : Plain w g) : g < w.heap.size := by
 obtain ⟨c, t, h⟩ := h
 exact (Array.getElem?_eq_some_iff.1 h).1
theorem Faults.below {W : World} (h : Faults w sent) (hb : Below w.heap.size w W) : Faults W sent :=
 ⟨fun n hn => (hb.cell (h.low hn)).trans (h.var n hn), fun n hn => (h.plain n hn).keep (hb.block _ (h.plain n hn).lt), h.apart⟩
theorem Faults.keep {w W : World} {sent : Nat -> Addr} (h : Faults w sent) {B : Nat} (hb : Below B w W) (h1 : ∀ n ∈ nums, gOf n < B) (h2 : ∀ n ∈ nums, (sent n).block < B) : Faults W sent :=
 ⟨fun n hn => (hb.cell (h1 n hn)).trans (h.var n hn), fun n hn => (h.plain n hn).keep (hb.block _ (h2 n hn)), h.apart⟩
open Go.RowKit Go.Stop
def Er.simple : Er -> Prop
 | .base n => n ∈ nums
 | .place _ e => e.simple
 | .noNode e => e = .base 3
 | .inNode _ e => e.simple
 | .inProof _ e => e.simple
def Er.num : Er -> Nat
 | .base n => n
 | .place _ e => e.num
 | .noNode _ => 8
 | .inNode _ e => e.num
 | .inProof _ e => e.num
def Er.depth : Er -> Nat
 | .base _ => 0
 | .place _ e => e.depth + 1
 | .noNode e => e.depth + 1
 | .inNode _ e => e.depth + 1
 | .inProof _ e => e.depth + 1
theorem Qgw (v : Value) (w : World) : (Extern.ReflectliteType.typeOf #[.iface 243 v]).run Tryz.prog w = .ok (.iface 177 (.agg #[.pointer (some ⟨17, 243, none⟩)])) w := by kernel_rfl
theorem Qmh (w : World) : ((Extern.ReflectliteType.method fun t => do Extern.Rtype.noPackHeld "Comparable" t; pure (.bool (<- typeInfo t).comparable)) #[.agg #[.pointer (some ⟨17, 243, none⟩)]]).run Tryz.prog w = .ok (.bool true) w := by kernel_rfl
theorem Qgu (w : World) : (callFunc 156 #[.agg #[.pointer (some ⟨17, 243, none⟩)]]).run Tryz.prog w = .ok (.value (.bool true)) w := by
 rw [@run_callFunc_extern Tryz.prog 156 _ (Extern.ReflectliteType.method fun t => do Extern.Rtype.noPackHeld "Comparable" t; pure (.bool (<- typeInfo t).comparable)) Tryz.func156 (by kernel_rfl) (by kernel_rfl) (by kernel_rfl) (by kernel_rfl), Qmh]
 rfl
theorem Qf5 (v : Value) (w : World) : (Go.method 386 177 v "Comparable").run Tryz.prog w = .ok (156, v) w := by kernel_rfl
theorem Qz9 : (Tryz.prog.info? 243).map (·.comparable) = some true := by kernel_rfl
theorem Qza : (Tryz.prog.info? 275).map (·.size) = some 1 := by kernel_rfl
theorem QDd (v : Value) (xT : TypeId) (w : World) : (Instr.typeAssert (.iface 243 v) xT 197 true).run Tryz.prog w = .ok (.tuple #[.nilIface, .bool false]) w := run_typeAssert_lacksB Tryz.underlying197 (by kernel_rfl) (by kernel_rfl) v xT w
theorem Qf6 (v : Value) (xT : TypeId) (w : World) : (Instr.typeAssert (.iface 243 v) xT 184 true).run Tryz.prog w = .ok (.tuple #[.nilIface, .bool false]) w := run_typeAssert_lacksB Tryz.underlying184 (by kernel_rfl) (by kernel_rfl) v xT w
theorem Qe8 (v : Value) (xT : TypeId) (w : World) : (Instr.typeAssert (.iface 243 v) xT 186 true).run Tryz.prog w = .ok (.tuple #[.nilIface, .bool false]) w := run_typeAssert_lacksB Tryz.underlying186 (by kernel_rfl) (by kernel_rfl) v xT w
theorem QDe (v : Value) (xT : TypeId) (w : World) : (Instr.typeAssert (.iface 91 v) xT 197 true).run Tryz.prog w = .ok (.tuple #[.nilIface, .bool false]) w := run_typeAssert_lacksB Tryz.underlying197 (by kernel_rfl) (by kernel_rfl) v xT w
theorem QDf (v : Value) (xT : TypeId) (w : World) : (Instr.typeAssert (.iface 96 v) xT 197 true).run Tryz.prog w = .ok (.tuple #[.nilIface, .bool false]) w := run_typeAssert_lacksB Tryz.underlying197 (by kernel_rfl) (by kernel_rfl) v xT w
theorem QDg (v : Value) (xT : TypeId) (w : World) : (Instr.typeAssert (.iface 99 v) xT 197 true).run Tryz.prog w = .ok (.tuple #[.nilIface, .bool false]) w := run_typeAssert_lacksB Tryz.underlying197 (by kernel_rfl) (by kernel_rfl) v xT w
theorem Qft (v : Value) (xT : TypeId) (w : World) : (Instr.typeAssert (.iface 91 v) xT 184 true).run Tryz.prog w = .ok (.tuple #[.iface 91 v, .bool true]) w := run_typeAssert_hasB Tryz.underlying184 (by kernel_rfl) v xT w
theorem Qfu (v : Value) (xT : TypeId) (w : World) : (Instr.typeAssert (.iface 96 v) xT 184 true).run Tryz.prog w = .ok (.tuple #[.iface 96 v, .bool true]) w := run_typeAssert_hasB Tryz.underlying184 (by kernel_rfl) v xT w
theorem Qfv (v : Value) (xT : TypeId) (w : World) : (Instr.typeAssert (.iface 99 v) xT 184 true).run Tryz.prog w = .ok (.tuple #[.iface 99 v, .bool true]) w := run_typeAssert_hasB Tryz.underlying184 (by kernel_rfl) v xT w
theorem QC0 (v : Value) (xT : TypeId) (w : World) : (Instr.typeAssert (.iface 228 v) xT 197 true).run Tryz.prog w = .ok (.tuple #[.iface 228 v, .bool true]) w := run_typeAssert_hasB Tryz.underlying197 (by kernel_rfl) v xT w
theorem Qe9 (v : Value) (xT : TypeId) (w : World) : (Instr.typeAssert (.iface 228 v) xT 184 true).run Tryz.prog w = .ok (.tuple #[.iface 228 v, .bool true]) w := run_typeAssert_hasB Tryz.underlying184 (by kernel_rfl) v xT w
theorem Qt7 (a : Value) (w : World) : (Go.method 386 228 (.agg #[a]) "Is").run Tryz.prog w = .ok (166, .agg #[a]) w := by kernel_rfl
theorem Qc9 (a : Value) (w : World) : (Go.method 386 228 (.agg #[a]) "Unwrap").run Tryz.prog w = .ok (167, .agg #[a]) w := by kernel_rfl
theorem Qd8 (a b : Value) (w : World) : (Go.method 386 91 (.agg #[a, b]) "Unwrap").run Tryz.prog w = .ok (127, .agg #[a, b]) w := by kernel_rfl
theorem Qd9 (a b : Value) (w : World) : (Go.method 386 96 (.agg #[a, b]) "Unwrap").run Tryz.prog w = .ok (129, .agg #[a, b]) w := by kernel_rfl
theorem Qda (a b : Value) (w : World) : (Go.method 386 99 (.agg #[a, b]) "Unwrap").run Tryz.prog w = .ok (131, .agg #[a, b]) w := by kernel_rfl
theorem Qof (k : Int) (t : TypeId) (v : Value) (w : World) : Calls Tryz.prog 127 #[.agg #[.int .i64 k, .iface t v]] w fun e w' => e = .returned (.iface t v) /\ Below w.heap.size w w' := by
 go_enter Tryz.func127, Tryz.ntmps127
 go_wp2
 go_ret
 exact ⟨rfl, (Below.refl _ _).alloc (Nat.le_refl _) _⟩
theorem Qog (k : Int) (t : TypeId) (v : Value) (w : World) : Calls Tryz.prog 129 #[.agg #[.int .i64 k, .iface t v]] w fun e w' => e = .returned (.iface t v) /\ Below w.heap.size w w' := by
 go_enter Tryz.func129, Tryz.ntmps129
 go_wp2
 go_ret
 exact ⟨rfl, (Below.refl _ _).alloc (Nat.le_refl _) _⟩
theorem Qoh (k : Int) (t : TypeId) (v : Value) (w : World) : Calls Tryz.prog 131 #[.agg #[.int .i64 k, .iface t v]] w fun e w' => e = .returned (.iface t v) /\ Below w.heap.size w w' := by
 go_enter Tryz.func131, Tryz.ntmps131
 go_wp2
 go_ret
 exact ⟨rfl, (Below.refl _ _).alloc (Nat.le_refl _) _⟩
theorem Qkn (t : TypeId) (v : Value) (w : World) : Calls Tryz.prog 167 #[.agg #[.iface t v]] w fun e w' => e = .returned (.iface t v) /\ Below w.heap.size w w' := by
 go_enter Tryz.func167, Tryz.ntmps167
 go_wp2
 go_ret
 exact ⟨rfl, (Below.refl _ _).alloc (Nat.le_refl _) _⟩
theorem isK (sent : Nat -> Addr) (b : Nat) (hb : b ∈ nums) (t : TypeId) (v : Value) (w : World) (hF : Faults w sent) : Calls Tryz.prog 166 #[.agg #[.iface t v], .iface 243 (.pointer (some (sent b)))] w fun e w' => e = .returned (.bool (decide (b = 8))) /\ Below w.heap.size w w' := by
 obtain ⟨i, m, c⟩ := Option.map_eq_some_iff.1 Qz9
 obtain ⟨j, n, o⟩ := Option.map_eq_some_iff.1 Qza
 have h := hF.var 8 (by decide)
 have a := hF.below ((Below.refl w.heap.size w).alloc (Nat.le_refl _) (.cells #[.iface t v] 228))
 by_cases f : b = 8
 ·subst f
  have l := run_eql_iface_ptr_same (P := Tryz.prog) (w.alloc (.cells #[.iface t v] 228)) (sent 8) Tryz.underlying62 Tryz.underlying243 m c n
  have g := a.var 8 (by decide)
  rw [show gOf 8 = 6 from rfl] at g
  clear hF a h
  go_enter Tryz.func166, Tryz.ntmps166
  go_wp2
  go_ret
  exact ⟨rfl, (Below.refl _ _).alloc (Nat.le_refl _) _⟩
 ·obtain ⟨p, r, k⟩ := a.plain b hb
  obtain ⟨q, s, d⟩ := a.plain 8 (by decide)
  have l := run_eql_iface_ptr_other (P := Tryz.prog) (w.alloc (.cells #[.iface t v] 228)) Tryz.underlying62 Tryz.underlying243 m c n (by rw [o]; decide) (a.apart b hb 8 (by decide) f) k d
  have g := a.var 8 (by decide)
  rw [show gOf 8 = 6 from rfl] at g
  rw [decide_eq_false f]
  clear hF a h k d
  go_enter Tryz.func166, Tryz.ntmps166
  go_wp2
  go_ret
  exact ⟨rfl, (Below.refl _ _).alloc (Nat.le_refl _) _⟩
theorem QC1 (sent : Nat -> Addr) (b : Nat) (hb : b ∈ nums) (h3 : b ≠ 3) (e0 : Er) (h0 : e0.simple) (w : World) (hF : Faults w sent) :
  Calls Tryz.prog 65 #[e0.val sent, (Er.base b).val sent, .bool true] w fun e w' => e = .returned (.bool (decide (e0.num = b))) /\ Below w.heap.size w w' := by
 obtain ⟨i, N, u⟩ := Option.map_eq_some_iff.1 Qz9
 obtain ⟨j, O, Q⟩ := Option.map_eq_some_iff.1 Qza
 obtain ⟨R, S, B⟩ := e0.shape sent
 have I : Hid (e0.val sent = .iface R S /\ e0.simple) := ⟨B, h0⟩
 have r : Hid (Faults w sent /\ b ∈ nums) := ⟨hF, hb⟩
 have T : Hid (b ≠ 3) := h3
 rw [B]
 clear hF hb B h0 h3
 unfold Er.val
 go_enter Tryz.func65, Tryz.ntmps65
 go_wp2
 go_loopg [0] e0.depth (fun gh x wr => ∃ e t v, gh = Er.depth e /\ x = .iface t v /\ e.val sent = .iface t v /\ e.simple /\ (e.num = b ↔ e0.num = b) /\ Below w.heap.size w wr)
 case atStart => exact ⟨e0, R, S, rfl, rfl, I.out.1, I.out.2, Iff.rfl, Below.refl _ _⟩
 case round =>
  obtain ⟨e, t, v, rfl, rfl, a, f, d, c⟩ := hrel
  cases e with
  | base n =>
   unfold Er.val at a
   simp only [Value.iface.injEq] at a
   obtain ⟨rfl, rfl⟩ := a
   by_cases y : n = b
   ·subst y
    have M := run_eql_iface_ptr_same (P := Tryz.prog) wr (sent n) Tryz.underlying62 Tryz.underlying243 N u O
    have A : Aside (decide (e0.num = n) = true /\ Below w.heap.size w wr) := ⟨decide_eq_true (d.1 rfl), c⟩
    clear f d c
    go_wp2
    go_ret
    exact ⟨by rw [A.out.1]; rfl, A.out.2⟩
   ·have q := r.out.1.below c
    obtain ⟨U, Z, J⟩ := q.plain n f
    obtain ⟨V, tb, hb⟩ := q.plain b r.out.2
    have M := run_eql_iface_ptr_other (P := Tryz.prog) wr Tryz.underlying62 Tryz.underlying243 N u O (by rw [Q]; decide) (q.apart n f b r.out.2 y) J hb
    have Y := QDd
    have uE := Qf6
    have vE := Qe8
    have A : Aside (decide (e0.num = b) = false /\ Below w.heap.size w wr) := ⟨decide_eq_false fun h => y (d.2 h), c⟩
    clear f d c q J hb
    go_wp2
    go_ret
    exact ⟨by rw [A.out.1]; rfl, A.out.2⟩
  | noNode e' =>
   obtain rfl : e' = .base 3 := f
   unfold Er.val at a
   rw [show (Er.base 3).val sent = .iface 243 (.pointer (some (sent 3))) from rfl] at a
   simp only [Value.iface.injEq] at a
   obtain ⟨rfl, rfl⟩ := a
   have z := run_eql_iface_types (P := Tryz.prog) 228 243 (.agg #[.iface 243 (.pointer (some (sent 3)))]) (.pointer (some (sent b))) Tryz.underlying62 (by decide)
   have G := QC0
   have X := Qt7
   have H := Qe9
   have F := Qc9
   have D := Hq (isK sent b r.out.2 243 (.pointer (some (sent 3))) wr (r.out.1.below c))
   have p := Hq (fun W => Qkn 243 (.pointer (some (sent 3))) W)
   by_cases E : b = 8
   ·subst E
    have A : Aside (decide (e0.num = 8) = true /\ Below w.heap.size w wr) := ⟨decide_eq_true (d.1 rfl), c⟩
    clear d c
    go_wp2_with (go_at_call 166; refine D.out.mono ?_; rintro s C ⟨rfl, l⟩)
    go_ret
    exact ⟨by rw [A.out.1]; rfl, Below.behind A.out.2 l⟩
   ·have L : decide (b = 8) = false := decide_eq_false E
    have A : Aside (((Er.base 3).num = b ↔ e0.num = b) /\ Below w.heap.size w wr) := ⟨⟨fun h => absurd h.symm T.out, fun h => absurd (d.2 h).symm E⟩, c⟩
    rw [L] at D
    clear d c
    go_wp2_with (first | (go_at_call 166; refine D.out.mono ?_; rintro s C ⟨rfl, l⟩) | (go_at_call 167; refine (p.out _).mono ?_; rintro s w2 ⟨rfl, K⟩))
    go_roundg 0
    case measure => exact Nat.lt_succ_self _
    case rel => exact ⟨.base 3, _, _, rfl, rfl, rfl, by simp [Er.simple, nums], A.out.1, Below.behind (Below.behind A.out.2 l) K⟩
  | place k e' =>
   obtain ⟨m, o, g⟩ := e'.shape sent
   unfold Er.val at a
   rw [g] at a
   simp only [Value.iface.injEq] at a
   obtain ⟨rfl, rfl⟩ := a
   have z := run_eql_iface_types (P := Tryz.prog) 91 243 (.agg #[.int .i64 (k : Int), .iface m o]) (.pointer (some (sent b))) Tryz.underlying62 (by decide)
   have G := QDe
   have H := Qft
   have F := Qd8
   have p := Hq (fun W => Qof (k : Int) m o W)
   have A : Aside (e'.val sent = .iface m o /\ e'.simple /\ (e'.num = b ↔ e0.num = b) /\ Below w.heap.size w wr) := ⟨g, f, d, c⟩
   clear g f d c
   go_wp2_with (go_at_call 127; refine (p.out _).mono ?_; rintro s C ⟨rfl, l⟩)
   go_roundg e'.depth
   case measure => exact Nat.lt_succ_self _
   case rel => exact ⟨e', m, o, rfl, rfl, A.out.1, A.out.2.1, A.out.2.2.1, Below.behind A.out.2.2.2 l⟩
  | inNode k e' =>
   obtain ⟨m, o, g⟩ := e'.shape sent
   unfold Er.val at a
   rw [g] at a
   simp only [Value.iface.injEq] at a
   obtain ⟨rfl, rfl⟩ := a
   have z := run_eql_iface_types (P := Tryz.prog) 96 243 (.agg #[.int .i64 (k : Int), .iface m o]) (.pointer (some (sent b))) Tryz.underlying62 (by decide)
   have G := QDf
   have H := Qfu
   have F := Qd9
   have p := Hq (fun W => Qog (k : Int) m o W)
   have A : Aside (e'.val sent = .iface m o /\ e'.simple /\ (e'.num = b ↔ e0.num = b) /\ Below w.heap.size w wr) := ⟨g, f, d, c⟩
   clear g f d c
   go_wp2_with (go_at_call 129; refine (p.out _).mono ?_; rintro s C ⟨rfl, l⟩)
   go_roundg e'.depth
   case measure => exact Nat.lt_succ_self _
   case rel => exact ⟨e', m, o, rfl, rfl, A.out.1, A.out.2.1, A.out.2.2.1, Below.behind A.out.2.2.2 l⟩
  | inProof k e' =>
   obtain ⟨m, o, g⟩ := e'.shape sent
   unfold Er.val at a
   rw [g] at a
   simp only [Value.iface.injEq] at a
   obtain ⟨rfl, rfl⟩ := a
   have z := run_eql_iface_types (P := Tryz.prog) 99 243 (.agg #[.int .i64 (k : Int), .iface m o]) (.pointer (some (sent b))) Tryz.underlying62 (by decide)
   have G := QDg
   have H := Qfv
   have F := Qda
   have p := Hq (fun W => Qoh (k : Int) m o W)
   have A : Aside (e'.val sent = .iface m o /\ e'.simple /\ (e'.num = b ↔ e0.num = b) /\ Below w.heap.size w wr) := ⟨g, f, d, c⟩
   clear g f d c
   go_wp2_with (go_at_call 131; refine (p.out _).mono ?_; rintro s C ⟨rfl, l⟩)
   go_roundg e'.depth
   case measure => exact Nat.lt_succ_self _
   case rel => exact ⟨e', m, o, rfl, rfl, A.out.1, A.out.2.1, A.out.2.2.1, Below.behind A.out.2.2.2 l⟩
theorem QC2 (sent : Nat -> Addr) (b : Nat) (hb : b ∈ nums) (h3 : b ≠ 3) (e0 : Er) (h0 : e0.simple) (w : World) (hF : Faults w sent) :
  Calls Tryz.prog 45 #[e0.val sent, (Er.base b).val sent] w fun e w' => e = .returned (.bool (decide (e0.num = b))) /\ Below w.heap.size w w' := by
 have i := @run_callFunc_extern Tryz.prog 64 _ Extern.ReflectliteType.typeOf Tryz.func64 (by kernel_rfl) (by kernel_rfl) (by kernel_rfl) (by kernel_rfl)
 have l := Qgw
 have g := Qgu
 have j := Qf5
 have a := QC1 sent b hb h3 e0 h0 w hF
 obtain ⟨k, m, c⟩ := e0.shape sent
 rw [c] at a ⊢
 clear c
 rw [show (Er.base b).val sent = .iface 243 (.pointer (some (sent b))) from rfl] at a ⊢
 have f := Hq a
 clear a hF
 go_enter Tryz.func45, Tryz.ntmps45
 go_wp2_with (go_at_call 65; refine (f.out).mono ?_; rintro h n ⟨rfl, d⟩)
 go_ret
 exact ⟨rfl, d⟩
end Go.Proofs.YtakidhihbgfjlaaGreatDoor
