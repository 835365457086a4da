/-
  errors.Is at the errors of package fault: how deep an error is wrapped does not count.
-/
import Derived.Test.YtjiikjpnlgogfaaDoorErr
import Derived.Stop.Asserts
import Derived.LaidEql
namespace Go.Proofs.YtjiikjpnlgogfaaDoor
open Go.RowKit Go.Stop

/-- Wrapped by places and numbers alone. -/
def Er.simple : Er → Prop
  | .base n => n ∈ nums
  | .place _ e => e.simple
  | .noNode _ => False
  | .inNode _ e => e.simple
  | .inProof _ e => e.simple
/-- What is wrong at the bottom. -/
def Er.num : Er → Nat
  | .base n => n
  | .place _ e => e.num
  | .noNode e => e.num
  | .inNode _ e => e.num
  | .inProof _ e => e.num
def Er.depth : Er → Nat
  | .base _ => 0
  | .place _ e => e.depth + 1
  | .noNode e => e.depth + 1
  | .inNode _ e => e.depth + 1
  | .inProof _ e => e.depth + 1

theorem isTypeOf (v : Value) (w : World) : (Extern.ReflectliteType.typeOf #[.iface 174 v]).run Tryd.prog w = .ok (.iface 154 (.agg #[.pointer (some ⟨16, 174, none⟩)])) w := by kernel_rfl
theorem isComparable (w : World) : ((Extern.ReflectliteType.method fun t => do Extern.Rtype.noPackHeld "Comparable" t; pure (.bool (← typeInfo t).comparable)) #[.agg #[.pointer (some ⟨16, 174, none⟩)]]).run Tryd.prog w = .ok (.bool true) w := by kernel_rfl
theorem isCallComparable (w : World) : (callFunc 105 #[.agg #[.pointer (some ⟨16, 174, none⟩)]]).run Tryd.prog w = .ok (.value (.bool true)) w := by
  rw [@run_callFunc_extern Tryd.prog 105 _ (Extern.ReflectliteType.method fun t => do Extern.Rtype.noPackHeld "Comparable" t; pure (.bool (← typeInfo t).comparable)) Tryd.func105 (by kernel_rfl) (by kernel_rfl) (by kernel_rfl) (by kernel_rfl), isComparable]
  rfl
theorem isMethodComparable (v : Value) (w : World) : (Go.method 307 154 v "Comparable").run Tryd.prog w = .ok (105, v) w := by kernel_rfl
theorem isComp : (Tryd.prog.info? 174).map (·.comparable) = some true := by kernel_rfl
theorem isSize : (Tryd.prog.info? 195).map (·.size) = some 1 := by kernel_rfl

theorem noIsE (v : Value) (xT : TypeId) (w : World) : (Instr.typeAssert (.iface 174 v) xT 156 true).run Tryd.prog w = .ok (.tuple #[.nilIface, .bool false]) w := run_typeAssert_lacksB Tryd.underlying156 (by kernel_rfl) (by kernel_rfl) v xT w
theorem noUnwrapE (v : Value) (xT : TypeId) (w : World) : (Instr.typeAssert (.iface 174 v) xT 159 true).run Tryd.prog w = .ok (.tuple #[.nilIface, .bool false]) w := run_typeAssert_lacksB Tryd.underlying159 (by kernel_rfl) (by kernel_rfl) v xT w
theorem noUnwrapsE (v : Value) (xT : TypeId) (w : World) : (Instr.typeAssert (.iface 174 v) xT 161 true).run Tryd.prog w = .ok (.tuple #[.nilIface, .bool false]) w := run_typeAssert_lacksB Tryd.underlying161 (by kernel_rfl) (by kernel_rfl) v xT w
theorem noIsP (v : Value) (xT : TypeId) (w : World) : (Instr.typeAssert (.iface 101 v) xT 156 true).run Tryd.prog w = .ok (.tuple #[.nilIface, .bool false]) w := run_typeAssert_lacksB Tryd.underlying156 (by kernel_rfl) (by kernel_rfl) v xT w
theorem noIsN (v : Value) (xT : TypeId) (w : World) : (Instr.typeAssert (.iface 106 v) xT 156 true).run Tryd.prog w = .ok (.tuple #[.nilIface, .bool false]) w := run_typeAssert_lacksB Tryd.underlying156 (by kernel_rfl) (by kernel_rfl) v xT w
theorem noIsQ (v : Value) (xT : TypeId) (w : World) : (Instr.typeAssert (.iface 109 v) xT 156 true).run Tryd.prog w = .ok (.tuple #[.nilIface, .bool false]) w := run_typeAssert_lacksB Tryd.underlying156 (by kernel_rfl) (by kernel_rfl) v xT w
theorem hasUnwrapP (v : Value) (xT : TypeId) (w : World) : (Instr.typeAssert (.iface 101 v) xT 159 true).run Tryd.prog w = .ok (.tuple #[.iface 101 v, .bool true]) w := run_typeAssert_hasB Tryd.underlying159 (by kernel_rfl) v xT w
theorem hasUnwrapN (v : Value) (xT : TypeId) (w : World) : (Instr.typeAssert (.iface 106 v) xT 159 true).run Tryd.prog w = .ok (.tuple #[.iface 106 v, .bool true]) w := run_typeAssert_hasB Tryd.underlying159 (by kernel_rfl) v xT w
theorem hasUnwrapQ (v : Value) (xT : TypeId) (w : World) : (Instr.typeAssert (.iface 109 v) xT 159 true).run Tryd.prog w = .ok (.tuple #[.iface 109 v, .bool true]) w := run_typeAssert_hasB Tryd.underlying159 (by kernel_rfl) v xT w
theorem methodUnwrapP (a b : Value) (w : World) : (Go.method 307 101 (.agg #[a, b]) "Unwrap").run Tryd.prog w = .ok (95, .agg #[a, b]) w := by kernel_rfl
theorem methodUnwrapN (a b : Value) (w : World) : (Go.method 307 106 (.agg #[a, b]) "Unwrap").run Tryd.prog w = .ok (97, .agg #[a, b]) w := by kernel_rfl
theorem methodUnwrapQ (a b : Value) (w : World) : (Go.method 307 109 (.agg #[a, b]) "Unwrap").run Tryd.prog w = .ok (99, .agg #[a, b]) w := by kernel_rfl

theorem unwrapP (k : Int) (t : TypeId) (v : Value) (w : World) : Calls Tryd.prog 95 #[.agg #[.int .i64 k, .iface t v]] w fun e w' => e = .returned (.iface t v) ∧ Below w.heap.size w w' := by
  go_enter Tryd.func95, Tryd.ntmps95
  go_wp2
  go_ret
  exact ⟨rfl, (Below.refl _ _).alloc (Nat.le_refl _) _⟩
theorem unwrapN (k : Int) (t : TypeId) (v : Value) (w : World) : Calls Tryd.prog 97 #[.agg #[.int .i64 k, .iface t v]] w fun e w' => e = .returned (.iface t v) ∧ Below w.heap.size w w' := by
  go_enter Tryd.func97, Tryd.ntmps97
  go_wp2
  go_ret
  exact ⟨rfl, (Below.refl _ _).alloc (Nat.le_refl _) _⟩
theorem unwrapQ (k : Int) (t : TypeId) (v : Value) (w : World) : Calls Tryd.prog 99 #[.agg #[.int .i64 k, .iface t v]] w fun e w' => e = .returned (.iface t v) ∧ Below w.heap.size w w' := by
  go_enter Tryd.func99, Tryd.ntmps99
  go_wp2
  go_ret
  exact ⟨rfl, (Below.refl _ _).alloc (Nat.le_refl _) _⟩

set_option maxRecDepth 100000 in
set_option maxHeartbeats 1600000 in
theorem isLoop (sent : Nat → Addr) (b : Nat) (hb : b ∈ nums) (e0 : Er) (h0 : e0.simple) (w : World) (hF : Faults w sent) :
    Calls Tryd.prog 57 #[e0.val sent, (Er.base b).val sent, .bool true] w fun e w' => e = .returned (.bool (decide (e0.num = b))) ∧ Below w.heap.size w w' := by
  obtain ⟨i, hi, hcmp⟩ := Option.map_eq_some_iff.1 isComp
  obtain ⟨j, hj, hjs⟩ := Option.map_eq_some_iff.1 isSize
  obtain ⟨t0, v0, hv0⟩ := e0.shape sent
  have HV : Hid (e0.val sent = .iface t0 v0 ∧ e0.simple) := ⟨hv0, h0⟩
  have HF : Hid (Faults w sent ∧ b ∈ nums) := ⟨hF, hb⟩
  rw [hv0]
  clear hF hb hv0 h0
  unfold Er.val
  go_enter Tryd.func57, Tryd.ntmps57
  go_wp2
  go_loopg [0] e0.depth (fun gh x wr => ∃ e t v, gh = Er.depth e ∧ x = .iface t v ∧ e.val sent = .iface t v ∧ e.simple ∧ e.num = e0.num ∧ Below w.heap.size w wr)
  case atStart => exact ⟨e0, t0, v0, rfl, rfl, HV.out.1, HV.out.2, rfl, Below.refl _ _⟩
  case round =>
    obtain ⟨e, t, v, rfl, rfl, hev, hes, hen, hbw⟩ := hrel
    cases e with
    | base n =>
      unfold Er.val at hev
      simp only [Value.iface.injEq] at hev
      obtain ⟨rfl, rfl⟩ := hev
      by_cases hnb : n = b
      · subst hnb
        have heq := run_eql_iface_ptr_same (P := Tryd.prog) wr (sent n) Tryd.underlying75 Tryd.underlying174 hi hcmp hj
        have A : Aside (decide (e0.num = n) = true ∧ Below w.heap.size w wr) := ⟨by rw [← hen]; simp [Er.num], hbw⟩
        clear hes hen hbw
        go_wp2
        go_ret
        exact ⟨by rw [A.out.1]; rfl, A.out.2⟩
      · have hFr := HF.out.1.below hbw
        obtain ⟨ca, ta, ha⟩ := hFr.plain n hes
        obtain ⟨cb, tb, hb⟩ := hFr.plain b HF.out.2
        have heq := run_eql_iface_ptr_other (P := Tryd.prog) wr Tryd.underlying75 Tryd.underlying174 hi hcmp hj (by rw [hjs]; decide) (hFr.apart n hes b HF.out.2 hnb) ha hb
        have nE := noIsE
        have uE := noUnwrapE
        have vE := noUnwrapsE
        have A : Aside (decide (e0.num = b) = false ∧ Below w.heap.size w wr) := ⟨by rw [← hen]; exact decide_eq_false hnb, hbw⟩
        clear hes hen hbw hFr ha hb
        go_wp2
        go_ret
        exact ⟨by rw [A.out.1]; rfl, A.out.2⟩
    | noNode e' => exact absurd hes (by simp [Er.simple])
    | place k e' =>
      obtain ⟨t', v', hv'⟩ := e'.shape sent
      unfold Er.val at hev
      rw [hv'] at hev
      simp only [Value.iface.injEq] at hev
      obtain ⟨rfl, rfl⟩ := hev
      have hty := run_eql_iface_types (P := Tryd.prog) 101 174 (.agg #[.int .i64 (k : Int), .iface t' v']) (.pointer (some (sent b))) Tryd.underlying75 (by decide)
      have nP := noIsP
      have uP := hasUnwrapP
      have mP := methodUnwrapP
      have HU := Hid.hide (fun W => unwrapP (k : Int) t' v' W)
      have A : Aside (e'.val sent = .iface t' v' ∧ e'.simple ∧ e'.num = e0.num ∧ Below w.heap.size w wr) := ⟨hv', hes, hen, hbw⟩
      clear hv' hes hen hbw
      go_wp2_with (go_at_call 95; refine (HU.out _).mono ?_; rintro e1 w1 ⟨rfl, hb1⟩)
      go_roundg e'.depth
      case measure => exact Nat.lt_succ_self _
      case rel => exact ⟨e', t', v', rfl, rfl, A.out.1, A.out.2.1, A.out.2.2.1, Below.behind A.out.2.2.2 hb1⟩
    | inNode k e' =>
      obtain ⟨t', v', hv'⟩ := e'.shape sent
      unfold Er.val at hev
      rw [hv'] at hev
      simp only [Value.iface.injEq] at hev
      obtain ⟨rfl, rfl⟩ := hev
      have hty := run_eql_iface_types (P := Tryd.prog) 106 174 (.agg #[.int .i64 (k : Int), .iface t' v']) (.pointer (some (sent b))) Tryd.underlying75 (by decide)
      have nP := noIsN
      have uP := hasUnwrapN
      have mP := methodUnwrapN
      have HU := Hid.hide (fun W => unwrapN (k : Int) t' v' W)
      have A : Aside (e'.val sent = .iface t' v' ∧ e'.simple ∧ e'.num = e0.num ∧ Below w.heap.size w wr) := ⟨hv', hes, hen, hbw⟩
      clear hv' hes hen hbw
      go_wp2_with (go_at_call 97; refine (HU.out _).mono ?_; rintro e1 w1 ⟨rfl, hb1⟩)
      go_roundg e'.depth
      case measure => exact Nat.lt_succ_self _
      case rel => exact ⟨e', t', v', rfl, rfl, A.out.1, A.out.2.1, A.out.2.2.1, Below.behind A.out.2.2.2 hb1⟩
    | inProof k e' =>
      obtain ⟨t', v', hv'⟩ := e'.shape sent
      unfold Er.val at hev
      rw [hv'] at hev
      simp only [Value.iface.injEq] at hev
      obtain ⟨rfl, rfl⟩ := hev
      have hty := run_eql_iface_types (P := Tryd.prog) 109 174 (.agg #[.int .i64 (k : Int), .iface t' v']) (.pointer (some (sent b))) Tryd.underlying75 (by decide)
      have nP := noIsQ
      have uP := hasUnwrapQ
      have mP := methodUnwrapQ
      have HU := Hid.hide (fun W => unwrapQ (k : Int) t' v' W)
      have A : Aside (e'.val sent = .iface t' v' ∧ e'.simple ∧ e'.num = e0.num ∧ Below w.heap.size w wr) := ⟨hv', hes, hen, hbw⟩
      clear hv' hes hen hbw
      go_wp2_with (go_at_call 99; refine (HU.out _).mono ?_; rintro e1 w1 ⟨rfl, hb1⟩)
      go_roundg e'.depth
      case measure => exact Nat.lt_succ_self _
      case rel => exact ⟨e', t', v', rfl, rfl, A.out.1, A.out.2.1, A.out.2.2.1, Below.behind A.out.2.2.2 hb1⟩

set_option maxRecDepth 100000 in
theorem is_any (sent : Nat → Addr) (b : Nat) (hb : b ∈ nums) (e0 : Er) (h0 : e0.simple) (w : World) (hF : Faults w sent) :
    Calls Tryd.prog 40 #[e0.val sent, (Er.base b).val sent] w fun e w' => e = .returned (.bool (decide (e0.num = b))) ∧ Below w.heap.size w w' := by
  have h8 := @run_callFunc_extern Tryd.prog 56 _ Extern.ReflectliteType.typeOf Tryd.func56 (by kernel_rfl) (by kernel_rfl) (by kernel_rfl) (by kernel_rfl)
  have tT := isTypeOf
  have cT := isCallComparable
  have mR := isMethodComparable
  have hL := isLoop sent b hb e0 h0 w hF
  obtain ⟨t0, v0, hv0⟩ := e0.shape sent
  rw [hv0] at hL ⊢
  clear hv0
  rw [show (Er.base b).val sent = .iface 174 (.pointer (some (sent b))) from rfl] at hL ⊢
  have HL := Hid.hide hL
  clear hL hF
  go_enter Tryd.func40, Tryd.ntmps40
  go_wp2_with (go_at_call 57; refine (HL.out).mono ?_; rintro e1 w1 ⟨rfl, hb1⟩)
  go_ret
  exact ⟨rfl, hb1⟩
end Go.Proofs.YtjiikjpnlgogfaaDoor
