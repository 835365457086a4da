/-
  errors.As for fault.Place.
-/
import Derived.Test.YtjiikjpnlgogfaaGreatDoorSdAsB
namespace Go.Proofs.YtjiikjpnlgogfaaGreatDoor
open Go.RowKit Go.Extern.Stop Go.Stop Go.Extern
theorem asToEP (w : World) : (ReflectliteType.relation "AssignableTo" ReflectliteType.assignableTo #[.agg #[.pointer (some ⟨17, 423, none⟩)], .iface 313 (.agg #[.pointer (some ⟨17, 199, none⟩)])]).run Tryz.prog w = .ok (.bool false) w := by kernel_rfl
theorem asToKP (w : World) : (ReflectliteType.relation "AssignableTo" ReflectliteType.assignableTo #[.agg #[.pointer (some ⟨17, 392, none⟩)], .iface 313 (.agg #[.pointer (some ⟨17, 199, none⟩)])]).run Tryz.prog w = .ok (.bool false) w := by kernel_rfl
theorem asToPP (w : World) : (ReflectliteType.relation "AssignableTo" ReflectliteType.assignableTo #[.agg #[.pointer (some ⟨17, 199, none⟩)], .iface 313 (.agg #[.pointer (some ⟨17, 199, none⟩)])]).run Tryz.prog w = .ok (.bool true) w := by kernel_rfl
theorem asToNP (w : World) : (ReflectliteType.relation "AssignableTo" ReflectliteType.assignableTo #[.agg #[.pointer (some ⟨17, 196, none⟩)], .iface 313 (.agg #[.pointer (some ⟨17, 199, none⟩)])]).run Tryz.prog w = .ok (.bool false) w := by kernel_rfl
theorem asToQP (w : World) : (ReflectliteType.relation "AssignableTo" ReflectliteType.assignableTo #[.agg #[.pointer (some ⟨17, 204, none⟩)], .iface 313 (.agg #[.pointer (some ⟨17, 199, none⟩)])]).run Tryz.prog w = .ok (.bool false) w := by kernel_rfl
theorem asValueOfP (t : Addr) (w : World) : (ReflectliteValue.unpack (.iface 201 (.pointer (some t)))).run Tryz.prog w = .ok (.agg #[.pointer (some ⟨17, 201, none⟩), .pointer (some ⟨w.heap.size, 0, none⟩), .int .u64 150]) (w.alloc (.cells #[.pointer (some t)] 201)) := by kernel_rfl
theorem asTypeP (a : Addr) (w : World) : (ReflectliteValue.methodAny (ReflectliteValue.valueError "reflectlite.Value.Type" 0) (fun t _ _ _ => ReflectliteType.toType t) #[.agg #[.pointer (some ⟨17, 201, none⟩), .pointer (some a), .int .u64 150]]).run Tryz.prog w = .ok (.iface 313 (.agg #[.pointer (some ⟨17, 201, none⟩)])) w := by kernel_rfl
theorem asKindRP (w : World) : ((ReflectliteType.abiMethod fun t => (fun a : Nat => Value.int IntKind.u8 (a : Int)) <$> Rtype.kind t) #[.pointer (some ⟨17, 201, none⟩)]).run Tryz.prog w = .ok (.int .u8 22) w := by kernel_rfl
theorem asKindSP (w : World) : ((ReflectliteType.abiMethod fun t => (fun a : Nat => Value.int IntKind.u8 (a : Int)) <$> Rtype.kind t) #[.pointer (some ⟨17, 199, none⟩)]).run Tryz.prog w = .ok (.int .u8 25) w := by kernel_rfl
theorem asPartsRP (a : Addr) (w : World) : (ReflectliteValue.parts (.agg #[.pointer (some ⟨17, 201, none⟩), .pointer (some a), .int .u64 150])).run Tryz.prog w = .ok (some (201, a, 150)) w := by kernel_rfl
theorem asIsNilP (a p : Addr) (W : World) (ha : W.cell? a = some (.pointer (some p))) :
  (ReflectliteValue.method (ReflectliteValue.valueError "reflectlite.Value.IsNil" 0) ReflectliteValue.isNil #[.agg #[.pointer (some ⟨17, 201, none⟩), .pointer (some a), .int .u64 150]]).run Tryz.prog W = .ok (.bool false) W := by
 rw [rlm]
 simp only [Sem.run_bind, asPartsRP, Result.andThen]
 simp [ReflectliteValue.isNil, loadVar, isAgg, underlying, Tryz.underlying201, ha, Result.andThen]
theorem asElemP (w : World) : (ReflectliteType.method ReflectliteType.elem #[.agg #[.pointer (some ⟨17, 201, none⟩)]]).run Tryz.prog w = .ok (.iface 313 (.agg #[.pointer (some ⟨17, 199, none⟩)])) w := by kernel_rfl
theorem asImplementsP (w : World) : (ReflectliteType.relation "Implements" ReflectliteType.implements_ #[.agg #[.pointer (some ⟨17, 199, none⟩)], .iface 313 (.agg #[.pointer (some ⟨17, 114, none⟩)])]).run Tryz.prog w = .ok (.bool true) w := by kernel_rfl
theorem asValueSP (a b : Value) (w : World) : (ReflectliteValue.unpack (.iface 199 (.agg #[a, b]))).run Tryz.prog w = .ok (.agg #[.pointer (some ⟨17, 199, none⟩), .pointer (some ⟨w.heap.size, 0, none⟩), .int .u64 153]) (w.alloc (.cells #[a, b] 199)) := by kernel_rfl
theorem asElemOfP (w : World) : (Rtype.elem? 201).run Tryz.prog w = .ok (some 199) w := by kernel_rfl
theorem asMkP (p : Addr) (w : World) : (ReflectliteValue.mk 199 p ReflectliteValue.flagAddr).run Tryz.prog w = .ok (.agg #[.pointer (some ⟨17, 199, none⟩), .pointer (some p), .int .u64 409]) w := by kernel_rfl
theorem asElemVP (a p : Addr) (W : World) (ha : W.cell? a = some (.pointer (some p))) :
  (ReflectliteValue.method (ReflectliteValue.valueError "reflectlite.Value.Elem" 0) ReflectliteValue.elem #[.agg #[.pointer (some ⟨17, 201, none⟩), .pointer (some a), .int .u64 150]]).run Tryz.prog W = .ok (.agg #[.pointer (some ⟨17, 199, none⟩), .pointer (some p), .int .u64 409]) W := by
 rw [rlm]
 simp only [Sem.run_bind, asPartsRP, Result.andThen]
 simp [ReflectliteValue.elem, loadVar, isAgg, underlying, Tryz.underlying201, ha, Result.andThen, asElemOfP, asMkP]
theorem asPartsAP (a : Addr) (w : World) : (ReflectliteValue.parts (.agg #[.pointer (some ⟨17, 199, none⟩), .pointer (some a), .int .u64 409])).run Tryz.prog w = .ok (some (199, a, 409)) w := by kernel_rfl
theorem asPartsSP (a : Addr) (w : World) : (ReflectliteValue.parts (.agg #[.pointer (some ⟨17, 199, none⟩), .pointer (some a), .int .u64 153])).run Tryz.prog w = .ok (some (199, a, 153)) w := by kernel_rfl
theorem asDirectP (w : World) : (Rtype.directlyAssignable 199 199).run Tryz.prog w = .ok true w := by kernel_rfl
theorem asSetP (tb bb : Nat) (x y o0 o1 : Value) (hx : x.oneCell' = true) (hy : y.oneCell' = true) (W : World) (hb0 : W.cell? ⟨bb, 0, none⟩ = some x) (hb1 : W.cell? ⟨bb, 1, none⟩ = some y) (h0 : W.cell? ⟨tb, 0, none⟩ = some o0) (h1 : W.cell? ⟨tb, 1, none⟩ = some o1) (f0 : W.frozen? ⟨tb, 0, none⟩ = false) (f1 : W.frozen? ⟨tb, 1, none⟩ = false) :
  (ReflectliteValue.set #[.agg #[.pointer (some ⟨17, 199, none⟩), .pointer (some ⟨tb, 0, none⟩), .int .u64 409], .agg #[.pointer (some ⟨17, 199, none⟩), .pointer (some ⟨bb, 0, none⟩), .int .u64 153]]).run Tryz.prog W = .ok (.tuple #[]) ((W.setCell ⟨tb, 0, none⟩ x).setCell ⟨tb, 1, none⟩ y) := by
 rw [rls]
 simp only [Sem.run_bind, asPartsAP, asPartsSP, Result.andThen]
 have hl := run_loadCells_list (P := Tryz.prog) W ⟨bb, 0, none⟩ [x, y] (fun j v hv => by
  match j, hv with
  | 0, hv => cases hv; exact hb0
  | 1, hv => cases hv; exact hb1)
 simp only [List.length_cons, List.length_nil] at hl
 have hst := run_storeCells_cells (P := Tryz.prog) tb 0 [x, y] 0 W (fun j hj => by
  match j, hj with
  | 0, _ => rw [show (⟨tb, 0 + 0 + 0, none⟩ : Addr) = ⟨tb, 0, none⟩ from rfl, h0]; rfl
  | 1, _ => rw [show (⟨tb, 0 + 0 + 1, none⟩ : Addr) = ⟨tb, 1, none⟩ from rfl, h1]; rfl) (fun j hj => by
  match j, hj with
  | 0, _ => exact f0
  | 1, _ => exact f1) (fun v hv => by
  simp only [List.mem_cons, List.not_mem_nil, or_false] at hv
  rcases hv with rfl | rfl
  ·exact hx
  ·exact hy)
 simp [ReflectliteValue.flagAddr, loadVar, isAgg, underlying, Tryz.underlying199, Result.andThen, asDirectP, storeVar, Value.cells]
 rw [hl]
 simp
 rw [hst]
 rfl
set_option maxRecDepth 100000 in
set_option maxHeartbeats 3200000 in
theorem asLoopP (sent : Nat → Addr) (e0 : Er) (h0 : e0.simple) (ab tb : Nat) (o0 o1 : Value) (w : World) (ha : w.cell? ⟨ab, 0, none⟩ = some (.pointer (some ⟨tb, 0, none⟩))) (ht0 : w.cell? ⟨tb, 0, none⟩ = some o0) (ht1 : w.cell? ⟨tb, 1, none⟩ = some o1) (hf0 : w.frozen? ⟨tb, 0, none⟩ = false) (hf1 : w.frozen? ⟨tb, 1, none⟩ = false) :
  Calls Tryz.prog 159 #[e0.val sent, .iface 201 (.pointer (some ⟨tb, 0, none⟩)), .agg #[.pointer (some ⟨17, 201, none⟩), .pointer (some ⟨ab, 0, none⟩), .int .u64 150], .iface 313 (.agg #[.pointer (some ⟨17, 199, none⟩)])] w (AsSaid e0.asP sent tb w) := by
 have hT0 := @run_callFunc_extern Tryz.prog 145 _ ReflectliteType.typeOf Tryz.func145 (by kernel_rfl) (by kernel_rfl) (by kernel_rfl) (by kernel_rfl)
 have hA0 := @run_callFunc_extern Tryz.prog 314 _ (ReflectliteType.relation "AssignableTo" ReflectliteType.assignableTo) Tryz.func314 (by kernel_rfl) (by kernel_rfl) (by kernel_rfl) (by kernel_rfl)
 have hV0 := @run_callFunc_extern Tryz.prog 156 _ (fun args => ReflectliteValue.unpack (args.getD 0 (.tuple #[]))) Tryz.func156 (by kernel_rfl) (by kernel_rfl) (by kernel_rfl) (by kernel_rfl)
 have hE0 := @run_callFunc_extern Tryz.prog 207 _ (ReflectliteValue.method (ReflectliteValue.valueError "reflectlite.Value.Elem" 0) ReflectliteValue.elem) Tryz.func207 (by kernel_rfl) (by kernel_rfl) (by kernel_rfl) (by kernel_rfl)
 have hS0 := @run_callFunc_extern Tryz.prog 208 _ ReflectliteValue.set Tryz.func208 (by kernel_rfl) (by kernel_rfl) (by kernel_rfl) (by kernel_rfl)
 have mA := asMethodAssignableTo
 obtain ⟨t0, v0, hv0⟩ := e0.shape sent
 have HV : Hid (e0.val sent = .iface t0 v0 ∧ e0.simple) := ⟨hv0, h0⟩
 have hla : ab < w.heap.size := World.block_lt_of_cell? w _ ha
 have hlt : tb < w.heap.size := World.block_lt_of_cell? w _ ht0
 have HC : Hid (w.cell? ⟨ab, 0, none⟩ = some (.pointer (some ⟨tb, 0, none⟩)) ∧ w.cell? ⟨tb, 0, none⟩ = some o0 ∧ w.cell? ⟨tb, 1, none⟩ = some o1 ∧ w.frozen? ⟨tb, 0, none⟩ = false ∧ w.frozen? ⟨tb, 1, none⟩ = false ∧ ab < w.heap.size ∧ tb < w.heap.size) := ⟨ha, ht0, ht1, hf0, hf1, hla, hlt⟩
 rw [hv0]
 clear hv0 h0 ha ht0 ht1 hf0 hf1 hla hlt
 go_enter Tryz.func159, Tryz.ntmps159
 go_wp2
 go_loopg [0] e0.depth (fun gh x wr => ∃ e t v, gh = Er.depth e ∧ x = .iface t v ∧ e.val sent = .iface t v ∧ e.simple ∧ e.asP = e0.asP ∧ Below (w.alloc (.cells #[.pointer (some ⟨17, 201, none⟩), .pointer (some ⟨ab, 0, none⟩), .int .u64 150] 265)).heap.size (w.alloc (.cells #[.pointer (some ⟨17, 201, none⟩), .pointer (some ⟨ab, 0, none⟩), .int .u64 150] 265)) wr)
 case atStart => exact ⟨e0, t0, v0, rfl, rfl, HV.out.1, HV.out.2, rfl, Below.refl _ _⟩
 case round =>
  obtain ⟨e, t, v, rfl, rfl, hev, hes, hen, hbw⟩ := hrel
  cases e with
  | base n =>
   unfold Er.val at hev
   simp only [Value.iface.injEq] at hev
   obtain ⟨rfl, rfl⟩ := hev
   have tO := isTypeOf
   have aT := asToEP
   have nA := noAsE
   have uE := noUnwrapE
   have vE := noUnwrapsE
   have A : Aside (e0.asP = none ∧ Below w.heap.size w wr) := ⟨hen.symm, Below.up hbw⟩
   clear hes hen hbw
   go_wp2
   go_ret
   exact ⟨fun _ => ⟨rfl, A.out.2⟩, fun k x hx => by rw [A.out.1] at hx; cases hx⟩
  | noNode e' =>
   obtain rfl : e' = .base 3 := hes
   unfold Er.val at hev
   rw [show (Er.base 3).val sent = .iface 423 (.pointer (some (sent 3))) from rfl] at hev
   simp only [Value.iface.injEq] at hev
   obtain ⟨rfl, rfl⟩ := hev
   have tO := asTypeOfK
   have aT := asToKP
   have nA := noAsK
   have uP := hasUnwrapK
   have mP := methodUnwrapK
   have HU := Hid.hide (fun W => unwrapK 423 (.pointer (some (sent 3))) W)
   have A : Aside ((Er.base 3).asP = e0.asP ∧ Below (w.alloc (.cells #[.pointer (some ⟨17, 201, none⟩), .pointer (some ⟨ab, 0, none⟩), .int .u64 150] 265)).heap.size (w.alloc (.cells #[.pointer (some ⟨17, 201, none⟩), .pointer (some ⟨ab, 0, none⟩), .int .u64 150] 265)) wr) := ⟨hen, hbw⟩
   clear hen hbw
   go_wp2_with (go_at_call 327; refine (HU.out _).mono ?_; rintro e1 w1 ⟨rfl, hb1⟩)
   go_roundg 0
   case measure => exact Nat.lt_succ_self _
   case rel => exact ⟨.base 3, _, _, rfl, rfl, rfl, by simp [Er.simple, nums], A.out.1, Below.behind A.out.2 hb1⟩
  | inNode m e' =>
   obtain ⟨t', v', hv'⟩ := e'.shape sent
   unfold Er.val at hev
   rw [hv'] at hev
   simp only [Value.iface.injEq] at hev
   obtain ⟨rfl, rfl⟩ := hev
   have tO := asTypeOfN
   have aT := asToNP
   have nA := noAsN
   have uP := hasUnwrapN
   have mP := methodUnwrapN
   have HU := Hid.hide (fun W => unwrapN (m : Int) t' v' W)
   have A : Aside (e'.val sent = .iface t' v' ∧ e'.simple ∧ e'.asP = e0.asP ∧ Below (w.alloc (.cells #[.pointer (some ⟨17, 201, none⟩), .pointer (some ⟨ab, 0, none⟩), .int .u64 150] 265)).heap.size (w.alloc (.cells #[.pointer (some ⟨17, 201, none⟩), .pointer (some ⟨ab, 0, none⟩), .int .u64 150] 265)) wr) := ⟨hv', hes, hen, hbw⟩
   clear hv' hes hen hbw
   go_wp2_with (go_at_call 305; refine (HU.out _).mono ?_; rintro e1 w1 ⟨rfl, hb1⟩)
   go_roundg e'.depth
   case measure => exact Nat.lt_succ_self _
   case rel => exact ⟨e', t', v', rfl, rfl, A.out.1, A.out.2.1, A.out.2.2.1, Below.behind A.out.2.2.2 hb1⟩
  | inProof m e' =>
   obtain ⟨t', v', hv'⟩ := e'.shape sent
   unfold Er.val at hev
   rw [hv'] at hev
   simp only [Value.iface.injEq] at hev
   obtain ⟨rfl, rfl⟩ := hev
   have tO := asTypeOfQ
   have aT := asToQP
   have nA := noAsQ
   have uP := hasUnwrapQ
   have mP := methodUnwrapQ
   have HU := Hid.hide (fun W => unwrapQ (m : Int) t' v' W)
   have A : Aside (e'.val sent = .iface t' v' ∧ e'.simple ∧ e'.asP = e0.asP ∧ Below (w.alloc (.cells #[.pointer (some ⟨17, 201, none⟩), .pointer (some ⟨ab, 0, none⟩), .int .u64 150] 265)).heap.size (w.alloc (.cells #[.pointer (some ⟨17, 201, none⟩), .pointer (some ⟨ab, 0, none⟩), .int .u64 150] 265)) wr) := ⟨hv', hes, hen, hbw⟩
   clear hv' hes hen hbw
   go_wp2_with (go_at_call 309; refine (HU.out _).mono ?_; rintro e1 w1 ⟨rfl, hb1⟩)
   go_roundg e'.depth
   case measure => exact Nat.lt_succ_self _
   case rel => exact ⟨e', t', v', rfl, rfl, A.out.1, A.out.2.1, A.out.2.2.1, Below.behind A.out.2.2.2 hb1⟩
  | place m e' =>
   obtain ⟨t', v', hv'⟩ := e'.shape sent
   unfold Er.val at hev
   rw [hv'] at hev
   simp only [Value.iface.injEq] at hev
   obtain ⟨rfl, rfl⟩ := hev
   obtain ⟨ha, ht0, ht1, hf0, hf1, hla, hlt⟩ := HC.out
   have tO := asTypeOfP
   have aT := asToPP
   have vS := asValueSP
   obtain ⟨b0, _⟩ := newCell hbw 0 (v := .pointer (some ⟨17, 201, none⟩)) rfl
   obtain ⟨b1, _⟩ := newCell hbw 1 (v := .pointer (some ⟨ab, 0, none⟩)) rfl
   obtain ⟨b2, _⟩ := newCell hbw 2 (v := .int .u64 150) rfl
   have hB := Below.up hbw
   have hsz := hB.size
   have el := asElemVP ⟨ab, 0, none⟩ ⟨tb, 0, none⟩ wr ((hB.cell hla).trans ha)
   have st := asSetP tb wr.heap.size (.int .i64 (m : Int)) (.iface t' v') o0 o1 rfl rfl (wr.alloc (.cells #[.int .i64 (m : Int), .iface t' v'] 199)) (by rw [World.cell?_alloc_new]; rfl) (by rw [World.cell?_alloc_new]; rfl)
    ((World.cell?_alloc_past _ _ _ (by omega)).trans ((hB.cell hlt).trans ht0)) ((World.cell?_alloc_past _ _ _ (by omega)).trans ((hB.cell (p := ⟨tb, 1, none⟩) hlt).trans ht1))
    ((World.frozen?_alloc_past _ _ _ (by omega)).trans ((hB.frozen hlt).trans hf0)) ((World.frozen?_alloc_past _ _ _ (by omega)).trans ((hB.frozen (p := ⟨tb, 1, none⟩) hlt).trans hf1))
   have A : Aside (e0.asP = some (m, e') ∧ e'.val sent = .iface t' v' ∧ Below w.heap.size w wr) := ⟨hen.symm, hv', hB⟩
   clear hv' hes hen hbw hB hsz ha ht0 ht1 hf0 hf1 hla hlt
   go_wp2
   go_ret
   refine ⟨fun hx => (by rw [A.out.1] at hx; cases hx), fun k x hx => ?_⟩
   rw [A.out.1] at hx
   cases hx
   exact ⟨rfl, _, A.out.2.2.alloc A.out.2.2.size _, by rw [A.out.2.1]⟩
set_option maxRecDepth 100000 in
set_option maxHeartbeats 3200000 in
theorem as_P (sent : Nat → Addr) (e0 : Er) (h0 : e0.simple) (tb : Nat) (o0 o1 : Value) (w : World) (hg : w.cell? ⟨12, 0, none⟩ = some (.iface 313 (.agg #[.pointer (some ⟨17, 114, none⟩)]))) (ht0 : w.cell? ⟨tb, 0, none⟩ = some o0) (ht1 : w.cell? ⟨tb, 1, none⟩ = some o1) (hf0 : w.frozen? ⟨tb, 0, none⟩ = false) (hf1 : w.frozen? ⟨tb, 1, none⟩ = false) :
  Calls Tryz.prog 101 #[e0.val sent, .iface 201 (.pointer (some ⟨tb, 0, none⟩))] w (AsSaid e0.asP sent tb w) := by
 have hV0 := @run_callFunc_extern Tryz.prog 156 _ (fun args => ReflectliteValue.unpack (args.getD 0 (.tuple #[]))) Tryz.func156 (by kernel_rfl) (by kernel_rfl) (by kernel_rfl) (by kernel_rfl)
 have hY0 := @run_callFunc_extern Tryz.prog 157 _ (ReflectliteValue.methodAny (ReflectliteValue.valueError "reflectlite.Value.Type" 0) (fun t _ _ _ => ReflectliteType.toType t)) Tryz.func157 (by kernel_rfl) (by kernel_rfl) (by kernel_rfl) (by kernel_rfl)
 have hN0 := @run_callFunc_extern Tryz.prog 158 _ (ReflectliteValue.method (ReflectliteValue.valueError "reflectlite.Value.IsNil" 0) ReflectliteValue.isNil) Tryz.func158 (by kernel_rfl) (by kernel_rfl) (by kernel_rfl) (by kernel_rfl)
 have hK0 := @run_callFunc_extern Tryz.prog 285 _ (ReflectliteType.abiMethod fun t => do pure (.int .u8 (← Rtype.kind t))) Tryz.func285 (by kernel_rfl) (by kernel_rfl) (by kernel_rfl) (by kernel_rfl)
 have hL0 := @run_callFunc_extern Tryz.prog 316 _ (ReflectliteType.method ReflectliteType.elem) Tryz.func316 (by kernel_rfl) (by kernel_rfl) (by kernel_rfl) (by kernel_rfl)
 have hI0 := @run_callFunc_extern Tryz.prog 317 _ (ReflectliteType.relation "Implements" ReflectliteType.implements_) Tryz.func317 (by kernel_rfl) (by kernel_rfl) (by kernel_rfl) (by kernel_rfl)
 have mK := asMethodKind
 have mE := asMethodElem
 have mI := asMethodImplements
 have v1 := asValueOfP
 have v2 := asTypeP
 have v3 := asKindRP
 have v4 := asKindSP
 have v5 := asElemP
 have v6 := asImplementsP
 have hlg : 12 < w.heap.size := World.block_lt_of_cell? w _ hg
 have hlt : tb < w.heap.size := World.block_lt_of_cell? w _ ht0
 obtain ⟨W, hW⟩ : ∃ W, W = (w.alloc (.cells #[.pointer (some ⟨tb, 0, none⟩)] 201)).alloc (.cells #[.pointer (some ⟨17, 201, none⟩), .pointer (some ⟨w.heap.size, 0, none⟩), .int .u64 150] 265) := ⟨_, rfl⟩
 have hWB : Below w.heap.size w W := by rw [hW]; exact ((Below.refl _ _).alloc (Nat.le_refl _) _).alloc (by simp) _
 have ha : W.cell? ⟨w.heap.size, 0, none⟩ = some (.pointer (some ⟨tb, 0, none⟩)) := by
  rw [hW, World.cell?_alloc_past _ _ _ (by simp), World.cell?_alloc_new]
  rfl
 have v7 := asIsNilP ⟨w.heap.size, 0, none⟩ ⟨tb, 0, none⟩ W ha
 have hgW : W.cell? ⟨12, 0, none⟩ = some (.iface 313 (.agg #[.pointer (some ⟨17, 114, none⟩)])) := (hWB.cell hlg).trans hg
 have HL := Hid.hide (asLoopP sent e0 h0 w.heap.size tb o0 o1 W ha ((hWB.cell hlt).trans ht0) ((hWB.cell (p := ⟨tb, 1, none⟩) hlt).trans ht1) ((hWB.frozen hlt).trans hf0) ((hWB.frozen (p := ⟨tb, 1, none⟩) hlt).trans hf1))
 have A : Aside (Below w.heap.size w W) := hWB
 obtain ⟨t0, v0, hv0⟩ := e0.shape sent
 rw [hv0] at HL ⊢
 rw [hW] at v7 hgW HL A
 clear hv0 hWB ha hlg hlt hg ht0 ht1 hf0 hf1 hW
 rcases hr : e0.asP with _ | ⟨m, x⟩
 ·have HL2 := Hid.hide (HL.out.mono fun e w' h => h.1 hr)
  clear HL hr h0
  go_enter Tryz.func101, Tryz.ntmps101
  go_wp2_with (go_at_call 159; refine (HL2.out).mono ?_; rintro e1 w1 ⟨rfl, hb⟩)
  go_ret
  exact ⟨fun _ => ⟨rfl, Below.behind A.out hb⟩, fun k x hx => by cases hx⟩
 ·have HL2 := Hid.hide (HL.out.mono fun e w' h => h.2 m x hr)
  clear HL hr h0
  go_enter Tryz.func101, Tryz.ntmps101
  go_wp2_with (go_at_call 159; refine (HL2.out).mono ?_; rintro e1 w1 ⟨rfl, w2, hb, rfl⟩)
  go_ret
  refine ⟨fun hx => (by cases hx), fun k y hy => ?_⟩
  cases hy
  exact ⟨rfl, w2, Below.behind A.out hb, rfl⟩
end Go.Proofs.YtjiikjpnlgogfaaGreatDoor
