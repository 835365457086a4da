/-
  errors.As for fault.Place.
-/
import Derived.Test.YtoohdfiddbfacaaGreatDoorTeAsB
namespace Go.Proofs.YtoohdfiddbfacaaGreatDoor
open Go.RowKit Go.Extern.Stop Go.Stop Go.Extern
set_option maxRecDepth 100000
set_option maxHeartbeats 25600000
theorem asToEP (w : World) : (ReflectliteType.relation "AssignableTo" ReflectliteType.assignableTo #[.agg #[.pointer (some ⟨16, 244, none⟩)], .iface 177 (.agg #[.pointer (some ⟨16, 112, none⟩)])]).run Tryz.prog w = .ok (.bool false) w := by kernel_rfl
theorem asToKP (w : World) : (ReflectliteType.relation "AssignableTo" ReflectliteType.assignableTo #[.agg #[.pointer (some ⟨16, 233, none⟩)], .iface 177 (.agg #[.pointer (some ⟨16, 112, none⟩)])]).run Tryz.prog w = .ok (.bool false) w := by kernel_rfl
theorem asToPP (w : World) : (ReflectliteType.relation "AssignableTo" ReflectliteType.assignableTo #[.agg #[.pointer (some ⟨16, 112, none⟩)], .iface 177 (.agg #[.pointer (some ⟨16, 112, none⟩)])]).run Tryz.prog w = .ok (.bool true) w := by kernel_rfl
theorem asToNP (w : World) : (ReflectliteType.relation "AssignableTo" ReflectliteType.assignableTo #[.agg #[.pointer (some ⟨16, 110, none⟩)], .iface 177 (.agg #[.pointer (some ⟨16, 112, none⟩)])]).run Tryz.prog w = .ok (.bool false) w := by kernel_rfl
theorem asToQP (w : World) : (ReflectliteType.relation "AssignableTo" ReflectliteType.assignableTo #[.agg #[.pointer (some ⟨16, 105, none⟩)], .iface 177 (.agg #[.pointer (some ⟨16, 112, none⟩)])]).run Tryz.prog w = .ok (.bool false) w := by kernel_rfl
theorem asValueOfP (t : Addr) (w : World) : (ReflectliteValue.unpack (.iface 114 (.pointer (some t)))).run Tryz.prog w = .ok (.agg #[.pointer (some ⟨16, 114, none⟩), .pointer (some ⟨w.heap.size, 0, none⟩), .int .u64 150]) (w.alloc (.cells #[.pointer (some t)] 114)) := by kernel_rfl
theorem asTypeP (a : Addr) (w : World) : (ReflectliteValue.methodAny (ReflectliteValue.valueError "reflectlite.Value.Type" 0) (fun t _ _ _ => ReflectliteType.toType t) #[.agg #[.pointer (some ⟨16, 114, none⟩), .pointer (some a), .int .u64 150]]).run Tryz.prog w = .ok (.iface 177 (.agg #[.pointer (some ⟨16, 114, none⟩)])) w := by kernel_rfl
theorem asKindRP (w : World) : ((ReflectliteType.abiMethod fun t => (fun a : Nat => Value.int IntKind.u8 (a : Int)) <$> Rtype.kind t) #[.pointer (some ⟨16, 114, none⟩)]).run Tryz.prog w = .ok (.int .u8 22) w := by kernel_rfl
theorem asKindSP (w : World) : ((ReflectliteType.abiMethod fun t => (fun a : Nat => Value.int IntKind.u8 (a : Int)) <$> Rtype.kind t) #[.pointer (some ⟨16, 112, none⟩)]).run Tryz.prog w = .ok (.int .u8 25) w := by kernel_rfl
theorem asPartsRP (a : Addr) (w : World) : (ReflectliteValue.parts (.agg #[.pointer (some ⟨16, 114, none⟩), .pointer (some a), .int .u64 150])).run Tryz.prog w = .ok (some (114, a, 150)) w := by kernel_rfl
theorem asIsNilP (a p : Addr) (W : World) (ha : W.cell? a = some (.pointer (some p))) :
  (ReflectliteValue.method (ReflectliteValue.valueError "reflectlite.Value.IsNil" 0) ReflectliteValue.isNil #[.agg #[.pointer (some ⟨16, 114, none⟩), .pointer (some a), .int .u64 150]]).run Tryz.prog W = .ok (.bool false) W := by
 rw [rlm]
 simp only [Sem.run_bind, asPartsRP, Result.andThen]
 simp [ReflectliteValue.isNil, loadVar, isAgg, underlying, Tryz.underlying114, ha, Result.andThen]
theorem asElemP (w : World) : (ReflectliteType.method ReflectliteType.elem #[.agg #[.pointer (some ⟨16, 114, none⟩)]]).run Tryz.prog w = .ok (.iface 177 (.agg #[.pointer (some ⟨16, 112, none⟩)])) w := by kernel_rfl
theorem asImplementsP (w : World) : (ReflectliteType.relation "Implements" ReflectliteType.implements_ #[.agg #[.pointer (some ⟨16, 112, none⟩)], .iface 177 (.agg #[.pointer (some ⟨16, 76, none⟩)])]).run Tryz.prog w = .ok (.bool true) w := by kernel_rfl
theorem asValueSP (a b : Value) (w : World) : (ReflectliteValue.unpack (.iface 112 (.agg #[a, b]))).run Tryz.prog w = .ok (.agg #[.pointer (some ⟨16, 112, none⟩), .pointer (some ⟨w.heap.size, 0, none⟩), .int .u64 153]) (w.alloc (.cells #[a, b] 112)) := by kernel_rfl
theorem asElemOfP (w : World) : (Rtype.elem? 114).run Tryz.prog w = .ok (some 112) w := by kernel_rfl
theorem asMkP (p : Addr) (w : World) : (ReflectliteValue.mk 112 p ReflectliteValue.flagAddr).run Tryz.prog w = .ok (.agg #[.pointer (some ⟨16, 112, none⟩), .pointer (some p), .int .u64 409]) w := by kernel_rfl
theorem asElemVP (a p : Addr) (W : World) (ha : W.cell? a = some (.pointer (some p))) :
  (ReflectliteValue.method (ReflectliteValue.valueError "reflectlite.Value.Elem" 0) ReflectliteValue.elem #[.agg #[.pointer (some ⟨16, 114, none⟩), .pointer (some a), .int .u64 150]]).run Tryz.prog W = .ok (.agg #[.pointer (some ⟨16, 112, none⟩), .pointer (some p), .int .u64 409]) W := by
 rw [rlm]
 simp only [Sem.run_bind, asPartsRP, Result.andThen]
 simp [ReflectliteValue.elem, loadVar, isAgg, underlying, Tryz.underlying114, ha, Result.andThen, asElemOfP, asMkP]
theorem asPartsAP (a : Addr) (w : World) : (ReflectliteValue.parts (.agg #[.pointer (some ⟨16, 112, none⟩), .pointer (some a), .int .u64 409])).run Tryz.prog w = .ok (some (112, a, 409)) w := by kernel_rfl
theorem asPartsSP (a : Addr) (w : World) : (ReflectliteValue.parts (.agg #[.pointer (some ⟨16, 112, none⟩), .pointer (some a), .int .u64 153])).run Tryz.prog w = .ok (some (112, a, 153)) w := by kernel_rfl
theorem asDirectP (w : World) : (Rtype.directlyAssignable 112 112).run Tryz.prog w = .ok true w := by kernel_rfl
theorem asSetP (tb bb : Nat) (x y o0 o1 : Value) (hx : x.oneCell' = true) (hy : y.oneCell' = true) (W : World) (hb0 : W.cell? ⟨bb, 0, none⟩ = some x) (hb1 : W.cell? ⟨bb, 1, none⟩ = some y) (h0 : W.cell? ⟨tb, 0, none⟩ = some o0) (h1 : W.cell? ⟨tb, 1, none⟩ = some o1) (f0 : W.frozen? ⟨tb, 0, none⟩ = false) (f1 : W.frozen? ⟨tb, 1, none⟩ = false) :
  (ReflectliteValue.set #[.agg #[.pointer (some ⟨16, 112, none⟩), .pointer (some ⟨tb, 0, none⟩), .int .u64 409], .agg #[.pointer (some ⟨16, 112, none⟩), .pointer (some ⟨bb, 0, none⟩), .int .u64 153]]).run Tryz.prog W = .ok (.tuple #[]) ((W.setCell ⟨tb, 0, none⟩ x).setCell ⟨tb, 1, none⟩ y) := by
 rw [rls]
 simp only [Sem.run_bind, asPartsAP, asPartsSP, Result.andThen]
 have b := run_loadCells_list (P := Tryz.prog) W ⟨bb, 0, none⟩ [x, y] (fun j v hv => by
  match j, hv with
  | 0, hv => cases hv; exact hb0
  | 1, hv => cases hv; exact hb1)
 simp only [List.length_cons, List.length_nil] at b
 have c := run_storeCells_cells (P := Tryz.prog) tb 0 [x, y] 0 W (fun j a => by
  match j, a with
  | 0, _ => rw [show (⟨tb, 0 + 0 + 0, none⟩ : Addr) = ⟨tb, 0, none⟩ from rfl, h0]; rfl
  | 1, _ => rw [show (⟨tb, 0 + 0 + 1, none⟩ : Addr) = ⟨tb, 1, none⟩ from rfl, h1]; rfl) (fun j a => by
  match j, a with
  | 0, _ => exact f0
  | 1, _ => exact f1) (fun v hv => by
  simp only [List.mem_cons, List.not_mem_nil, or_false] at hv
  rcases hv with rfl | rfl
  ·exact hx
  ·exact hy)
 simp [ReflectliteValue.flagAddr, loadVar, isAgg, underlying, Tryz.underlying112, Result.andThen, asDirectP, storeVar, Value.cells]
 rw [b]
 simp
 rw [c]
 rfl
theorem asLoopP (sent : Nat -> Addr) (e0 : Er) (h0 : e0.simple) (ab tb : Nat) (o0 o1 : Value) (w : World) (ha : w.cell? ⟨ab, 0, none⟩ = some (.pointer (some ⟨tb, 0, none⟩))) (ht0 : w.cell? ⟨tb, 0, none⟩ = some o0) (ht1 : w.cell? ⟨tb, 1, none⟩ = some o1) (hf0 : w.frozen? ⟨tb, 0, none⟩ = false) (hf1 : w.frozen? ⟨tb, 1, none⟩ = false) :
  Calls Tryz.prog 70 #[e0.val sent, .iface 114 (.pointer (some ⟨tb, 0, none⟩)), .agg #[.pointer (some ⟨16, 114, none⟩), .pointer (some ⟨ab, 0, none⟩), .int .u64 150], .iface 177 (.agg #[.pointer (some ⟨16, 112, none⟩)])] w (AsSaid e0.asP sent tb w) := by
 have O := @run_callFunc_extern Tryz.prog 59 _ ReflectliteType.typeOf Tryz.func59 (by kernel_rfl) (by kernel_rfl) (by kernel_rfl) (by kernel_rfl)
 have L := @run_callFunc_extern Tryz.prog 158 _ (ReflectliteType.relation "AssignableTo" ReflectliteType.assignableTo) Tryz.func158 (by kernel_rfl) (by kernel_rfl) (by kernel_rfl) (by kernel_rfl)
 have P := @run_callFunc_extern Tryz.prog 67 _ (fun z => ReflectliteValue.unpack (z.getD 0 (.tuple #[]))) Tryz.func67 (by kernel_rfl) (by kernel_rfl) (by kernel_rfl) (by kernel_rfl)
 have M := @run_callFunc_extern Tryz.prog 83 _ (ReflectliteValue.method (ReflectliteValue.valueError "reflectlite.Value.Elem" 0) ReflectliteValue.elem) Tryz.func83 (by kernel_rfl) (by kernel_rfl) (by kernel_rfl) (by kernel_rfl)
 have N := @run_callFunc_extern Tryz.prog 84 _ ReflectliteValue.set Tryz.func84 (by kernel_rfl) (by kernel_rfl) (by kernel_rfl) (by kernel_rfl)
 have U := asMethodAssignableTo
 obtain ⟨G, I, s⟩ := e0.shape sent
 have C : Hid (e0.val sent = .iface G I /\ e0.simple) := ⟨s, h0⟩
 have o : ab < w.heap.size := World.block_lt_of_cell? w _ ha
 have f : tb < w.heap.size := World.block_lt_of_cell? w _ ht0
 have K : Hid (w.cell? ⟨ab, 0, none⟩ = some (.pointer (some ⟨tb, 0, none⟩)) /\ w.cell? ⟨tb, 0, none⟩ = some o0 /\ w.cell? ⟨tb, 1, none⟩ = some o1 /\ w.frozen? ⟨tb, 0, none⟩ = false /\ w.frozen? ⟨tb, 1, none⟩ = false /\ ab < w.heap.size /\ tb < w.heap.size) := ⟨ha, ht0, ht1, hf0, hf1, o, f⟩
 rw [s]
 clear s h0 ha ht0 ht1 hf0 hf1 o f
 go_enter Tryz.func70, Tryz.ntmps70
 go_wp2
 go_loopg [0] e0.depth (fun gh x wr => ∃ e t v, gh = Er.depth e /\ x = .iface t v /\ e.val sent = .iface t v /\ e.simple /\ e.asP = e0.asP /\ Below (w.alloc (.cells #[.pointer (some ⟨16, 114, none⟩), .pointer (some ⟨ab, 0, none⟩), .int .u64 150] 158)).heap.size (w.alloc (.cells #[.pointer (some ⟨16, 114, none⟩), .pointer (some ⟨ab, 0, none⟩), .int .u64 150] 158)) wr)
 case atStart => exact ⟨e0, G, I, rfl, rfl, C.out.1, C.out.2, rfl, Below.refl _ _⟩
 case round =>
  obtain ⟨e, t, v, rfl, rfl, a, g, d, b⟩ := hrel
  cases e with
  | base n =>
   unfold Er.val at a
   simp only [Value.iface.injEq] at a
   obtain ⟨rfl, rfl⟩ := a
   have y := isTypeOf
   have u := asToEP
   have B := noAsE
   have Y := noUnwrapE
   have Z := noUnwrapsE
   have A : Aside (e0.asP = none /\ Below w.heap.size w wr) := ⟨d.symm, Below.up b⟩
   clear g d b
   go_wp2
   go_ret
   exact ⟨fun _ => ⟨rfl, A.out.2⟩, fun k x q => by rw [A.out.1] at q; cases q⟩
  | noNode e' =>
   obtain rfl : e' = .base 3 := g
   unfold Er.val at a
   rw [show (Er.base 3).val sent = .iface 244 (.pointer (some (sent 3))) from rfl] at a
   simp only [Value.iface.injEq] at a
   obtain ⟨rfl, rfl⟩ := a
   have y := asTypeOfK
   have u := asToKP
   have B := noAsK
   have H := hasUnwrapK
   have F := methodUnwrapK
   have r := Hid.hide (fun W => unwrapK 244 (.pointer (some (sent 3))) W)
   have A : Aside ((Er.base 3).asP = e0.asP /\ Below (w.alloc (.cells #[.pointer (some ⟨16, 114, none⟩), .pointer (some ⟨ab, 0, none⟩), .int .u64 150] 158)).heap.size (w.alloc (.cells #[.pointer (some ⟨16, 114, none⟩), .pointer (some ⟨ab, 0, none⟩), .int .u64 150] 158)) wr) := ⟨d, b⟩
   clear d b
   go_wp2_with (go_at_call 170; refine (r.out _).mono ?_; rintro D J ⟨rfl, l⟩)
   go_roundg 0
   case measure => exact Nat.lt_succ_self _
   case rel => exact ⟨.base 3, _, _, rfl, rfl, rfl, by simp [Er.simple, nums], A.out.1, Below.behind A.out.2 l⟩
  | inNode m e' =>
   obtain ⟨h, i, c⟩ := e'.shape sent
   unfold Er.val at a
   rw [c] at a
   simp only [Value.iface.injEq] at a
   obtain ⟨rfl, rfl⟩ := a
   have y := asTypeOfN
   have u := asToNP
   have B := noAsN
   have H := hasUnwrapN
   have F := methodUnwrapN
   have r := Hid.hide (fun W => unwrapN (m : Int) h i W)
   have A : Aside (e'.val sent = .iface h i /\ e'.simple /\ e'.asP = e0.asP /\ Below (w.alloc (.cells #[.pointer (some ⟨16, 114, none⟩), .pointer (some ⟨ab, 0, none⟩), .int .u64 150] 158)).heap.size (w.alloc (.cells #[.pointer (some ⟨16, 114, none⟩), .pointer (some ⟨ab, 0, none⟩), .int .u64 150] 158)) wr) := ⟨c, g, d, b⟩
   clear c g d b
   go_wp2_with (go_at_call 132; refine (r.out _).mono ?_; rintro D J ⟨rfl, l⟩)
   go_roundg e'.depth
   case measure => exact Nat.lt_succ_self _
   case rel => exact ⟨e', h, i, rfl, rfl, A.out.1, A.out.2.1, A.out.2.2.1, Below.behind A.out.2.2.2 l⟩
  | inProof m e' =>
   obtain ⟨h, i, c⟩ := e'.shape sent
   unfold Er.val at a
   rw [c] at a
   simp only [Value.iface.injEq] at a
   obtain ⟨rfl, rfl⟩ := a
   have y := asTypeOfQ
   have u := asToQP
   have B := noAsQ
   have H := hasUnwrapQ
   have F := methodUnwrapQ
   have r := Hid.hide (fun W => unwrapQ (m : Int) h i W)
   have A : Aside (e'.val sent = .iface h i /\ e'.simple /\ e'.asP = e0.asP /\ Below (w.alloc (.cells #[.pointer (some ⟨16, 114, none⟩), .pointer (some ⟨ab, 0, none⟩), .int .u64 150] 158)).heap.size (w.alloc (.cells #[.pointer (some ⟨16, 114, none⟩), .pointer (some ⟨ab, 0, none⟩), .int .u64 150] 158)) wr) := ⟨c, g, d, b⟩
   clear c g d b
   go_wp2_with (go_at_call 130; refine (r.out _).mono ?_; rintro D J ⟨rfl, l⟩)
   go_roundg e'.depth
   case measure => exact Nat.lt_succ_self _
   case rel => exact ⟨e', h, i, rfl, rfl, A.out.1, A.out.2.1, A.out.2.2.1, Below.behind A.out.2.2.2 l⟩
  | place m e' =>
   obtain ⟨h, i, c⟩ := e'.shape sent
   unfold Er.val at a
   rw [c] at a
   simp only [Value.iface.injEq] at a
   obtain ⟨rfl, rfl⟩ := a
   obtain ⟨ha, ht0, ht1, hf0, hf1, o, f⟩ := K.out
   have y := asTypeOfP
   have u := asToPP
   have vS := asValueSP
   obtain ⟨Q, _⟩ := newCell b 0 (v := .pointer (some ⟨16, 114, none⟩)) rfl
   obtain ⟨R, _⟩ := newCell b 1 (v := .pointer (some ⟨ab, 0, none⟩)) rfl
   obtain ⟨S, _⟩ := newCell b 2 (v := .int .u64 150) rfl
   have j := Below.up b
   have E := j.size
   have T := asElemVP ⟨ab, 0, none⟩ ⟨tb, 0, none⟩ wr ((j.cell o).trans ha)
   have X := asSetP tb wr.heap.size (.int .i64 (m : Int)) (.iface h i) o0 o1 rfl rfl (wr.alloc (.cells #[.int .i64 (m : Int), .iface h i] 112)) (by rw [World.cell?_alloc_new]; rfl) (by rw [World.cell?_alloc_new]; rfl)
    ((World.cell?_alloc_past _ _ _ (by omega)).trans ((j.cell f).trans ht0)) ((World.cell?_alloc_past _ _ _ (by omega)).trans ((j.cell (p := ⟨tb, 1, none⟩) f).trans ht1))
    ((World.frozen?_alloc_past _ _ _ (by omega)).trans ((j.frozen f).trans hf0)) ((World.frozen?_alloc_past _ _ _ (by omega)).trans ((j.frozen (p := ⟨tb, 1, none⟩) f).trans hf1))
   have A : Aside (e0.asP = some (m, e') /\ e'.val sent = .iface h i /\ Below w.heap.size w wr) := ⟨d.symm, c, j⟩
   clear c g d b j E ha ht0 ht1 hf0 hf1 o f
   go_wp2
   go_ret
   refine ⟨fun q => (by rw [A.out.1] at q; cases q), fun k x q => ?_⟩
   rw [A.out.1] at q
   cases q
   exact ⟨rfl, _, A.out.2.2.alloc A.out.2.2.size _, by rw [A.out.2.1]⟩
theorem as_P (sent : Nat -> Addr) (e0 : Er) (h0 : e0.simple) (tb : Nat) (o0 o1 : Value) (w : World) (hg : w.cell? ⟨12, 0, none⟩ = some (.iface 177 (.agg #[.pointer (some ⟨16, 76, none⟩)]))) (ht0 : w.cell? ⟨tb, 0, none⟩ = some o0) (ht1 : w.cell? ⟨tb, 1, none⟩ = some o1) (hf0 : w.frozen? ⟨tb, 0, none⟩ = false) (hf1 : w.frozen? ⟨tb, 1, none⟩ = false) :
  Calls Tryz.prog 47 #[e0.val sent, .iface 114 (.pointer (some ⟨tb, 0, none⟩))] w (AsSaid e0.asP sent tb w) := by
 have G := @run_callFunc_extern Tryz.prog 67 _ (fun j => ReflectliteValue.unpack (j.getD 0 (.tuple #[]))) Tryz.func67 (by kernel_rfl) (by kernel_rfl) (by kernel_rfl) (by kernel_rfl)
 have H := @run_callFunc_extern Tryz.prog 68 _ (ReflectliteValue.methodAny (ReflectliteValue.valueError "reflectlite.Value.Type" 0) (fun t _ _ _ => ReflectliteType.toType t)) Tryz.func68 (by kernel_rfl) (by kernel_rfl) (by kernel_rfl) (by kernel_rfl)
 have F := @run_callFunc_extern Tryz.prog 69 _ (ReflectliteValue.method (ReflectliteValue.valueError "reflectlite.Value.IsNil" 0) ReflectliteValue.isNil) Tryz.func69 (by kernel_rfl) (by kernel_rfl) (by kernel_rfl) (by kernel_rfl)
 have D := @run_callFunc_extern Tryz.prog 124 _ (ReflectliteType.abiMethod fun t => do pure (.int .u8 (<- Rtype.kind t))) Tryz.func124 (by kernel_rfl) (by kernel_rfl) (by kernel_rfl) (by kernel_rfl)
 have E := @run_callFunc_extern Tryz.prog 160 _ (ReflectliteType.method ReflectliteType.elem) Tryz.func160 (by kernel_rfl) (by kernel_rfl) (by kernel_rfl) (by kernel_rfl)
 have C := @run_callFunc_extern Tryz.prog 161 _ (ReflectliteType.relation "Implements" ReflectliteType.implements_) Tryz.func161 (by kernel_rfl) (by kernel_rfl) (by kernel_rfl) (by kernel_rfl)
 have K := asMethodKind
 have I := asMethodElem
 have J := asMethodImplements
 have N := asValueOfP
 have O := asTypeP
 have P := asKindRP
 have Q := asKindSP
 have R := asElemP
 have S := asImplementsP
 have g : 12 < w.heap.size := World.block_lt_of_cell? w _ hg
 have b : tb < w.heap.size := World.block_lt_of_cell? w _ ht0
 obtain ⟨W, f⟩ : ∃ W, W = (w.alloc (.cells #[.pointer (some ⟨tb, 0, none⟩)] 114)).alloc (.cells #[.pointer (some ⟨16, 114, none⟩), .pointer (some ⟨w.heap.size, 0, none⟩), .int .u64 150] 158) := ⟨_, rfl⟩
 have a : Below w.heap.size w W := by rw [f]; exact ((Below.refl _ _).alloc (Nat.le_refl _) _).alloc (by simp) _
 have l : W.cell? ⟨w.heap.size, 0, none⟩ = some (.pointer (some ⟨tb, 0, none⟩)) := by
  rw [f, World.cell?_alloc_past _ _ _ (by simp), World.cell?_alloc_new]
  rfl
 have u := asIsNilP ⟨w.heap.size, 0, none⟩ ⟨tb, 0, none⟩ W l
 have q : W.cell? ⟨12, 0, none⟩ = some (.iface 177 (.agg #[.pointer (some ⟨16, 76, none⟩)])) := (a.cell g).trans hg
 have c := Hid.hide (asLoopP sent e0 h0 w.heap.size tb o0 o1 W l ((a.cell b).trans ht0) ((a.cell (p := ⟨tb, 1, none⟩) b).trans ht1) ((a.frozen b).trans hf0) ((a.frozen (p := ⟨tb, 1, none⟩) b).trans hf1))
 have A : Aside (Below w.heap.size w W) := a
 obtain ⟨L, M, i⟩ := e0.shape sent
 rw [i] at c ⊢
 rw [f] at u q c A
 clear i a l g b hg ht0 ht1 hf0 hf1 f
 rcases hr : e0.asP with _ | ⟨m, x⟩
 ·have d := Hid.hide (c.out.mono fun e v h => h.1 hr)
  clear c hr h0
  go_enter Tryz.func47, Tryz.ntmps47
  go_wp2_with (go_at_call 70; refine (d.out).mono ?_; rintro r z ⟨rfl, n⟩)
  go_ret
  exact ⟨fun _ => ⟨rfl, Below.behind A.out n⟩, fun k x o => by cases o⟩
 ·have d := Hid.hide (c.out.mono fun e v h => h.2 m x hr)
  clear c hr h0
  go_enter Tryz.func47, Tryz.ntmps47
  go_wp2_with (go_at_call 70; refine (d.out).mono ?_; rintro r z ⟨rfl, B, n, rfl⟩)
  go_ret
  refine ⟨fun o => (by cases o), fun k y s => ?_⟩
  cases s
  exact ⟨rfl, B, Below.behind A.out n, rfl⟩
end Go.Proofs.YtoohdfiddbfacaaGreatDoor
