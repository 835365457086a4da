/-
  errors.As at the errors of package fault, for the three kinds that are asked for.
-/
import Derived.Test.YtakidhihbgfjlaaGreatDoorSxErrG
import Derived.RowKitTokens
namespace Go.Proofs.YtakidhihbgfjlaaGreatDoor
open Go.RowKit Go.Extern.Stop Go.Stop Go.Extern
set_option maxRecDepth 100000
set_option maxHeartbeats 25600000
theorem rlm (z : Sem Value) (f : TypeId -> Addr -> Nat -> Nat -> Sem Value) (v : Value) :
 ReflectliteValue.method z f #[v] = (do match <- ReflectliteValue.parts v with | none => z | some (t, a, fl) => f t a fl (fl % 32)) := rfl
theorem rls (v x : Value) : ReflectliteValue.set #[v, x] = (do
 let (some (dst, a, fl), some (src, b, _)) := (<- ReflectliteValue.parts v, <- ReflectliteValue.parts x)
  | unsupported (.noEntry "extern/(internal/reflectlite.Value).Set.zeroValue")
 if fl / ReflectliteValue.flagAddr % 2 == 0 then unsupported (.noEntry "extern/(internal/reflectlite.Value).Set.unaddressable")
 let val <- loadVar src b
 if <- Rtype.directlyAssignable dst src then storeVar dst a val
 else if <- Rtype.implements dst src then
  if (<- Rtype.kind src) == 20 then
   match val with
   | .nilIface => unsupported (.noEntry "extern/reflectlite: a nil value of one interface type handed on as a value of another")
   | _ => storeVar dst a val
  else storeVar dst a (.iface src val)
 else panicString ("reflectlite.Set: value of type " ++ (<- Rtype.spelt src) ++ " is not assignable to type " ++ (<- Rtype.spelt dst))
 pure (.tuple #[])) := rfl
theorem Qdm (h : Value) (w : World) : (Go.method 386 177 (.agg #[h]) "Kind").run Tryz.prog w = .ok (122, h) w := by kernel_rfl
theorem Qdn (h : Value) (w : World) : (Go.method 386 177 (.agg #[h]) "Elem").run Tryz.prog w = .ok (157, .agg #[h]) w := by kernel_rfl
theorem Qbn (h : Value) (w : World) : (Go.method 386 177 (.agg #[h]) "Implements").run Tryz.prog w = .ok (158, .agg #[h]) w := by kernel_rfl
theorem Qbg (h : Value) (w : World) : (Go.method 386 177 (.agg #[h]) "AssignableTo").run Tryz.prog w = .ok (155, .agg #[h]) w := by kernel_rfl
theorem Qzk (v : Value) (xT : TypeId) (w : World) : (Instr.typeAssert (.iface 243 v) xT 181 true).run Tryz.prog w = .ok (.tuple #[.nilIface, .bool false]) w := run_typeAssert_lacksB Tryz.underlying181 (by kernel_rfl) (by kernel_rfl) v xT w
theorem Qh1 (v : Value) (w : World) : (ReflectliteType.typeOf #[.iface 91 v]).run Tryz.prog w = .ok (.iface 177 (.agg #[.pointer (some ⟨17, 91, none⟩)])) w := by kernel_rfl
theorem Qh2 (v : Value) (w : World) : (ReflectliteType.typeOf #[.iface 228 v]).run Tryz.prog w = .ok (.iface 177 (.agg #[.pointer (some ⟨17, 228, none⟩)])) w := by kernel_rfl
theorem Qzl (v : Value) (xT : TypeId) (w : World) : (Instr.typeAssert (.iface 228 v) xT 181 true).run Tryz.prog w = .ok (.tuple #[.nilIface, .bool false]) w := run_typeAssert_lacksB Tryz.underlying181 (by kernel_rfl) (by kernel_rfl) v xT w
theorem QBa (v : Value) (xT : TypeId) (w : World) : (Instr.typeAssert (.iface 91 v) xT 181 true).run Tryz.prog w = .ok (.tuple #[.nilIface, .bool false]) w := run_typeAssert_lacksB Tryz.underlying181 (by kernel_rfl) (by kernel_rfl) v xT w
theorem Qh3 (v : Value) (w : World) : (ReflectliteType.typeOf #[.iface 96 v]).run Tryz.prog w = .ok (.iface 177 (.agg #[.pointer (some ⟨17, 96, none⟩)])) w := by kernel_rfl
theorem QBb (v : Value) (xT : TypeId) (w : World) : (Instr.typeAssert (.iface 96 v) xT 181 true).run Tryz.prog w = .ok (.tuple #[.nilIface, .bool false]) w := run_typeAssert_lacksB Tryz.underlying181 (by kernel_rfl) (by kernel_rfl) v xT w
theorem Qh4 (v : Value) (w : World) : (ReflectliteType.typeOf #[.iface 99 v]).run Tryz.prog w = .ok (.iface 177 (.agg #[.pointer (some ⟨17, 99, none⟩)])) w := by kernel_rfl
theorem QBc (v : Value) (xT : TypeId) (w : World) : (Instr.typeAssert (.iface 99 v) xT 181 true).run Tryz.prog w = .ok (.tuple #[.nilIface, .bool false]) w := run_typeAssert_lacksB Tryz.underlying181 (by kernel_rfl) (by kernel_rfl) v xT w
def Er.asP : Er -> Option (Nat × Er)
 | .base _ => none
 | .place k e => some (k, e)
 | .noNode e => e.asP
 | .inNode _ e => e.asP
 | .inProof _ e => e.asP
def Er.asN : Er -> Option (Nat × Er)
 | .base _ => none
 | .place _ e => e.asN
 | .noNode e => e.asN
 | .inNode k e => some (k, e)
 | .inProof _ e => e.asN
def Er.asQ : Er -> Option (Nat × Er)
 | .base _ => none
 | .place _ e => e.asQ
 | .noNode e => e.asQ
 | .inNode _ e => e.asQ
 | .inProof k e => some (k, e)
def AsSaid (r : Option (Nat × Er)) (sent : Nat -> Addr) (tb : Nat) (w : World) (e : Ending) (w' : World) : Prop :=
 (r = none -> e = .returned (.bool false) /\ Below w.heap.size w w') /\
  ∀ k x, r = some (k, x) -> e = .returned (.bool true) /\ ∃ w1, Below w.heap.size w w1 /\ w' = (w1.setCell ⟨tb, 0, none⟩ (.int .i64 (k : Int))).setCell ⟨tb, 1, none⟩ (x.val sent)
theorem QBd (w : World) : (ReflectliteType.relation "AssignableTo" ReflectliteType.assignableTo #[.agg #[.pointer (some ⟨17, 243, none⟩)], .iface 177 (.agg #[.pointer (some ⟨17, 91, none⟩)])]).run Tryz.prog w = .ok (.bool false) w := by kernel_rfl
theorem QBe (w : World) : (ReflectliteType.relation "AssignableTo" ReflectliteType.assignableTo #[.agg #[.pointer (some ⟨17, 228, none⟩)], .iface 177 (.agg #[.pointer (some ⟨17, 91, none⟩)])]).run Tryz.prog w = .ok (.bool false) w := by kernel_rfl
theorem QBf (w : World) : (ReflectliteType.relation "AssignableTo" ReflectliteType.assignableTo #[.agg #[.pointer (some ⟨17, 91, none⟩)], .iface 177 (.agg #[.pointer (some ⟨17, 91, none⟩)])]).run Tryz.prog w = .ok (.bool true) w := by kernel_rfl
theorem QBg (w : World) : (ReflectliteType.relation "AssignableTo" ReflectliteType.assignableTo #[.agg #[.pointer (some ⟨17, 96, none⟩)], .iface 177 (.agg #[.pointer (some ⟨17, 91, none⟩)])]).run Tryz.prog w = .ok (.bool false) w := by kernel_rfl
theorem QBh (w : World) : (ReflectliteType.relation "AssignableTo" ReflectliteType.assignableTo #[.agg #[.pointer (some ⟨17, 99, none⟩)], .iface 177 (.agg #[.pointer (some ⟨17, 91, none⟩)])]).run Tryz.prog w = .ok (.bool false) w := by kernel_rfl
theorem Qr1 (t : Addr) (w : World) : (ReflectliteValue.unpack (.iface 94 (.pointer (some t)))).run Tryz.prog w = .ok (.agg #[.pointer (some ⟨17, 94, none⟩), .pointer (some ⟨w.heap.size, 0, none⟩), .int .u64 150]) (w.alloc (.cells #[.pointer (some t)] 94)) := by kernel_rfl
theorem Qzm (a : Addr) (w : World) : (ReflectliteValue.methodAny (ReflectliteValue.valueError "reflectlite.Value.Type" 0) (fun t _ _ _ => ReflectliteType.toType t) #[.agg #[.pointer (some ⟨17, 94, none⟩), .pointer (some a), .int .u64 150]]).run Tryz.prog w = .ok (.iface 177 (.agg #[.pointer (some ⟨17, 94, none⟩)])) w := by kernel_rfl
theorem Qwa (w : World) : ((ReflectliteType.abiMethod fun t => (fun a : Nat => Value.int IntKind.u8 (a : Int)) <$> Rtype.kind t) #[.pointer (some ⟨17, 94, none⟩)]).run Tryz.prog w = .ok (.int .u8 22) w := by kernel_rfl
theorem Qwb (w : World) : ((ReflectliteType.abiMethod fun t => (fun a : Nat => Value.int IntKind.u8 (a : Int)) <$> Rtype.kind t) #[.pointer (some ⟨17, 91, none⟩)]).run Tryz.prog w = .ok (.int .u8 25) w := by kernel_rfl
theorem Qm6 (a : Addr) (w : World) : (ReflectliteValue.parts (.agg #[.pointer (some ⟨17, 94, none⟩), .pointer (some a), .int .u64 150])).run Tryz.prog w = .ok (some (94, a, 150)) w := by kernel_rfl
theorem Qwc (a p : Addr) (W : World) (ha : W.cell? a = some (.pointer (some p))) :
  (ReflectliteValue.method (ReflectliteValue.valueError "reflectlite.Value.IsNil" 0) ReflectliteValue.isNil #[.agg #[.pointer (some ⟨17, 94, none⟩), .pointer (some a), .int .u64 150]]).run Tryz.prog W = .ok (.bool false) W := by
 rw [rlm]
 simp only [Sem.run_bind, Qm6, Result.andThen]
 simp [ReflectliteValue.isNil, loadVar, isAgg, underlying, Tryz.underlying94, ha, Result.andThen]
theorem Qzn (w : World) : (ReflectliteType.method ReflectliteType.elem #[.agg #[.pointer (some ⟨17, 94, none⟩)]]).run Tryz.prog w = .ok (.iface 177 (.agg #[.pointer (some ⟨17, 91, none⟩)])) w := by kernel_rfl
theorem Qkh (w : World) : (ReflectliteType.relation "Implements" ReflectliteType.implements_ #[.agg #[.pointer (some ⟨17, 91, none⟩)], .iface 177 (.agg #[.pointer (some ⟨17, 62, none⟩)])]).run Tryz.prog w = .ok (.bool true) w := by kernel_rfl
theorem Qsb (a b : Value) (w : World) : (ReflectliteValue.unpack (.iface 91 (.agg #[a, b]))).run Tryz.prog w = .ok (.agg #[.pointer (some ⟨17, 91, none⟩), .pointer (some ⟨w.heap.size, 0, none⟩), .int .u64 153]) (w.alloc (.cells #[a, b] 91)) := by kernel_rfl
theorem Qsc (w : World) : (Rtype.elem? 94).run Tryz.prog w = .ok (some 91) w := by kernel_rfl
theorem QDa (p : Addr) (w : World) : (ReflectliteValue.mk 91 p ReflectliteValue.flagAddr).run Tryz.prog w = .ok (.agg #[.pointer (some ⟨17, 91, none⟩), .pointer (some p), .int .u64 409]) w := by kernel_rfl
theorem Qwd (a p : Addr) (W : World) (ha : W.cell? a = some (.pointer (some p))) :
  (ReflectliteValue.method (ReflectliteValue.valueError "reflectlite.Value.Elem" 0) ReflectliteValue.elem #[.agg #[.pointer (some ⟨17, 94, none⟩), .pointer (some a), .int .u64 150]]).run Tryz.prog W = .ok (.agg #[.pointer (some ⟨17, 91, none⟩), .pointer (some p), .int .u64 409]) W := by
 rw [rlm]
 simp only [Sem.run_bind, Qm6, Result.andThen]
 simp [ReflectliteValue.elem, loadVar, isAgg, underlying, Tryz.underlying94, ha, Result.andThen, Qsc, QDa]
theorem Qsd (a : Addr) (w : World) : (ReflectliteValue.parts (.agg #[.pointer (some ⟨17, 91, none⟩), .pointer (some a), .int .u64 409])).run Tryz.prog w = .ok (some (91, a, 409)) w := by kernel_rfl
theorem Qse (a : Addr) (w : World) : (ReflectliteValue.parts (.agg #[.pointer (some ⟨17, 91, none⟩), .pointer (some a), .int .u64 153])).run Tryz.prog w = .ok (some (91, a, 153)) w := by kernel_rfl
theorem Qsf (w : World) : (Rtype.directlyAssignable 91 91).run Tryz.prog w = .ok true w := by kernel_rfl
theorem QBi (tb bb : Nat) (x y o0 o1 : Value) (hx : x.oneCell' = true) (hy : y.oneCell' = true) (W : World) (hb0 : W.cell? ⟨bb, 0, none⟩ = some x) (hb1 : W.cell? ⟨bb, 1, none⟩ = some y) (h0 : W.cell? ⟨tb, 0, none⟩ = some o0) (h1 : W.cell? ⟨tb, 1, none⟩ = some o1) (f0 : W.frozen? ⟨tb, 0, none⟩ = false) (f1 : W.frozen? ⟨tb, 1, none⟩ = false) :
  (ReflectliteValue.set #[.agg #[.pointer (some ⟨17, 91, none⟩), .pointer (some ⟨tb, 0, none⟩), .int .u64 409], .agg #[.pointer (some ⟨17, 91, none⟩), .pointer (some ⟨bb, 0, none⟩), .int .u64 153]]).run Tryz.prog W = .ok (.tuple #[]) ((W.setCell ⟨tb, 0, none⟩ x).setCell ⟨tb, 1, none⟩ y) := by
 rw [rls]
 simp only [Sem.run_bind, Qsd, Qse, Result.andThen]
 have b := run_loadCells_list (P := Tryz.prog) W ⟨bb, 0, none⟩ [x, y] (fun j v hv => by
  match j, hv with
  | 0, hv => cases hv; exact hb0
  | 1, hv => cases hv; exact hb1)
 simp only [List.length_cons, List.length_nil] at b
 have c := run_storeCells_cells (P := Tryz.prog) tb 0 [x, y] 0 W (fun j a => by
  match j, a with
  | 0, _ => rw [show (⟨tb, 0 + 0 + 0, none⟩ : Addr) = ⟨tb, 0, none⟩ from rfl, h0]; rfl
  | 1, _ => rw [show (⟨tb, 0 + 0 + 1, none⟩ : Addr) = ⟨tb, 1, none⟩ from rfl, h1]; rfl) (fun j a => by
  match j, a with
  | 0, _ => exact f0
  | 1, _ => exact f1) (fun v hv => by
  simp only [List.mem_cons, List.not_mem_nil, or_false] at hv
  rcases hv with rfl | rfl
  ·exact hx
  ·exact hy)
 simp [ReflectliteValue.flagAddr, loadVar, isAgg, underlying, Tryz.underlying91, Result.andThen, Qsf, storeVar, Value.cells]
 rw [b]
 simp
 rw [c]
 rfl
theorem Qzo (sent : Nat -> Addr) (e0 : Er) (h0 : e0.simple) (ab tb : Nat) (o0 o1 : Value) (w : World) (ha : w.cell? ⟨ab, 0, none⟩ = some (.pointer (some ⟨tb, 0, none⟩))) (ht0 : w.cell? ⟨tb, 0, none⟩ = some o0) (ht1 : w.cell? ⟨tb, 1, none⟩ = some o1) (hf0 : w.frozen? ⟨tb, 0, none⟩ = false) (hf1 : w.frozen? ⟨tb, 1, none⟩ = false) :
  Calls Tryz.prog 57 #[e0.val sent, .iface 94 (.pointer (some ⟨tb, 0, none⟩)), .agg #[.pointer (some ⟨17, 94, none⟩), .pointer (some ⟨ab, 0, none⟩), .int .u64 150], .iface 177 (.agg #[.pointer (some ⟨17, 91, none⟩)])] w (AsSaid e0.asP sent tb w) := by
 have O := @run_callFunc_extern Tryz.prog 64 _ ReflectliteType.typeOf Tryz.func64 (by kernel_rfl) (by kernel_rfl) (by kernel_rfl) (by kernel_rfl)
 have L := @run_callFunc_extern Tryz.prog 155 _ (ReflectliteType.relation "AssignableTo" ReflectliteType.assignableTo) Tryz.func155 (by kernel_rfl) (by kernel_rfl) (by kernel_rfl) (by kernel_rfl)
 have P := @run_callFunc_extern Tryz.prog 54 _ (fun z => ReflectliteValue.unpack (z.getD 0 (.tuple #[]))) Tryz.func54 (by kernel_rfl) (by kernel_rfl) (by kernel_rfl) (by kernel_rfl)
 have M := @run_callFunc_extern Tryz.prog 78 _ (ReflectliteValue.method (ReflectliteValue.valueError "reflectlite.Value.Elem" 0) ReflectliteValue.elem) Tryz.func78 (by kernel_rfl) (by kernel_rfl) (by kernel_rfl) (by kernel_rfl)
 have N := @run_callFunc_extern Tryz.prog 79 _ ReflectliteValue.set Tryz.func79 (by kernel_rfl) (by kernel_rfl) (by kernel_rfl) (by kernel_rfl)
 have U := Qbg
 obtain ⟨G, I, s⟩ := e0.shape sent
 have C : Hid (e0.val sent = .iface G I /\ e0.simple) := ⟨s, h0⟩
 have o : ab < w.heap.size := World.block_lt_of_cell? w _ ha
 have f : tb < w.heap.size := World.block_lt_of_cell? w _ ht0
 have K : Hid (w.cell? ⟨ab, 0, none⟩ = some (.pointer (some ⟨tb, 0, none⟩)) /\ w.cell? ⟨tb, 0, none⟩ = some o0 /\ w.cell? ⟨tb, 1, none⟩ = some o1 /\ w.frozen? ⟨tb, 0, none⟩ = false /\ w.frozen? ⟨tb, 1, none⟩ = false /\ ab < w.heap.size /\ tb < w.heap.size) := ⟨ha, ht0, ht1, hf0, hf1, o, f⟩
 rw [s]
 clear s h0 ha ht0 ht1 hf0 hf1 o f
 go_enter Tryz.func57, Tryz.ntmps57
 go_wp2
 go_loopg [0] e0.depth (fun gh x wr => ∃ e t v, gh = Er.depth e /\ x = .iface t v /\ e.val sent = .iface t v /\ e.simple /\ e.asP = e0.asP /\ Below (w.alloc (.cells #[.pointer (some ⟨17, 94, none⟩), .pointer (some ⟨ab, 0, none⟩), .int .u64 150] 131)).heap.size (w.alloc (.cells #[.pointer (some ⟨17, 94, none⟩), .pointer (some ⟨ab, 0, none⟩), .int .u64 150] 131)) wr)
 case atStart => exact ⟨e0, G, I, rfl, rfl, C.out.1, C.out.2, rfl, Below.refl _ _⟩
 case round =>
  obtain ⟨e, t, v, rfl, rfl, a, g, d, b⟩ := hrel
  cases e with
  | base n =>
   unfold Er.val at a
   simp only [Value.iface.injEq] at a
   obtain ⟨rfl, rfl⟩ := a
   have y := Qgw
   have u := QBd
   have B := Qzk
   have Y := Qf6
   have Z := Qe8
   have A : Aside (e0.asP = none /\ Below w.heap.size w wr) := ⟨d.symm, Below.up b⟩
   clear g d b
   go_wp2
   go_ret
   exact ⟨fun _ => ⟨rfl, A.out.2⟩, fun k x q => by rw [A.out.1] at q; cases q⟩
  | noNode e' =>
   obtain rfl : e' = .base 3 := g
   unfold Er.val at a
   rw [show (Er.base 3).val sent = .iface 243 (.pointer (some (sent 3))) from rfl] at a
   simp only [Value.iface.injEq] at a
   obtain ⟨rfl, rfl⟩ := a
   have y := Qh2
   have u := QBe
   have B := Qzl
   have H := Qe9
   have F := Qc9
   have r := Hq (fun W => Qkn 243 (.pointer (some (sent 3))) W)
   have A : Aside ((Er.base 3).asP = e0.asP /\ Below (w.alloc (.cells #[.pointer (some ⟨17, 94, none⟩), .pointer (some ⟨ab, 0, none⟩), .int .u64 150] 131)).heap.size (w.alloc (.cells #[.pointer (some ⟨17, 94, none⟩), .pointer (some ⟨ab, 0, none⟩), .int .u64 150] 131)) wr) := ⟨d, b⟩
   clear d b
   go_wp2_with (go_at_call 167; refine (r.out _).mono ?_; rintro D J ⟨rfl, l⟩)
   go_roundg 0
   case measure => exact Nat.lt_succ_self _
   case rel => exact ⟨.base 3, _, _, rfl, rfl, rfl, by simp [Er.simple, nums], A.out.1, Below.behind A.out.2 l⟩
  | inNode m e' =>
   obtain ⟨h, i, c⟩ := e'.shape sent
   unfold Er.val at a
   rw [c] at a
   simp only [Value.iface.injEq] at a
   obtain ⟨rfl, rfl⟩ := a
   have y := Qh3
   have u := QBg
   have B := QBb
   have H := Qfu
   have F := Qd9
   have r := Hq (fun W => Qog (m : Int) h i W)
   have A : Aside (e'.val sent = .iface h i /\ e'.simple /\ e'.asP = e0.asP /\ Below (w.alloc (.cells #[.pointer (some ⟨17, 94, none⟩), .pointer (some ⟨ab, 0, none⟩), .int .u64 150] 131)).heap.size (w.alloc (.cells #[.pointer (some ⟨17, 94, none⟩), .pointer (some ⟨ab, 0, none⟩), .int .u64 150] 131)) wr) := ⟨c, g, d, b⟩
   clear c g d b
   go_wp2_with (go_at_call 129; refine (r.out _).mono ?_; rintro D J ⟨rfl, l⟩)
   go_roundg e'.depth
   case measure => exact Nat.lt_succ_self _
   case rel => exact ⟨e', h, i, rfl, rfl, A.out.1, A.out.2.1, A.out.2.2.1, Below.behind A.out.2.2.2 l⟩
  | inProof m e' =>
   obtain ⟨h, i, c⟩ := e'.shape sent
   unfold Er.val at a
   rw [c] at a
   simp only [Value.iface.injEq] at a
   obtain ⟨rfl, rfl⟩ := a
   have y := Qh4
   have u := QBh
   have B := QBc
   have H := Qfv
   have F := Qda
   have r := Hq (fun W => Qoh (m : Int) h i W)
   have A : Aside (e'.val sent = .iface h i /\ e'.simple /\ e'.asP = e0.asP /\ Below (w.alloc (.cells #[.pointer (some ⟨17, 94, none⟩), .pointer (some ⟨ab, 0, none⟩), .int .u64 150] 131)).heap.size (w.alloc (.cells #[.pointer (some ⟨17, 94, none⟩), .pointer (some ⟨ab, 0, none⟩), .int .u64 150] 131)) wr) := ⟨c, g, d, b⟩
   clear c g d b
   go_wp2_with (go_at_call 131; refine (r.out _).mono ?_; rintro D J ⟨rfl, l⟩)
   go_roundg e'.depth
   case measure => exact Nat.lt_succ_self _
   case rel => exact ⟨e', h, i, rfl, rfl, A.out.1, A.out.2.1, A.out.2.2.1, Below.behind A.out.2.2.2 l⟩
  | place m e' =>
   obtain ⟨h, i, c⟩ := e'.shape sent
   unfold Er.val at a
   rw [c] at a
   simp only [Value.iface.injEq] at a
   obtain ⟨rfl, rfl⟩ := a
   obtain ⟨ha, ht0, ht1, hf0, hf1, o, f⟩ := K.out
   have y := Qh1
   have u := QBf
   have vS := Qsb
   obtain ⟨Q, _⟩ := Qd7 b 0 (v := .pointer (some ⟨17, 94, none⟩)) rfl
   obtain ⟨R, _⟩ := Qd7 b 1 (v := .pointer (some ⟨ab, 0, none⟩)) rfl
   obtain ⟨S, _⟩ := Qd7 b 2 (v := .int .u64 150) rfl
   have j := Below.up b
   have E := j.size
   have T := Qwd ⟨ab, 0, none⟩ ⟨tb, 0, none⟩ wr ((j.cell o).trans ha)
   have X := QBi tb wr.heap.size (.int .i64 (m : Int)) (.iface h i) o0 o1 rfl rfl (wr.alloc (.cells #[.int .i64 (m : Int), .iface h i] 91)) (by rw [World.cell?_alloc_new]; rfl) (by rw [World.cell?_alloc_new]; rfl)
    ((World.cell?_alloc_past _ _ _ (by omega)).trans ((j.cell f).trans ht0)) ((World.cell?_alloc_past _ _ _ (by omega)).trans ((j.cell (p := ⟨tb, 1, none⟩) f).trans ht1))
    ((World.frozen?_alloc_past _ _ _ (by omega)).trans ((j.frozen f).trans hf0)) ((World.frozen?_alloc_past _ _ _ (by omega)).trans ((j.frozen (p := ⟨tb, 1, none⟩) f).trans hf1))
   have A : Aside (e0.asP = some (m, e') /\ e'.val sent = .iface h i /\ Below w.heap.size w wr) := ⟨d.symm, c, j⟩
   clear c g d b j E ha ht0 ht1 hf0 hf1 o f
   go_wp2
   go_ret
   refine ⟨fun q => (by rw [A.out.1] at q; cases q), fun k x q => ?_⟩
   rw [A.out.1] at q
   cases q
   exact ⟨rfl, _, A.out.2.2.alloc A.out.2.2.size _, by rw [A.out.2.1]⟩
theorem as_P (sent : Nat -> Addr) (e0 : Er) (h0 : e0.simple) (tb : Nat) (o0 o1 : Value) (w : World) (hg : w.cell? ⟨12, 0, none⟩ = some (.iface 177 (.agg #[.pointer (some ⟨17, 62, none⟩)]))) (ht0 : w.cell? ⟨tb, 0, none⟩ = some o0) (ht1 : w.cell? ⟨tb, 1, none⟩ = some o1) (hf0 : w.frozen? ⟨tb, 0, none⟩ = false) (hf1 : w.frozen? ⟨tb, 1, none⟩ = false) :
  Calls Tryz.prog 36 #[e0.val sent, .iface 94 (.pointer (some ⟨tb, 0, none⟩))] w (AsSaid e0.asP sent tb w) := by
 have G := @run_callFunc_extern Tryz.prog 54 _ (fun j => ReflectliteValue.unpack (j.getD 0 (.tuple #[]))) Tryz.func54 (by kernel_rfl) (by kernel_rfl) (by kernel_rfl) (by kernel_rfl)
 have H := @run_callFunc_extern Tryz.prog 55 _ (ReflectliteValue.methodAny (ReflectliteValue.valueError "reflectlite.Value.Type" 0) (fun t _ _ _ => ReflectliteType.toType t)) Tryz.func55 (by kernel_rfl) (by kernel_rfl) (by kernel_rfl) (by kernel_rfl)
 have F := @run_callFunc_extern Tryz.prog 56 _ (ReflectliteValue.method (ReflectliteValue.valueError "reflectlite.Value.IsNil" 0) ReflectliteValue.isNil) Tryz.func56 (by kernel_rfl) (by kernel_rfl) (by kernel_rfl) (by kernel_rfl)
 have D := @run_callFunc_extern Tryz.prog 122 _ (ReflectliteType.abiMethod fun t => do pure (.int .u8 (<- Rtype.kind t))) Tryz.func122 (by kernel_rfl) (by kernel_rfl) (by kernel_rfl) (by kernel_rfl)
 have E := @run_callFunc_extern Tryz.prog 157 _ (ReflectliteType.method ReflectliteType.elem) Tryz.func157 (by kernel_rfl) (by kernel_rfl) (by kernel_rfl) (by kernel_rfl)
 have C := @run_callFunc_extern Tryz.prog 158 _ (ReflectliteType.relation "Implements" ReflectliteType.implements_) Tryz.func158 (by kernel_rfl) (by kernel_rfl) (by kernel_rfl) (by kernel_rfl)
 have K := Qdm
 have I := Qdn
 have J := Qbn
 have N := Qr1
 have O := Qzm
 have P := Qwa
 have Q := Qwb
 have R := Qzn
 have S := Qkh
 have g : 12 < w.heap.size := World.block_lt_of_cell? w _ hg
 have b : tb < w.heap.size := World.block_lt_of_cell? w _ ht0
 obtain ⟨W, f⟩ : ∃ W, W = (w.alloc (.cells #[.pointer (some ⟨tb, 0, none⟩)] 94)).alloc (.cells #[.pointer (some ⟨17, 94, none⟩), .pointer (some ⟨w.heap.size, 0, none⟩), .int .u64 150] 131) := ⟨_, rfl⟩
 have a : Below w.heap.size w W := by rw [f]; exact ((Below.refl _ _).alloc (Nat.le_refl _) _).alloc (by simp) _
 have l : W.cell? ⟨w.heap.size, 0, none⟩ = some (.pointer (some ⟨tb, 0, none⟩)) := by
  rw [f, World.cell?_alloc_past _ _ _ (by simp), World.cell?_alloc_new]
  rfl
 have u := Qwc ⟨w.heap.size, 0, none⟩ ⟨tb, 0, none⟩ W l
 have q : W.cell? ⟨12, 0, none⟩ = some (.iface 177 (.agg #[.pointer (some ⟨17, 62, none⟩)])) := (a.cell g).trans hg
 have c := Hq (Qzo sent e0 h0 w.heap.size tb o0 o1 W l ((a.cell b).trans ht0) ((a.cell (p := ⟨tb, 1, none⟩) b).trans ht1) ((a.frozen b).trans hf0) ((a.frozen (p := ⟨tb, 1, none⟩) b).trans hf1))
 have A : Aside (Below w.heap.size w W) := a
 obtain ⟨L, M, i⟩ := e0.shape sent
 rw [i] at c ⊢
 rw [f] at u q c A
 clear i a l g b hg ht0 ht1 hf0 hf1 f
 rcases hr : e0.asP with _ | ⟨m, x⟩
 ·have d := Hq (c.out.mono fun e v h => h.1 hr)
  clear c hr h0
  go_enter Tryz.func36, Tryz.ntmps36
  go_wp2_with (go_at_call 57; refine (d.out).mono ?_; rintro r z ⟨rfl, n⟩)
  go_ret
  exact ⟨fun _ => ⟨rfl, Below.behind A.out n⟩, fun k x o => by cases o⟩
 ·have d := Hq (c.out.mono fun e v h => h.2 m x hr)
  clear c hr h0
  go_enter Tryz.func36, Tryz.ntmps36
  go_wp2_with (go_at_call 57; refine (d.out).mono ?_; rintro r z ⟨rfl, B, n, rfl⟩)
  go_ret
  refine ⟨fun o => (by cases o), fun k y s => ?_⟩
  cases s
  exact ⟨rfl, B, Below.behind A.out n, rfl⟩
theorem QBj (w : World) : (ReflectliteType.relation "AssignableTo" ReflectliteType.assignableTo #[.agg #[.pointer (some ⟨17, 243, none⟩)], .iface 177 (.agg #[.pointer (some ⟨17, 96, none⟩)])]).run Tryz.prog w = .ok (.bool false) w := by kernel_rfl
theorem QBk (w : World) : (ReflectliteType.relation "AssignableTo" ReflectliteType.assignableTo #[.agg #[.pointer (some ⟨17, 228, none⟩)], .iface 177 (.agg #[.pointer (some ⟨17, 96, none⟩)])]).run Tryz.prog w = .ok (.bool false) w := by kernel_rfl
theorem QBl (w : World) : (ReflectliteType.relation "AssignableTo" ReflectliteType.assignableTo #[.agg #[.pointer (some ⟨17, 91, none⟩)], .iface 177 (.agg #[.pointer (some ⟨17, 96, none⟩)])]).run Tryz.prog w = .ok (.bool false) w := by kernel_rfl
theorem QBm (w : World) : (ReflectliteType.relation "AssignableTo" ReflectliteType.assignableTo #[.agg #[.pointer (some ⟨17, 96, none⟩)], .iface 177 (.agg #[.pointer (some ⟨17, 96, none⟩)])]).run Tryz.prog w = .ok (.bool true) w := by kernel_rfl
theorem QBn (w : World) : (ReflectliteType.relation "AssignableTo" ReflectliteType.assignableTo #[.agg #[.pointer (some ⟨17, 99, none⟩)], .iface 177 (.agg #[.pointer (some ⟨17, 96, none⟩)])]).run Tryz.prog w = .ok (.bool false) w := by kernel_rfl
theorem Qr2 (t : Addr) (w : World) : (ReflectliteValue.unpack (.iface 97 (.pointer (some t)))).run Tryz.prog w = .ok (.agg #[.pointer (some ⟨17, 97, none⟩), .pointer (some ⟨w.heap.size, 0, none⟩), .int .u64 150]) (w.alloc (.cells #[.pointer (some t)] 97)) := by kernel_rfl
theorem Qzp (a : Addr) (w : World) : (ReflectliteValue.methodAny (ReflectliteValue.valueError "reflectlite.Value.Type" 0) (fun t _ _ _ => ReflectliteType.toType t) #[.agg #[.pointer (some ⟨17, 97, none⟩), .pointer (some a), .int .u64 150]]).run Tryz.prog w = .ok (.iface 177 (.agg #[.pointer (some ⟨17, 97, none⟩)])) w := by kernel_rfl
theorem Qwe (w : World) : ((ReflectliteType.abiMethod fun t => (fun a : Nat => Value.int IntKind.u8 (a : Int)) <$> Rtype.kind t) #[.pointer (some ⟨17, 97, none⟩)]).run Tryz.prog w = .ok (.int .u8 22) w := by kernel_rfl
theorem Qwf (w : World) : ((ReflectliteType.abiMethod fun t => (fun a : Nat => Value.int IntKind.u8 (a : Int)) <$> Rtype.kind t) #[.pointer (some ⟨17, 96, none⟩)]).run Tryz.prog w = .ok (.int .u8 25) w := by kernel_rfl
theorem Qm7 (a : Addr) (w : World) : (ReflectliteValue.parts (.agg #[.pointer (some ⟨17, 97, none⟩), .pointer (some a), .int .u64 150])).run Tryz.prog w = .ok (some (97, a, 150)) w := by kernel_rfl
theorem Qwg (a p : Addr) (W : World) (ha : W.cell? a = some (.pointer (some p))) :
  (ReflectliteValue.method (ReflectliteValue.valueError "reflectlite.Value.IsNil" 0) ReflectliteValue.isNil #[.agg #[.pointer (some ⟨17, 97, none⟩), .pointer (some a), .int .u64 150]]).run Tryz.prog W = .ok (.bool false) W := by
 rw [rlm]
 simp only [Sem.run_bind, Qm7, Result.andThen]
 simp [ReflectliteValue.isNil, loadVar, isAgg, underlying, Tryz.underlying97, ha, Result.andThen]
theorem Qzq (w : World) : (ReflectliteType.method ReflectliteType.elem #[.agg #[.pointer (some ⟨17, 97, none⟩)]]).run Tryz.prog w = .ok (.iface 177 (.agg #[.pointer (some ⟨17, 96, none⟩)])) w := by kernel_rfl
theorem Qki (w : World) : (ReflectliteType.relation "Implements" ReflectliteType.implements_ #[.agg #[.pointer (some ⟨17, 96, none⟩)], .iface 177 (.agg #[.pointer (some ⟨17, 62, none⟩)])]).run Tryz.prog w = .ok (.bool true) w := by kernel_rfl
theorem Qsg (a b : Value) (w : World) : (ReflectliteValue.unpack (.iface 96 (.agg #[a, b]))).run Tryz.prog w = .ok (.agg #[.pointer (some ⟨17, 96, none⟩), .pointer (some ⟨w.heap.size, 0, none⟩), .int .u64 153]) (w.alloc (.cells #[a, b] 96)) := by kernel_rfl
theorem Qsh (w : World) : (Rtype.elem? 97).run Tryz.prog w = .ok (some 96) w := by kernel_rfl
theorem QDb (p : Addr) (w : World) : (ReflectliteValue.mk 96 p ReflectliteValue.flagAddr).run Tryz.prog w = .ok (.agg #[.pointer (some ⟨17, 96, none⟩), .pointer (some p), .int .u64 409]) w := by kernel_rfl
theorem Qwh (a p : Addr) (W : World) (ha : W.cell? a = some (.pointer (some p))) :
  (ReflectliteValue.method (ReflectliteValue.valueError "reflectlite.Value.Elem" 0) ReflectliteValue.elem #[.agg #[.pointer (some ⟨17, 97, none⟩), .pointer (some a), .int .u64 150]]).run Tryz.prog W = .ok (.agg #[.pointer (some ⟨17, 96, none⟩), .pointer (some p), .int .u64 409]) W := by
 rw [rlm]
 simp only [Sem.run_bind, Qm7, Result.andThen]
 simp [ReflectliteValue.elem, loadVar, isAgg, underlying, Tryz.underlying97, ha, Result.andThen, Qsh, QDb]
theorem Qsi (a : Addr) (w : World) : (ReflectliteValue.parts (.agg #[.pointer (some ⟨17, 96, none⟩), .pointer (some a), .int .u64 409])).run Tryz.prog w = .ok (some (96, a, 409)) w := by kernel_rfl
theorem Qsj (a : Addr) (w : World) : (ReflectliteValue.parts (.agg #[.pointer (some ⟨17, 96, none⟩), .pointer (some a), .int .u64 153])).run Tryz.prog w = .ok (some (96, a, 153)) w := by kernel_rfl
theorem Qsk (w : World) : (Rtype.directlyAssignable 96 96).run Tryz.prog w = .ok true w := by kernel_rfl
theorem QBo (tb bb : Nat) (x y o0 o1 : Value) (hx : x.oneCell' = true) (hy : y.oneCell' = true) (W : World) (hb0 : W.cell? ⟨bb, 0, none⟩ = some x) (hb1 : W.cell? ⟨bb, 1, none⟩ = some y) (h0 : W.cell? ⟨tb, 0, none⟩ = some o0) (h1 : W.cell? ⟨tb, 1, none⟩ = some o1) (f0 : W.frozen? ⟨tb, 0, none⟩ = false) (f1 : W.frozen? ⟨tb, 1, none⟩ = false) :
  (ReflectliteValue.set #[.agg #[.pointer (some ⟨17, 96, none⟩), .pointer (some ⟨tb, 0, none⟩), .int .u64 409], .agg #[.pointer (some ⟨17, 96, none⟩), .pointer (some ⟨bb, 0, none⟩), .int .u64 153]]).run Tryz.prog W = .ok (.tuple #[]) ((W.setCell ⟨tb, 0, none⟩ x).setCell ⟨tb, 1, none⟩ y) := by
 rw [rls]
 simp only [Sem.run_bind, Qsi, Qsj, Result.andThen]
 have b := run_loadCells_list (P := Tryz.prog) W ⟨bb, 0, none⟩ [x, y] (fun j v hv => by
  match j, hv with
  | 0, hv => cases hv; exact hb0
  | 1, hv => cases hv; exact hb1)
 simp only [List.length_cons, List.length_nil] at b
 have c := run_storeCells_cells (P := Tryz.prog) tb 0 [x, y] 0 W (fun j a => by
  match j, a with
  | 0, _ => rw [show (⟨tb, 0 + 0 + 0, none⟩ : Addr) = ⟨tb, 0, none⟩ from rfl, h0]; rfl
  | 1, _ => rw [show (⟨tb, 0 + 0 + 1, none⟩ : Addr) = ⟨tb, 1, none⟩ from rfl, h1]; rfl) (fun j a => by
  match j, a with
  | 0, _ => exact f0
  | 1, _ => exact f1) (fun v hv => by
  simp only [List.mem_cons, List.not_mem_nil, or_false] at hv
  rcases hv with rfl | rfl
  ·exact hx
  ·exact hy)
 simp [ReflectliteValue.flagAddr, loadVar, isAgg, underlying, Tryz.underlying96, Result.andThen, Qsk, storeVar, Value.cells]
 rw [b]
 simp
 rw [c]
 rfl
theorem Qzr (sent : Nat -> Addr) (e0 : Er) (h0 : e0.simple) (ab tb : Nat) (o0 o1 : Value) (w : World) (ha : w.cell? ⟨ab, 0, none⟩ = some (.pointer (some ⟨tb, 0, none⟩))) (ht0 : w.cell? ⟨tb, 0, none⟩ = some o0) (ht1 : w.cell? ⟨tb, 1, none⟩ = some o1) (hf0 : w.frozen? ⟨tb, 0, none⟩ = false) (hf1 : w.frozen? ⟨tb, 1, none⟩ = false) :
  Calls Tryz.prog 57 #[e0.val sent, .iface 97 (.pointer (some ⟨tb, 0, none⟩)), .agg #[.pointer (some ⟨17, 97, none⟩), .pointer (some ⟨ab, 0, none⟩), .int .u64 150], .iface 177 (.agg #[.pointer (some ⟨17, 96, none⟩)])] w (AsSaid e0.asN sent tb w) := by
 have O := @run_callFunc_extern Tryz.prog 64 _ ReflectliteType.typeOf Tryz.func64 (by kernel_rfl) (by kernel_rfl) (by kernel_rfl) (by kernel_rfl)
 have L := @run_callFunc_extern Tryz.prog 155 _ (ReflectliteType.relation "AssignableTo" ReflectliteType.assignableTo) Tryz.func155 (by kernel_rfl) (by kernel_rfl) (by kernel_rfl) (by kernel_rfl)
 have P := @run_callFunc_extern Tryz.prog 54 _ (fun z => ReflectliteValue.unpack (z.getD 0 (.tuple #[]))) Tryz.func54 (by kernel_rfl) (by kernel_rfl) (by kernel_rfl) (by kernel_rfl)
 have M := @run_callFunc_extern Tryz.prog 78 _ (ReflectliteValue.method (ReflectliteValue.valueError "reflectlite.Value.Elem" 0) ReflectliteValue.elem) Tryz.func78 (by kernel_rfl) (by kernel_rfl) (by kernel_rfl) (by kernel_rfl)
 have N := @run_callFunc_extern Tryz.prog 79 _ ReflectliteValue.set Tryz.func79 (by kernel_rfl) (by kernel_rfl) (by kernel_rfl) (by kernel_rfl)
 have U := Qbg
 obtain ⟨G, I, s⟩ := e0.shape sent
 have C : Hid (e0.val sent = .iface G I /\ e0.simple) := ⟨s, h0⟩
 have o : ab < w.heap.size := World.block_lt_of_cell? w _ ha
 have f : tb < w.heap.size := World.block_lt_of_cell? w _ ht0
 have K : Hid (w.cell? ⟨ab, 0, none⟩ = some (.pointer (some ⟨tb, 0, none⟩)) /\ w.cell? ⟨tb, 0, none⟩ = some o0 /\ w.cell? ⟨tb, 1, none⟩ = some o1 /\ w.frozen? ⟨tb, 0, none⟩ = false /\ w.frozen? ⟨tb, 1, none⟩ = false /\ ab < w.heap.size /\ tb < w.heap.size) := ⟨ha, ht0, ht1, hf0, hf1, o, f⟩
 rw [s]
 clear s h0 ha ht0 ht1 hf0 hf1 o f
 go_enter Tryz.func57, Tryz.ntmps57
 go_wp2
 go_loopg [0] e0.depth (fun gh x wr => ∃ e t v, gh = Er.depth e /\ x = .iface t v /\ e.val sent = .iface t v /\ e.simple /\ e.asN = e0.asN /\ Below (w.alloc (.cells #[.pointer (some ⟨17, 97, none⟩), .pointer (some ⟨ab, 0, none⟩), .int .u64 150] 131)).heap.size (w.alloc (.cells #[.pointer (some ⟨17, 97, none⟩), .pointer (some ⟨ab, 0, none⟩), .int .u64 150] 131)) wr)
 case atStart => exact ⟨e0, G, I, rfl, rfl, C.out.1, C.out.2, rfl, Below.refl _ _⟩
 case round =>
  obtain ⟨e, t, v, rfl, rfl, a, g, d, b⟩ := hrel
  cases e with
  | base n =>
   unfold Er.val at a
   simp only [Value.iface.injEq] at a
   obtain ⟨rfl, rfl⟩ := a
   have y := Qgw
   have u := QBj
   have B := Qzk
   have Y := Qf6
   have Z := Qe8
   have A : Aside (e0.asN = none /\ Below w.heap.size w wr) := ⟨d.symm, Below.up b⟩
   clear g d b
   go_wp2
   go_ret
   exact ⟨fun _ => ⟨rfl, A.out.2⟩, fun k x q => by rw [A.out.1] at q; cases q⟩
  | noNode e' =>
   obtain rfl : e' = .base 3 := g
   unfold Er.val at a
   rw [show (Er.base 3).val sent = .iface 243 (.pointer (some (sent 3))) from rfl] at a
   simp only [Value.iface.injEq] at a
   obtain ⟨rfl, rfl⟩ := a
   have y := Qh2
   have u := QBk
   have B := Qzl
   have H := Qe9
   have F := Qc9
   have r := Hq (fun W => Qkn 243 (.pointer (some (sent 3))) W)
   have A : Aside ((Er.base 3).asN = e0.asN /\ Below (w.alloc (.cells #[.pointer (some ⟨17, 97, none⟩), .pointer (some ⟨ab, 0, none⟩), .int .u64 150] 131)).heap.size (w.alloc (.cells #[.pointer (some ⟨17, 97, none⟩), .pointer (some ⟨ab, 0, none⟩), .int .u64 150] 131)) wr) := ⟨d, b⟩
   clear d b
   go_wp2_with (go_at_call 167; refine (r.out _).mono ?_; rintro D J ⟨rfl, l⟩)
   go_roundg 0
   case measure => exact Nat.lt_succ_self _
   case rel => exact ⟨.base 3, _, _, rfl, rfl, rfl, by simp [Er.simple, nums], A.out.1, Below.behind A.out.2 l⟩
  | place m e' =>
   obtain ⟨h, i, c⟩ := e'.shape sent
   unfold Er.val at a
   rw [c] at a
   simp only [Value.iface.injEq] at a
   obtain ⟨rfl, rfl⟩ := a
   have y := Qh1
   have u := QBl
   have B := QBa
   have H := Qft
   have F := Qd8
   have r := Hq (fun W => Qof (m : Int) h i W)
   have A : Aside (e'.val sent = .iface h i /\ e'.simple /\ e'.asN = e0.asN /\ Below (w.alloc (.cells #[.pointer (some ⟨17, 97, none⟩), .pointer (some ⟨ab, 0, none⟩), .int .u64 150] 131)).heap.size (w.alloc (.cells #[.pointer (some ⟨17, 97, none⟩), .pointer (some ⟨ab, 0, none⟩), .int .u64 150] 131)) wr) := ⟨c, g, d, b⟩
   clear c g d b
   go_wp2_with (go_at_call 127; refine (r.out _).mono ?_; rintro D J ⟨rfl, l⟩)
   go_roundg e'.depth
   case measure => exact Nat.lt_succ_self _
   case rel => exact ⟨e', h, i, rfl, rfl, A.out.1, A.out.2.1, A.out.2.2.1, Below.behind A.out.2.2.2 l⟩
  | inProof m e' =>
   obtain ⟨h, i, c⟩ := e'.shape sent
   unfold Er.val at a
   rw [c] at a
   simp only [Value.iface.injEq] at a
   obtain ⟨rfl, rfl⟩ := a
   have y := Qh4
   have u := QBn
   have B := QBc
   have H := Qfv
   have F := Qda
   have r := Hq (fun W => Qoh (m : Int) h i W)
   have A : Aside (e'.val sent = .iface h i /\ e'.simple /\ e'.asN = e0.asN /\ Below (w.alloc (.cells #[.pointer (some ⟨17, 97, none⟩), .pointer (some ⟨ab, 0, none⟩), .int .u64 150] 131)).heap.size (w.alloc (.cells #[.pointer (some ⟨17, 97, none⟩), .pointer (some ⟨ab, 0, none⟩), .int .u64 150] 131)) wr) := ⟨c, g, d, b⟩
   clear c g d b
   go_wp2_with (go_at_call 131; refine (r.out _).mono ?_; rintro D J ⟨rfl, l⟩)
   go_roundg e'.depth
   case measure => exact Nat.lt_succ_self _
   case rel => exact ⟨e', h, i, rfl, rfl, A.out.1, A.out.2.1, A.out.2.2.1, Below.behind A.out.2.2.2 l⟩
  | inNode m e' =>
   obtain ⟨h, i, c⟩ := e'.shape sent
   unfold Er.val at a
   rw [c] at a
   simp only [Value.iface.injEq] at a
   obtain ⟨rfl, rfl⟩ := a
   obtain ⟨ha, ht0, ht1, hf0, hf1, o, f⟩ := K.out
   have y := Qh3
   have u := QBm
   have vS := Qsg
   obtain ⟨Q, _⟩ := Qd7 b 0 (v := .pointer (some ⟨17, 97, none⟩)) rfl
   obtain ⟨R, _⟩ := Qd7 b 1 (v := .pointer (some ⟨ab, 0, none⟩)) rfl
   obtain ⟨S, _⟩ := Qd7 b 2 (v := .int .u64 150) rfl
   have j := Below.up b
   have E := j.size
   have T := Qwh ⟨ab, 0, none⟩ ⟨tb, 0, none⟩ wr ((j.cell o).trans ha)
   have X := QBo tb wr.heap.size (.int .i64 (m : Int)) (.iface h i) o0 o1 rfl rfl (wr.alloc (.cells #[.int .i64 (m : Int), .iface h i] 96)) (by rw [World.cell?_alloc_new]; rfl) (by rw [World.cell?_alloc_new]; rfl)
    ((World.cell?_alloc_past _ _ _ (by omega)).trans ((j.cell f).trans ht0)) ((World.cell?_alloc_past _ _ _ (by omega)).trans ((j.cell (p := ⟨tb, 1, none⟩) f).trans ht1))
    ((World.frozen?_alloc_past _ _ _ (by omega)).trans ((j.frozen f).trans hf0)) ((World.frozen?_alloc_past _ _ _ (by omega)).trans ((j.frozen (p := ⟨tb, 1, none⟩) f).trans hf1))
   have A : Aside (e0.asN = some (m, e') /\ e'.val sent = .iface h i /\ Below w.heap.size w wr) := ⟨d.symm, c, j⟩
   clear c g d b j E ha ht0 ht1 hf0 hf1 o f
   go_wp2
   go_ret
   refine ⟨fun q => (by rw [A.out.1] at q; cases q), fun k x q => ?_⟩
   rw [A.out.1] at q
   cases q
   exact ⟨rfl, _, A.out.2.2.alloc A.out.2.2.size _, by rw [A.out.2.1]⟩
theorem as_N (sent : Nat -> Addr) (e0 : Er) (h0 : e0.simple) (tb : Nat) (o0 o1 : Value) (w : World) (hg : w.cell? ⟨12, 0, none⟩ = some (.iface 177 (.agg #[.pointer (some ⟨17, 62, none⟩)]))) (ht0 : w.cell? ⟨tb, 0, none⟩ = some o0) (ht1 : w.cell? ⟨tb, 1, none⟩ = some o1) (hf0 : w.frozen? ⟨tb, 0, none⟩ = false) (hf1 : w.frozen? ⟨tb, 1, none⟩ = false) :
  Calls Tryz.prog 36 #[e0.val sent, .iface 97 (.pointer (some ⟨tb, 0, none⟩))] w (AsSaid e0.asN sent tb w) := by
 have G := @run_callFunc_extern Tryz.prog 54 _ (fun j => ReflectliteValue.unpack (j.getD 0 (.tuple #[]))) Tryz.func54 (by kernel_rfl) (by kernel_rfl) (by kernel_rfl) (by kernel_rfl)
 have H := @run_callFunc_extern Tryz.prog 55 _ (ReflectliteValue.methodAny (ReflectliteValue.valueError "reflectlite.Value.Type" 0) (fun t _ _ _ => ReflectliteType.toType t)) Tryz.func55 (by kernel_rfl) (by kernel_rfl) (by kernel_rfl) (by kernel_rfl)
 have F := @run_callFunc_extern Tryz.prog 56 _ (ReflectliteValue.method (ReflectliteValue.valueError "reflectlite.Value.IsNil" 0) ReflectliteValue.isNil) Tryz.func56 (by kernel_rfl) (by kernel_rfl) (by kernel_rfl) (by kernel_rfl)
 have D := @run_callFunc_extern Tryz.prog 122 _ (ReflectliteType.abiMethod fun t => do pure (.int .u8 (<- Rtype.kind t))) Tryz.func122 (by kernel_rfl) (by kernel_rfl) (by kernel_rfl) (by kernel_rfl)
 have E := @run_callFunc_extern Tryz.prog 157 _ (ReflectliteType.method ReflectliteType.elem) Tryz.func157 (by kernel_rfl) (by kernel_rfl) (by kernel_rfl) (by kernel_rfl)
 have C := @run_callFunc_extern Tryz.prog 158 _ (ReflectliteType.relation "Implements" ReflectliteType.implements_) Tryz.func158 (by kernel_rfl) (by kernel_rfl) (by kernel_rfl) (by kernel_rfl)
 have K := Qdm
 have I := Qdn
 have J := Qbn
 have N := Qr2
 have O := Qzp
 have P := Qwe
 have Q := Qwf
 have R := Qzq
 have S := Qki
 have g : 12 < w.heap.size := World.block_lt_of_cell? w _ hg
 have b : tb < w.heap.size := World.block_lt_of_cell? w _ ht0
 obtain ⟨W, f⟩ : ∃ W, W = (w.alloc (.cells #[.pointer (some ⟨tb, 0, none⟩)] 97)).alloc (.cells #[.pointer (some ⟨17, 97, none⟩), .pointer (some ⟨w.heap.size, 0, none⟩), .int .u64 150] 131) := ⟨_, rfl⟩
 have a : Below w.heap.size w W := by rw [f]; exact ((Below.refl _ _).alloc (Nat.le_refl _) _).alloc (by simp) _
 have l : W.cell? ⟨w.heap.size, 0, none⟩ = some (.pointer (some ⟨tb, 0, none⟩)) := by
  rw [f, World.cell?_alloc_past _ _ _ (by simp), World.cell?_alloc_new]
  rfl
 have u := Qwg ⟨w.heap.size, 0, none⟩ ⟨tb, 0, none⟩ W l
 have q : W.cell? ⟨12, 0, none⟩ = some (.iface 177 (.agg #[.pointer (some ⟨17, 62, none⟩)])) := (a.cell g).trans hg
 have c := Hq (Qzr sent e0 h0 w.heap.size tb o0 o1 W l ((a.cell b).trans ht0) ((a.cell (p := ⟨tb, 1, none⟩) b).trans ht1) ((a.frozen b).trans hf0) ((a.frozen (p := ⟨tb, 1, none⟩) b).trans hf1))
 have A : Aside (Below w.heap.size w W) := a
 obtain ⟨L, M, i⟩ := e0.shape sent
 rw [i] at c ⊢
 rw [f] at u q c A
 clear i a l g b hg ht0 ht1 hf0 hf1 f
 rcases hr : e0.asN with _ | ⟨m, x⟩
 ·have d := Hq (c.out.mono fun e v h => h.1 hr)
  clear c hr h0
  go_enter Tryz.func36, Tryz.ntmps36
  go_wp2_with (go_at_call 57; refine (d.out).mono ?_; rintro r z ⟨rfl, n⟩)
  go_ret
  exact ⟨fun _ => ⟨rfl, Below.behind A.out n⟩, fun k x o => by cases o⟩
 ·have d := Hq (c.out.mono fun e v h => h.2 m x hr)
  clear c hr h0
  go_enter Tryz.func36, Tryz.ntmps36
  go_wp2_with (go_at_call 57; refine (d.out).mono ?_; rintro r z ⟨rfl, B, n, rfl⟩)
  go_ret
  refine ⟨fun o => (by cases o), fun k y s => ?_⟩
  cases s
  exact ⟨rfl, B, Below.behind A.out n, rfl⟩
theorem QBp (w : World) : (ReflectliteType.relation "AssignableTo" ReflectliteType.assignableTo #[.agg #[.pointer (some ⟨17, 243, none⟩)], .iface 177 (.agg #[.pointer (some ⟨17, 99, none⟩)])]).run Tryz.prog w = .ok (.bool false) w := by kernel_rfl
theorem QBq (w : World) : (ReflectliteType.relation "AssignableTo" ReflectliteType.assignableTo #[.agg #[.pointer (some ⟨17, 228, none⟩)], .iface 177 (.agg #[.pointer (some ⟨17, 99, none⟩)])]).run Tryz.prog w = .ok (.bool false) w := by kernel_rfl
theorem QBr (w : World) : (ReflectliteType.relation "AssignableTo" ReflectliteType.assignableTo #[.agg #[.pointer (some ⟨17, 91, none⟩)], .iface 177 (.agg #[.pointer (some ⟨17, 99, none⟩)])]).run Tryz.prog w = .ok (.bool false) w := by kernel_rfl
theorem QBs (w : World) : (ReflectliteType.relation "AssignableTo" ReflectliteType.assignableTo #[.agg #[.pointer (some ⟨17, 96, none⟩)], .iface 177 (.agg #[.pointer (some ⟨17, 99, none⟩)])]).run Tryz.prog w = .ok (.bool false) w := by kernel_rfl
theorem QBt (w : World) : (ReflectliteType.relation "AssignableTo" ReflectliteType.assignableTo #[.agg #[.pointer (some ⟨17, 99, none⟩)], .iface 177 (.agg #[.pointer (some ⟨17, 99, none⟩)])]).run Tryz.prog w = .ok (.bool true) w := by kernel_rfl
theorem Qr3 (t : Addr) (w : World) : (ReflectliteValue.unpack (.iface 100 (.pointer (some t)))).run Tryz.prog w = .ok (.agg #[.pointer (some ⟨17, 100, none⟩), .pointer (some ⟨w.heap.size, 0, none⟩), .int .u64 150]) (w.alloc (.cells #[.pointer (some t)] 100)) := by kernel_rfl
theorem Qzs (a : Addr) (w : World) : (ReflectliteValue.methodAny (ReflectliteValue.valueError "reflectlite.Value.Type" 0) (fun t _ _ _ => ReflectliteType.toType t) #[.agg #[.pointer (some ⟨17, 100, none⟩), .pointer (some a), .int .u64 150]]).run Tryz.prog w = .ok (.iface 177 (.agg #[.pointer (some ⟨17, 100, none⟩)])) w := by kernel_rfl
theorem Qwi (w : World) : ((ReflectliteType.abiMethod fun t => (fun a : Nat => Value.int IntKind.u8 (a : Int)) <$> Rtype.kind t) #[.pointer (some ⟨17, 100, none⟩)]).run Tryz.prog w = .ok (.int .u8 22) w := by kernel_rfl
theorem Qwj (w : World) : ((ReflectliteType.abiMethod fun t => (fun a : Nat => Value.int IntKind.u8 (a : Int)) <$> Rtype.kind t) #[.pointer (some ⟨17, 99, none⟩)]).run Tryz.prog w = .ok (.int .u8 25) w := by kernel_rfl
theorem Qm8 (a : Addr) (w : World) : (ReflectliteValue.parts (.agg #[.pointer (some ⟨17, 100, none⟩), .pointer (some a), .int .u64 150])).run Tryz.prog w = .ok (some (100, a, 150)) w := by kernel_rfl
theorem Qwk (a p : Addr) (W : World) (ha : W.cell? a = some (.pointer (some p))) :
  (ReflectliteValue.method (ReflectliteValue.valueError "reflectlite.Value.IsNil" 0) ReflectliteValue.isNil #[.agg #[.pointer (some ⟨17, 100, none⟩), .pointer (some a), .int .u64 150]]).run Tryz.prog W = .ok (.bool false) W := by
 rw [rlm]
 simp only [Sem.run_bind, Qm8, Result.andThen]
 simp [ReflectliteValue.isNil, loadVar, isAgg, underlying, Tryz.underlying100, ha, Result.andThen]
theorem Qzt (w : World) : (ReflectliteType.method ReflectliteType.elem #[.agg #[.pointer (some ⟨17, 100, none⟩)]]).run Tryz.prog w = .ok (.iface 177 (.agg #[.pointer (some ⟨17, 99, none⟩)])) w := by kernel_rfl
theorem Qkj (w : World) : (ReflectliteType.relation "Implements" ReflectliteType.implements_ #[.agg #[.pointer (some ⟨17, 99, none⟩)], .iface 177 (.agg #[.pointer (some ⟨17, 62, none⟩)])]).run Tryz.prog w = .ok (.bool true) w := by kernel_rfl
theorem Qsl (a b : Value) (w : World) : (ReflectliteValue.unpack (.iface 99 (.agg #[a, b]))).run Tryz.prog w = .ok (.agg #[.pointer (some ⟨17, 99, none⟩), .pointer (some ⟨w.heap.size, 0, none⟩), .int .u64 153]) (w.alloc (.cells #[a, b] 99)) := by kernel_rfl
theorem Qsm (w : World) : (Rtype.elem? 100).run Tryz.prog w = .ok (some 99) w := by kernel_rfl
theorem QDc (p : Addr) (w : World) : (ReflectliteValue.mk 99 p ReflectliteValue.flagAddr).run Tryz.prog w = .ok (.agg #[.pointer (some ⟨17, 99, none⟩), .pointer (some p), .int .u64 409]) w := by kernel_rfl
theorem Qwl (a p : Addr) (W : World) (ha : W.cell? a = some (.pointer (some p))) :
  (ReflectliteValue.method (ReflectliteValue.valueError "reflectlite.Value.Elem" 0) ReflectliteValue.elem #[.agg #[.pointer (some ⟨17, 100, none⟩), .pointer (some a), .int .u64 150]]).run Tryz.prog W = .ok (.agg #[.pointer (some ⟨17, 99, none⟩), .pointer (some p), .int .u64 409]) W := by
 rw [rlm]
 simp only [Sem.run_bind, Qm8, Result.andThen]
 simp [ReflectliteValue.elem, loadVar, isAgg, underlying, Tryz.underlying100, ha, Result.andThen, Qsm, QDc]
theorem Qsn (a : Addr) (w : World) : (ReflectliteValue.parts (.agg #[.pointer (some ⟨17, 99, none⟩), .pointer (some a), .int .u64 409])).run Tryz.prog w = .ok (some (99, a, 409)) w := by kernel_rfl
theorem Qso (a : Addr) (w : World) : (ReflectliteValue.parts (.agg #[.pointer (some ⟨17, 99, none⟩), .pointer (some a), .int .u64 153])).run Tryz.prog w = .ok (some (99, a, 153)) w := by kernel_rfl
theorem Qsp (w : World) : (Rtype.directlyAssignable 99 99).run Tryz.prog w = .ok true w := by kernel_rfl
theorem QBu (tb bb : Nat) (x y o0 o1 : Value) (hx : x.oneCell' = true) (hy : y.oneCell' = true) (W : World) (hb0 : W.cell? ⟨bb, 0, none⟩ = some x) (hb1 : W.cell? ⟨bb, 1, none⟩ = some y) (h0 : W.cell? ⟨tb, 0, none⟩ = some o0) (h1 : W.cell? ⟨tb, 1, none⟩ = some o1) (f0 : W.frozen? ⟨tb, 0, none⟩ = false) (f1 : W.frozen? ⟨tb, 1, none⟩ = false) :
  (ReflectliteValue.set #[.agg #[.pointer (some ⟨17, 99, none⟩), .pointer (some ⟨tb, 0, none⟩), .int .u64 409], .agg #[.pointer (some ⟨17, 99, none⟩), .pointer (some ⟨bb, 0, none⟩), .int .u64 153]]).run Tryz.prog W = .ok (.tuple #[]) ((W.setCell ⟨tb, 0, none⟩ x).setCell ⟨tb, 1, none⟩ y) := by
 rw [rls]
 simp only [Sem.run_bind, Qsn, Qso, Result.andThen]
 have b := run_loadCells_list (P := Tryz.prog) W ⟨bb, 0, none⟩ [x, y] (fun j v hv => by
  match j, hv with
  | 0, hv => cases hv; exact hb0
  | 1, hv => cases hv; exact hb1)
 simp only [List.length_cons, List.length_nil] at b
 have c := run_storeCells_cells (P := Tryz.prog) tb 0 [x, y] 0 W (fun j a => by
  match j, a with
  | 0, _ => rw [show (⟨tb, 0 + 0 + 0, none⟩ : Addr) = ⟨tb, 0, none⟩ from rfl, h0]; rfl
  | 1, _ => rw [show (⟨tb, 0 + 0 + 1, none⟩ : Addr) = ⟨tb, 1, none⟩ from rfl, h1]; rfl) (fun j a => by
  match j, a with
  | 0, _ => exact f0
  | 1, _ => exact f1) (fun v hv => by
  simp only [List.mem_cons, List.not_mem_nil, or_false] at hv
  rcases hv with rfl | rfl
  ·exact hx
  ·exact hy)
 simp [ReflectliteValue.flagAddr, loadVar, isAgg, underlying, Tryz.underlying99, Result.andThen, Qsp, storeVar, Value.cells]
 rw [b]
 simp
 rw [c]
 rfl
theorem Qzu (sent : Nat -> Addr) (e0 : Er) (h0 : e0.simple) (ab tb : Nat) (o0 o1 : Value) (w : World) (ha : w.cell? ⟨ab, 0, none⟩ = some (.pointer (some ⟨tb, 0, none⟩))) (ht0 : w.cell? ⟨tb, 0, none⟩ = some o0) (ht1 : w.cell? ⟨tb, 1, none⟩ = some o1) (hf0 : w.frozen? ⟨tb, 0, none⟩ = false) (hf1 : w.frozen? ⟨tb, 1, none⟩ = false) :
  Calls Tryz.prog 57 #[e0.val sent, .iface 100 (.pointer (some ⟨tb, 0, none⟩)), .agg #[.pointer (some ⟨17, 100, none⟩), .pointer (some ⟨ab, 0, none⟩), .int .u64 150], .iface 177 (.agg #[.pointer (some ⟨17, 99, none⟩)])] w (AsSaid e0.asQ sent tb w) := by
 have O := @run_callFunc_extern Tryz.prog 64 _ ReflectliteType.typeOf Tryz.func64 (by kernel_rfl) (by kernel_rfl) (by kernel_rfl) (by kernel_rfl)
 have L := @run_callFunc_extern Tryz.prog 155 _ (ReflectliteType.relation "AssignableTo" ReflectliteType.assignableTo) Tryz.func155 (by kernel_rfl) (by kernel_rfl) (by kernel_rfl) (by kernel_rfl)
 have P := @run_callFunc_extern Tryz.prog 54 _ (fun z => ReflectliteValue.unpack (z.getD 0 (.tuple #[]))) Tryz.func54 (by kernel_rfl) (by kernel_rfl) (by kernel_rfl) (by kernel_rfl)
 have M := @run_callFunc_extern Tryz.prog 78 _ (ReflectliteValue.method (ReflectliteValue.valueError "reflectlite.Value.Elem" 0) ReflectliteValue.elem) Tryz.func78 (by kernel_rfl) (by kernel_rfl) (by kernel_rfl) (by kernel_rfl)
 have N := @run_callFunc_extern Tryz.prog 79 _ ReflectliteValue.set Tryz.func79 (by kernel_rfl) (by kernel_rfl) (by kernel_rfl) (by kernel_rfl)
 have U := Qbg
 obtain ⟨G, I, s⟩ := e0.shape sent
 have C : Hid (e0.val sent = .iface G I /\ e0.simple) := ⟨s, h0⟩
 have o : ab < w.heap.size := World.block_lt_of_cell? w _ ha
 have f : tb < w.heap.size := World.block_lt_of_cell? w _ ht0
 have K : Hid (w.cell? ⟨ab, 0, none⟩ = some (.pointer (some ⟨tb, 0, none⟩)) /\ w.cell? ⟨tb, 0, none⟩ = some o0 /\ w.cell? ⟨tb, 1, none⟩ = some o1 /\ w.frozen? ⟨tb, 0, none⟩ = false /\ w.frozen? ⟨tb, 1, none⟩ = false /\ ab < w.heap.size /\ tb < w.heap.size) := ⟨ha, ht0, ht1, hf0, hf1, o, f⟩
 rw [s]
 clear s h0 ha ht0 ht1 hf0 hf1 o f
 go_enter Tryz.func57, Tryz.ntmps57
 go_wp2
 go_loopg [0] e0.depth (fun gh x wr => ∃ e t v, gh = Er.depth e /\ x = .iface t v /\ e.val sent = .iface t v /\ e.simple /\ e.asQ = e0.asQ /\ Below (w.alloc (.cells #[.pointer (some ⟨17, 100, none⟩), .pointer (some ⟨ab, 0, none⟩), .int .u64 150] 131)).heap.size (w.alloc (.cells #[.pointer (some ⟨17, 100, none⟩), .pointer (some ⟨ab, 0, none⟩), .int .u64 150] 131)) wr)
 case atStart => exact ⟨e0, G, I, rfl, rfl, C.out.1, C.out.2, rfl, Below.refl _ _⟩
 case round =>
  obtain ⟨e, t, v, rfl, rfl, a, g, d, b⟩ := hrel
  cases e with
  | base n =>
   unfold Er.val at a
   simp only [Value.iface.injEq] at a
   obtain ⟨rfl, rfl⟩ := a
   have y := Qgw
   have u := QBp
   have B := Qzk
   have Y := Qf6
   have Z := Qe8
   have A : Aside (e0.asQ = none /\ Below w.heap.size w wr) := ⟨d.symm, Below.up b⟩
   clear g d b
   go_wp2
   go_ret
   exact ⟨fun _ => ⟨rfl, A.out.2⟩, fun k x q => by rw [A.out.1] at q; cases q⟩
  | noNode e' =>
   obtain rfl : e' = .base 3 := g
   unfold Er.val at a
   rw [show (Er.base 3).val sent = .iface 243 (.pointer (some (sent 3))) from rfl] at a
   simp only [Value.iface.injEq] at a
   obtain ⟨rfl, rfl⟩ := a
   have y := Qh2
   have u := QBq
   have B := Qzl
   have H := Qe9
   have F := Qc9
   have r := Hq (fun W => Qkn 243 (.pointer (some (sent 3))) W)
   have A : Aside ((Er.base 3).asQ = e0.asQ /\ Below (w.alloc (.cells #[.pointer (some ⟨17, 100, none⟩), .pointer (some ⟨ab, 0, none⟩), .int .u64 150] 131)).heap.size (w.alloc (.cells #[.pointer (some ⟨17, 100, none⟩), .pointer (some ⟨ab, 0, none⟩), .int .u64 150] 131)) wr) := ⟨d, b⟩
   clear d b
   go_wp2_with (go_at_call 167; refine (r.out _).mono ?_; rintro D J ⟨rfl, l⟩)
   go_roundg 0
   case measure => exact Nat.lt_succ_self _
   case rel => exact ⟨.base 3, _, _, rfl, rfl, rfl, by simp [Er.simple, nums], A.out.1, Below.behind A.out.2 l⟩
  | place m e' =>
   obtain ⟨h, i, c⟩ := e'.shape sent
   unfold Er.val at a
   rw [c] at a
   simp only [Value.iface.injEq] at a
   obtain ⟨rfl, rfl⟩ := a
   have y := Qh1
   have u := QBr
   have B := QBa
   have H := Qft
   have F := Qd8
   have r := Hq (fun W => Qof (m : Int) h i W)
   have A : Aside (e'.val sent = .iface h i /\ e'.simple /\ e'.asQ = e0.asQ /\ Below (w.alloc (.cells #[.pointer (some ⟨17, 100, none⟩), .pointer (some ⟨ab, 0, none⟩), .int .u64 150] 131)).heap.size (w.alloc (.cells #[.pointer (some ⟨17, 100, none⟩), .pointer (some ⟨ab, 0, none⟩), .int .u64 150] 131)) wr) := ⟨c, g, d, b⟩
   clear c g d b
   go_wp2_with (go_at_call 127; refine (r.out _).mono ?_; rintro D J ⟨rfl, l⟩)
   go_roundg e'.depth
   case measure => exact Nat.lt_succ_self _
   case rel => exact ⟨e', h, i, rfl, rfl, A.out.1, A.out.2.1, A.out.2.2.1, Below.behind A.out.2.2.2 l⟩
  | inNode m e' =>
   obtain ⟨h, i, c⟩ := e'.shape sent
   unfold Er.val at a
   rw [c] at a
   simp only [Value.iface.injEq] at a
   obtain ⟨rfl, rfl⟩ := a
   have y := Qh3
   have u := QBs
   have B := QBb
   have H := Qfu
   have F := Qd9
   have r := Hq (fun W => Qog (m : Int) h i W)
   have A : Aside (e'.val sent = .iface h i /\ e'.simple /\ e'.asQ = e0.asQ /\ Below (w.alloc (.cells #[.pointer (some ⟨17, 100, none⟩), .pointer (some ⟨ab, 0, none⟩), .int .u64 150] 131)).heap.size (w.alloc (.cells #[.pointer (some ⟨17, 100, none⟩), .pointer (some ⟨ab, 0, none⟩), .int .u64 150] 131)) wr) := ⟨c, g, d, b⟩
   clear c g d b
   go_wp2_with (go_at_call 129; refine (r.out _).mono ?_; rintro D J ⟨rfl, l⟩)
   go_roundg e'.depth
   case measure => exact Nat.lt_succ_self _
   case rel => exact ⟨e', h, i, rfl, rfl, A.out.1, A.out.2.1, A.out.2.2.1, Below.behind A.out.2.2.2 l⟩
  | inProof m e' =>
   obtain ⟨h, i, c⟩ := e'.shape sent
   unfold Er.val at a
   rw [c] at a
   simp only [Value.iface.injEq] at a
   obtain ⟨rfl, rfl⟩ := a
   obtain ⟨ha, ht0, ht1, hf0, hf1, o, f⟩ := K.out
   have y := Qh4
   have u := QBt
   have vS := Qsl
   obtain ⟨Q, _⟩ := Qd7 b 0 (v := .pointer (some ⟨17, 100, none⟩)) rfl
   obtain ⟨R, _⟩ := Qd7 b 1 (v := .pointer (some ⟨ab, 0, none⟩)) rfl
   obtain ⟨S, _⟩ := Qd7 b 2 (v := .int .u64 150) rfl
   have j := Below.up b
   have E := j.size
   have T := Qwl ⟨ab, 0, none⟩ ⟨tb, 0, none⟩ wr ((j.cell o).trans ha)
   have X := QBu tb wr.heap.size (.int .i64 (m : Int)) (.iface h i) o0 o1 rfl rfl (wr.alloc (.cells #[.int .i64 (m : Int), .iface h i] 99)) (by rw [World.cell?_alloc_new]; rfl) (by rw [World.cell?_alloc_new]; rfl)
    ((World.cell?_alloc_past _ _ _ (by omega)).trans ((j.cell f).trans ht0)) ((World.cell?_alloc_past _ _ _ (by omega)).trans ((j.cell (p := ⟨tb, 1, none⟩) f).trans ht1))
    ((World.frozen?_alloc_past _ _ _ (by omega)).trans ((j.frozen f).trans hf0)) ((World.frozen?_alloc_past _ _ _ (by omega)).trans ((j.frozen (p := ⟨tb, 1, none⟩) f).trans hf1))
   have A : Aside (e0.asQ = some (m, e') /\ e'.val sent = .iface h i /\ Below w.heap.size w wr) := ⟨d.symm, c, j⟩
   clear c g d b j E ha ht0 ht1 hf0 hf1 o f
   go_wp2
   go_ret
   refine ⟨fun q => (by rw [A.out.1] at q; cases q), fun k x q => ?_⟩
   rw [A.out.1] at q
   cases q
   exact ⟨rfl, _, A.out.2.2.alloc A.out.2.2.size _, by rw [A.out.2.1]⟩
theorem as_Q (sent : Nat -> Addr) (e0 : Er) (h0 : e0.simple) (tb : Nat) (o0 o1 : Value) (w : World) (hg : w.cell? ⟨12, 0, none⟩ = some (.iface 177 (.agg #[.pointer (some ⟨17, 62, none⟩)]))) (ht0 : w.cell? ⟨tb, 0, none⟩ = some o0) (ht1 : w.cell? ⟨tb, 1, none⟩ = some o1) (hf0 : w.frozen? ⟨tb, 0, none⟩ = false) (hf1 : w.frozen? ⟨tb, 1, none⟩ = false) :
  Calls Tryz.prog 36 #[e0.val sent, .iface 100 (.pointer (some ⟨tb, 0, none⟩))] w (AsSaid e0.asQ sent tb w) := by
 have G := @run_callFunc_extern Tryz.prog 54 _ (fun j => ReflectliteValue.unpack (j.getD 0 (.tuple #[]))) Tryz.func54 (by kernel_rfl) (by kernel_rfl) (by kernel_rfl) (by kernel_rfl)
 have H := @run_callFunc_extern Tryz.prog 55 _ (ReflectliteValue.methodAny (ReflectliteValue.valueError "reflectlite.Value.Type" 0) (fun t _ _ _ => ReflectliteType.toType t)) Tryz.func55 (by kernel_rfl) (by kernel_rfl) (by kernel_rfl) (by kernel_rfl)
 have F := @run_callFunc_extern Tryz.prog 56 _ (ReflectliteValue.method (ReflectliteValue.valueError "reflectlite.Value.IsNil" 0) ReflectliteValue.isNil) Tryz.func56 (by kernel_rfl) (by kernel_rfl) (by kernel_rfl) (by kernel_rfl)
 have D := @run_callFunc_extern Tryz.prog 122 _ (ReflectliteType.abiMethod fun t => do pure (.int .u8 (<- Rtype.kind t))) Tryz.func122 (by kernel_rfl) (by kernel_rfl) (by kernel_rfl) (by kernel_rfl)
 have E := @run_callFunc_extern Tryz.prog 157 _ (ReflectliteType.method ReflectliteType.elem) Tryz.func157 (by kernel_rfl) (by kernel_rfl) (by kernel_rfl) (by kernel_rfl)
 have C := @run_callFunc_extern Tryz.prog 158 _ (ReflectliteType.relation "Implements" ReflectliteType.implements_) Tryz.func158 (by kernel_rfl) (by kernel_rfl) (by kernel_rfl) (by kernel_rfl)
 have K := Qdm
 have I := Qdn
 have J := Qbn
 have N := Qr3
 have O := Qzs
 have P := Qwi
 have Q := Qwj
 have R := Qzt
 have S := Qkj
 have g : 12 < w.heap.size := World.block_lt_of_cell? w _ hg
 have b : tb < w.heap.size := World.block_lt_of_cell? w _ ht0
 obtain ⟨W, f⟩ : ∃ W, W = (w.alloc (.cells #[.pointer (some ⟨tb, 0, none⟩)] 100)).alloc (.cells #[.pointer (some ⟨17, 100, none⟩), .pointer (some ⟨w.heap.size, 0, none⟩), .int .u64 150] 131) := ⟨_, rfl⟩
 have a : Below w.heap.size w W := by rw [f]; exact ((Below.refl _ _).alloc (Nat.le_refl _) _).alloc (by simp) _
 have l : W.cell? ⟨w.heap.size, 0, none⟩ = some (.pointer (some ⟨tb, 0, none⟩)) := by
  rw [f, World.cell?_alloc_past _ _ _ (by simp), World.cell?_alloc_new]
  rfl
 have u := Qwk ⟨w.heap.size, 0, none⟩ ⟨tb, 0, none⟩ W l
 have q : W.cell? ⟨12, 0, none⟩ = some (.iface 177 (.agg #[.pointer (some ⟨17, 62, none⟩)])) := (a.cell g).trans hg
 have c := Hq (Qzu sent e0 h0 w.heap.size tb o0 o1 W l ((a.cell b).trans ht0) ((a.cell (p := ⟨tb, 1, none⟩) b).trans ht1) ((a.frozen b).trans hf0) ((a.frozen (p := ⟨tb, 1, none⟩) b).trans hf1))
 have A : Aside (Below w.heap.size w W) := a
 obtain ⟨L, M, i⟩ := e0.shape sent
 rw [i] at c ⊢
 rw [f] at u q c A
 clear i a l g b hg ht0 ht1 hf0 hf1 f
 rcases hr : e0.asQ with _ | ⟨m, x⟩
 ·have d := Hq (c.out.mono fun e v h => h.1 hr)
  clear c hr h0
  go_enter Tryz.func36, Tryz.ntmps36
  go_wp2_with (go_at_call 57; refine (d.out).mono ?_; rintro r z ⟨rfl, n⟩)
  go_ret
  exact ⟨fun _ => ⟨rfl, Below.behind A.out n⟩, fun k x o => by cases o⟩
 ·have d := Hq (c.out.mono fun e v h => h.2 m x hr)
  clear c hr h0
  go_enter Tryz.func36, Tryz.ntmps36
  go_wp2_with (go_at_call 57; refine (d.out).mono ?_; rintro r z ⟨rfl, B, n, rfl⟩)
  go_ret
  refine ⟨fun o => (by cases o), fun k y s => ?_⟩
  cases s
  exact ⟨rfl, B, Below.behind A.out n, rfl⟩
end Go.Proofs.YtakidhihbgfjlaaGreatDoor
