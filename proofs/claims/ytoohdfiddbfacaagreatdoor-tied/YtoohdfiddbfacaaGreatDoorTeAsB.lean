/-
  errors.As at the errors of package fault, for the three kinds that are asked for.
-/
import Derived.Test.YtoohdfiddbfacaaGreatDoorTeErrG
import Derived.RowKitTokens
namespace Go.Proofs.YtoohdfiddbfacaaGreatDoor
open Go.RowKit Go.Extern.Stop Go.Stop Go.Extern
set_option maxRecDepth 100000
set_option maxHeartbeats 25600000
theorem rlm (z : Sem Value) (f : TypeId -> Addr -> Nat -> Nat -> Sem Value) (v : Value) :
 ReflectliteValue.method z f #[v] = (do match <- ReflectliteValue.parts v with | none => z | some (t, a, fl) => f t a fl (fl % 32)) := rfl
theorem rls (v x : Value) : ReflectliteValue.set #[v, x] = (do
 let (some (dst, a, fl), some (src, b, _)) := (<- ReflectliteValue.parts v, <- ReflectliteValue.parts x)
  | unsupported (.noEntry "extern/(internal/reflectlite.Value).Set.zeroValue")
 if fl / ReflectliteValue.flagAddr % 2 == 0 then unsupported (.noEntry "extern/(internal/reflectlite.Value).Set.unaddressable")
 let val <- loadVar src b
 if <- Rtype.directlyAssignable dst src then storeVar dst a val
 else if <- Rtype.implements dst src then
  if (<- Rtype.kind src) == 20 then
   match val with
   | .nilIface => unsupported (.noEntry "extern/reflectlite: a nil value of one interface type handed on as a value of another")
   | _ => storeVar dst a val
  else storeVar dst a (.iface src val)
 else panicString ("reflectlite.Set: value of type " ++ (<- Rtype.spelt src) ++ " is not assignable to type " ++ (<- Rtype.spelt dst))
 pure (.tuple #[])) := rfl
theorem asMethodKind (h : Value) (w : World) : (Go.method 395 177 (.agg #[h]) "Kind").run Tryz.prog w = .ok (124, h) w := by kernel_rfl
theorem asMethodElem (h : Value) (w : World) : (Go.method 395 177 (.agg #[h]) "Elem").run Tryz.prog w = .ok (160, .agg #[h]) w := by kernel_rfl
theorem asMethodImplements (h : Value) (w : World) : (Go.method 395 177 (.agg #[h]) "Implements").run Tryz.prog w = .ok (161, .agg #[h]) w := by kernel_rfl
theorem asMethodAssignableTo (h : Value) (w : World) : (Go.method 395 177 (.agg #[h]) "AssignableTo").run Tryz.prog w = .ok (158, .agg #[h]) w := by kernel_rfl
theorem as_nil (t : Value) (w : World) : Calls Tryz.prog 47 #[.nilIface, t] w fun e w' => e = .returned (.bool false) /\ w' = w := by
 go_enter Tryz.func47, Tryz.ntmps47
 go_wp2
 go_ret
 exact ⟨rfl, rfl⟩
theorem noAsE (v : Value) (xT : TypeId) (w : World) : (Instr.typeAssert (.iface 244 v) xT 200 true).run Tryz.prog w = .ok (.tuple #[.nilIface, .bool false]) w := run_typeAssert_lacksB Tryz.underlying200 (by kernel_rfl) (by kernel_rfl) v xT w
theorem asTypeOfP (v : Value) (w : World) : (ReflectliteType.typeOf #[.iface 112 v]).run Tryz.prog w = .ok (.iface 177 (.agg #[.pointer (some ⟨16, 112, none⟩)])) w := by kernel_rfl
theorem asTypeOfK (v : Value) (w : World) : (ReflectliteType.typeOf #[.iface 233 v]).run Tryz.prog w = .ok (.iface 177 (.agg #[.pointer (some ⟨16, 233, none⟩)])) w := by kernel_rfl
theorem noAsK (v : Value) (xT : TypeId) (w : World) : (Instr.typeAssert (.iface 233 v) xT 200 true).run Tryz.prog w = .ok (.tuple #[.nilIface, .bool false]) w := run_typeAssert_lacksB Tryz.underlying200 (by kernel_rfl) (by kernel_rfl) v xT w
theorem noAsP (v : Value) (xT : TypeId) (w : World) : (Instr.typeAssert (.iface 112 v) xT 200 true).run Tryz.prog w = .ok (.tuple #[.nilIface, .bool false]) w := run_typeAssert_lacksB Tryz.underlying200 (by kernel_rfl) (by kernel_rfl) v xT w
theorem asTypeOfN (v : Value) (w : World) : (ReflectliteType.typeOf #[.iface 110 v]).run Tryz.prog w = .ok (.iface 177 (.agg #[.pointer (some ⟨16, 110, none⟩)])) w := by kernel_rfl
theorem noAsN (v : Value) (xT : TypeId) (w : World) : (Instr.typeAssert (.iface 110 v) xT 200 true).run Tryz.prog w = .ok (.tuple #[.nilIface, .bool false]) w := run_typeAssert_lacksB Tryz.underlying200 (by kernel_rfl) (by kernel_rfl) v xT w
theorem asTypeOfQ (v : Value) (w : World) : (ReflectliteType.typeOf #[.iface 105 v]).run Tryz.prog w = .ok (.iface 177 (.agg #[.pointer (some ⟨16, 105, none⟩)])) w := by kernel_rfl
theorem noAsQ (v : Value) (xT : TypeId) (w : World) : (Instr.typeAssert (.iface 105 v) xT 200 true).run Tryz.prog w = .ok (.tuple #[.nilIface, .bool false]) w := run_typeAssert_lacksB Tryz.underlying200 (by kernel_rfl) (by kernel_rfl) v xT w
def Er.asP : Er -> Option (Nat × Er)
 | .base _ => none
 | .place k e => some (k, e)
 | .noNode e => e.asP
 | .inNode _ e => e.asP
 | .inProof _ e => e.asP
def Er.asN : Er -> Option (Nat × Er)
 | .base _ => none
 | .place _ e => e.asN
 | .noNode e => e.asN
 | .inNode k e => some (k, e)
 | .inProof _ e => e.asN
def Er.asQ : Er -> Option (Nat × Er)
 | .base _ => none
 | .place _ e => e.asQ
 | .noNode e => e.asQ
 | .inNode _ e => e.asQ
 | .inProof k e => some (k, e)
def AsSaid (r : Option (Nat × Er)) (sent : Nat -> Addr) (tb : Nat) (w : World) (e : Ending) (w' : World) : Prop :=
 (r = none -> e = .returned (.bool false) /\ Below w.heap.size w w') /\
  ∀ k x, r = some (k, x) -> e = .returned (.bool true) /\ ∃ w1, Below w.heap.size w w1 /\ w' = (w1.setCell ⟨tb, 0, none⟩ (.int .i64 (k : Int))).setCell ⟨tb, 1, none⟩ (x.val sent)
end Go.Proofs.YtoohdfiddbfacaaGreatDoor
