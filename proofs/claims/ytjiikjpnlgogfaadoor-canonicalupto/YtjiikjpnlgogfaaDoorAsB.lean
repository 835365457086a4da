/-
  errors.As at the errors of package fault, for the three kinds that are asked for.
-/
import Derived.Test.YtjiikjpnlgogfaaDoorIs
import Derived.RowKitTokens
namespace Go.Proofs.YtjiikjpnlgogfaaDoor
open Go.RowKit Go.Extern.Stop Go.Stop Go.Extern

theorem rlm (z : Sem Value) (f : TypeId → Addr → Nat → Nat → Sem Value) (v : Value) :
    ReflectliteValue.method z f #[v] = (do match ← ReflectliteValue.parts v with | none => z | some (t, a, fl) => f t a fl (fl % 32)) := rfl
theorem rls (v x : Value) : ReflectliteValue.set #[v, x] = (do
    let (some (dst, a, fl), some (src, b, _)) := (← ReflectliteValue.parts v, ← ReflectliteValue.parts x)
      | unsupported (.noEntry "extern/(internal/reflectlite.Value).Set.zeroValue")
    if fl / ReflectliteValue.flagAddr % 2 == 0 then unsupported (.noEntry "extern/(internal/reflectlite.Value).Set.unaddressable")
    let val ← loadVar src b
    if ← Rtype.directlyAssignable dst src then storeVar dst a val
    else if ← Rtype.implements dst src then
      if (← Rtype.kind src) == 20 then
        match val with
        | .nilIface => unsupported (.noEntry "extern/reflectlite: a nil value of one interface type handed on as a value of another")
        | _ => storeVar dst a val
      else storeVar dst a (.iface src val)
    else panicString ("reflectlite.Set: value of type " ++ (← Rtype.spelt src) ++ " is not assignable to type " ++ (← Rtype.spelt dst))
    pure (.tuple #[])) := rfl
theorem asMethodKind (h : Value) (w : World) : (Go.method 307 154 (.agg #[h]) "Kind").run Tryd.prog w = .ok (91, h) w := by kernel_rfl
theorem asMethodElem (h : Value) (w : World) : (Go.method 307 154 (.agg #[h]) "Elem").run Tryd.prog w = .ok (106, .agg #[h]) w := by kernel_rfl
theorem asMethodImplements (h : Value) (w : World) : (Go.method 307 154 (.agg #[h]) "Implements").run Tryd.prog w = .ok (107, .agg #[h]) w := by kernel_rfl
theorem asMethodAssignableTo (h : Value) (w : World) : (Go.method 307 154 (.agg #[h]) "AssignableTo").run Tryd.prog w = .ok (104, .agg #[h]) w := by kernel_rfl
theorem as_nil (t : Value) (w : World) : Calls Tryd.prog 43 #[.nilIface, t] w fun e w' => e = .returned (.bool false) ∧ w' = w := by
  go_enter Tryd.func43, Tryd.ntmps43
  go_wp2
  go_ret
  exact ⟨rfl, rfl⟩

theorem noAsE (v : Value) (xT : TypeId) (w : World) : (Instr.typeAssert (.iface 174 v) xT 169 true).run Tryd.prog w = .ok (.tuple #[.nilIface, .bool false]) w := run_typeAssert_lacksB Tryd.underlying169 (by kernel_rfl) (by kernel_rfl) v xT w
theorem asTypeOfP (v : Value) (w : World) : (ReflectliteType.typeOf #[.iface 101 v]).run Tryd.prog w = .ok (.iface 154 (.agg #[.pointer (some ⟨16, 101, none⟩)])) w := by kernel_rfl
theorem noAsP (v : Value) (xT : TypeId) (w : World) : (Instr.typeAssert (.iface 101 v) xT 169 true).run Tryd.prog w = .ok (.tuple #[.nilIface, .bool false]) w := run_typeAssert_lacksB Tryd.underlying169 (by kernel_rfl) (by kernel_rfl) v xT w
theorem asTypeOfN (v : Value) (w : World) : (ReflectliteType.typeOf #[.iface 106 v]).run Tryd.prog w = .ok (.iface 154 (.agg #[.pointer (some ⟨16, 106, none⟩)])) w := by kernel_rfl
theorem noAsN (v : Value) (xT : TypeId) (w : World) : (Instr.typeAssert (.iface 106 v) xT 169 true).run Tryd.prog w = .ok (.tuple #[.nilIface, .bool false]) w := run_typeAssert_lacksB Tryd.underlying169 (by kernel_rfl) (by kernel_rfl) v xT w
theorem asTypeOfQ (v : Value) (w : World) : (ReflectliteType.typeOf #[.iface 109 v]).run Tryd.prog w = .ok (.iface 154 (.agg #[.pointer (some ⟨16, 109, none⟩)])) w := by kernel_rfl
theorem noAsQ (v : Value) (xT : TypeId) (w : World) : (Instr.typeAssert (.iface 109 v) xT 169 true).run Tryd.prog w = .ok (.tuple #[.nilIface, .bool false]) w := run_typeAssert_lacksB Tryd.underlying169 (by kernel_rfl) (by kernel_rfl) v xT w

def Er.asP : Er → Option (Nat × Er)
  | .base _ => none
  | .place k e => some (k, e)
  | .noNode e => e.asP
  | .inNode _ e => e.asP
  | .inProof _ e => e.asP
def Er.asN : Er → Option (Nat × Er)
  | .base _ => none
  | .place _ e => e.asN
  | .noNode e => e.asN
  | .inNode k e => some (k, e)
  | .inProof _ e => e.asN
def Er.asQ : Er → Option (Nat × Er)
  | .base _ => none
  | .place _ e => e.asQ
  | .noNode e => e.asQ
  | .inNode _ e => e.asQ
  | .inProof k e => some (k, e)

/-- What errors.As answers, and what it leaves in the variable at tb. -/
def AsSaid (r : Option (Nat × Er)) (sent : Nat → Addr) (tb : Nat) (w : World) (e : Ending) (w' : World) : Prop :=
  (r = none → e = .returned (.bool false) ∧ Below w.heap.size w w') ∧
    ∀ k x, r = some (k, x) → e = .returned (.bool true) ∧ ∃ w1, Below w.heap.size w w1 ∧ w' = (w1.setCell ⟨tb, 0, none⟩ (.int .i64 (k : Int))).setCell ⟨tb, 1, none⟩ (x.val sent)

end Go.Proofs.YtjiikjpnlgogfaaDoor
