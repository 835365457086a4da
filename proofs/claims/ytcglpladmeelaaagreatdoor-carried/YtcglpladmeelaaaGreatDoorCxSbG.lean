/-
  twigs.Extract; package twigskeep: collision; rows of texts that are appended.
-/
import Derived.Test.YtcglpladmeelaaaGreatDoorCxVoG
import Derived.Test.YtcglpladmeelaaaGreatDoorCxSaG
import Derived.Test.YtcglpladmeelaaaGreatDoorCxVaG
namespace Go.Proofs.YtcglpladmeelaaaGreatDoor
open Go.RowKit
set_option maxRecDepth 100000
set_option maxHeartbeats 25600000
theorem run_append_str (w : World) (ty : TypeId) (B : Nat) (v : Value) (n : Nat) (cs : List Value) (hown : OwnC w B 1 v n cs) (p : Option Addr) (l : List ByteArray) (c : Nat) (hr : StrRow w p l c) (hm : n + l.length <= 1099511627776) (hB : B <= w.heap.size) :
  ∃ v' w', (Builtin.append_ #[24, 24] ty #[v, .slice p l.length c]).run Tryz.prog w = .ok v' w' /\ OwnC w' B 1 v' (n + l.length) (cs ++ l.map Value.string) /\ w.grownBy w' v.ownBlock := by
 obtain ⟨i, a, d, e, f⟩ := info_parts strZ
 rcases hr with ⟨rfl, rfl, rfl⟩ | ⟨g, o, rfl, e2, e3, e4⟩
 ·obtain ⟨p, c, rfl, b⟩ := hown.cap
  refine ⟨_, w, run_append_nil w _ ty _ i Tryz.underlying24 a p n c b, by simpa using hown, ⟨rfl, rfl, rfl, Nat.le_refl _, fun _ _ _ => rfl⟩⟩
 ·obtain ⟨v', w', h, j, k, m, _⟩ := run_append_ownp (P := Tryz.prog) w 24 ty 9 i (.string ⟨#[]⟩) 1 16 Tryz.underlying24 a d e f rfl (by decide) B v n cs hown g o l.length c (l.map Value.string) (by simp) e4 (by simp [Value.oneCell']) (by unfold maxLen; omega) (by omega) hB
  exact ⟨v', w', h, j, k⟩
theorem step_append_str (w : World) {o : Oper} {a : Act} {K : Act -> World -> Prop} {Q : Exit -> Act -> World -> Prop} (s x : Operand)
  (ho : o.op = .call { callee := .builtin .append, args := #[s, x], argTypes := #[24, 24] })
  (B : Nat) (v : Value) (n : Nat) (cs : List Value) (hs : a.eval s = v) (hown : OwnC w B 1 v n cs) (p : Option Addr) (l : List ByteArray) (c : Nat) (hx : a.eval x = .slice p l.length c) (hr : StrRow w p l c) (hm : n + l.length <= 1099511627776) (hB : B <= w.heap.size)
  (hK : ∀ v' w', OwnC w' B 1 v' (n + l.length) (cs ++ l.map Value.string) -> w.grownBy w' v.ownBlock -> K (a.put o.dst v') w') : Oper.wp Tryz.prog o a w K Q := by
 obtain ⟨v', w', b, d, e⟩ := run_append_str w o.type B v n cs hown p l c hr hm hB
 unfold Oper.wp
 simp [execOp, ho, resolve, invoke, builtin, hs, hx, b, Result.andThen]
 exact hK v' w' d e
theorem OwnC.texts {w : World} {B : Nat} {v : Value} {n : Nat} {l : List ByteArray} (h : OwnC w B 1 v n (l.map Value.string)) : ∃ p c, v = .slice p l.length c /\ n = l.length /\ StrRow w p l c /\ ∀ a, p = some a -> B <= a.block /\ a.block < w.heap.size := by
 have d : n = l.length := by have := h.1; simpa using this.symm
 subst d
 rcases h.2 with ⟨e1, e2⟩ | ⟨g, cap, e1, e2, e3, e4, _, _, hr⟩
 ·have : l = [] := List.eq_nil_of_length_eq_zero e2
  subst this
  exact ⟨none, 0, e1, rfl, .inl ⟨rfl, rfl, rfl⟩, by simp⟩
 ·exact ⟨_, cap, e1, rfl, .inr ⟨g, 0, rfl, e4, fun _ => e3, hr⟩, fun a b => by obtain rfl := Option.some.inj b; exact ⟨e2, e3⟩⟩
theorem OwnC.head {w : World} {B g n cap : Nat} {cs : List Value} (h : OwnC w B 1 (.slice (some ⟨g, 0, none⟩) n cap) n cs) (i : Nat) (hi : i <= n) : OwnC w B 1 (.slice (some ⟨g, 0, none⟩) i cap) i (cs.take i) := by
 rcases h.2 with ⟨e1, _⟩ | ⟨g', cap', e1, e2, e3, e4, e5, e6, hr⟩
 ·cases e1
 ·simp only [Value.slice.injEq, Option.some.injEq, Addr.mk.injEq, and_true, true_and] at e1
  obtain ⟨rfl, rfl⟩ := e1
  refine ⟨by rw [List.length_take, h.1]; omega, .inr ⟨g, cap, rfl, e2, e3, by omega, e5, e6, fun j u a => hr j u ?_⟩⟩
  rw [List.getElem?_take] at a
  split at a
  ·exact a
  ·cases a
end Go.Proofs.YtcglpladmeelaaaGreatDoor
