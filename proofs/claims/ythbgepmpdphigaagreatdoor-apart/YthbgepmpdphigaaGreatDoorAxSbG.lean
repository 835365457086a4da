/-
  Extract: the first two nodes that are different, of what Prove gives and of another proof.
-/
import Derived.Test.YthbgepmpdphigaaGreatDoorAxVoG
import Derived.Test.YthbgepmpdphigaaGreatDoorAxSaG
import Derived.Test.YthbgepmpdphigaaGreatDoorAxVaG
namespace Go.Proofs.YthbgepmpdphigaaGreatDoor
open Go.RowKit
set_option maxRecDepth 100000
set_option maxHeartbeats 25600000
variable {B : Nat} {w : World} {l : List ByteArray}
theorem StrRow.frame {S S' : Wood} {w' : World} {p : Option Addr} {c : Nat} (h : StrRow w p l c) (hf : Fr B S S' w w') (hn : ∀ a, p = some a -> S a.block = none) : StrRow w' p l c := by
 rcases h with h | ⟨g, o, rfl, e2, e3, e4⟩
 ·exact .inl h
 ·refine .inr ⟨g, o, rfl, e2, fun h => Nat.lt_of_lt_of_le (e3 h) hf.size, fun j u b => ?_⟩
  have d : 0 < l.length := by
   have := (List.getElem?_eq_some_iff.1 b).1
   simp at this
   omega
  rw [World.cell?_of_block (a := ⟨g, o + j, none⟩) (hf.other g (e3 d) (hn _ rfl))]
  exact e4 j u b
theorem OwnC.texts {v : Value} {n : Nat} (h : OwnC w B 1 v n (l.map Value.string)) : ∃ p c, v = .slice p l.length c /\ n = l.length /\ StrRow w p l c /\ ∀ a, p = some a -> B <= a.block /\ a.block < w.heap.size := by
 have d : n = l.length := by have := h.1; simpa using this.symm
 subst d
 rcases h.2 with ⟨e1, e2⟩ | ⟨g, cap, e1, e2, e3, e4, _, _, hr⟩
 ·have : l = [] := List.eq_nil_of_length_eq_zero e2
  subst this
  exact ⟨none, 0, e1, rfl, .inl ⟨rfl, rfl, rfl⟩, by simp⟩
 ·exact ⟨_, cap, e1, rfl, .inr ⟨g, 0, rfl, e4, fun _ => e3, hr⟩, fun a b => by obtain rfl := Option.some.inj b; exact ⟨e2, e3⟩⟩
theorem OwnC.head {g n cap : Nat} {cs : List Value} (h : OwnC w B 1 (.slice (some ⟨g, 0, none⟩) n cap) n cs) (i : Nat) (hi : i <= n) : OwnC w B 1 (.slice (some ⟨g, 0, none⟩) i cap) i (cs.take i) := by
 rcases h.2 with ⟨e1, _⟩ | ⟨g', cap', e1, e2, e3, e4, e5, e6, hr⟩
 ·cases e1
 ·simp only [Value.slice.injEq, Option.some.injEq, Addr.mk.injEq, and_true, true_and] at e1
  obtain ⟨rfl, rfl⟩ := e1
  refine ⟨by rw [List.length_take, h.1]; omega, .inr ⟨g, cap, rfl, e2, e3, by omega, e5, e6, fun j u a => hr j u ?_⟩⟩
  rw [List.getElem?_take] at a
  split at a
  ·exact a
  ·cases a
end Go.Proofs.YthbgepmpdphigaaGreatDoor
