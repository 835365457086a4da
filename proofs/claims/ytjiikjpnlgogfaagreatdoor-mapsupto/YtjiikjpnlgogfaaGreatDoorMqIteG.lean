/-
  readItem and readItems of package item.
  readItems of package item: the loop; and readItem and readItems, whole.
  strings.Clone: the same text, out of new memory.
-/
import Derived.Test.YtjiikjpnlgogfaaGreatDoorMqTreG
import Derived.Lib.UnsafeStr
import Derived.Laws.MakeOwn
namespace Go.Proofs.YtjiikjpnlgogfaaGreatDoor
open Go.RowKit

end Go.Proofs.YtjiikjpnlgogfaaGreatDoor

namespace Go.Proofs.YtjiikjpnlgogfaaGreatDoor
open Go.RowKit

/-- Its ahead of what is read further on. -/
def ahead (its : List It) : Except Er (List It) → Except Er (List It)
  | .error e => .error e
  | .ok l => .ok (its ++ l)
theorem OwnC.shape {w : World} {B size : Nat} {v : Value} {n : Nat} {cs : List Value} (h : OwnC w B size v n cs) : ∃ p m c, v = .slice p m c := by
  rcases h.2 with ⟨rfl, _⟩ | ⟨g, cap, rfl, _⟩ <;> exact ⟨_, _, _, rfl⟩

theorem rangeAt_new (w : World) (l : List Value) (t : TypeId) : (w.alloc (.cells l.toArray t)).rangeAt w.heap.size 0 l := by
  intro j u hu
  rw [Nat.zero_add, World.cell?_alloc_new]
  simpa using hu

end Go.Proofs.YtjiikjpnlgogfaaGreatDoor

namespace Go.Proofs.YtjiikjpnlgogfaaGreatDoor
open Go.RowKit

theorem cells_setCell {w : World} {g : Nat} {cs : Array Value} {t : TypeId} (h : w.heap[g]? = some (.cells cs t (0, 0))) (o : Nat) (u : Value) : ∃ cs', (w.setCell ⟨g, o, none⟩ u).heap[g]? = some (.cells cs' t (0, 0)) ∧ cs'.size = cs.size := by
  refine ⟨cs.setIfInBounds o u, ?_, by simp⟩
  simp only [World.setCell, Array.getElem?_modify, if_true, h, Option.map_some, Option.isSome_none, Bool.false_eq_true, if_false]
theorem cells_setCells {g : Nat} {t : TypeId} : ∀ (vs : List Value) (o : Nat) {w : World} {cs : Array Value}, w.heap[g]? = some (.cells cs t (0, 0)) → ∃ cs', (w.setCells g o vs).heap[g]? = some (.cells cs' t (0, 0)) ∧ cs'.size = cs.size
  | [], _, _, cs, h => ⟨cs, h, rfl⟩
  | v :: r, o, _, _, h => by
    obtain ⟨c1, h1, e1⟩ := cells_setCell h o v
    obtain ⟨c2, h2, e2⟩ := cells_setCells r (o + 1) h1
    exact ⟨c2, h2, e2.trans e1⟩

theorem text_of_bytes (s : ByteArray) : (⟨s.data.toList.toArray⟩ : ByteArray) = s := by
  apply ByteArray.ext
  simp

set_option maxRecDepth 100000 in
set_option maxHeartbeats 1600000 in
theorem clone_lite (s : ByteArray) (w : World) (hs : s.size ≤ 1048576) :
    Calls Tryz.prog 148 #[.string s] w fun e w' => e = .returned (.string s) ∧ Below w.heap.size w w' := by
  by_cases h0 : s.size = 0
  · have hs : s = ⟨#[]⟩ := ByteArray.ext (Array.eq_empty_of_size_eq_zero h0)
    subst hs
    go_enter Tryz.func148, Tryz.ntmps148
    go_wp2
    go_ret
    exact ⟨rfl, Below.refl _ _⟩
  · obtain ⟨i0, hi, hz0, hz1, hz2⟩ := info_parts infoU8
    have hinfo : (Tryz.prog.info? 5).map (·.size) = some 1 := by rw [hi]; simp [hz1]
    have hco : Tryz.prog.cellsOf 5 = 1 := by simp [Program.cellsOf, hi, hz1]
    obtain ⟨M, hM⟩ : ∃ M, madeCells (Value.int .u8 0).cells (((s.size : Nat) : Int).toNat * i0.size) = M := ⟨_, rfl⟩
    have hMs : M.size = s.size := by rw [← hM, size_madeCells, hz1]; simp
    have hmk : ∀ W : World, (Instr.makeSlice 111 (.int .i64 (s.size : Int)) (.int .i64 (s.size : Int))).run Tryz.prog W = .ok (.slice (some ⟨W.heap.size, 0, none⟩) s.size s.size) (W.alloc (.cells M 5)) := fun W => by
      have h := run_make (P := Tryz.prog) W 111 5 i0 (.int .u8 0) Tryz.underlying111 hi hz0 .i64 .i64 (s.size : Int) (s.size : Int) (by omega) (by omega) (by rw [hz2]; omega) (by omega)
      rw [hM] at h
      simpa using h
    have hbl := bytesOf_length s
    have hth : (w.alloc (.cells M 5)).there w.heap.size 0 s.size := fun j hj => ⟨by rw [Nat.zero_add, World.cell?_alloc_new]; simp [hMs, hj], World.frozen?_alloc_new _ _ _ _⟩
    have hcp := run_copy_str (P := Tryz.prog) (w.alloc (.cells M 5)) 111 9 3 5 w.heap.size 0 s.size s.size s s.size Tryz.underlying111 hinfo (Nat.min_self _).symm hth
    rw [List.take_of_length_le (by omega)] at hcp
    obtain ⟨Y, hY, hYs⟩ := cells_setCells ((bytesOf s).map encB) 0 (heap_alloc_new w (.cells M 5))
    have hcell := World.rangeAt_setCells_same (w.alloc (.cells M 5)) w.heap.size 0 ((bytesOf s).map encB) (by rw [List.length_map, hbl]; exact hth)
    obtain ⟨W2, hW2⟩ : ∃ W2, (w.alloc (.cells M 5)).setCells w.heap.size 0 ((bytesOf s).map encB) = W2 := ⟨_, rfl⟩
    have hB2 : Below w.heap.size w W2 := by
      rw [← hW2]
      obtain ⟨q1, q2, q3, q4⟩ := size_setCells w.heap.size ((bytesOf s).map encB) 0 (w.alloc (.cells M 5))
      exact ⟨q2, q3, q4, by rw [q1]; simp, fun k hk => (heap_setCells _ _ _ _ _ (by omega)).trans (Below.heap_alloc _ _ _ hk)⟩
    rw [hW2] at hcp hY hcell
    have hsz : s.data.toList.length = s.size := by simp
    have hne : s.data.toList ≠ [] := fun e => h0 (by rw [← hsz, e]; rfl)
    have hUS := Lib.run_unsafeString_row (P := Tryz.prog) W2 327 3 9 5 Tryz.underlying327 hco w.heap.size Y.size (by unfold World.shape?; rw [hY]) s.data.toList hne (by omega) (by omega)
      (fun j x hx => by
        rw [Addr.add_mid]
        refine hcell j _ ?_
        unfold bytesOf
        rw [List.map_map, List.getElem?_map, hx]
        rfl)
    rw [hsz, text_of_bytes] at hUS
    have A : Aside (Below w.heap.size w W2) := hB2
    clear hY hcell hW2 hM hB2 hth
    go_enter Tryz.func148, Tryz.ntmps148
    go_wp2
    go_ret
    exact ⟨rfl, Lib.below_freeze A.out (p := ⟨w.heap.size, 0, none⟩) (Nat.le_refl _) _⟩

theorem clone_any (s : ByteArray) (w : World) (hs : s.size ≤ 1048576) :
    Calls Tryz.prog 86 #[.string s] w fun e w' => e = .returned (.string s) ∧ Below w.heap.size w w' := by
  go_enter Tryz.func86, Tryz.ntmps86
  go_wp2_with (go_at_call 148; refine (clone_lite s _ hs).mono ?_; rintro e w1 ⟨rfl, hb1⟩)
  go_ret
  exact ⟨rfl, hb1⟩
end Go.Proofs.YtjiikjpnlgogfaaGreatDoor
