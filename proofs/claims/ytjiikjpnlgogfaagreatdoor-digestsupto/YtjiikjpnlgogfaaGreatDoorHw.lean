/-
  The hashers of a script: a world of blocks that hold them, and the row of pairs that tells of them.
-/
import Derived.Test.YtjiikjpnlgogfaaGreatDoorOwnC
import Derived.Test.YtjiikjpnlgogfaaGreatDoorHashEq
namespace Go.Proofs.YtjiikjpnlgogfaaGreatDoor
open Go.RowKit

/-- A hasher's block and all that was written to it. -/
abbrev Pr := Nat × ByteArray
/-- A pair's cells. -/
def pc (p : Pr) : List Value := [.pointer (some ⟨p.1, 0, none⟩), .string p.2]

theorem flat_length (ps : List Pr) : (ps.flatMap pc).length = ps.length * 2 := by
  induction ps with
  | nil => rfl
  | cons p ps ih =>
    rw [List.flatMap_cons, List.length_append, ih]
    show 2 + _ = _
    simp only [List.length_cons]
    omega
theorem flat_get (ps : List Pr) : ∀ k (hk : k < ps.length), (ps.flatMap pc)[2 * k]? = some (.pointer (some ⟨ps[k].1, 0, none⟩)) ∧ (ps.flatMap pc)[2 * k + 1]? = some (.string ps[k].2) := by
  induction ps with
  | nil => intro k hk; simp at hk
  | cons p ps ih =>
    intro k hk
    cases k with
    | zero => exact ⟨rfl, rfl⟩
    | succ k =>
      have h := ih k (by simpa using hk)
      rw [List.flatMap_cons]
      have e1 : (pc p ++ ps.flatMap pc)[2 * (k + 1)]? = (ps.flatMap pc)[2 * k]? := by
        rw [List.getElem?_append_right (by show 2 ≤ _; omega)]
        congr 1
      have e2 : (pc p ++ ps.flatMap pc)[2 * (k + 1) + 1]? = (ps.flatMap pc)[2 * k + 1]? := by
        rw [List.getElem?_append_right (by show 2 ≤ _; omega)]
        congr 1
      rw [e1, e2]
      exact h
theorem flat_set (ps : List Pr) : ∀ k (hk : k < ps.length) (t : ByteArray), (ps.flatMap pc).set (2 * k + 1) (.string t) = (ps.set k (ps[k].1, t)).flatMap pc := by
  induction ps with
  | nil => intro k hk; simp at hk
  | cons p ps ih =>
    intro k hk t
    cases k with
    | zero => rfl
    | succ k =>
      have h := ih k (by simpa using hk) t
      rw [List.flatMap_cons, List.set_cons_succ, List.flatMap_cons, List.set_append, if_neg (by show ¬ 2 * (k + 1) + 1 < 2; omega)]
      congr 1
theorem flat_snoc (ps : List Pr) (p : Pr) : (ps ++ [p]).flatMap pc = ps.flatMap pc ++ pc p := by
  rw [List.flatMap_append]
  simp

/-- THE STATE: the world's block bw; its hashers ps; vh: the row of pairs. -/
structure Hw (w : World) (bw : Nat) (ps : List Pr) (vh : Value) : Prop where
  c0 : w.cell? ⟨bw, 0, none⟩ = some vh
  f0 : w.frozen? ⟨bw, 0, none⟩ = false
  c1 : w.cell? ⟨bw, 1, none⟩ = some (.slice none 0 0)
  c3 : w.cell? ⟨bw, 3, none⟩ = some (.slice none 0 0)
  c4 : w.cell? ⟨bw, 4, none⟩ = some (.slice none 0 0)
  row : OwnC w (bw + 1) 2 vh ps.length (ps.flatMap pc)
  low : 16 ≤ bw
  lt : bw < w.heap.size
  each : ∀ i (hi : i < ps.length), bw < ps[i].1 ∧ ps[i].1 < w.heap.size ∧ vh.ownBlock ≠ some ps[i].1 ∧ Hs w ps[i].1 ((bytesOf ps[i].2).foldl push1 init)
  nodup : ∀ i j (hi : i < ps.length) (hj : j < ps.length), ps[i].1 = ps[j].1 → i = j

theorem Hw.keep {w w' : World} {bw : Nat} {ps : List Pr} {vh : Value} (h : Hw w bw ps vh) (hs : w.heap.size ≤ w'.heap.size) (hb : ∀ k, bw ≤ k → k < w.heap.size → w'.heap[k]? = w.heap[k]?) : Hw w' bw ps vh := by
  have e := hb bw (Nat.le_refl _) h.lt
  exact ⟨(World.cell?_of_block e).trans h.c0, (World.frozen?_of_block e).trans h.f0, (World.cell?_of_block e).trans h.c1, (World.cell?_of_block e).trans h.c3, (World.cell?_of_block e).trans h.c4,
    h.row.keep hs (fun k hk hv => hb k (by have := (h.row.block k hv).1; omega) hk), h.low, Nat.lt_of_lt_of_le h.lt hs,
    fun i hi => by obtain ⟨a1, a2, a3, a4⟩ := h.each i hi; exact ⟨a1, Nat.lt_of_lt_of_le a2 hs, a3, a4.block (hb _ (by omega) a2)⟩, h.nodup⟩
theorem Hw.below {w w' : World} {bw : Nat} {ps : List Pr} {vh : Value} (h : Hw w bw ps vh) (hb : Below w.heap.size w w') : Hw w' bw ps vh :=
  h.keep hb.size fun k _ hk => hb.block k hk
theorem Hw.alloc {w : World} {bw : Nat} {ps : List Pr} {vh : Value} (h : Hw w bw ps vh) (o : Obj) : Hw (w.alloc o) bw ps vh :=
  h.below ((Below.refl _ _).alloc (Nat.le_refl _) _)
theorem Hw.drew {w : World} {bw : Nat} {ps : List Pr} {vh : Value} (h : Hw w bw ps vh) : Hw w.drew bw ps vh :=
  h.below (Below.refl _ _).drew

/-- One hasher more: block H holds a new one; the row has grown to v'. -/
theorem Hw.push {w w1 : World} {bw H : Nat} {ps : List Pr} {vh v' : Value} (h : Hw w bw ps vh) (hH : bw < H) (hHs : H < w.heap.size) (hHh : Hs w H init) (hnew : ∀ i (hi : i < ps.length), ps[i].1 ≠ H) (hvH : vh.ownBlock ≠ some H)
    (ho : OwnC w1 (bw + 1) 2 v' (ps.length + 1) (ps.flatMap pc ++ pc (H, ⟨#[]⟩))) (hg : w.grownBy w1 vh.ownBlock) (hv : ∀ k, v'.ownBlock = some k → vh.ownBlock = some k ∨ w.heap.size ≤ k) :
    Hw (w1.setCell ⟨bw, 0, none⟩ v') bw (ps ++ [(H, ⟨#[]⟩)]) v' := by
  have hgs := hg.size
  have hbw : vh.ownBlock ≠ some bw := fun e => by have := (h.row.block bw e).1; omega
  have eb : w1.heap[bw]? = w.heap[bw]? := hg.block bw h.lt (fun e => hbw e.symm)
  have ov : v'.ownBlock ≠ some bw := fun e => by have := (ho.block bw e).1; omega
  have other : ∀ k, k ≠ bw → (w1.setCell ⟨bw, 0, none⟩ v').heap[k]? = w1.heap[k]? := fun k hk => Below.heap_setCell w1 _ v' k (by simpa using hk)
  have cell : ∀ o, o ≠ 0 → (w1.setCell ⟨bw, 0, none⟩ v').cell? ⟨bw, o, none⟩ = w.cell? ⟨bw, o, none⟩ := fun o ho => (World.cell?_setCell_other _ _ _ _ (fun e => ho (congrArg Addr.off e).symm)).trans (World.cell?_of_block eb)
  refine ⟨World.cell?_setCell_same _ _ _ ((World.cell?_of_block eb).trans h.c0), ((World.frozen?_setCell _ _ _ _).trans (World.frozen?_of_block eb)).trans h.f0, (cell 1 (by omega)).trans h.c1, (cell 3 (by omega)).trans h.c3, (cell 4 (by omega)).trans h.c4, ?_, h.low, by simpa using Nat.lt_of_lt_of_le h.lt hgs, ?_, ?_⟩
  · rw [List.length_append, flat_snoc]
    exact ho.keep (by simp) fun k hk hvk => other k (fun e => ov (by rw [hvk, e]))
  · intro i hi
    rw [List.length_append] at hi
    by_cases hl : i < ps.length
    · rw [List.getElem_append_left hl]
      obtain ⟨a1, a2, a3, a4⟩ := h.each i hl
      refine ⟨a1, by simpa using Nat.lt_of_lt_of_le a2 hgs, fun e => ?_, a4.block ((other _ (by omega)).trans (hg.block _ a2 (fun e => a3 e.symm)))⟩
      rcases hv _ e with e | e
      · exact a3 e
      · omega
    · have e : (ps ++ [((H, ⟨#[]⟩) : Pr)])[i]'(by simpa using hi) = (H, ⟨#[]⟩) := by
        have : i = ps.length := by simp at hi; omega
        subst this
        simp
      rw [e]
      refine ⟨hH, by simpa using Nat.lt_of_lt_of_le hHs hgs, fun e => ?_, ?_⟩
      · rcases hv _ e with e | e
        · exact hvH e
        · simp only at e; omega
      · exact hHh.block ((other _ (by omega)).trans (hg.block _ hHs (fun e => hvH e.symm)))
  · intro i j hi hj hij
    rw [List.length_append] at hi hj
    simp only [List.length_cons, List.length_nil] at hi hj
    rw [List.getElem_append, List.getElem_append] at hij
    split at hij <;> split at hij
    · exact h.nodup i j _ _ hij
    · have : j - ps.length = 0 := by omega
      simp [this] at hij
      exact absurd hij (hnew i _)
    · have : i - ps.length = 0 := by omega
      simp [this] at hij
      exact absurd hij.symm (hnew j _)
    · omega

/-- A hasher written to, and its text made longer in the row. -/
theorem Hw.write {w w1 : World} {bw g cap k : Nat} {ps : List Pr} (hk : k < ps.length) (h : Hw w bw ps (.slice (some ⟨g, 0, none⟩) ps.length cap)) (s : ByteArray) (st : Step ps[k].1 0 162 w w1) (hH : Hs w1 ps[k].1 ((bytesOf (ps[k].2 ++ s)).foldl push1 init)) :
    Hw (w1.setCell ⟨g, 2 * k + 1, none⟩ (.string (ps[k].2 ++ s))) bw (ps.set k (ps[k].1, ps[k].2 ++ s)) (.slice (some ⟨g, 0, none⟩) ps.length cap) := by
  obtain ⟨p1, p2, p3, p4⟩ := h.each k hk
  have hgb := h.row.block g rfl
  have hgp : g ≠ ps[k].1 := fun e => p3 (by simp [Value.ownBlock, e])
  have other : ∀ i, i ≠ g → (w1.setCell ⟨g, 2 * k + 1, none⟩ (.string (ps[k].2 ++ s))).heap[i]? = w1.heap[i]? := fun i hi => Below.heap_setCell w1 _ _ i (by simpa using hi)
  have eb : (w1.setCell ⟨g, 2 * k + 1, none⟩ (.string (ps[k].2 ++ s))).heap[bw]? = w.heap[bw]? := (other bw (by omega)).trans (st.block bw h.lt (by omega))
  have row1 : OwnC w1 (bw + 1) 2 (.slice (some ⟨g, 0, none⟩) ps.length cap) ps.length (ps.flatMap pc) := h.row.keep st.size fun i hi hv => st.block i hi (fun e => by simp [Value.ownBlock] at hv; omega)
  refine ⟨(World.cell?_of_block eb).trans h.c0, (World.frozen?_of_block eb).trans h.f0, (World.cell?_of_block eb).trans h.c1, (World.cell?_of_block eb).trans h.c3, (World.cell?_of_block eb).trans h.c4, ?_, h.low, by simpa using Nat.lt_of_lt_of_le h.lt st.size, ?_, ?_⟩
  · rw [List.length_set, ← flat_set ps k hk]
    exact row1.set (2 * k + 1) (by rw [flat_length]; omega) _
  · intro i hi
    rw [List.length_set] at hi
    rw [List.getElem_set]
    split
    · rename_i e
      exact ⟨p1, by simpa using Nat.lt_of_lt_of_le p2 st.size, p3, hH.block (other _ (fun e' => hgp e'.symm))⟩
    · rename_i hne
      obtain ⟨a1, a2, a3, a4⟩ := h.each i hi
      exact ⟨a1, by simpa using Nat.lt_of_lt_of_le a2 st.size, a3, a4.block ((other _ (fun e' => a3 (by simp [Value.ownBlock, e']))).trans (st.block _ a2 (fun e => hne (h.nodup k i hk hi e.symm))))⟩
  · intro i j hi hj hij
    rw [List.length_set] at hi hj
    have e : ∀ i (hi : i < ps.length), ((ps.set k (ps[k].1, ps[k].2 ++ s))[i]'(by simpa using hi)).1 = ps[i].1 := by
      intro i hi
      rw [List.getElem_set]
      split
      · rename_i e; subst e; rfl
      · rfl
    rw [e i hi, e j hj] at hij
    exact h.nodup i j hi hj hij
end Go.Proofs.YtjiikjpnlgogfaaGreatDoor
