/-
  A row of elements of any size in a block of the call's own: made, appended to, written into.
-/
import Derived.Test.YtjiikjpnlgogfaaDoorOwn
namespace Go.Proofs.YtjiikjpnlgogfaaDoor
open Go.RowKit

/-- v is a slice of n elements of so many cells each, the cells cs, in a block of the call's own (from B on), its spare cells there and none frozen; or the empty slice. -/
def OwnC (w : World) (B size : Nat) (v : Value) (n : Nat) (cs : List Value) : Prop :=
  cs.length = n * size ∧ ((v = .slice none 0 0 ∧ n = 0) ∨ ∃ g cap, v = .slice (some ⟨g, 0, none⟩) n cap ∧ B ≤ g ∧ g < w.heap.size ∧ n ≤ cap ∧ cap ≤ maxLen ∧ w.there g 0 (cap * size) ∧ w.rangeAt g 0 cs)

theorem OwnC.nil (w : World) (B size : Nat) : OwnC w B size (.slice none 0 0) 0 [] := ⟨by simp, .inl ⟨rfl, rfl⟩⟩

theorem OwnC.keep {w w' : World} {B size : Nat} {v : Value} {n : Nat} {cs : List Value} (h : OwnC w B size v n cs) (hs : w.heap.size ≤ w'.heap.size) (hb : ∀ k, k < w.heap.size → v.ownBlock = some k → w'.heap[k]? = w.heap[k]?) : OwnC w' B size v n cs := by
  refine ⟨h.1, ?_⟩
  rcases h.2 with h | ⟨g, cap, rfl, h1, h2, h3, h4, h5, h6⟩
  · exact .inl h
  · have e := hb g h2 rfl
    exact .inr ⟨g, cap, rfl, h1, by omega, h3, h4, fun j hj => ⟨by rw [World.cell?_of_block e]; exact (h5 j hj).1, (World.frozen?_of_block e).trans (h5 j hj).2⟩, fun j u hu => (World.cell?_of_block e).trans (h6 j u hu)⟩

theorem OwnC.alloc {w : World} {B size : Nat} {v : Value} {n : Nat} {cs : List Value} (h : OwnC w B size v n cs) (o : Obj) : OwnC (w.alloc o) B size v n cs :=
  h.keep (by simp) fun k hk _ => Below.heap_alloc w o k hk
theorem OwnC.drew {w : World} {B size : Nat} {v : Value} {n : Nat} {cs : List Value} (h : OwnC w B size v n cs) : OwnC w.drew B size v n cs := h
theorem OwnC.below {w w' : World} {B size : Nat} {v : Value} {n : Nat} {cs : List Value} (h : OwnC w B size v n cs) (hb : Below w.heap.size w w') : OwnC w' B size v n cs :=
  h.keep hb.size fun k hk _ => hb.block k hk
theorem OwnC.mono {w : World} {B B' size : Nat} {v : Value} {n : Nat} {cs : List Value} (h : OwnC w B size v n cs) (hb : B' ≤ B) : OwnC w B' size v n cs := by
  refine ⟨h.1, ?_⟩
  rcases h.2 with h | ⟨g, cap, rfl, h1, h2⟩
  · exact .inl h
  · exact .inr ⟨g, cap, rfl, by omega, h2⟩
theorem OwnC.block {w : World} {B size : Nat} {v : Value} {n : Nat} {cs : List Value} (h : OwnC w B size v n cs) : ∀ k, v.ownBlock = some k → B ≤ k ∧ k < w.heap.size := by
  intro k hk
  rcases h.2 with ⟨rfl, _⟩ | ⟨g, cap, rfl, h1, h2, _⟩
  · simp [Value.ownBlock] at hk
  · simp [Value.ownBlock] at hk
    subst hk
    exact ⟨h1, h2⟩
theorem OwnC.full {w : World} {B size : Nat} {v : Value} {n : Nat} {cs : List Value} (h : OwnC w B size v n cs) (hn : 0 < n) : ∃ g cap, v = .slice (some ⟨g, 0, none⟩) n cap ∧ B ≤ g ∧ g < w.heap.size ∧ n ≤ cap ∧ cap ≤ maxLen ∧ w.there g 0 (cap * size) ∧ w.rangeAt g 0 cs := by
  rcases h.2 with ⟨_, h0⟩ | h
  · omega
  · exact h

theorem OwnC.cellAt {w : World} {B size g n cap : Nat} {cs : List Value} (h : OwnC w B size (.slice (some ⟨g, 0, none⟩) n cap) n cs) (j : Nat) (u : Value) (hu : cs[j]? = Option.some u) : w.cell? ⟨g, j, none⟩ = Option.some u ∧ w.frozen? ⟨g, j, none⟩ = false := by
  rcases h.2 with ⟨h', _⟩ | ⟨g', cap', e, h2, h3, h4, h5, h6, h7⟩
  · cases h'
  · simp only [Value.slice.injEq, Option.some.injEq, Addr.mk.injEq, and_true, true_and] at e
    obtain ⟨rfl, rfl⟩ := e
    have hj : j < cs.length := (List.getElem?_eq_some_iff.1 hu).1
    have hms : n * size ≤ cap * size := Nat.mul_le_mul_right _ h4
    have a1 := h7 j u hu
    have a2 := (h6 j (by have := h.1; omega)).2
    rw [Nat.zero_add] at a1 a2
    exact ⟨a1, a2⟩

theorem OwnC.of_row {w : World} {B size : Nat} {e : TypeId} {v : Value} {n : Nat} {cs : List Value} (h : w.ownsRow B e size v n cs) : OwnC w B size v n cs := by
  refine ⟨h.1, ?_⟩
  rcases h.2 with hn | ⟨g, cap, cur, rfl, hb, hg, hnc, hcm, hcs, htake⟩
  · exact .inl hn
  · refine .inr ⟨g, cap, rfl, hb, (Array.getElem?_eq_some_iff.1 hg).1, hnc, hcm, fun j hj => ⟨?_, frozen_of_row w g _ cur e hg⟩, fun j u hu => ?_⟩
    · rw [cell_of_row w g _ cur e (0, 0) hg, Nat.zero_add]
      have : j < cur.size := by omega
      simp [this]
    · rw [cell_of_row w g _ cur e (0, 0) hg, Nat.zero_add]
      rw [← htake] at hu
      rw [List.getElem?_take] at hu
      split at hu
      · simpa using hu
      · cases hu

/-- A block of cells, none of them frozen. -/
def Plain (w : World) (g : Nat) : Prop := ∃ cs t, w.heap[g]? = some (.cells cs t (0, 0))
theorem Plain.keep {w w' : World} {g : Nat} (h : Plain w g) (e : w'.heap[g]? = w.heap[g]?) : Plain w' g := by
  obtain ⟨cs, t, h⟩ := h
  exact ⟨cs, t, e.trans h⟩
theorem Plain.setCell {w : World} {g : Nat} (h : Plain w g) (a : Addr) (u : Value) : Plain (w.setCell a u) g := by
  by_cases hg : g = a.block
  · subst hg
    obtain ⟨cs, t, h⟩ := h
    refine ⟨if a.spot.isSome = true then cs else cs.setIfInBounds a.off u, t, ?_⟩
    simp only [World.setCell, Array.getElem?_modify, if_true, h, Option.map_some]
  · exact h.keep (Below.heap_setCell w a u g hg)
theorem Plain.setCells {g b : Nat} : ∀ (vs : List Value) (o : Nat) {w : World}, Plain w g → Plain (w.setCells b o vs) g
  | [], _, _, h => h
  | v :: r, o, _, h => by
    rw [World.setCells]
    exact Plain.setCells r (o + 1) (h.setCell _ _)
theorem ownsRow_plain {w : World} {B size : Nat} {e : TypeId} {v : Value} {n : Nat} {cs : List Value} (h : w.ownsRow B e size v n cs) : ∀ k, v.ownBlock = some k → Plain w k := by
  intro k hk
  rcases h.2 with ⟨rfl, _⟩ | ⟨g, cap, cur, rfl, hb, hg, _⟩
  · simp [Value.ownBlock] at hk
  · simp [Value.ownBlock] at hk
    subst hk
    exact ⟨cur, e, hg⟩

/-- ELEMENTS APPENDED: with room or without; a plain row stays one. -/
theorem run_append_ownp {P : Program} (w : World) (t ty e : TypeId) (i : TypeInfo) (z : Value) (size bytes : Nat) (ht : P.underlying t = some (.slice e)) (hi : P.info? e = some i) (hz : i.zero = some z) (hsize : i.size = size) (hby : i.bytes = bytes) (hzs : z.cells.size = size) (hsz : 0 < size)
    (B : Nat) (v : Value) (n : Nat) (cs : List Value) (hown : OwnC w B size v n cs) (b o m c : Nat) (news : List Value) (hl : news.length = m * size) (hnews : w.rangeAt b o news) (h1 : ∀ u ∈ news, u.oneCell' = true) (hm : n + m ≤ maxLen) (hb : (n + m) * bytes ≤ 140737488355328) (hB : B ≤ w.heap.size) :
    ∃ v' w', (Builtin.append_ #[t, t] ty #[v, .slice (some ⟨b, o, none⟩) m c]).run P w = .ok v' w' ∧ OwnC w' B size v' (n + m) (cs ++ news) ∧ w.grownBy w' v.ownBlock ∧ (∀ k, v'.ownBlock = Option.some k → v.ownBlock = Option.some k ∨ w.heap.size ≤ k) ∧ ((∀ k, v.ownBlock = Option.some k → Plain w k) → ∀ k, v'.ownBlock = Option.some k → Plain w' k) := by
  have hn : ∀ j u, news[j]? = some u → w.cell? ((⟨b, o, none⟩ : Addr).add j) = some u := by
    intro j u hu
    rw [Addr.add_mid]
    exact hnews j u hu
  obtain ⟨hcl, hown⟩ := hown
  have hlen : (cs ++ news).length = (n + m) * size := by rw [List.length_append, hcl, hl, Nat.add_mul]
  rcases hown with ⟨rfl, rfl⟩ | ⟨g, cap, rfl, h2, h3, h4, h5, h6, h7⟩
  · have hcs : cs = [] := List.eq_nil_of_length_eq_zero (by simpa using hcl)
    subst hcs
    obtain ⟨v', w', hr, ho, hg, _⟩ := run_append_own (P := P) w w.heap.size t ty e i z size bytes ht hi hz hsize hby hzs hsz (.slice none 0 0) 0 [] (World.ownsRow_nil _ _ _ _) ⟨b, o, none⟩ m c news hl hn h1 hm hb (Nat.le_refl _)
    exact ⟨v', w', hr, (OwnC.of_row (e := e) ho).mono hB, hg, fun k hk => .inr (ho.lt k hk).1, fun _ => ownsRow_plain ho⟩
  · by_cases hroom : n + m ≤ cap
    · have hms : n * size + m * size ≤ cap * size := by rw [← Nat.add_mul]; exact Nat.mul_le_mul_right _ hroom
      have hth : w.there g (n * size) news.length := fun k hk => by
        have := h6 (n * size + k) (by omega)
        rw [Nat.zero_add] at this
        exact this
      have hr := run_append_room_cells (P := P) w t ty e i ht hi g 0 n cap ⟨b, o, none⟩ m c news (by rw [hsize]; exact hl) hn h1 hroom
        (fun j hj => by rw [hsize, Nat.zero_add]; exact (hth j hj).1) (fun j hj => by rw [hsize, Nat.zero_add]; exact (hth j hj).2)
      rw [hsize, Nat.zero_add] at hr
      obtain ⟨q1, q2, q3, q4⟩ := size_setCells g news (n * size) w
      refine ⟨_, _, hr, ⟨hlen, .inr ⟨g, cap, rfl, h2, by rw [q1]; exact h3, hroom, h5, World.there_setCells h6 _ _ _, fun j u hu => ?_⟩⟩, ⟨q2, q3, q4, by rw [q1]; exact Nat.le_refl _, fun k _ hne => heap_setCells _ _ _ _ _ (fun e => hne (by simp [Value.ownBlock, e]))⟩, fun k hk => .inl hk, fun hp k hk => (hp k hk).setCells _ _⟩
      by_cases hjl : j < cs.length
      · rw [List.getElem?_append_left hjl] at hu
        rw [World.cell?_setCells_out _ _ _ _ _ (fun _ _ => .inl (show 0 + j < n * size by omega))]
        exact h7 j u hu
      · rw [List.getElem?_append_right (Nat.le_of_not_lt hjl)] at hu
        have := World.rangeAt_setCells_same w g (n * size) news hth (j - cs.length) u hu
        rwa [show n * size + (j - cs.length) = 0 + j by omega] at this
    · obtain ⟨v', w', hr, ho, hg⟩ := run_append_arg_grows (P := P) w t ty e i z size bytes ht hi hz hsize hby hzs hsz ⟨g, 0, none⟩ n cap cs hcl
        (fun j u hu => by
          rw [Addr.add_mid]
          exact h7 j u hu) ⟨b, o, none⟩ m c news hl hn (by omega) hm hb
      exact ⟨v', w', hr, (OwnC.of_row ho).mono hB, ⟨hg.os, hg.tape, hg.output, hg.size, fun k hk _ => hg.block k hk (by simp)⟩, fun k hk => .inr (ho.lt k hk).1, fun _ => ownsRow_plain ho⟩

theorem wpList_append_ownc {P : Program} (w : World) {ops : Array Oper} {rest : List Oper} {o : Oper} {a : Act} {Q : Exit → Act → World → Prop} (hgd : o.guard = none) (s x : Operand) (t : TypeId)
    (ho : o.op = .call { callee := .builtin .append, args := #[s, x], argTypes := #[t, t] })
    (e : TypeId) (i : TypeInfo) (z : Value) (size bytes : Nat) (ht : P.underlying t = some (.slice e)) (hi : P.info? e = some i) (hz : i.zero = some z) (hsize : i.size = size) (hby : i.bytes = bytes) (hzs : z.cells.size = size) (hsz : 0 < size)
    (B : Nat) (v : Value) (n : Nat) (cs : List Value) (hs : a.eval s = v) (hown : OwnC w B size v n cs) (b p m c : Nat) (news : List Value) (hx : a.eval x = .slice (some ⟨b, p, none⟩) m c)
    (hl : news.length = m * size) (hnews : w.rangeAt b p news) (h1 : ∀ u ∈ news, u.oneCell' = true) (hm : n + m ≤ maxLen) (hb : (n + m) * bytes ≤ 140737488355328) (hB : B ≤ w.heap.size)
    (hK : ∀ v' w', OwnC w' B size v' (n + m) (cs ++ news) → w.grownBy w' v.ownBlock → (∀ k, v'.ownBlock = Option.some k → v.ownBlock = Option.some k ∨ w.heap.size ≤ k) → wpList P ops Q rest (a.put o.dst v') w') : wpList P ops Q (o :: rest) a w := by
  refine wpList_plain hgd fun K hK' => ?_
  obtain ⟨v', w', hrun, r1, r2, r3, _⟩ := run_append_ownp (P := P) w t o.type e i z size bytes ht hi hz hsize hby hzs hsz B v n cs hown b p m c news hl hnews h1 hm hb hB
  unfold Oper.wp
  simp [execOp, ho, resolve, invoke, builtin, hs, hx, hrun, Result.andThen]
  exact hK' _ _ (hK v' w' r1 r2 r3)

theorem wpList_append_ownp {P : Program} (w : World) {ops : Array Oper} {rest : List Oper} {o : Oper} {a : Act} {Q : Exit → Act → World → Prop} (hgd : o.guard = none) (s x : Operand) (t : TypeId)
    (ho : o.op = .call { callee := .builtin .append, args := #[s, x], argTypes := #[t, t] })
    (e : TypeId) (i : TypeInfo) (z : Value) (size bytes : Nat) (ht : P.underlying t = some (.slice e)) (hi : P.info? e = some i) (hz : i.zero = some z) (hsize : i.size = size) (hby : i.bytes = bytes) (hzs : z.cells.size = size) (hsz : 0 < size)
    (B : Nat) (v : Value) (n : Nat) (cs : List Value) (hs : a.eval s = v) (hown : OwnC w B size v n cs) (b p m c : Nat) (news : List Value) (hx : a.eval x = .slice (some ⟨b, p, none⟩) m c)
    (hl : news.length = m * size) (hnews : w.rangeAt b p news) (h1 : ∀ u ∈ news, u.oneCell' = true) (hm : n + m ≤ maxLen) (hb : (n + m) * bytes ≤ 140737488355328) (hB : B ≤ w.heap.size)
    (hK : ∀ v' w', OwnC w' B size v' (n + m) (cs ++ news) → w.grownBy w' v.ownBlock → (∀ k, v'.ownBlock = Option.some k → v.ownBlock = Option.some k ∨ w.heap.size ≤ k) → ((∀ k, v.ownBlock = Option.some k → Plain w k) → ∀ k, v'.ownBlock = Option.some k → Plain w' k) → wpList P ops Q rest (a.put o.dst v') w') : wpList P ops Q (o :: rest) a w := by
  refine wpList_plain hgd fun K hK' => ?_
  obtain ⟨v', w', hrun, r1, r2, r3, r4⟩ := run_append_ownp (P := P) w t o.type e i z size bytes ht hi hz hsize hby hzs hsz B v n cs hown b p m c news hl hnews h1 hm hb hB
  unfold Oper.wp
  simp [execOp, ho, resolve, invoke, builtin, hs, hx, hrun, Result.andThen]
  exact hK' _ _ (hK v' w' r1 r2 r3 r4)

/-- A cell of it written. -/
theorem OwnC.set {w : World} {B size g cap : Nat} {n : Nat} {cs : List Value} (h : OwnC w B size (.slice (some ⟨g, 0, none⟩) n cap) n cs) (j : Nat) (hj : j < cs.length) (u : Value) : OwnC (w.setCell ⟨g, j, none⟩ u) B size (.slice (some ⟨g, 0, none⟩) n cap) n (cs.set j u) := by
  obtain ⟨hcl, h⟩ := h
  refine ⟨by simpa using hcl, ?_⟩
  rcases h with ⟨h, _⟩ | ⟨g', cap', e, h2, h3, h4, h5, h6, h7⟩
  · cases h
  · simp only [Value.slice.injEq, Option.some.injEq, Addr.mk.injEq, and_true, true_and] at e
    obtain ⟨rfl, rfl⟩ := e
    refine .inr ⟨g, cap, rfl, h2, by simpa using h3, h4, h5, there_set h6 _ _, fun k x hx => ?_⟩
    rw [Nat.zero_add]
    rw [List.getElem?_set] at hx
    split at hx
    · rename_i e
      subst e
      cases hx
      have hc := h7 j cs[j] (List.getElem?_eq_getElem hj)
      rw [Nat.zero_add] at hc
      exact World.cell?_setCell_same _ _ _ hc
    · rename_i hne
      have hc := h7 k x hx
      rw [Nat.zero_add] at hc
      exact (World.cell?_setCell_other _ _ _ _ (fun e => by have e2 := congrArg Addr.off e; simp only at e2; omega)).trans hc
end Go.Proofs.YtjiikjpnlgogfaaDoor
