/-
  Appending a row that may be nil.
-/
import Derived.Test.YtjiikjpnlgogfaaGreatDoorHnRawG
namespace Go.Proofs.YtjiikjpnlgogfaaGreatDoor
open Go.RowKit

theorem run_append_nil {P : Program} (w : World) (t ty e : TypeId) (i : TypeInfo) (ht : P.underlying t = some (.slice e)) (hi : P.info? e = some i) (base : Option Addr) (n c : Nat) (hle : n ≤ c) :
    (Builtin.append_ #[t, t] ty #[.slice base n c, .slice none 0 0]).run P w = .ok (.slice base n c) w := by
  cases base <;> simp [Builtin.append_, run_underlying ht, sizeOf, typeInfo, hi, hle, Builtin.lenOf, Builtin.firstCells, storeCells]
theorem OwnC.cap {w : World} {B size : Nat} {v : Value} {n : Nat} {cs : List Value} (h : OwnC w B size v n cs) : ∃ p c, v = .slice p n c ∧ n ≤ c := by
  rcases h.2 with ⟨e1, e2⟩ | ⟨g, cap, e1, _, _, e2, _⟩
  · subst e2; exact ⟨none, 0, e1, Nat.le_refl _⟩
  · exact ⟨_, cap, e1, e2⟩
theorem run_append_row {P : Program} (w : World) (t ty e : TypeId) (i : TypeInfo) (z : Value) (size bytes : Nat) (ht : P.underlying t = some (.slice e)) (hi : P.info? e = some i) (hz : i.zero = some z) (hsize : i.size = size) (hby : i.bytes = bytes) (hzs : z.cells.size = size) (hsz : 0 < size)
    (B : Nat) (v : Value) (n : Nat) (cs : List Value) (hown : OwnC w B size v n cs) (C : Nat) (x : Value) (m : Nat) (news : List Value) (hrow : OwnC w C size x m news) (h1 : ∀ u ∈ news, u.oneCell' = true) (hm : n + m ≤ maxLen) (hb : (n + m) * bytes ≤ 140737488355328) (hB : B ≤ w.heap.size) :
    ∃ v' w', (Builtin.append_ #[t, t] ty #[v, x]).run P w = .ok v' w' ∧ OwnC w' B size v' (n + m) (cs ++ news) ∧ w.grownBy w' v.ownBlock ∧ (∀ k, v'.ownBlock = Option.some k → v.ownBlock = Option.some k ∨ w.heap.size ≤ k) := by
  rcases hrow.2 with ⟨rfl, rfl⟩ | ⟨g, cap, rfl, _, _, _, _, _, hr⟩
  · have hn : news = [] := List.eq_nil_of_length_eq_zero (by rw [hrow.1]; simp)
    subst hn
    obtain ⟨p, c, rfl, hle⟩ := hown.cap
    refine ⟨_, w, run_append_nil w t ty e i ht hi p n c hle, by simpa using hown, ⟨rfl, rfl, rfl, Nat.le_refl _, fun _ _ _ => rfl⟩, fun k hk => .inl hk⟩
  · obtain ⟨v', w', h2, h3, h4, h5, _⟩ := run_append_ownp (P := P) w t ty e i z size bytes ht hi hz hsize hby hzs hsz B v n cs hown g 0 m cap news hrow.1 hr h1 hm hb hB
    exact ⟨v', w', h2, h3, h4, h5⟩
theorem wpList_append_row {P : Program} (w : World) {ops : Array Oper} {rest : List Oper} {o : Oper} {a : Act} {Q : Exit → Act → World → Prop} (hgd : o.guard = none) (s x : Operand) (t : TypeId)
    (ho : o.op = .call { callee := .builtin .append, args := #[s, x], argTypes := #[t, t] })
    (e : TypeId) (i : TypeInfo) (z : Value) (size bytes : Nat) (ht : P.underlying t = some (.slice e)) (hi : P.info? e = some i) (hz : i.zero = some z) (hsize : i.size = size) (hby : i.bytes = bytes) (hzs : z.cells.size = size) (hsz : 0 < size)
    (B : Nat) (v : Value) (n : Nat) (cs : List Value) (hs : a.eval s = v) (hown : OwnC w B size v n cs) (C : Nat) (xv : Value) (m : Nat) (news : List Value) (hx : a.eval x = xv) (hrow : OwnC w C size xv m news) (h1 : ∀ u ∈ news, u.oneCell' = true) (hm : n + m ≤ maxLen) (hb : (n + m) * bytes ≤ 140737488355328) (hB : B ≤ w.heap.size)
    (hK : ∀ v' w', OwnC w' B size v' (n + m) (cs ++ news) → w.grownBy w' v.ownBlock → (∀ k, v'.ownBlock = Option.some k → v.ownBlock = Option.some k ∨ w.heap.size ≤ k) → wpList P ops Q rest (a.put o.dst v') w') : wpList P ops Q (o :: rest) a w := by
  refine wpList_plain hgd fun K hK' => ?_
  obtain ⟨v', w', hrun, r1, r2, r3⟩ := run_append_row (P := P) w t o.type e i z size bytes ht hi hz hsize hby hzs hsz B v n cs hown C xv m news hrow h1 hm hb hB
  unfold Oper.wp
  simp [execOp, ho, resolve, invoke, builtin, hs, hx, hrun, Result.andThen]
  exact hK' _ _ (hK v' w' r1 r2 r3)
/-- ELEMENTS APPENDED: what was there is there still, told cell by cell. -/
theorem run_append_keep {P : Program} (w : World) (t ty e : TypeId) (i : TypeInfo) (z : Value) (size bytes : Nat) (ht : P.underlying t = some (.slice e)) (hi : P.info? e = some i) (hz : i.zero = some z) (hsize : i.size = size) (hby : i.bytes = bytes) (hzs : z.cells.size = size) (hsz : 0 < size)
    (B : Nat) (v : Value) (n : Nat) (cs : List Value) (hown : OwnC w B size v n cs) (b o m c : Nat) (news : List Value) (hl : news.length = m * size) (hnews : w.rangeAt b o news) (h1 : ∀ u ∈ news, u.oneCell' = true) (hm : n + m ≤ maxLen) (hb : (n + m) * bytes ≤ 140737488355328) (hB : B ≤ w.heap.size) :
    ∃ v' w', (Builtin.append_ #[t, t] ty #[v, .slice (some ⟨b, o, none⟩) m c]).run P w = .ok v' w' ∧ OwnC w' B size v' (n + m) (cs ++ news) ∧ OwnC w' B size v n cs ∧ w.grownBy w' v.ownBlock ∧ (∀ k, v'.ownBlock = Option.some k → v.ownBlock = Option.some k ∨ w.heap.size ≤ k) ∧ ((∀ k, v.ownBlock = Option.some k → Plain w k) → (∀ k, v'.ownBlock = Option.some k → Plain w' k) ∧ ∀ k, v.ownBlock = Option.some k → Plain w' k) ∧
      ∀ g, v.ownBlock = some g → ∀ j, w'.cell? ⟨g, j, none⟩ = w.cell? ⟨g, j, none⟩ ∨ ∃ u, n * size ≤ j ∧ news[j - n * size]? = some u ∧ w'.cell? ⟨g, j, none⟩ = some u := by
  have hn : ∀ j u, news[j]? = some u → w.cell? ((⟨b, o, none⟩ : Addr).add j) = some u := by
    intro j u hu
    rw [Addr.add_mid]
    exact hnews j u hu
  have hown0 := hown
  obtain ⟨hcl, hown⟩ := hown
  have hlen : (cs ++ news).length = (n + m) * size := by rw [List.length_append, hcl, hl, Nat.add_mul]
  rcases hown with ⟨rfl, rfl⟩ | ⟨g, cap, rfl, h2, h3, h4, h5, h6, h7⟩
  · have hcs : cs = [] := List.eq_nil_of_length_eq_zero (by simpa using hcl)
    subst hcs
    obtain ⟨v', w', hr, ho, hg, _⟩ := run_append_own (P := P) w w.heap.size t ty e i z size bytes ht hi hz hsize hby hzs hsz (.slice none 0 0) 0 [] (World.ownsRow_nil _ _ _ _) ⟨b, o, none⟩ m c news hl hn h1 hm hb (Nat.le_refl _)
    exact ⟨v', w', hr, (OwnC.of_row (e := e) ho).mono hB, OwnC.nil _ _ _, hg, fun k hk => .inr (ho.lt k hk).1, fun _ => ⟨ownsRow_plain ho, fun k hk => by simp [Value.ownBlock] at hk⟩, fun g hg => by simp [Value.ownBlock] at hg⟩
  · by_cases hroom : n + m ≤ cap
    · have hms : n * size + m * size ≤ cap * size := by rw [← Nat.add_mul]; exact Nat.mul_le_mul_right _ hroom
      have hth : w.there g (n * size) news.length := fun k hk => by
        have := h6 (n * size + k) (by omega)
        rw [Nat.zero_add] at this
        exact this
      have hr := run_append_room_cells (P := P) w t ty e i ht hi g 0 n cap ⟨b, o, none⟩ m c news (by rw [hsize]; exact hl) hn h1 hroom
        (fun j hj => by rw [hsize, Nat.zero_add]; exact (hth j hj).1) (fun j hj => by rw [hsize, Nat.zero_add]; exact (hth j hj).2)
      rw [hsize, Nat.zero_add] at hr
      obtain ⟨q1, q2, q3, q4⟩ := size_setCells g news (n * size) w
      have hold : ∀ j, j < n * size → (w.setCells g (n * size) news).cell? ⟨g, j, none⟩ = w.cell? ⟨g, j, none⟩ := fun j hj => World.cell?_setCells_out _ _ _ _ _ (fun _ _ => .inl (show j < n * size by omega))
      have hnew : ∀ j u, news[j]? = some u → (w.setCells g (n * size) news).cell? ⟨g, n * size + j, none⟩ = some u := fun j u hu => World.rangeAt_setCells_same w g (n * size) news hth j u hu
      refine ⟨_, _, hr, ⟨hlen, .inr ⟨g, cap, rfl, h2, by rw [q1]; exact h3, hroom, h5, World.there_setCells h6 _ _ _, fun j u hu => ?_⟩⟩, ⟨hcl, .inr ⟨g, cap, rfl, h2, by rw [q1]; exact h3, h4, h5, World.there_setCells h6 _ _ _, fun j u hu => ?_⟩⟩, ⟨q2, q3, q4, by rw [q1]; exact Nat.le_refl _, fun k _ hne => heap_setCells _ _ _ _ _ (fun e => hne (by simp [Value.ownBlock, e]))⟩, fun k hk => .inl hk, fun hp => ⟨fun k hk => (hp k hk).setCells _ _, fun k hk => (hp k hk).setCells _ _⟩, fun g' hg' j => ?_⟩
      · rw [Nat.zero_add]
        by_cases hjl : j < cs.length
        · rw [List.getElem?_append_left hjl] at hu
          rw [hold j (by omega)]
          have := h7 j u hu
          rwa [Nat.zero_add] at this
        · rw [List.getElem?_append_right (Nat.le_of_not_lt hjl)] at hu
          have := hnew (j - cs.length) u hu
          rwa [show n * size + (j - cs.length) = j by omega] at this
      · rw [Nat.zero_add]
        have hjl := (List.getElem?_eq_some_iff.1 hu).1
        rw [hold j (by omega)]
        have := h7 j u hu
        rwa [Nat.zero_add] at this
      · simp only [Value.ownBlock, Option.some.injEq] at hg'
        subst hg'
        by_cases hj1 : j < n * size
        · exact .inl (hold j hj1)
        · by_cases hj2 : j - n * size < news.length
          · refine .inr ⟨news[j - n * size], by omega, List.getElem?_eq_getElem hj2, ?_⟩
            have := hnew (j - n * size) _ (List.getElem?_eq_getElem hj2)
            rwa [show n * size + (j - n * size) = j by omega] at this
          · exact .inl (World.cell?_setCells_out _ _ _ _ _ (fun _ _ => .inr (show n * size + news.length ≤ j by omega)))
    · obtain ⟨v', w', hr, ho, hg⟩ := run_append_arg_grows (P := P) w t ty e i z size bytes ht hi hz hsize hby hzs hsz ⟨g, 0, none⟩ n cap cs hcl
        (fun j u hu => by
          rw [Addr.add_mid]
          exact h7 j u hu) ⟨b, o, none⟩ m c news hl hn (by omega) hm hb
      have hgb : ∀ k, k < w.heap.size → w'.heap[k]? = w.heap[k]? := fun k hk => hg.block k hk (by simp)
      exact ⟨v', w', hr, (OwnC.of_row ho).mono hB, hown0.keep hg.size (fun k hk _ => hgb k hk), ⟨hg.os, hg.tape, hg.output, hg.size, fun k hk _ => hg.block k hk (by simp)⟩, fun k hk => .inr (ho.lt k hk).1, fun hp => ⟨ownsRow_plain ho, fun k hk => (hp k hk).keep (hgb k (by obtain ⟨_, _, h⟩ := hp k hk; exact (Array.getElem?_eq_some_iff.1 h).1))⟩, fun g' hg' j => by
        simp only [Value.ownBlock, Option.some.injEq] at hg'
        subst hg'
        exact .inl (World.cell?_of_block (hgb g h3))⟩
end Go.Proofs.YtjiikjpnlgogfaaGreatDoor
