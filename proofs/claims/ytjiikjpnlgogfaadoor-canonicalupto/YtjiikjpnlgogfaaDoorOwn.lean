/-
  Bytes in a row of the call's own: made, appended to.
-/
import Derived.Test.YtjiikjpnlgogfaaDoorMid
import Derived.Test.YtjiikjpnlgogfaaDoorHash
import Derived.ArgAppend
import Derived.Lib.ConvBytes
namespace Go.Proofs.YtjiikjpnlgogfaaDoor
open Go.RowKit

/-- v is a slice of the bytes l, in a block of the call's own (from B on), its spare cells there and none frozen; or the empty slice. -/
def Own (w : World) (B : Nat) (v : Value) (l : List Nat) : Prop :=
  (v = .slice none 0 0 ∧ l = []) ∨ ∃ g cap, v = .slice (some ⟨g, 0, none⟩) l.length cap ∧ B ≤ g ∧ g < w.heap.size ∧ l.length ≤ cap ∧ cap ≤ maxLen ∧ w.there g 0 cap ∧ ∀ j, j < l.length → w.cell? ⟨g, j, none⟩ = some (encB l[j]!)

theorem Own.nil (w : World) (B : Nat) : Own w B (.slice none 0 0) [] := .inl ⟨rfl, rfl⟩

/-- It looks at its own block alone. -/
theorem Own.keep {w w' : World} {B : Nat} {v : Value} {l : List Nat} (h : Own w B v l) (hs : w.heap.size ≤ w'.heap.size) (hb : ∀ k, k < w.heap.size → v.ownBlock = some k → w'.heap[k]? = w.heap[k]?) : Own w' B v l := by
  rcases h with h | ⟨g, cap, rfl, h1, h2, h3, h4, h5, h6⟩
  · exact .inl h
  · have e := hb g h2 rfl
    exact .inr ⟨g, cap, rfl, h1, by omega, h3, h4, fun j hj => ⟨by rw [World.cell?_of_block e]; exact (h5 j hj).1, (World.frozen?_of_block e).trans (h5 j hj).2⟩, fun j hj => (World.cell?_of_block e).trans (h6 j hj)⟩

theorem Own.alloc {w : World} {B : Nat} {v : Value} {l : List Nat} (h : Own w B v l) (o : Obj) : Own (w.alloc o) B v l :=
  h.keep (by simp) fun k hk _ => Below.heap_alloc w o k hk
theorem Own.drew {w : World} {B : Nat} {v : Value} {l : List Nat} (h : Own w B v l) : Own w.drew B v l := h
theorem Own.below {w w' : World} {B : Nat} {v : Value} {l : List Nat} (h : Own w B v l) (hb : Below w.heap.size w w') : Own w' B v l :=
  h.keep hb.size fun k hk _ => hb.block k hk
theorem Own.mono {w : World} {B B' : Nat} {v : Value} {l : List Nat} (h : Own w B v l) (hb : B' ≤ B) : Own w B' v l := by
  rcases h with h | ⟨g, cap, rfl, h1, h2⟩
  · exact .inl h
  · exact .inr ⟨g, cap, rfl, by omega, h2⟩
theorem Own.block {w : World} {B : Nat} {v : Value} {l : List Nat} (h : Own w B v l) : ∀ k, v.ownBlock = some k → B ≤ k ∧ k < w.heap.size := by
  intro k hk
  rcases h with ⟨rfl, _⟩ | ⟨g, cap, rfl, h1, h2, _⟩
  · simp [Value.ownBlock] at hk
  · simp [Value.ownBlock] at hk
    subst hk
    exact ⟨h1, h2⟩
theorem Own.grown {w w' : World} {B : Nat} {v : Value} {l : List Nat} {W : World} (h : Own w B v l) (hg : w.grownBy w' v.ownBlock) (h0 : Below B W w) (hB : B ≤ w.heap.size) : Below B W w' :=
  h0.trans ⟨hg.os, hg.tape, hg.output, hg.size, fun k hk => hg.block k (by omega) (fun e => by have := h.block k e.symm; omega)⟩

theorem enc_getElem? (l : List Nat) (j : Nat) (u : Value) : (l.map encB)[j]? = some u ↔ j < l.length ∧ u = encB l[j]! := by
  rw [List.getElem?_map]
  by_cases hj : j < l.length
  · simp only [List.getElem?_eq_getElem hj, Option.map_some, Option.some.injEq, hj, true_and, getElem!_pos l j hj]
    exact eq_comm
  · simp [hj]

/-- A row that was made new. -/
theorem Own.of_row {w : World} {B : Nat} {e : TypeId} {v : Value} {l : List Nat} (h : w.ownsRow B e 1 v l.length (l.map encB)) : Own w B v l := by
  rcases h.2 with ⟨hv, hn⟩ | ⟨g, cap, cur, rfl, hb, hg, hnc, hcm, hcs, htake⟩
  · exact .inl ⟨hv, List.eq_nil_of_length_eq_zero hn⟩
  · refine .inr ⟨g, cap, rfl, hb, (Array.getElem?_eq_some_iff.1 hg).1, hnc, hcm, fun j hj => ⟨?_, frozen_of_row w g _ cur e hg⟩, fun j hj => ?_⟩
    · rw [cell_of_row w g _ cur e (0, 0) hg, Nat.zero_add]
      have : j < cur.size := by omega
      simp [this]
    · rw [cell_of_row w g _ cur e (0, 0) hg]
      have h2 : (cur.toList.take (l.length * 1))[j]? = (l.map encB)[j]? := by rw [htake]
      rw [List.getElem?_take_of_lt (by omega), (enc_getElem? l j _).2 ⟨hj, rfl⟩] at h2
      simpa using h2

theorem encB_oneCell (l : List Nat) : ∀ u ∈ l.map encB, u.oneCell' = true := by
  intro u hu
  obtain ⟨x, _, rfl⟩ := List.mem_map.1 hu
  rfl

/-- BYTES APPENDED: with room or without. -/
theorem run_append_bytes {P : Program} (w : World) (t ty e : TypeId) (i : TypeInfo) (ht : P.underlying t = some (.slice e)) (hi : P.info? e = some i) (hz : i.zero = some (.int .u8 0)) (hsize : i.size = 1) (hby : i.bytes = 1)
    (B : Nat) (v : Value) (l : List Nat) (hown : Own w B v l) (b o : Nat) (c : Nat) (news : List Nat) (hnews : ∀ j, j < news.length → w.cell? ⟨b, o + j, none⟩ = some (encB news[j]!)) (hb : l.length + news.length ≤ 140737488355328) (hB : B ≤ w.heap.size) :
    ∃ v' w', (Builtin.append_ #[t, t] ty #[v, .slice (some ⟨b, o, none⟩) news.length c]).run P w = .ok v' w' ∧ Own w' B v' (l ++ news) ∧ w.grownBy w' v.ownBlock := by
  have hn : ∀ j u, (news.map encB)[j]? = some u → w.cell? ((⟨b, o, none⟩ : Addr).add j) = some u := by
    intro j u hu
    obtain ⟨h1, rfl⟩ := (enc_getElem? news j u).1 hu
    rw [Addr.add_mid]
    exact hnews j h1
  have hm : l.length + news.length ≤ maxLen := by unfold maxLen; omega
  rcases hown with ⟨rfl, rfl⟩ | ⟨g, cap, rfl, h1, h2, h3, h4, h5, h6⟩
  · obtain ⟨v', w', hr, ho, hg, _⟩ := run_append_own (P := P) w B t ty e i (.int .u8 0) 1 1 ht hi hz hsize hby rfl (by decide) (.slice none 0 0) 0 [] (World.ownsRow_nil _ _ _ _) ⟨b, o, none⟩ news.length c (news.map encB) (by simp) hn (encB_oneCell _) (by simpa using hm) (by simpa using hb) hB
    refine ⟨v', w', hr, Own.of_row (e := e) ?_, hg⟩
    simpa using ho
  · by_cases hroom : l.length + news.length ≤ cap
    · have hr := run_append_room_cells (P := P) w t ty e i ht hi g 0 l.length cap ⟨b, o, none⟩ news.length c (news.map encB) (by simp [hsize]) hn (encB_oneCell _) hroom
        (fun j hj => by
          have := (h5 (l.length + j) (by simp at hj; omega)).1
          rw [Nat.zero_add] at this
          simpa [hsize] using this)
        (fun j hj => by
          have := (h5 (l.length + j) (by simp at hj; omega)).2
          rw [Nat.zero_add] at this
          simpa [hsize] using this)
      rw [hsize, Nat.mul_one, Nat.zero_add] at hr
      obtain ⟨q1, q2, q3, q4⟩ := size_setCells g (news.map encB) l.length w
      refine ⟨_, _, hr, .inr ⟨g, cap, by simp, h1, by rw [q1]; exact h2, by simpa using hroom, h4, World.there_setCells h5 _ _ _, fun j hj => ?_⟩, ⟨q2, q3, q4, by rw [q1]; exact Nat.le_refl _, fun k _ hne => heap_setCells _ _ _ _ _ (fun e => hne (by simp [Value.ownBlock, e]))⟩⟩
      rw [List.length_append] at hj
      by_cases hjl : j < l.length
      · rw [World.cell?_setCells_out _ _ _ _ _ (fun _ _ => .inl hjl), h6 j hjl]
        simp [getElem!_def, List.getElem?_append_left hjl]
      · have hth : w.there g l.length (news.map encB).length := fun k hk => by
          have := h5 (l.length + k) (by simp at hk; omega)
          rw [Nat.zero_add] at this
          exact this
        have := World.rangeAt_setCells_same w g l.length (news.map encB) hth (j - l.length) (encB news[j - l.length]!) ((enc_getElem? _ _ _).2 ⟨by omega, rfl⟩)
        rw [show l.length + (j - l.length) = j by omega] at this
        rw [this]
        simp [getElem!_def, List.getElem?_append_right (Nat.le_of_not_lt hjl)]
    · obtain ⟨v', w', hr, ho, hg⟩ := run_append_arg_grows (P := P) w t ty e i (.int .u8 0) 1 1 ht hi hz hsize hby rfl (by decide) ⟨g, 0, none⟩ l.length cap (l.map encB) (by simp)
        (fun j u hu => by
          obtain ⟨k1, rfl⟩ := (enc_getElem? l j u).1 hu
          rw [Addr.add_mid, Nat.zero_add]
          exact h6 j k1) ⟨b, o, none⟩ news.length c (news.map encB) (by simp) hn (by omega) hm (by simpa using hb)
      refine ⟨v', w', hr, ?_, ⟨hg.os, hg.tape, hg.output, hg.size, fun k hk _ => hg.block k hk (by simp)⟩⟩
      have ho' : w'.ownsRow w.heap.size e 1 v' (l ++ news).length ((l ++ news).map encB) := by simpa using ho
      exact (Own.of_row ho').mono hB

theorem wpList_append_bytes {P : Program} (w : World) {ops : Array Oper} {rest : List Oper} {o : Oper} {a : Act} {Q : Exit → Act → World → Prop} (hgd : o.guard = none) (s x : Operand) (t : TypeId)
    (ho : o.op = .call { callee := .builtin .append, args := #[s, x], argTypes := #[t, t] })
    (e : TypeId) (i : TypeInfo) (ht : P.underlying t = some (.slice e)) (hi : P.info? e = some i) (hz : i.zero = some (.int .u8 0)) (hsize : i.size = 1) (hby : i.bytes = 1)
    (B : Nat) (v : Value) (l : List Nat) (hs : a.eval s = v) (hown : Own w B v l) (b p c : Nat) (news : List Nat) (hx : a.eval x = .slice (some ⟨b, p, none⟩) news.length c)
    (hnews : ∀ j, j < news.length → w.cell? ⟨b, p + j, none⟩ = some (encB news[j]!)) (hb : l.length + news.length ≤ 140737488355328) (hB : B ≤ w.heap.size)
    (hK : ∀ v' w', Own w' B v' (l ++ news) → w.grownBy w' v.ownBlock → wpList P ops Q rest (a.put o.dst v') w') : wpList P ops Q (o :: rest) a w := by
  refine wpList_plain hgd fun K hK' => ?_
  obtain ⟨v', w', hrun, r1, r2⟩ := run_append_bytes (P := P) w t o.type e i ht hi hz hsize hby B v l hown b p c news hnews hb hB
  unfold Oper.wp
  simp [execOp, ho, resolve, invoke, builtin, hs, hx, hrun, Result.andThen]
  exact hK' _ _ (hK v' w' r1 r2)

theorem bytesOf_length (s : ByteArray) : (bytesOf s).length = s.size := by
  simp [bytesOf]
theorem bytesOf_get (s : ByteArray) (j : Nat) (hj : j < s.size) : (bytesOf s)[j]! = (s.data.toList.getD j 0).toNat := by
  have h : j < s.data.toList.length := by simpa using hj
  unfold bytesOf
  rw [getElem!_pos _ j (by simpa using hj)]
  simp [List.getD, hj]

/-- What '[]byte(s)' makes. -/
theorem Own.ofString (w : World) (e : TypeId) (s : ByteArray) (hs : s.size ≤ maxLen) : Own (Lib.bytesWorld w e s) w.heap.size (.slice (some ⟨w.heap.size, 0, none⟩) s.size (grownCap w s.size 0 e)) (bytesOf s) := by
  have hge := grownCap_ge w s.size 0 e
  have hcs : (Lib.bytesCells w e s).size = grownCap w s.size 0 e := by
    simp [Lib.bytesCells]
    omega
  refine .inr ⟨w.heap.size, _, by rw [bytesOf_length], Nat.le_refl _, by rw [Lib.bytesWorld_size]; omega, by rw [bytesOf_length]; exact hge, grownCap_le_maxLen w s.size 0 e hs, fun j hj => ⟨?_, ?_⟩, fun j hj => ?_⟩
  · rw [World.cell?, Lib.bytesWorld_at_new, Nat.zero_add]
    have : j < (Lib.bytesCells w e s).size := by omega
    simp [this]
  · rw [World.frozen?, Lib.bytesWorld_at_new, Nat.zero_add]
    have : ¬ (Lib.bytesCells w e s).size ≤ j := by omega
    simp [this]
  · rw [bytesOf_length] at hj
    rw [Lib.bytesWorld_cell w e s j hj, bytesOf_get s j hj]

theorem bytesWorld_below (w : World) (e : TypeId) (s : ByteArray) : Below w.heap.size w (Lib.bytesWorld w e s) :=
  ⟨rfl, rfl, rfl, by rw [Lib.bytesWorld_size]; omega, fun k hk => Lib.bytesWorld_at_old w e s k hk⟩

theorem Own.full {w : World} {B : Nat} {v : Value} {l : List Nat} (h : Own w B v l) (hl : 0 < l.length) : ∃ g cap, v = .slice (some ⟨g, 0, none⟩) l.length cap ∧ B ≤ g ∧ g < w.heap.size ∧ l.length ≤ cap ∧ cap ≤ maxLen ∧ w.there g 0 cap ∧ ∀ j, j < l.length → w.cell? ⟨g, j, none⟩ = some (encB l[j]!) := by
  rcases h with ⟨_, rfl⟩ | h
  · simp at hl
  · exact h
end Go.Proofs.YtjiikjpnlgogfaaDoor
