/-
  Package twigskeep: Laid: the state of its loop.
-/
import Derived.Test.YtjiikjpnlgogfaaGreatDoorLaD
namespace Go.Proofs.YtjiikjpnlgogfaaGreatDoor
open Go.RowKit

theorem FrX.of_only {B : Nat} {S : Wood} {w w' : World} {fb : Nat} (h : Forest B S w) (ho : Only fb w w') (hn : S fb = none) : FrX B (· = fb) S S w w' :=
  ⟨ho.os, ho.tape, ho.output, ho.size, fun k hk _ hx => ho.block k hk hx, h.keep ho.size fun k t hk => ho.block k (h.lt hk) fun e => (by rw [e, hn] at hk; cases hk), fun _ _ h => h, fun _ _ h => h⟩
theorem FrX.weak {B : Nat} {X Y : Nat → Prop} {S S' : Wood} {w w' : World} (h : FrX B X S S' w w') (hXY : ∀ k, X k → Y k) : FrX B Y S S' w w' :=
  ⟨h.os, h.tape, h.output, h.size, fun k hk hn hy => h.other k hk hn fun hx => hy (hXY k hx), h.forest, h.sub, h.new⟩

/-- A key with another nibble at one place. -/
theorem nibs_set : ∀ (l : List Nat) (h z : Nat), h < l.length → nibs (l.set h z) = ((nibs l).set (2 * h) (z / 16)).set (2 * h + 1) (z % 16)
  | [], _, _, h => by simp at h
  | x :: l, 0, z, _ => rfl
  | x :: l, h + 1, z, hh => by
    have ih := nibs_set l h z (by simpa using hh)
    show nibs (x :: l.set h z) = _
    have e1 : nibs (x :: l.set h z) = x / 16 :: x % 16 :: nibs (l.set h z) := rfl
    have e2 : nibs (x :: l) = x / 16 :: x % 16 :: nibs l := rfl
    rw [e1, e2, ih, show 2 * (h + 1) = 2 * h + 1 + 1 by omega]
    rfl
theorem nibs_at : ∀ (l : List Nat) (h : Nat) (hh : h < l.length), (nibs l)[2 * h]? = some (l[h] / 16) ∧ (nibs l)[2 * h + 1]? = some (l[h] % 16)
  | [], _, h => by simp at h
  | x :: l, 0, _ => ⟨rfl, rfl⟩
  | x :: l, h + 1, hh => by
    have ih := nibs_at l h (by simpa using hh)
    have e2 : nibs (x :: l) = x / 16 :: x % 16 :: nibs l := rfl
    rw [e2, show 2 * (h + 1) = 2 * h + 1 + 1 by omega]
    exact ih
theorem set_same {l : List Nat} {i v : Nat} (h : l[i]? = some v) : l.set i v = l := by
  obtain ⟨hi, rfl⟩ := List.getElem?_eq_some_iff.1 h
  exact List.set_getElem_self hi
theorem key_even {K : Array Nat} {h x v : Nat} (hh : h < K.size) (hx : K[h] = x) : nibs (K.set! h (x % 16 + 16 * v)).toList = (nibs K.toList).set (2 * h) v := by
  have hl : h < K.toList.length := by simpa using hh
  have e : (K.set! h (x % 16 + 16 * v)).toList = K.toList.set h (x % 16 + 16 * v) := by simp
  rw [e, nibs_set _ _ _ hl, show (x % 16 + 16 * v) / 16 = v by omega, show (x % 16 + 16 * v) % 16 = x % 16 by omega]
  refine set_same ?_
  rw [List.getElem?_set_ne (by omega), (nibs_at _ h hl).2]
  simp [hx]
theorem key_odd {K : Array Nat} {h x v : Nat} (hh : h < K.size) (hx : K[h] = x) (hv : v < 16) : nibs (K.set! h (x / 16 * 16 + v)).toList = (nibs K.toList).set (2 * h + 1) v := by
  have hl : h < K.toList.length := by simpa using hh
  have e : (K.set! h (x / 16 * 16 + v)).toList = K.toList.set h (x / 16 * 16 + v) := by simp
  rw [e, nibs_set _ _ _ hl, show (x / 16 * 16 + v) / 16 = x / 16 by omega, show (x / 16 * 16 + v) % 16 = v by omega]
  have e0 : (nibs K.toList).set (2 * h) (x / 16) = nibs K.toList := set_same (by rw [(nibs_at _ h hl).1]; simp [hx])
  rw [e0]

/-- Blocks that hold what the kids' rows hold. -/
abbrev LaF (w : World) (S : Wood) (b gk : Nat) (wr : World) (k : Nat) : Prop := S k = none ∧ k ≠ b ∧ k ≠ gk ∧ w.heap.size + 2 ≤ k ∧ k < wr.heap.size
structure LaSt (w : World) (raw : ByteArray) (K0 : Array Nat) (P : List Nat) (a B b gk : Nat) (S : Wood) (wr : World) (us vs : List ByteArray) (els : List El) : Prop where
  forest : Forest B S wr
  tells : Tells S wr b (gV P a us)
  below : Below w.heap.size w wr
  base : wr.rangeAt w.heap.size 0 (K0.toList.map encB)
  feed : FeedAt wr (w.heap.size + 1) raw
  sg : S gk = none
  row : wr.rangeAt gk 0 (els.flatMap encI)
  there : wr.there gk 0 51
  plain : Plain wr gk
  len : els.length = 17
  kids : ∀ v (h : v < els.length), Tree encI kC 1 wr (LaF w S b gk wr) els[v] (kidC P a vs v)
  low : w.heap.size + 2 ≤ B
  bB : B ≤ b
  gb : b < gk

theorem LaSt.move {w : World} {raw : ByteArray} {K0 : Array Nat} {P : List Nat} {a B b gk : Nat} {S S' : Wood} {wr w' : World} {us us' vs : List ByteArray} {els : List El} (h : LaSt w raw K0 P a B b gk S wr us vs els) (hf : FrX B (fun k => k = b ∨ k = w.heap.size + 1) S S' wr w') (ht : Tells S' w' b (gV P a us')) (hfd : FeedAt w' (w.heap.size + 1) raw) : LaSt w raw K0 P a B b gk S' w' us' vs els := by
  have h1 := h.low
  have h2 := h.bB
  have h3 := h.gb
  have h4 := h.forest.le
  have h5 := h.plain.lt
  have e0 := hf.other w.heap.size (by omega) (h.forest.nothing (by omega)) (by omega)
  have eg := hf.other gk h5 h.sg (by omega)
  have hbl := h.below
  refine ⟨hf.forest, ht, ⟨hf.os.trans hbl.os, hf.tape.trans hbl.tape, hf.output.trans hbl.output, Nat.le_trans hbl.size hf.size, fun k hk => (hf.other k (by omega) (h.forest.nothing (by omega)) (by omega)).trans (hbl.block k hk)⟩, rangeAt_block h.base e0, hfd, hf.new gk h5 h.sg, rangeAt_block h.row eg, there_block h.there eg, h.plain.keep eg, h.len, fun v hv => ?_, h1, h2, h3⟩
  refine Tree.keep (fun k hk => ⟨hf.new k hk.2.2.2.2 hk.1, hk.2.1, hk.2.2.1, hk.2.2.2.1, Nat.lt_of_lt_of_le hk.2.2.2.2 hf.size⟩) hf.size (fun k hk hlt => hf.other k hlt hk.1 ?_) 1 (h.kids v hv)
  have := hk.2.1
  have := hk.2.2.2.1
  omega
theorem LaSt.behind {w : World} {raw : ByteArray} {K0 : Array Nat} {P : List Nat} {a B b gk : Nat} {S : Wood} {wr w' : World} {us vs : List ByteArray} {els : List El} (h : LaSt w raw K0 P a B b gk S wr us vs els) (hb : Below wr.heap.size wr w') : LaSt w raw K0 P a B b gk S w' us vs els :=
  h.move ((Fr.of_below h.forest hb).x _) (h.tells.behind h.forest hb) (h.feed.below hb)
theorem LaSt.fed {w : World} {raw : ByteArray} {K0 : Array Nat} {P : List Nat} {a B b gk : Nat} {S : Wood} {wr w' : World} {us vs : List ByteArray} {els : List El} (h : LaSt w raw K0 P a B b gk S wr us vs els) (hf : Fed (w.heap.size + 1) raw wr w') : LaSt w raw K0 P a B b gk S w' us vs els := by
  have h1 := h.low
  have h2 := h.bB
  have hx := FrX.of_only h.forest hf.1 (h.forest.nothing (by omega))
  exact h.move (hx.weak fun k hk => .inr hk) (h.tells.framex hx (by show ¬ b = w.heap.size + 1; omega)) hf.2
theorem LaSt.put {w : World} {raw : ByteArray} {K0 : Array Nat} {P : List Nat} {a B b gk : Nat} {S S' : Wood} {wr w' : World} {us us' vs : List ByteArray} {els : List El} (h : LaSt w raw K0 P a B b gk S wr us vs els) (hf : FrX B (· = b) S S' wr w') (ht : Tells S' w' b (gV P a us')) : LaSt w raw K0 P a B b gk S' w' us' vs els := by
  have h1 := h.low
  have h2 := h.bB
  have h4 := h.forest.le
  exact h.move (hf.weak fun k hk => .inl hk) ht (h.feed.keep (hf.other (w.heap.size + 1) (by omega) (h.forest.nothing (by omega)) (by show ¬ w.heap.size + 1 = b; omega)) hf.size)
theorem encI_len (e : El) : (encI e).length = 3 := rfl
theorem flatI (els : List El) (i : Nat) (hi : i < els.length) (j : Nat) (hj : j < 3) : (els.flatMap encI)[i * 3 + j]? = (encI els[i])[j]? := by
  have h := flat_at (C := Unit) (enc := encI) encI_len (els.map fun e => (e, ())) i (by simpa using hi) j hj
  rw [List.flatMap_map] at h
  simpa using h
theorem flatI_len (els : List El) : (els.flatMap encI).length = els.length * 3 := by
  have h := flat_length (C := Unit) (enc := encI) encI_len (els.map fun e => (e, ()))
  rw [List.flatMap_map] at h
  simpa using h
/-- An element of a row written anew. -/
theorem row_set {w : World} {g : Nat} {els : List El} (h : w.rangeAt g 0 (els.flatMap encI)) {k : Nat} (hk : k < els.length) (e : El) : (((w.setCell ⟨g, k * 3, none⟩ (.bool e.lst)).setCell ⟨g, k * 3 + 1, none⟩ (.string e.text)).setCell ⟨g, k * 3 + 2, none⟩ e.sub).rangeAt g 0 ((els.set k e).flatMap encI) := by
  intro j u hu
  have hj : j < (els.set k e).length * 3 := by
    rw [← flatI_len]
    exact (List.getElem?_eq_some_iff.1 hu).1
  rw [List.length_set] at hj
  obtain ⟨i, r, hi, hr, rfl⟩ : ∃ i r, i < els.length ∧ r < 3 ∧ j = i * 3 + r := ⟨j / 3, j % 3, by omega, by omega, by omega⟩
  rw [flatI _ i (by simpa using hi) r hr] at hu
  rw [Nat.zero_add]
  have old : ∀ r, r < 3 → ∃ v, w.cell? ⟨g, k * 3 + r, none⟩ = some v := fun r hr => by
    obtain ⟨v, hv⟩ : ∃ v, (encI els[k])[r]? = some v := ⟨(encI els[k])[r]'(by rw [encI_len]; exact hr), List.getElem?_eq_getElem _⟩
    have := h (k * 3 + r) v (by rw [flatI _ k hk r hr]; exact hv)
    rw [Nat.zero_add] at this
    exact ⟨v, this⟩
  by_cases hik : i = k
  · subst hik
    rw [List.getElem_set_self] at hu
    obtain ⟨v0, o0⟩ := old 0 (by omega)
    obtain ⟨v1, o1⟩ := old 1 (by omega)
    obtain ⟨v2, o2⟩ := old 2 (by omega)
    match r, hr with
    | 0, _ =>
      rw [Nat.add_zero] at o0
      show World.cell? _ ⟨g, i * 3, none⟩ = _
      rw [World.cell?_setCell_other _ _ _ _ (by simp), World.cell?_setCell_other _ _ _ _ (by simp), World.cell?_setCell_same _ _ _ o0]
      exact hu
    | 1, _ =>
      rw [World.cell?_setCell_other _ _ _ _ (by simp), World.cell?_setCell_same _ _ _ ((World.cell?_setCell_other _ _ _ _ (by simp)).trans o1)]
      exact hu
    | 2, _ =>
      rw [World.cell?_setCell_same _ _ _ ((World.cell?_setCell_other _ _ _ _ (by simp)).trans ((World.cell?_setCell_other _ _ _ _ (by simp)).trans o2))]
      exact hu
  · rw [List.getElem_set_ne (by omega)] at hu
    rw [World.cell?_setCell_other _ _ _ _ (by simp <;> omega), World.cell?_setCell_other _ _ _ _ (by simp <;> omega), World.cell?_setCell_other _ _ _ _ (by simp <;> omega)]
    have := h (i * 3 + r) u (by rw [flatI _ i hi r hr]; exact hu)
    rwa [Nat.zero_add] at this
theorem kidC_snoc (P : List Nat) (a : Nat) (vs : List ByteArray) (u : ByteArray) (v : Nat) : kidC P a (vs ++ [u]) v = if v = vs.length then refOf (leafC P a u) else kidC P a vs v := by
  unfold kidC
  by_cases e : v = vs.length
  · rw [if_pos e, e]; simp
  · rw [if_neg e]
    by_cases l : v < vs.length
    · rw [List.getElem?_append_left l]
    · rw [List.getElem?_eq_none (by rw [List.length_append, List.length_singleton]; omega), List.getElem?_eq_none (by omega)]
theorem LaSt.kid {w : World} {raw : ByteArray} {K0 : Array Nat} {P : List Nat} {a B b gk : Nat} {S : Wood} {wr : World} {us vs : List ByteArray} {els : List El} (h : LaSt w raw K0 P a B b gk S wr us vs els) {e : El} {u : ByteArray} (hT : Tree encI kC 1 wr (LaF w S b gk wr) e (refOf (leafC P a u))) (hv : vs.length < 17) : LaSt w raw K0 P a B b gk S (((wr.setCell ⟨gk, vs.length * 3, none⟩ (.bool e.lst)).setCell ⟨gk, vs.length * 3 + 1, none⟩ (.string e.text)).setCell ⟨gk, vs.length * 3 + 2, none⟩ e.sub) us (vs ++ [u]) (els.set vs.length e) := by
  have hne : ∀ j, j ≠ gk → (((wr.setCell ⟨gk, vs.length * 3, none⟩ (.bool e.lst)).setCell ⟨gk, vs.length * 3 + 1, none⟩ (.string e.text)).setCell ⟨gk, vs.length * 3 + 2, none⟩ e.sub).heap[j]? = wr.heap[j]? := fun j hj => by
    rw [Below.heap_setCell _ _ _ _ hj, Below.heap_setCell _ _ _ _ hj, Below.heap_setCell _ _ _ _ hj]
  have hsz : (((wr.setCell ⟨gk, vs.length * 3, none⟩ (.bool e.lst)).setCell ⟨gk, vs.length * 3 + 1, none⟩ (.string e.text)).setCell ⟨gk, vs.length * 3 + 2, none⟩ e.sub).heap.size = wr.heap.size := by simp
  have hl := h.len
  have hrow := row_set h.row (k := vs.length) (by omega) e
  have hth := there_set (there_set (there_set h.there ⟨gk, vs.length * 3, none⟩ (.bool e.lst)) ⟨gk, vs.length * 3 + 1, none⟩ (.string e.text)) ⟨gk, vs.length * 3 + 2, none⟩ e.sub
  have hpl := ((h.plain.setCell ⟨gk, vs.length * 3, none⟩ (.bool e.lst)).setCell ⟨gk, vs.length * 3 + 1, none⟩ (.string e.text)).setCell ⟨gk, vs.length * 3 + 2, none⟩ e.sub
  have hos : (((wr.setCell ⟨gk, vs.length * 3, none⟩ (.bool e.lst)).setCell ⟨gk, vs.length * 3 + 1, none⟩ (.string e.text)).setCell ⟨gk, vs.length * 3 + 2, none⟩ e.sub).os = wr.os := rfl
  have hta : (((wr.setCell ⟨gk, vs.length * 3, none⟩ (.bool e.lst)).setCell ⟨gk, vs.length * 3 + 1, none⟩ (.string e.text)).setCell ⟨gk, vs.length * 3 + 2, none⟩ e.sub).tape = wr.tape := rfl
  have hou : (((wr.setCell ⟨gk, vs.length * 3, none⟩ (.bool e.lst)).setCell ⟨gk, vs.length * 3 + 1, none⟩ (.string e.text)).setCell ⟨gk, vs.length * 3 + 2, none⟩ e.sub).output = wr.output := rfl
  generalize ((wr.setCell ⟨gk, vs.length * 3, none⟩ (.bool e.lst)).setCell ⟨gk, vs.length * 3 + 1, none⟩ (.string e.text)).setCell ⟨gk, vs.length * 3 + 2, none⟩ e.sub = w' at hne hsz hrow hth hpl hos hta hou
  have h1 := h.low
  have h2 := h.bB
  have h3 := h.gb
  have hbl := h.below
  have ho : Only gk wr w' := ⟨hos, hta, hou, Nat.le_of_eq hsz.symm, fun k _ hk => hne k hk⟩
  have hx := FrX.of_only h.forest ho h.sg
  refine ⟨hx.forest, h.tells.framex hx (by show ¬ b = gk; omega), ⟨hos.trans hbl.os, hta.trans hbl.tape, hou.trans hbl.output, by rw [hsz]; exact hbl.size, fun k hk => (hne k (by omega)).trans (hbl.block k hk)⟩, rangeAt_block h.base (hne _ (by omega)), h.feed.keep (hne _ (by omega)) (Nat.le_of_eq hsz.symm), h.sg, hrow, hth, hpl, by rw [List.length_set]; exact hl, fun v hv' => ?_, h1, h2, h3⟩
  have hkp : ∀ {e : El} {c : List Nat}, Tree encI kC 1 wr (LaF w S b gk wr) e c → Tree encI kC 1 w' (LaF w S b gk w') e c := fun h => Tree.keep (fun k hk => ⟨hk.1, hk.2.1, hk.2.2.1, hk.2.2.2.1, by rw [hsz]; exact hk.2.2.2.2⟩) (Nat.le_of_eq hsz.symm) (fun k hk _ => hne k hk.2.2.1) 1 h
  rw [kidC_snoc]
  by_cases e1 : v = vs.length
  · subst e1
    rw [if_pos rfl, List.getElem_set_self]
    exact hkp hT
  · rw [if_neg e1, List.getElem_set_ne (by omega)]
    exact hkp (h.kids v (by rw [List.length_set] at hv'; exact hv'))
/-- The branch's item, in memory. -/
theorem LaSt.branch {w : World} {raw : ByteArray} {K0 : Array Nat} {P : List Nat} {a B b gk : Nat} {S : Wood} {wr : World} {us vs : List ByteArray} {els : List El} (h : LaSt w raw K0 P a B b gk S wr us vs els) : Tree encI kC 2 wr (fun _ => True) ⟨0, 0, true, ⟨#[]⟩, .slice (some ⟨gk, 0, none⟩) 17 17⟩ (brC P a vs) := by
  have hl := h.len
  refine .inr ⟨rfl, (List.range 17).map fun v => (els.getD v ⟨0, 0, false, ⟨#[]⟩, .slice none 0 0⟩, kidC P a vs v), .inr ⟨gk, 17, by simp, by simp, trivial, h.plain.lt, h.plain, ?_⟩, ?_, rfl, ?_⟩
  · rw [List.flatMap_map]
    have e : (List.range 17).flatMap (fun v => encI (els.getD v ⟨0, 0, false, ⟨#[]⟩, .slice none 0 0⟩)) = els.flatMap encI := by
      have e2 : els = (List.range 17).map fun v => els.getD v ⟨0, 0, false, ⟨#[]⟩, .slice none 0 0⟩ := by
        apply List.ext_getElem (by simp [hl])
        intro j h1 h2
        rw [List.getElem_map, List.getElem_range, List.getD_eq_getElem?_getD, List.getElem?_eq_getElem h1]
        rfl
      conv => rhs; rw [e2]
      rw [List.flatMap_map]
    rw [e]
    exact h.row
  · intro p hp
    obtain ⟨v, hv, rfl⟩ := List.mem_map.1 hp
    have hv' : v < els.length := by rw [hl]; simpa using hv
    have := h.kids v hv'
    rw [List.getD_eq_getElem?_getD, List.getElem?_eq_getElem hv']
    exact Tree.keep (fun _ _ => trivial) (Nat.le_refl _) (fun _ _ _ => rfl) 1 this
  · rw [List.map_map]
    rfl
end Go.Proofs.YtjiikjpnlgogfaaGreatDoor
