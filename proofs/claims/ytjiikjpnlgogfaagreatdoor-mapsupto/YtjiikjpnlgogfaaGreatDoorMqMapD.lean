/-
  Package twigslaw: the trees of a script, and what keeps them.
  Package twigslaw: joins: one tree more.
  Package twigslaw: a step of a script whose steps speak of trees.
  Package twigslaw: a step on one of the trees of a script.
  Package twigslaw: a script whose steps speak of trees: what the steps keep.
-/
import Derived.Test.YtjiikjpnlgogfaaGreatDoorMqMapC
namespace Go.Proofs.YtjiikjpnlgogfaaGreatDoor
open Go.RowKit

/-- A pair of trees: where they lie, and their ends. -/
structure Pq where
  bx : Nat
  bz : Nat
  v : Value
  l : List Ed
/-- The blocks of a pair. -/
def Pq.has (p : Pq) (g : Nat) : Prop := g = p.bx ∨ g = p.bz ∨ p.v.ownBlock = some g
/-- The blocks of the script's own. -/
def inBase (bw : Nat) (vx vz : Value) (g : Nat) : Prop := g = bw ∨ vx.ownBlock = some g ∨ vz.ownBlock = some g
/-- The world of a script whose steps speak of trees alone. -/
structure WM (B : Nat) (S : Wood) (w : World) (bw : Nat) (vx vz : Value) (ps : List Pq) : Prop where
  heap : w.heap[bw]? = some (.cells #[.slice none 0 0, vx, vz, .slice none 0 0, .slice none 0 0, .int .i64 0] 99 (0, 0))
  forest : Forest B S w
  sb : ∀ g, inBase bw vx vz g → S g = none
  ox : OwnC w B 1 vx ps.length (ps.map fun p => Value.pointer (some ⟨p.bx, 0, none⟩))
  oz : OwnC w B 1 vz ps.length (ps.map fun p => Value.pointer (some ⟨p.bz, 0, none⟩))
  prs : ∀ p ∈ ps, Pr B S w p.bx p.bz p.v p.l
  apart : ∀ i j (hi : i < ps.length) (hj : j < ps.length), i ≠ j → ∀ g, ps[i].has g → ¬ ps[j].has g
  base : ∀ p ∈ ps, ∀ g, p.has g → ¬ inBase bw vx vz g
  bx : vx.ownBlock ≠ some bw
  bz : vz.ownBlock ≠ some bw
  xz : ∀ g, vx.ownBlock = some g → vz.ownBlock ≠ some g
  low : B ≤ bw
  few : ps.length ≤ 5
theorem Pr.lt {B : Nat} {S : Wood} {w : World} {p : Pq} (h : Pr B S w p.bx p.bz p.v p.l) {g : Nat} (hg : p.has g) : g < w.heap.size := by
  rcases hg with rfl | rfl | hg
  · exact h.t.lt2
  · exact h.r.lt
  · exact (h.r.row.block g hg).2
theorem WM.lt {B : Nat} {S : Wood} {w : World} {bw : Nat} {vx vz : Value} {ps : List Pq} (h : WM B S w bw vx vz ps) : bw < w.heap.size := (Array.getElem?_eq_some_iff.1 h.heap).1
theorem WM.ltb {B : Nat} {S : Wood} {w : World} {bw : Nat} {vx vz : Value} {ps : List Pq} (h : WM B S w bw vx vz ps) {g : Nat} (hg : inBase bw vx vz g) : g < w.heap.size := by
  rcases hg with rfl | hg | hg
  · exact h.lt
  · exact (h.ox.block g hg).2
  · exact (h.oz.block g hg).2
/-- One pair turns; all else stays. -/
theorem WM.step {B : Nat} {S S' : Wood} {w w' : World} {bw : Nat} {vx vz : Value} {ps : List Pq} (h : WM B S w bw vx vz ps) {k : Nat} (hk : k < ps.length) {v' : Value} {l' : List Ed} (hf : FrX B (fun j => j = ps[k].bx ∨ j = ps[k].bz) S S' w w') (hp : Pr B S' w' ps[k].bx ps[k].bz v' l') (hv : v' = ps[k].v ∨ ∀ g, v'.ownBlock = some g → w.heap.size ≤ g) : WM B S' w' bw vx vz (ps.set k ⟨ps[k].bx, ps[k].bz, v', l'⟩) := by
  have hkm := List.getElem_mem hk
  have hX : ∀ g, inBase bw vx vz g → ¬ (g = ps[k].bx ∨ g = ps[k].bz) := fun g hg hx => h.base _ hkm g (hx.elim .inl fun e => .inr (.inl e)) hg
  have hbl : ∀ g, inBase bw vx vz g → w'.heap[g]? = w.heap[g]? := fun g hg => hf.other g (h.ltb hg) (h.sb g hg) (hX g hg)
  have hnew : ∀ g, (Pq.mk ps[k].bx ps[k].bz v' l').has g → ps[k].has g ∨ w.heap.size ≤ g := fun g hg => by
    rcases hg with hg | hg | hg
    · exact .inl (.inl hg)
    · exact .inl (.inr (.inl hg))
    · rcases hv with e | e
      · exact .inl (.inr (.inr (by rw [← e]; exact hg)))
      · exact .inr (e g hg)
  have mapx : (ps.set k ⟨ps[k].bx, ps[k].bz, v', l'⟩).map (fun p => Value.pointer (some ⟨p.bx, 0, none⟩)) = ps.map fun p => Value.pointer (some ⟨p.bx, 0, none⟩) := by
    rw [List.map_set]
    refine List.ext_getElem (by simp) fun j h1 h2 => ?_
    by_cases e : k = j
    · subst e; rw [List.getElem_set_self]; simp
    · rw [List.getElem_set_ne e]
  have mapz : (ps.set k ⟨ps[k].bx, ps[k].bz, v', l'⟩).map (fun p => Value.pointer (some ⟨p.bz, 0, none⟩)) = ps.map fun p => Value.pointer (some ⟨p.bz, 0, none⟩) := by
    rw [List.map_set]
    refine List.ext_getElem (by simp) fun j h1 h2 => ?_
    by_cases e : k = j
    · subst e; rw [List.getElem_set_self]; simp
    · rw [List.getElem_set_ne e]
  refine ⟨(hbl bw (.inl rfl)).trans h.heap, hf.forest, fun g hg => hf.new g (h.ltb hg) (h.sb g hg), ?_, ?_, fun p hp' => ?_, fun i j hi hj hij g hg hg' => ?_, fun p hp' g hg hb => ?_, h.bx, h.bz, h.xz, h.low, by rw [List.length_set]; exact h.few⟩
  · rw [mapx, List.length_set]
    exact h.ox.keep hf.size fun g _ e => hbl g (.inr (.inl e))
  · rw [mapz, List.length_set]
    exact h.oz.keep hf.size fun g _ e => hbl g (.inr (.inr e))
  · obtain ⟨j, hj, rfl⟩ := List.getElem_of_mem hp'
    rw [List.length_set] at hj
    by_cases e : k = j
    · subst e; rw [List.getElem_set_self]; exact hp
    · rw [List.getElem_set_ne e]
      have ha : ∀ g, ps[j].has g → ¬ (g = ps[k].bx ∨ g = ps[k].bz) := fun g hg hx => h.apart j k hj hk (fun e' => e e'.symm) g hg (hx.elim .inl fun e => .inr (.inl e))
      exact (h.prs _ (List.getElem_mem hj)).framex hf (ha _ (.inl rfl)) (ha _ (.inr (.inl rfl))) fun g hg => ha g (.inr (.inr hg))
  · rw [List.length_set] at hi hj
    by_cases e1 : k = i
    · subst e1
      rw [List.getElem_set_self] at hg
      rw [List.getElem_set_ne hij] at hg'
      rcases hnew g hg with hg | hg
      · exact h.apart k j hi hj hij g hg hg'
      · have := (h.prs _ (List.getElem_mem hj)).lt hg'
        omega
    · rw [List.getElem_set_ne e1] at hg
      by_cases e2 : k = j
      · subst e2
        rw [List.getElem_set_self] at hg'
        rcases hnew g hg' with hg' | hg'
        · exact h.apart i k hi hj hij g hg hg'
        · have := (h.prs _ (List.getElem_mem hi)).lt hg
          omega
      · rw [List.getElem_set_ne e2] at hg'
        exact h.apart i j hi hj hij g hg hg'
  · obtain ⟨j, hj, rfl⟩ := List.getElem_of_mem hp'
    rw [List.length_set] at hj
    by_cases e : k = j
    · subst e
      rw [List.getElem_set_self] at hg
      rcases hnew g hg with hg | hg
      · exact h.base _ hkm g hg hb
      · have := h.ltb hb
        omega
    · rw [List.getElem_set_ne e] at hg
      exact h.base _ (List.getElem_mem hj) g hg hb
theorem WM.behind {B : Nat} {S : Wood} {w w' : World} {bw : Nat} {vx vz : Value} {ps : List Pq} (h : WM B S w bw vx vz ps) (hb : Below w.heap.size w w') : WM B S w' bw vx vz ps :=
  ⟨(hb.block bw h.lt).trans h.heap, (Fr.of_below h.forest hb).forest, h.sb, h.ox.below hb, h.oz.below hb, fun p hp => (h.prs p hp).behind h.forest hb, h.apart, h.base, h.bx, h.bz, h.xz, h.low, h.few⟩
/-- A pair more. -/
theorem WM.more {B : Nat} {S : Wood} {w w1 w2 : World} {bw bx bz : Nat} {vx vz vx' vz' : Value} {ps : List Pq} (h : WM B S w bw vx vz ps) (hfew : ps.length < 5) (hp : Pr B S w bx bz (.slice none 0 0) []) (hfx : ∀ p ∈ ps, ¬ p.has bx ∧ ¬ p.has bz) (hbx : ¬ inBase bw vx vz bx) (hbz : ¬ inBase bw vx vz bz)
    (ho1 : OwnC w1 B 1 vx' (ps.length + 1) ((ps.map fun p => Value.pointer (some ⟨p.bx, 0, none⟩)) ++ [.pointer (some ⟨bx, 0, none⟩)])) (hg1 : ∀ k, k < w.heap.size → vx.ownBlock ≠ some k → k ≠ bw → w1.heap[k]? = w.heap[k]?) (hn1 : ∀ g, vx'.ownBlock = some g → vx.ownBlock = some g ∨ w.heap.size ≤ g) (hs1 : w.heap.size ≤ w1.heap.size)
    (ho2 : OwnC w2 B 1 vz' (ps.length + 1) ((ps.map fun p => Value.pointer (some ⟨p.bz, 0, none⟩)) ++ [.pointer (some ⟨bz, 0, none⟩)])) (hg2 : ∀ k, k < w1.heap.size → vz.ownBlock ≠ some k → k ≠ bw → w2.heap[k]? = w1.heap[k]?) (hn2 : ∀ g, vz'.ownBlock = some g → vz.ownBlock = some g ∨ w1.heap.size ≤ g) (hs2 : w1.heap.size ≤ w2.heap.size) (hh : w2.heap[bw]? = some (.cells #[.slice none 0 0, vx', vz', .slice none 0 0, .slice none 0 0, .int .i64 0] 99 (0, 0))) (hos : w2.os = w.os) (hta : w2.tape = w.tape) (hou : w2.output = w.output) :
    WM B S w2 bw vx' vz' (ps ++ [⟨bx, bz, .slice none 0 0, []⟩]) ∧ FrX B (inBase bw vx vz) S S w w2 := by
  have hlow := h.lt
  have hall : ∀ k, k < w.heap.size → ¬ inBase bw vx vz k → w2.heap[k]? = w.heap[k]? := fun k hk hb => by
    have a1 : vx.ownBlock ≠ some k := fun e => hb (.inr (.inl e))
    have a2 : vz.ownBlock ≠ some k := fun e => hb (.inr (.inr e))
    have a3 : k ≠ bw := fun e => hb (.inl e)
    exact (hg2 k (by omega) a2 a3).trans (hg1 k hk a1 a3)
  have hfx' : FrX B (inBase bw vx vz) S S w w2 := ⟨hos, hta, hou, Nat.le_trans hs1 hs2, fun k hk _ hx => hall k hk hx, h.forest.keep (Nat.le_trans hs1 hs2) fun k t hk => hall k (h.forest.lt hk) fun hb => (by rw [h.sb k hb] at hk; cases hk), fun _ _ h => h, fun _ _ h => h⟩
  have hnb : ∀ g, inBase bw vx' vz' g → inBase bw vx vz g ∨ w.heap.size ≤ g := fun g hg => by
    rcases hg with hg | hg | hg
    · exact .inl (.inl hg)
    · exact (hn1 g hg).imp (fun e => .inr (.inl e)) id
    · rcases hn2 g hg with e | e
      · exact .inl (.inr (.inr e))
      · exact .inr (by omega)
  have hpn : ∀ p, p ∈ ps ++ [⟨bx, bz, .slice none 0 0, []⟩] → Pr B S w p.bx p.bz p.v p.l := fun p hp' => by
    rcases List.mem_append.1 hp' with hp' | hp'
    · exact h.prs p hp'
    · rw [List.mem_singleton.1 hp']; exact hp
  have hbn : ∀ p, p ∈ ps ++ [⟨bx, bz, .slice none 0 0, []⟩] → ∀ g, p.has g → ¬ inBase bw vx vz g := fun p hp' g hg => by
    rcases List.mem_append.1 hp' with hp' | hp'
    · exact h.base p hp' g hg
    · rw [List.mem_singleton.1 hp'] at hg
      rcases hg with hg | hg | hg
      · rw [hg]; exact hbx
      · rw [hg]; exact hbz
      · simp [Value.ownBlock] at hg
  refine ⟨⟨hh, hfx'.forest, fun g hg => ?_, ?_, ?_, fun p hp' => ?_, ?_, fun p hp' g hg hb => ?_, ?_, ?_, ?_, h.low, by rw [List.length_append]; simp; omega⟩, hfx'⟩
  · rcases hnb g hg with e | e
    · exact h.sb g e
    · exact h.forest.fresh e
  · rw [List.length_append, List.map_append]
    have : ∀ k, vx'.ownBlock = some k → k ≠ bw ∧ vz.ownBlock ≠ some k := fun k hk => by
      rcases hn1 k hk with e | e
      · exact ⟨fun e' => h.bx (e' ▸ e), h.xz k e⟩
      · exact ⟨by omega, fun e' => by have := (h.oz.block k e').2; omega⟩
    exact ho1.keep hs2 fun k hk e => hg2 k hk (this k e).2 (this k e).1
  · rw [List.length_append, List.map_append]
    exact ho2
  · refine (hpn p hp').framex hfx' ?_ ?_ fun g hg => ?_
    · exact hbn p hp' _ (.inl rfl)
    · exact hbn p hp' _ (.inr (.inl rfl))
    · exact hbn p hp' _ (.inr (.inr hg))
  · have hq : ∀ p ∈ ps, ∀ g, p.has g → ¬ (Pq.mk bx bz (.slice none 0 0) []).has g := fun p hp' g hg hg' => by
      rcases hg' with e | e | e
      · subst e; exact (hfx p hp').1 hg
      · subst e; exact (hfx p hp').2 hg
      · simp [Value.ownBlock] at e
    intro i j hi hj hij g hg hg'
    rw [List.length_append, List.length_singleton] at hi hj
    by_cases e1 : i < ps.length
    · rw [List.getElem_append_left e1] at hg
      by_cases e2 : j < ps.length
      · rw [List.getElem_append_left e2] at hg'
        exact h.apart i j e1 e2 hij g hg hg'
      · rw [List.getElem_append_right (by omega)] at hg'
        simp only [List.getElem_singleton] at hg'
        exact hq _ (List.getElem_mem e1) g hg hg'
    · rw [List.getElem_append_right (by omega)] at hg
      simp only [List.getElem_singleton] at hg
      have e2 : j < ps.length := by omega
      rw [List.getElem_append_left e2] at hg'
      exact hq _ (List.getElem_mem e2) g hg' hg
  · rcases hnb g hb with e | e
    · exact hbn p hp' g hg e
    · have := (hpn p hp').lt hg
      omega
  · intro e
    rcases hn1 bw e with e | e
    · exact h.bx e
    · omega
  · intro e
    rcases hn2 bw e with e | e
    · exact h.bz e
    · omega
  · intro g hg e
    rcases hn2 g e with e | e
    · rcases hn1 g hg with e' | e'
      · exact h.xz g e' e
      · have := (h.oz.block g e).2; omega
    · have := (ho1.block g hg).2
      omega
end Go.Proofs.YtjiikjpnlgogfaaGreatDoor

namespace Go.Proofs.YtjiikjpnlgogfaaGreatDoor
open Go.RowKit

theorem ptrX : (Tryz.prog.info? 32).map (fun i => (i.zero, i.size, i.bytes)) = some (some (.pointer none), 1, 8) := by kernel_rfl
theorem ptrZ : (Tryz.prog.info? 134).map (fun i => (i.zero, i.size, i.bytes)) = some (some (.pointer none), 1, 8) := by kernel_rfl
abbrev wCells (vx vz : Value) : List Value := [.slice none 0 0, vx, vz, .slice none 0 0, .slice none 0 0, .int .i64 0]
theorem WM.cells {B : Nat} {S : Wood} {w : World} {bw : Nat} {vx vz : Value} {ps : List Pq} (h : WM B S w bw vx vz ps) : (w.cell? ⟨bw, 1, none⟩ = some vx ∧ w.cell? ⟨bw, 2, none⟩ = some vz) ∧ w.frozen? ⟨bw, 1, none⟩ = false ∧ w.frozen? ⟨bw, 2, none⟩ = false :=
  ⟨⟨cell_of_row w _ 1 _ _ (0, 0) h.heap, cell_of_row w _ 2 _ _ (0, 0) h.heap⟩, frozen_of_row w _ 1 _ _ h.heap, frozen_of_row w _ 2 _ _ h.heap⟩

theorem grow_set {w w2 : World} {B bw i N : Nat} {v v2 : Value} {o : Obj} {cs : List Value} (hg : (w.alloc o).grownBy w2 v.ownBlock) (hO : OwnC w2 B 1 v2 N cs) (hf : ∀ k, v2.ownBlock = some k → v.ownBlock = some k ∨ w.heap.size + 1 ≤ k) (hbw : bw < w.heap.size) (hne : v.ownBlock ≠ some bw) :
    OwnC (w2.setCell ⟨bw, i, none⟩ v2) B 1 v2 N cs ∧ (∀ k, k < w.heap.size → v.ownBlock ≠ some k → k ≠ bw → (w2.setCell ⟨bw, i, none⟩ v2).heap[k]? = w.heap[k]?) ∧ (∀ g, v2.ownBlock = some g → v.ownBlock = some g ∨ w.heap.size ≤ g) ∧ w.heap.size ≤ (w2.setCell ⟨bw, i, none⟩ v2).heap.size ∧ w2.heap[bw]? = w.heap[bw]? ∧ (w2.setCell ⟨bw, i, none⟩ v2).os = w.os ∧ (w2.setCell ⟨bw, i, none⟩ v2).tape = w.tape ∧ (w2.setCell ⟨bw, i, none⟩ v2).output = w.output := by
  have hs : (w.alloc o).heap.size = w.heap.size + 1 := by simp
  have hs2 := hg.size
  have hn : ∀ g, v2.ownBlock = some g → v.ownBlock = some g ∨ w.heap.size ≤ g := fun g e => (hf g e).imp id fun h => by omega
  have hss : (w2.setCell ⟨bw, i, none⟩ v2).heap.size = w2.heap.size := by simp
  have hold : ∀ k, k < w.heap.size → v.ownBlock ≠ some k → w2.heap[k]? = w.heap[k]? := fun k hk e => (hg.block k (by omega) fun e' => e e'.symm).trans (Below.heap_alloc _ _ _ hk)
  refine ⟨hO.keep (Nat.le_of_eq hss.symm) fun k _ e => Below.heap_setCell _ _ _ _ fun e' => ?_, fun k hk e hkb => (Below.heap_setCell _ _ _ _ hkb).trans (hold k hk e), hn, by omega, hold bw hbw hne, hg.os, hg.tape, hg.output⟩
  have e'' : k = bw := e'
  subst e''
  rcases hn k e with h | h
  · exact hne h
  · omega

set_option maxRecDepth 100000 in
set_option maxHeartbeats 1600000 in
theorem joins_any {B : Nat} {S : Wood} {w : World} {bw bx bz : Nat} {vx vz : Value} {ps : List Pq} (h : WM B S w bw vx vz ps) (hp : Pr B S w bx bz (.slice none 0 0) []) (hfx : ∀ p ∈ ps, ¬ p.has bx ∧ ¬ p.has bz) (hbx : ¬ inBase bw vx vz bx) (hbz : ¬ inBase bw vx vz bz) :
    Calls Tryz.prog 65 #[.pointer (some ⟨bw, 0, none⟩), .pointer (some ⟨bx, 0, none⟩), .pointer (some ⟨bz, 0, none⟩)] w fun e w' => e = .returned (.bool true) ∧ ∃ vx' vz' ps', WM B S w' bw vx' vz' ps' ∧ FrX B (inBase bw vx vz) S S w w' ∧ ∀ p ∈ ps', p ∈ ps ∨ p.l = [] := by
  obtain ⟨p1, m1, c1, rfl⟩ := h.ox.shape
  obtain ⟨p2, m2, c2, rfl⟩ := h.oz.shape
  have hm1 : m1 = ps.length := by
    rcases h.ox.2 with ⟨e1, e2⟩ | ⟨g, cap, e1, _⟩
    · simp only [Value.slice.injEq] at e1; omega
    · simp only [Value.slice.injEq] at e1; exact e1.2.1
  have hm2 : m2 = ps.length := by
    rcases h.oz.2 with ⟨e1, e2⟩ | ⟨g, cap, e1, _⟩
    · simp only [Value.slice.injEq] at e1; omega
    · simp only [Value.slice.injEq] at e1; exact e1.2.1
  obtain ⟨⟨d1, d2⟩, f1, f2⟩ := h.cells
  by_cases hfew : ps.length < 5
  · have i1 : (m1 : Int) < 5 := by omega
    obtain ⟨i0, hi, hz0, hz1, hz2⟩ := info_parts ptrX
    obtain ⟨j0, hj, hy0, hy1, hy2⟩ := info_parts ptrZ
    have HH := Hid.hide h
    have HPr : Hid (Pr B S w bx bz (.slice none 0 0) [] ∧ (∀ p ∈ ps, ¬ p.has bx ∧ ¬ p.has bz) ∧ ¬ inBase bw (.slice p1 m1 c1) (.slice p2 m2 c2) bx ∧ ¬ inBase bw (.slice p1 m1 c1) (.slice p2 m2 c2) bz ∧ ps.length < 5) := ⟨hp, hfx, hbx, hbz, hfew⟩
    have HO : Hid (∀ o, OwnC (w.alloc o) B 1 (.slice p1 m1 c1) ps.length (ps.map fun p => Value.pointer (some ⟨p.bx, 0, none⟩))) := fun o => h.ox.alloc o
    have HKy : Hid (∀ t, (w.alloc (.cells #[.pointer (some ⟨bx, 0, none⟩)] t)).rangeAt w.heap.size 0 [.pointer (some ⟨bx, 0, none⟩)]) := fun t => rangeAt_new w [.pointer (some ⟨bx, 0, none⟩)] t
    have HB : Hid (B ≤ w.heap.size) := h.forest.le
    clear h hp hfx hbx hbz hfew hm1 hm2
    go_enter Tryz.func65, Tryz.ntmps65
    go_upto_region 5 with (at_builtin; refine wpList_append_ownp _ rfl _ _ 92 rfl 32 i0 (.pointer none) 1 8 Tryz.underlying92 hi hz0 hz1 hz2 rfl (by decide) B (.slice p1 m1 c1) _ _ rfl (HO.out _) w.heap.size 0 1 1 [.pointer (some ⟨bx, 0, none⟩)] rfl rfl (HKy.out _) (by simp [Value.oneCell']) (by have := HPr.out.2.2.2.2; unfold maxLen; omega) (by have := HPr.out.2.2.2.2; omega) (by have := HB.out; simp; omega) ?_)
    intro v2 w2 hO2 hg2 hf2 hp2
    obtain ⟨g1, g2, g3, g4, g5, g6, g7, g8⟩ := grow_set (i := 1) hg2 hO2 hf2 HH.out.lt HH.out.bx
    have hh3 : (w2.setCell ⟨bw, 1, none⟩ v2).heap[bw]? = some (.cells #[.slice none 0 0, v2, .slice p2 m2 c2, .slice none 0 0, .slice none 0 0, .int .i64 0] 99 (0, 0)) := heap_setCell_list (cs := wCells (.slice p1 m1 c1) (.slice p2 m2 c2)) (g5.trans HH.out.heap) 1 v2
    have e1 := (World.cell?_of_block (a := ⟨bw, 1, none⟩) g5).trans d1
    have e2 := (World.frozen?_of_block (a := ⟨bw, 1, none⟩) g5).trans f1
    have hO3 : ∀ o, OwnC ((w2.setCell ⟨bw, 1, none⟩ v2).alloc o) B 1 (.slice p2 m2 c2) ps.length (ps.map fun p => Value.pointer (some ⟨p.bz, 0, none⟩)) := fun o => (HH.out.oz.keep g4 fun k hk e => g2 k hk (fun e' => HH.out.xz k e' e) fun e' => HH.out.bz (e' ▸ e)).alloc o
    obtain ⟨q1, n1, k1, rfl⟩ := hO2.shape
    clear hO2 hg2 hf2 hp2 HO HKy
    go_upto_region 5 with fail
    obtain ⟨W3, hW3⟩ : ∃ W3, w2.setCell ⟨bw, 1, none⟩ (.slice q1 n1 k1) = W3 := ⟨_, rfl⟩
    rw [hW3] at g1 g2 g4 g6 g7 g8 hh3 hO3 ⊢
    have H3 : Hid (OwnC W3 B 1 (.slice q1 n1 k1) (ps.length + 1) ((ps.map fun p => Value.pointer (some ⟨p.bx, 0, none⟩)) ++ [.pointer (some ⟨bx, 0, none⟩)]) ∧ (∀ k, k < w.heap.size → Value.ownBlock (.slice p1 m1 c1) ≠ some k → k ≠ bw → W3.heap[k]? = w.heap[k]?) ∧ (∀ g, Value.ownBlock (.slice q1 n1 k1) = some g → Value.ownBlock (.slice p1 m1 c1) = some g ∨ w.heap.size ≤ g) ∧ w.heap.size ≤ W3.heap.size ∧ W3.os = w.os ∧ W3.tape = w.tape ∧ W3.output = w.output ∧ W3.heap[bw]? = some (.cells #[.slice none 0 0, .slice q1 n1 k1, .slice p2 m2 c2, .slice none 0 0, .slice none 0 0, .int .i64 0] 99 (0, 0))) := ⟨g1, g2, g3, g4, g6, g7, g8, hh3⟩
    have d2' := cell_of_row W3 _ 2 _ _ (0, 0) hh3
    have f2' := frozen_of_row W3 _ 2 _ _ hh3
    have HO : Hid (∀ o, OwnC (W3.alloc o) B 1 (.slice p2 m2 c2) ps.length (ps.map fun p => Value.pointer (some ⟨p.bz, 0, none⟩))) := hO3
    have HKy : Hid (∀ t, (W3.alloc (.cells #[.pointer (some ⟨bz, 0, none⟩)] t)).rangeAt W3.heap.size 0 [.pointer (some ⟨bz, 0, none⟩)]) := fun t => rangeAt_new W3 [.pointer (some ⟨bz, 0, none⟩)] t
    clear g1 g2 g3 g4 g5 g6 g7 g8 hh3 hO3 hW3 e1 e2 d1 d2 f1 f2
    go_upto_region 6 with (at_builtin; refine wpList_append_ownp _ rfl _ _ 93 rfl 134 j0 (.pointer none) 1 8 Tryz.underlying93 hj hy0 hy1 hy2 rfl (by decide) B (.slice p2 m2 c2) _ _ rfl (HO.out _) W3.heap.size 0 1 1 [.pointer (some ⟨bz, 0, none⟩)] rfl rfl (HKy.out _) (by simp [Value.oneCell']) (by have := HPr.out.2.2.2.2; unfold maxLen; omega) (by have := HPr.out.2.2.2.2; omega) (by have := HB.out; have := H3.out.2.2.2.1; simp; omega) ?_)
    intro v4 w4 hO4 hg4 hf4 hp4
    obtain ⟨g1, g2, g3, g4, g5, g6, g7, g8⟩ := grow_set (i := 2) hg4 hO4 hf4 (by have := HH.out.lt; have := H3.out.2.2.2.1; omega) HH.out.bz
    have hh5 : (w4.setCell ⟨bw, 2, none⟩ v4).heap[bw]? = some (.cells #[.slice none 0 0, .slice q1 n1 k1, v4, .slice none 0 0, .slice none 0 0, .int .i64 0] 99 (0, 0)) := heap_setCell_list (cs := wCells (.slice q1 n1 k1) (.slice p2 m2 c2)) (g5.trans H3.out.2.2.2.2.2.2.2) 2 v4
    have e1 := (World.cell?_of_block (a := ⟨bw, 2, none⟩) g5).trans d2'
    have e2 := (World.frozen?_of_block (a := ⟨bw, 2, none⟩) g5).trans f2'
    have hfin := HH.out.more HPr.out.2.2.2.2 HPr.out.1 HPr.out.2.1 HPr.out.2.2.1 HPr.out.2.2.2.1 H3.out.1 H3.out.2.1 H3.out.2.2.1 H3.out.2.2.2.1 g1 g2 g3 g4 hh5 (g6.trans H3.out.2.2.2.2.1) (g7.trans H3.out.2.2.2.2.2.1) (g8.trans H3.out.2.2.2.2.2.2.1)
    have HE := Hid.hide hfin
    obtain ⟨q2, n2, k2, rfl⟩ := hO4.shape
    clear hO4 hg4 hf4 hp4 g1 g2 g3 g4 g5 g6 g7 g8 hh5 hfin d2' f2' HO HKy
    go_wp2
    go_ret
    exact ⟨rfl, _, _, _, HE.out.1, HE.out.2, fun p hp => (List.mem_append.1 hp).imp id fun h => by rw [List.mem_singleton.1 h]⟩
  · have i1 : ¬ (m1 : Int) < 5 := by omega
    have HE : Hid (WM B S w bw (.slice p1 m1 c1) (.slice p2 m2 c2) ps ∧ FrX B (inBase bw (.slice p1 m1 c1) (.slice p2 m2 c2)) S S w w) := ⟨h, (Fr.refl h.forest).x _⟩
    clear h hp hfx hbx hbz hfew hm1 hm2 f1 f2
    go_enter Tryz.func65, Tryz.ntmps65
    go_wp2
    go_ret
    exact ⟨rfl, _, _, ps, HE.out.1, HE.out.2, fun p hp => .inl hp⟩
end Go.Proofs.YtjiikjpnlgogfaaGreatDoor

namespace Go.Proofs.YtjiikjpnlgogfaaGreatDoor
open Go.RowKit

theorem tpick_val (c : Int) (h1 : -9223372036854775808 ≤ c) (h2 : c < 9223372036854775808) (h0 : c < 0) : wrap64 (-wrap64 (c + 1)) = -(c + 1) := by
  unfold wrap64
  omega
theorem tpick_mod (c : Int) (n : Nat) (h : 0 ≤ c) (hn : 0 < n) : ∃ k : Nat, k < n ∧ c.tmod (n : Int) = (k : Int) := by
  refine ⟨(c % (n : Int)).toNat, ?_, ?_⟩
  · have := Int.emod_lt_of_pos c (show (0 : Int) < n by omega)
    have := Int.emod_nonneg c (show (n : Int) ≠ 0 by omega)
    omega
  · rw [Int.tmod_eq_emod_of_nonneg h]
    have := Int.emod_nonneg c (show (n : Int) ≠ 0 by omega)
    omega

set_option maxHeartbeats 800000 in
theorem tpick_any (c : Int) (n : Nat) (w : World) (h1 : -9223372036854775808 ≤ c) (h2 : c < 9223372036854775808) (hn : 0 < n) :
    Calls Tryz.prog 69 #[.int .i64 c, .int .i64 (n : Int)] w fun e w' => (∃ k : Nat, k < n ∧ e = .returned (.int .i64 (k : Int))) ∧ w' = w := by
  have hn0 : ¬ n = 0 := by omega
  by_cases h0 : c < 0
  · have e := tpick_val c h1 h2 h0
    obtain ⟨k, hk, ek⟩ := tpick_mod (-(c + 1)) n (by omega) hn
    have HK : Hid (k < n) := hk
    clear h1 h2 hn hk
    go_enter Tryz.func69, Tryz.ntmps69
    go_wp2
    go_ret
    exact ⟨⟨k, HK.out, rfl⟩, rfl⟩
  · obtain ⟨k, hk, ek⟩ := tpick_mod c n (by omega) hn
    have HK : Hid (k < n) := hk
    have h0' : (0 : Int) ≤ c := by omega
    clear h1 h2 hn hk h0
    go_enter Tryz.func69, Tryz.ntmps69
    go_wp2
    go_ret
    exact ⟨⟨k, HK.out, rfl⟩, rfl⟩


/-- What a step gives. -/
def StepSaid (B : Nat) (bw N : Nat) (w : World) (e : Ending) (w' : World) : Prop :=
  e = .returned (.bool true) ∧ Below B w w' ∧ ∃ S' vx' vz' ps', WM B S' w' bw vx' vz' ps' ∧ ∀ p ∈ ps', p.l.length ≤ N + 1
theorem WM.basele {B : Nat} {S : Wood} {w : World} {bw : Nat} {vx vz : Value} {ps : List Pq} (h : WM B S w bw vx vz ps) {g : Nat} (hg : inBase bw vx vz g) : B ≤ g := by
  rcases hg with rfl | hg | hg
  · exact h.low
  · exact (h.ox.block g hg).1
  · exact (h.oz.block g hg).1
theorem opSize' : (Tryz.prog.info? 102).map (·.size) = some 160 := by kernel_rfl
/-- A tree that is new, on both sides. -/
theorem Pr.fresh {B : Nat} {S : Wood} {w w1 : World} {bx : Nat} (hf : Forest B S w1) (ht : TreeAt S w1 bx .no) (hb : Below w.heap.size w w1) (hB : B ≤ w.heap.size) (hbx : w.heap.size ≤ bx) : Pr B S (w1.alloc (.cells #[.slice none 0 0] 137)) bx w1.heap.size (.slice none 0 0) [] := by
  have hba : Below w1.heap.size w1 (w1.alloc (.cells #[.slice none 0 0] 137)) := (Below.refl _ _).alloc (Nat.le_refl _) _
  have hlt := ht.lt
  have hs := hb.size
  refine ⟨⟨.no, ht.frame (Fr.of_below hf hba), trivial, fun s _ => rfl⟩, ⟨Array.getElem?_push_size, Eds.nil _ _⟩, hf.fresh (Nat.le_refl _), fun g hg => ?_, ⟨fun y hy => (by cases hy), fun y hy => (by cases hy), by simp⟩, fun y hy => (by cases hy), by omega, fun g hg => ?_, ⟨by omega, by omega⟩⟩
  · simp [Value.ownBlock] at hg
  · simp [Value.ownBlock] at hg

set_option maxRecDepth 100000 in
set_option maxHeartbeats 1600000 in
theorem step_new {B : Nat} {S : Wood} {w : World} {bw N : Nat} {vx vz : Value} {ps : List Pq} {Cs : Array Value} (h : WM B S w bw vx vz ps) (hN : ∀ p ∈ ps, p.l.length ≤ N) (hk : Cs[0]? = some (.int .i64 11)) :
    Calls Tryz.prog 43 #[.pointer (some ⟨bw, 0, none⟩), .agg Cs] w (StepSaid B bw N w) := by
  obtain ⟨W0, hW0⟩ : ∃ W0, w.alloc (.cells Cs 102) = W0 := ⟨_, rfl⟩
  have hb0 : Below w.heap.size w W0 := by rw [← hW0]; exact (Below.refl _ _).alloc (Nat.le_refl _) _
  have k0 : W0.cell? ⟨w.heap.size, 0, none⟩ = some (.int .i64 11) := by rw [← hW0, World.cell?_alloc_new]; exact hk
  have h0 := h.behind hb0
  have HNw := Hid.hide (newt_any h0.forest)
  have H0 : Hid (WM B S w bw vx vz ps ∧ WM B S W0 bw vx vz ps ∧ Below w.heap.size w W0 ∧ ∀ p ∈ ps, p.l.length ≤ N) := ⟨h, h0, hb0, hN⟩
  clear h hN hk h0 hb0
  go_enter Tryz.func43, Tryz.ntmps43
  go_wp2_with fail
  refine HNw.out.mono ?_
  rintro e w1 ⟨rfl, ht1, hf1, hw1⟩
  have hb1 : Below W0.heap.size W0 w1 := by rw [hw1]; exact (Below.refl _ _).alloc (Nat.le_refl _) _
  have H1 : Hid (TreeAt S w1 W0.heap.size .no ∧ Below W0.heap.size W0 w1 ∧ Forest B S w1) := ⟨ht1, hb1, hf1.forest⟩
  clear ht1 hf1 hw1 hb1 hW0 k0
  go_wp2_with fail
  have hb01 : Below w.heap.size w w1 := H0.out.2.2.1.trans (H1.out.2.1.mono H0.out.2.2.1.size)
  have hba : Below w1.heap.size w1 (w1.alloc (.cells #[.slice none 0 0] 137)) := (Below.refl _ _).alloc (Nat.le_refl _) _
  have hb2 : Below w.heap.size w (w1.alloc (.cells #[.slice none 0 0] 137)) := hb01.trans (hba.mono hb01.size)
  have hs1 := H0.out.2.2.1.size
  have hs2 := hb01.size
  have hfresh : ∀ g, w.heap.size ≤ g → (∀ p ∈ ps, ¬ p.has g) ∧ ¬ inBase bw vx vz g := fun g hg => ⟨fun p hp hh => by have := (H0.out.1.prs p hp).lt hh; omega, fun hh => by have := H0.out.1.ltb hh; omega⟩
  have hpr := Pr.fresh H1.out.2.2 H1.out.1 hb01 H0.out.1.forest.le hs1
  refine (joins_any (H0.out.1.behind hb2) hpr (fun p hp => ⟨(hfresh _ hs1).1 p hp, (hfresh _ hs2).1 p hp⟩) (hfresh _ hs1).2 (hfresh _ hs2).2).mono ?_
  rintro e w3 ⟨rfl, vx', vz', ps', hw3, hf3, hps⟩
  have HE : Hid (StepSaid B bw N w (.returned (.bool true)) w3) := ⟨rfl, (hb2.mono H0.out.1.forest.le).trans (hf3.below (H0.out.1.behind hb2).forest fun k hk => H0.out.1.basele hk), S, vx', vz', ps', hw3, fun p hp => (hps p hp).elim (fun h => by have := H0.out.2.2.2 p h; omega) fun h => by rw [h]; simp⟩
  clear hw3 hf3 hps hpr hfresh hb2 hba hb01
  go_wp2
  go_ret
  exact HE.out

set_option maxRecDepth 100000 in
set_option maxHeartbeats 1600000 in
theorem step_none {B : Nat} {S : Wood} {w : World} {bw N : Nat} {vx vz : Value} {Cs : Array Value} {kd : Int} (h : WM B S w bw vx vz []) (hk : Cs[0]? = some (.int .i64 kd)) (h1 : 12 ≤ kd) (h2 : kd ≤ 15) :
    Calls Tryz.prog 43 #[.pointer (some ⟨bw, 0, none⟩), .agg Cs] w (StepSaid B bw N w) := by
  obtain ⟨W0, hW0⟩ : ∃ W0, w.alloc (.cells Cs 102) = W0 := ⟨_, rfl⟩
  have hb0 : Below w.heap.size w W0 := by rw [← hW0]; exact (Below.refl _ _).alloc (Nat.le_refl _) _
  have k0 : W0.cell? ⟨w.heap.size, 0, none⟩ = some (.int .i64 kd) := by rw [← hW0, World.cell?_alloc_new]; exact hk
  have h0 := h.behind hb0
  have c1 := h0.cells.1.1
  obtain ⟨p1, m1, c1', rfl⟩ := h0.ox.shape
  have hm1 : m1 = 0 := by
    rcases h0.ox.2 with ⟨e1, e2⟩ | ⟨g, cap, e1, _⟩
    · simp only [Value.slice.injEq] at e1; omega
    · simp only [Value.slice.injEq] at e1; exact e1.2.1
  subst hm1
  have i1 : ¬ kd < 1 := by omega
  have i2 : ¬ 24 < kd := by omega
  have i3 : ¬ kd ≤ 4 := by omega
  have i4 : ¬ kd ≤ 10 := by omega
  have n11 : (kd == 11) = false := by rw [beq_eq_false_iff_ne]; omega
  have n18 : (kd == 18) = false := by rw [beq_eq_false_iff_ne]; omega
  have n20 : (kd == 20) = false := by rw [beq_eq_false_iff_ne]; omega
  have n23 : (kd == 23) = false := by rw [beq_eq_false_iff_ne]; omega
  have HE : Hid (StepSaid B bw N w (.returned (.bool true)) W0) := ⟨rfl, hb0.mono h.forest.le, S, _, _, [], h0, fun p hp => by cases hp⟩
  clear h hk h1 h2 h0 hb0
  go_enter Tryz.func43, Tryz.ntmps43
  go_wp2
  go_ret
  exact HE.out
end Go.Proofs.YtjiikjpnlgogfaaGreatDoor

namespace Go.Proofs.YtjiikjpnlgogfaaGreatDoor
open Go.RowKit

set_option maxRecDepth 100000 in
set_option maxHeartbeats 1600000 in
theorem step_maps {B : Nat} {S : Wood} {w : World} {bw N : Nat} {vx vz : Value} {ps : List Pq} {Cs : Array Value} {kd a : Int} (h : WM B S w bw vx vz ps) (hN : ∀ p ∈ ps, p.l.length ≤ N) (hs : Cs.size = 160) (hk : Cs[0]? = some (.int .i64 kd)) (ha : Cs[1]? = some (.int .i64 a)) (h1 : 12 ≤ kd) (h2 : kd ≤ 15) (a1 : -9223372036854775808 ≤ a) (a2 : a < 9223372036854775808) (h0 : 0 < ps.length)
    (hmaps : ∀ W p, p ∈ ps → Below w.heap.size w W → Pr B S W p.bx p.bz p.v p.l → Forest B S W → Calls Tryz.prog 70 #[.agg Cs, .pointer (some ⟨p.bx, 0, none⟩), .pointer (some ⟨p.bz, 0, none⟩)] W (MapsSaid B S W p.bx p.bz p.v p.l)) :
    Calls Tryz.prog 43 #[.pointer (some ⟨bw, 0, none⟩), .agg Cs] w (StepSaid B bw N w) := by
  obtain ⟨W0, hW0⟩ : ∃ W0, w.alloc (.cells Cs 102) = W0 := ⟨_, rfl⟩
  have hb0 : Below w.heap.size w W0 := by rw [← hW0]; exact (Below.refl _ _).alloc (Nat.le_refl _) _
  have k0 : W0.cell? ⟨w.heap.size, 0, none⟩ = some (.int .i64 kd) := by rw [← hW0, World.cell?_alloc_new]; exact hk
  have k1 : W0.cell? ⟨w.heap.size, 1, none⟩ = some (.int .i64 a) := by rw [← hW0, World.cell?_alloc_new]; exact ha
  have hrow : W0.rangeAt w.heap.size 0 Cs.toList := fun j u hu => by
    rw [← hW0, Nat.zero_add, World.cell?_alloc_new]
    simpa using hu
  have zO : (Tryz.prog.info? 102).map (·.size) = some Cs.toList.length := by rw [opSize']; simp [hs]
  have hw0 := h.behind hb0
  have c1 := hw0.cells.1.1
  have c2 := hw0.cells.1.2
  obtain ⟨gx, capx, hvx, -, -, -, -, -, hrx⟩ := hw0.ox.full h0
  obtain ⟨gz, capz, hvz, -, -, -, -, -, hrz⟩ := hw0.oz.full h0
  subst hvx
  subst hvz
  have i1 : ¬ kd < 1 := by omega
  have i2 : ¬ 24 < kd := by omega
  have i3 : ¬ kd ≤ 4 := by omega
  have i4 : ¬ kd ≤ 10 := by omega
  have i5 : kd ≤ 15 := h2
  have n11 : (kd == 11) = false := by rw [beq_eq_false_iff_ne]; omega
  have n18 : (kd == 18) = false := by rw [beq_eq_false_iff_ne]; omega
  have n20 : (kd == 20) = false := by rw [beq_eq_false_iff_ne]; omega
  have n23 : (kd == 23) = false := by rw [beq_eq_false_iff_ne]; omega
  have n0 : (((ps.length : Nat) : Int) == 0) = false := by rw [beq_eq_false_iff_ne]; omega
  have HPk := Hid.hide (fun W => tpick_any a ps.length W a1 a2 h0)
  have H0 : Hid (WM B S w bw (.slice (some ⟨gx, 0, none⟩) ps.length capx) (.slice (some ⟨gz, 0, none⟩) ps.length capz) ps ∧ Below w.heap.size w W0 ∧ (∀ p ∈ ps, p.l.length ≤ N) ∧ W0.rangeAt gx 0 (ps.map fun p => Value.pointer (some ⟨p.bx, 0, none⟩)) ∧ W0.rangeAt gz 0 (ps.map fun p => Value.pointer (some ⟨p.bz, 0, none⟩))) := ⟨h, hb0, hN, hrx, hrz⟩
  have HM := Hid.hide hmaps
  clear h hN hs hk ha h1 h2 a1 a2 h0 hmaps hb0 hw0 hrx hrz
  go_enter Tryz.func43, Tryz.ntmps43
  go_upto_region 17 with fail
  go_region_held3 (fun w' => w'.cell? ⟨w.heap.size, 1, none⟩ = some (.int .i64 a) ∧ w'.cell? ⟨bw, 1, none⟩ = some (.slice (some ⟨gx, 0, none⟩) ps.length capx)) (first | exact ⟨k1, c1⟩ | exact q1)
    (first | (go_at_call 69; refine (HPk.out _).mono ?_; rintro e w1 ⟨⟨k, hkk, rfl⟩, hw1⟩; have q1 : w1.cell? ⟨w.heap.size, 1, none⟩ = some (.int .i64 a) ∧ w1.cell? ⟨bw, 1, none⟩ = some (.slice (some ⟨gx, 0, none⟩) ps.length capx) := by (rw [hw1]; exact ⟨k1, c1⟩)))
  have hx : W0.cell? ⟨gx, k, none⟩ = some (.pointer (some ⟨(ps[k]'hkk).bx, 0, none⟩)) := by
    have := H0.out.2.2.2.1 k _ (by rw [List.getElem?_map, List.getElem?_eq_getElem hkk]; rfl)
    rwa [Nat.zero_add] at this
  have hz : W0.cell? ⟨gz, k, none⟩ = some (.pointer (some ⟨(ps[k]'hkk).bz, 0, none⟩)) := by
    have := H0.out.2.2.2.2 k _ (by rw [List.getElem?_map, List.getElem?_eq_getElem hkk]; rfl)
    rwa [Nat.zero_add] at this
  have hbd : Below w.heap.size w W0.drew := H0.out.2.1.drew
  obtain ⟨W1, hW1⟩ : ∃ W1, W0.drew = W1 := ⟨_, rfl⟩
  have hk0 : W1.cell? ⟨w.heap.size, 0, none⟩ = some (.int .i64 kd) := by rw [← hW1]; exact k0
  have hc1 : W1.cell? ⟨bw, 1, none⟩ = some (.slice (some ⟨gx, 0, none⟩) ps.length capx) := by rw [← hW1]; exact c1
  have hc2 : W1.cell? ⟨bw, 2, none⟩ = some (.slice (some ⟨gz, 0, none⟩) ps.length capz) := by rw [← hW1]; exact c2
  have hx1 : W1.cell? ⟨gx, k, none⟩ = some (.pointer (some ⟨(ps[k]'hkk).bx, 0, none⟩)) := by rw [← hW1]; exact hx
  have hz1 : W1.cell? ⟨gz, k, none⟩ = some (.pointer (some ⟨(ps[k]'hkk).bz, 0, none⟩)) := by rw [← hW1]; exact hz
  have hrow1 : W1.rangeAt w.heap.size 0 Cs.toList := by rw [← hW1]; exact hrow
  rw [hW1] at hbd ⊢
  have hwm := H0.out.1.behind hbd
  have hpm := List.getElem_mem hkk
  have HMk := Hid.hide (HM.out W1 ps[k] hpm hbd (hwm.prs _ hpm) hwm.forest)
  have H1 : Hid (WM B S W1 bw (.slice (some ⟨gx, 0, none⟩) ps.length capx) (.slice (some ⟨gz, 0, none⟩) ps.length capz) ps ∧ Below w.heap.size w W1 ∧ k < ps.length) := ⟨hwm, hbd, hkk⟩
  have hki : (k : Int) < (ps.length : Int) := by omega
  obtain ⟨bx, ebx⟩ : ∃ bx, (ps[k]'hkk).bx = bx := ⟨_, rfl⟩
  obtain ⟨bz, ebz⟩ : ∃ bz, (ps[k]'hkk).bz = bz := ⟨_, rfl⟩
  rw [ebx] at hx1 HMk
  rw [ebz] at hz1 HMk
  have HEb : Hid ((ps[k]'hkk).bx = bx ∧ (ps[k]'hkk).bz = bz) := ⟨ebx, ebz⟩
  clear hx hz k0 k1 c1 c2 hrow hW1 hw1 q1 hbd hwm hpm HM ebx ebz hW0
  go_wp2_with (refine wpList_load_mid rfl 102 _ rfl w.heap.size 0 rfl Cs.toList _ hrow1 Tryz.underlying102 rfl zO ?_)
  refine HMk.out.mono ?_
  rintro e w2 ⟨rfl, S2, v2, l2, hp2, hl2, hv2, hf2⟩
  have hfin := H1.out.1.step H1.out.2.2 (v' := v2) (l' := l2) (by rw [HEb.out.1, HEb.out.2]; exact hf2) (by rw [HEb.out.1, HEb.out.2]; exact hp2) hv2
  have hlo := (H1.out.1.prs _ (List.getElem_mem H1.out.2.2)).lo
  have HE : Hid (StepSaid B bw N w (.returned (.bool true)) w2) := by
    refine ⟨rfl, (H1.out.2.1.mono H0.out.1.forest.le).trans (hf2.below H1.out.1.forest fun j hj => ?_), S2, _, _, _, hfin, fun p hp => ?_⟩
    · rw [← HEb.out.1, ← HEb.out.2] at hj
      rcases hj with rfl | rfl
      · exact hlo.1
      · exact hlo.2
    · rcases List.mem_or_eq_of_mem_set hp with hp | rfl
      · have := H0.out.2.2.1 p hp; omega
      · have := H0.out.2.2.1 _ (List.getElem_mem H1.out.2.2)
        show l2.length ≤ N + 1
        omega
  clear hp2 hl2 hv2 hf2 hfin hlo
  go_wp2
  go_ret
  exact HE.out
end Go.Proofs.YtjiikjpnlgogfaaGreatDoor

namespace Go.Proofs.YtjiikjpnlgogfaaGreatDoor
open Go.RowKit

structure MRun (w wr : World) (x : Nat) : Prop where
  below : Below w.heap.size w wr
  wm : ∃ S vx vz ps, WM w.heap.size S wr w.heap.size vx vz ps ∧ ∀ p ∈ ps, p.l.length ≤ x
theorem MRun.start (w : World) : MRun w (w.alloc (.cells #[.slice none 0 0, .slice none 0 0, .slice none 0 0, .slice none 0 0, .slice none 0 0, .int .i64 0] 99)) 0 := by
  have hb : Below w.heap.size w (w.alloc (.cells #[.slice none 0 0, .slice none 0 0, .slice none 0 0, .slice none 0 0, .slice none 0 0, .int .i64 0] 99)) := (Below.refl _ _).alloc (Nat.le_refl _) _
  refine ⟨hb, fun _ => none, _, _, [], ⟨Array.getElem?_push_size, (forest_none w).below hb, fun _ _ => rfl, OwnC.nil _ _ _, OwnC.nil _ _ _, fun p hp => (by cases hp), fun i j hi => (by simp at hi), fun p hp => (by cases hp), by simp [Value.ownBlock], by simp [Value.ownBlock], fun g hg => (by simp [Value.ownBlock] at hg), Nat.le_refl _, by simp⟩, fun p hp => (by cases hp)⟩
theorem MRun.mono {w wr : World} {x y : Nat} (h : MRun w wr x) (hy : x ≤ y) : MRun w wr y := by
  obtain ⟨S, vx, vz, ps, h1, h2⟩ := h.wm
  exact ⟨h.below, S, vx, vz, ps, h1, fun p hp => Nat.le_trans (h2 p hp) hy⟩
theorem MRun.said {w wr w' : World} {x : Nat} {e : Ending} (h : MRun w wr x) (hs : StepSaid w.heap.size w.heap.size x wr e w') : e = .returned (.bool true) ∧ MRun w w' (x + 1) := by
  obtain ⟨h1, h2, S, vx, vz, ps, h3, h4⟩ := hs
  exact ⟨h1, h.below.trans h2, S, vx, vz, ps, h3, h4⟩
theorem mstep_root {w wr : World} {x : Nat} {Cs : Array Value} {a : Int} (h : MRun w wr x) (hT : Tabs w) (hM : 16 ≤ w.heap.size) (hs : Cs.size = 160) (hk : Cs[0]? = some (.int .i64 15)) (ha : Cs[1]? = some (.int .i64 a)) (a1 : -9223372036854775808 ≤ a) (a2 : a < 9223372036854775808) (hx : x ≤ 2097151) :
    Calls Tryz.prog 43 #[.pointer (some ⟨w.heap.size, 0, none⟩), .agg Cs] wr fun e w' => e = .returned (.bool true) ∧ MRun w w' (x + 1) := by
  obtain ⟨S, vx, vz, ps, h1, h2⟩ := h.wm
  by_cases h0 : 0 < ps.length
  · refine (step_maps h1 h2 hs hk ha (by omega) (by omega) a1 a2 h0 fun W p hp hb hpr hf => ?_).mono fun e w' hs => h.said hs
    exact maps_root hpr hf (by have := h2 p hp; omega) (hT.below (h.below.trans (hb.mono h.below.size)) hM) hM hk
  · obtain rfl : ps = [] := List.eq_nil_of_length_eq_zero (by omega)
    exact (step_none h1 hk (by omega) (by omega)).mono fun e w' hs => h.said hs
theorem mstep_any {w wr : World} {x : Nat} {Cs : Array Value} {kd a : Int} {K : Array Nat} {s : ByteArray} (sent : Nat → Addr) (h : MRun w wr x) (hF : Faults w sent) (hT : Tabs w) (hM : 16 ≤ w.heap.size) (ho : OpK Cs kd a K s) (k1 : 11 ≤ kd) (k2 : kd ≤ 15) (a1 : -9223372036854775808 ≤ a) (a2 : a < 9223372036854775808) (hx : x ≤ 2097151) :
    Calls Tryz.prog 43 #[.pointer (some ⟨w.heap.size, 0, none⟩), .agg Cs] wr fun e w' => e = .returned (.bool true) ∧ MRun w w' (x + 1) := by
  by_cases k15 : kd = 15
  · subst k15
    exact mstep_root h hT hM ho.size ho.k ho.a a1 a2 hx
  obtain ⟨S, vx, vz, ps, h1, h2⟩ := h.wm
  by_cases k11 : kd = 11
  · subst k11
    exact (step_new h1 h2 ho.k).mono fun e w' hs => h.said hs
  by_cases h0 : 0 < ps.length
  · refine (step_maps h1 h2 ho.size ho.k ho.a (by omega) (by omega) a1 a2 h0 fun W p hp hb hpr hf => ?_).mono fun e w' hs => h.said hs
    have hl : p.l.length ≤ 2097151 := by have := h2 p hp; omega
    by_cases k12 : kd = 12
    · subst k12
      exact maps_put sent hpr hf (hF.below (h.below.trans (hb.mono h.below.size))) hl ho
    by_cases k13 : kd = 13
    · subst k13
      exact maps_del hpr hf hl ho
    · obtain rfl : kd = 14 := by omega
      exact maps_get hpr hf hl ho
  · obtain rfl : ps = [] := List.eq_nil_of_length_eq_zero (by omega)
    exact (step_none h1 ho.k (by omega) (by omega)).mono fun e w' hs => h.said hs

set_option maxRecDepth 100000 in
set_option maxHeartbeats 800000 in
theorem looks_none (bw : Nat) (w : World) (h3 : w.cell? ⟨bw, 3, none⟩ = some (.slice none 0 0)) (h4 : w.cell? ⟨bw, 4, none⟩ = some (.slice none 0 0)) :
    Calls Tryz.prog 45 #[.pointer (some ⟨bw, 3, none⟩)] w fun e w' => e = .returned (.bool true) ∧ w' = w := by
  go_enter Tryz.func45, Tryz.ntmps45
  go_wp2
  go_loopg [3] 0 (fun g i W => g = 0 ∧ i = .int .i64 0 ∧ W = w)
  case atStart => exact ⟨rfl, rfl, rfl⟩
  case round =>
    obtain ⟨rfl, rfl, hW⟩ := hrel
    obtain rfl := hW.symm
    go_wp2
    go_loopg [9] 0 (fun g i W => g = 0 ∧ i = .int .i64 0 ∧ W = w)
    case atStart => exact ⟨rfl, rfl, rfl⟩
    case round =>
      obtain ⟨rfl, rfl, hW⟩ := hrel
      obtain rfl := hW.symm
      go_wp2
      go_ret
      exact ⟨rfl, rfl⟩
theorem MRun.looks {w wr : World} {x : Nat} (h : MRun w wr x) : Calls Tryz.prog 45 #[.pointer (some ⟨w.heap.size, 3, none⟩)] wr fun e w' => e = .returned (.bool true) ∧ w' = wr := by
  obtain ⟨S, vx, vz, ps, h1, h2⟩ := h.wm
  exact looks_none _ wr (cell_of_row wr _ 3 _ _ (0, 0) h1.heap) (cell_of_row wr _ 4 _ _ (0, 0) h1.heap)

theorem within_maps (k : Int) (w : World) :
    Calls Tryz.prog 44 #[.int .i64 k, .int .i64 11, .int .i64 15] w fun e w' => e = .returned (.bool (decide (11 ≤ k) && decide (k ≤ 15))) ∧ w' = w := by
  go_enter Tryz.func44, Tryz.ntmps44
  by_cases h1 : 11 ≤ k
  · by_cases h2 : k ≤ 15
    · go_wp2
      go_ret
      exact ⟨by simp [h1, h2], rfl⟩
    · go_wp2
      go_ret
      exact ⟨by simp [h2], rfl⟩
  · go_wp2
    go_ret
    exact ⟨by have hn : ¬ 11 ≤ k := by omega
              simp [hn], rfl⟩

/-- The script as it lies in memory: n steps from the slice's address on. -/
def ScriptM (w : World) (adr : Option Addr) (n : Nat) : Prop :=
  ∀ i, i < n → ∃ sb so C kd a K s, adr = some ⟨sb, so, none⟩ ∧ sb < w.heap.size ∧ OpK C kd a K s ∧ (-9223372036854775808 ≤ a ∧ a < 9223372036854775808) ∧ w.rangeAt sb (so + i * 160) C.toList

set_option maxRecDepth 100000 in
set_option maxHeartbeats 3200000 in
theorem playsM_any (adr : Option Addr) (n cap : Nat) (w : World) (sent : Nat → Addr) (hF : Faults w sent) (hT : Tabs w) (hM : 16 ≤ w.heap.size) (hn : n ≤ 1048576) (hS : ScriptM w adr n) :
    Calls Tryz.prog 12 #[.slice adr n cap, .int .i64 11, .int .i64 15] w fun e w' => e = .returned (.bool true) ∧ Below w.heap.size w w' := by
  have HG : Hid (Faults w sent ∧ Tabs w ∧ 16 ≤ w.heap.size ∧ n ≤ 1048576 ∧ ScriptM w adr n) := ⟨hF, hT, hM, hn, hS⟩
  have H0 := Hid.hide (MRun.start w)
  clear hF hT hM hn hS
  go_enter Tryz.func12, Tryz.ntmps12
  go_wp2_with fail
  generalize w.alloc (.cells #[.slice none 0 0, .slice none 0 0, .slice none 0 0, .slice none 0 0, .slice none 0 0, .int .i64 0] 99) = w0 at H0 ⊢
  obtain ⟨S, vx, vz, ps, q1, q2⟩ := H0.out.wm
  refine ((step_new q1 q2 (by rfl)).mono fun e w' hs => H0.out.said hs).mono ?_
  rintro e w1 ⟨rfl, hR1⟩
  have H1 := Hid.hide hR1
  clear hR1 q1 q2 H0
  go_wp2
  go_loopg [9] n (fun g i wr => ∃ x : Nat, x ≤ n ∧ g = n - x ∧ i = .int .i64 (x : Int) ∧ MRun w wr (x + 1))
  case atStart => exact ⟨0, Nat.zero_le _, rfl, rfl, H1.out⟩
  case round =>
    obtain ⟨x, hx, rfl, rfl, hR⟩ := hrel
    have HR := Hid.hide hR
    clear hR H1
    by_cases hlt : x < n
    · obtain ⟨sb, so, C, kd, a, K, s, rfl, hsb, hC, hab, hrg⟩ := HG.out.2.2.2.2 x hlt
      have hrg1 : wr.rangeAt sb (so + x * 160) C.toList := range_below hrg (HR.out.below.block sb hsb)
      have c0 : wr.cell? ⟨sb, so + x * 160, none⟩ = some (.int .i64 kd) := by
        have := hrg1 0 (.int .i64 kd) (by have := hC.k; simpa using this)
        rwa [Nat.add_zero] at this
      have hz : (Tryz.prog.info? 102).map (·.size) = some C.toList.length := by rw [opSize', Array.length_toList, hC.size]
      have hxi2 : (x : Int) < (n : Int) := by omega
      have HW1 : Hid (wrap64 ((x : Int) + 1) = ((x + 1 : Nat) : Int)) := by
        have h : wrap64 ((x : Int) + 1) = ((x + 1 : Nat) : Int) := (by unfold wrap64; have := HG.out.2.2.2.1; omega)
        exact h
      by_cases hwi : 11 ≤ kd ∧ kd ≤ 15
      · have HW : Hid (∀ W, Calls Tryz.prog 44 #[.int .i64 kd, .int .i64 11, .int .i64 15] W fun e w' => e = .returned (.bool true) ∧ w' = W) := fun W => by
          have := within_maps kd W
          simpa [hwi.1, hwi.2] using this
        have HS := Hid.hide (mstep_any sent HR.out HG.out.1 HG.out.2.1 HG.out.2.2.1 hC hwi.1 hwi.2 hab.1 hab.2 (by have := HG.out.2.2.2.1; omega))
        clear hC hrg hwi hsb hab
        go_wp2_with (first
          | (go_at_call 44; refine (HW.out _).mono ?_; rintro e w' ⟨rfl, rfl⟩)
          | (refine wpList_load_mid rfl 102 _ rfl sb (so + x * 160) rfl C.toList _ hrg1 Tryz.underlying102 rfl hz ?_))
        refine HS.out.mono ?_
        rintro e w2 ⟨rfl, hR2⟩
        have H2 := Hid.hide hR2
        have HL := Hid.hide hR2.looks
        clear hR2 HS hrg1 c0 hz HW
        go_wp2_with fail
        refine HL.out.mono ?_
        rintro e w3 ⟨rfl, hw3⟩
        obtain rfl := hw3.symm
        clear HL
        go_wp2
        go_roundg (n - (x + 1))
        case measure => omega
        case rel => exact ⟨x + 1, by omega, rfl, by first | exact val_int HW1.out | exact val_int rfl, H2.out⟩
      · have HW : Hid (∀ W, Calls Tryz.prog 44 #[.int .i64 kd, .int .i64 11, .int .i64 15] W fun e w' => e = .returned (.bool false) ∧ w' = W) := fun W => by
          have := within_maps kd W
          have e : (decide (11 ≤ kd) && decide (kd ≤ 15)) = false := by
            by_cases h1 : 11 ≤ kd
            · have h2 : ¬ kd ≤ 15 := fun h => hwi ⟨h1, h⟩
              simp [h2]
            · simp [h1]
          rw [e] at this
          exact this
        clear hC hrg hwi hsb hab hz hrg1
        go_wp2_with (go_at_call 44; refine (HW.out _).mono ?_; rintro e w' ⟨rfl, rfl⟩)
        go_roundg (n - (x + 1))
        case measure => omega
        case rel => exact ⟨x + 1, by omega, rfl, by first | exact val_int HW1.out | exact val_int rfl, HR.out.mono (by omega)⟩
    · have hxn : ¬ (x : Int) < (n : Int) := by omega
      have HX : Hid (x ≤ 1048576) := by have h := HG.out.2.2.2.1; have h2 : x ≤ 1048576 := (by omega); exact h2
      clear hlt
      go_wp2
      go_loopg [12] 6 (fun g i W => ∃ k : Nat, k ≤ 6 ∧ g = 6 - k ∧ i = .int .i64 (k : Int) ∧ MRun w W (x + 1 + k))
      case atStart => exact ⟨0, by omega, rfl, rfl, HR.out⟩
      case round =>
        obtain ⟨k, hk, rfl, rfl, hR⟩ := hrel
        obtain ⟨S, vx, vz, ps, q1, q2⟩ := hR.wm
        obtain ⟨p1, m1, c1, rfl⟩ := q1.ox.shape
        have hm1 : m1 = ps.length := by
          rcases q1.ox.2 with ⟨e1, e2⟩ | ⟨g, cap, e1, _⟩
          · simp only [Value.slice.injEq] at e1; omega
          · simp only [Value.slice.injEq] at e1; exact e1.2.1
        have d1 := q1.cells.1.1
        have HFew : Hid (m1 ≤ 5) := by have h5 := q1.few; have h : m1 ≤ 5 := (by omega); exact h
        have HRk := Hid.hide hR
        by_cases hlt : k < m1
        · have i1 : (k : Int) < (m1 : Int) := by omega
          clear q1 q2 hR hm1
          go_wp2_with fail
          refine (mstep_root (a := (k : Int)) HRk.out HG.out.2.1 HG.out.2.2.1 (by rfl) (by rfl) (by rfl) (by omega) (by omega) (by have := HX.out; omega)).mono ?_
          rintro e w2 ⟨rfl, hR2⟩
          have H2 := Hid.hide hR2
          clear hR2
          go_wp2
          go_roundg (6 - (k + 1))
          case measure => have := HFew.out; omega
          case rel => exact ⟨k + 1, by have := HFew.out; omega, rfl, by first | exact val_int rfl | go_num, H2.out⟩
        · have i1 : (m1 : Int) ≤ (k : Int) := by omega
          clear q1 q2 hR hm1
          go_wp2
          go_ret
          exact ⟨rfl, HRk.out.below⟩
end Go.Proofs.YtjiikjpnlgogfaaGreatDoor
