/-
  Bare of package item: the item without its places.
  Bare of package item: the walk.
-/
import Derived.Test.YtjiikjpnlgogfaaGreatDoorIteG
import Derived.Deep.RegionHeld3
import Derived.Deep.DeepCutAuto
import Derived.Deep.RegionLaw
namespace Go.Proofs.YtjiikjpnlgogfaaGreatDoor
open Go.RowKit

abbrev zeroI : Value := .agg #[.bool false, .string ⟨#[]⟩, .slice none 0 0]
theorem infoI : (Tryz.prog.info? 45).map (fun i => (i.zero, i.size, i.bytes)) = some (some zeroI, 3, 48) := by kernel_rfl

theorem Below.undrew {B : Nat} {X w1 : World} (h : Below B X.drew w1) : Below B X w1 := ⟨h.os, h.tape, h.output, h.size, h.block⟩

/-- A new block g with these cells, none frozen; all that was there is as it was. -/
structure Made (W0 : World) (g : Nat) (cs : List Value) (wc : World) : Prop where
  lo : W0.heap.size ≤ g
  hi : g < wc.heap.size
  cells : wc.rangeAt g 0 cs
  free : ∀ j, j < cs.length → wc.frozen? ⟨g, j, none⟩ = false
  below : Below W0.heap.size W0 wc
theorem Made.fresh {W0 w1 : World} (hb : Below W0.heap.size W0 w1) (cs : List Value) (t : TypeId) : Made W0 w1.heap.size cs (w1.alloc (.cells cs.toArray t)) :=
  ⟨hb.size, by simp, rangeAt_new w1 cs t, fun j _ => World.frozen?_alloc_new _ _ _ _, hb.alloc hb.size _⟩
theorem Made.write {W0 w1 : World} {zs : Array Value} {t : TypeId} (hb : Below (W0.alloc (.cells zs t)).heap.size (W0.alloc (.cells zs t)) w1) (cs : List Value) (hl : cs.length = zs.size) : Made W0 W0.heap.size cs (w1.setCells W0.heap.size 0 cs) := by
  have hth : w1.there W0.heap.size 0 cs.length := fun j hj => by
    rw [Nat.zero_add]
    obtain ⟨q, f⟩ := newCell hb j (v := zs[j]'(by omega)) (by rw [Array.getElem?_eq_getElem])
    exact ⟨by rw [q]; rfl, f⟩
  obtain ⟨q1, q2, q3, q4⟩ := size_setCells W0.heap.size cs 0 w1
  have hs := hb.size
  rw [World.size_alloc] at hs
  refine ⟨Nat.le_refl _, by omega, World.rangeAt_setCells_same w1 _ 0 cs hth, fun j hj => ?_, ⟨q2.trans hb.os, q3.trans hb.tape, q4.trans hb.output, by omega, fun k hk => (heap_setCells _ _ _ _ _ (by omega)).trans ((hb.block k (by simp; omega)).trans (Below.heap_alloc _ _ _ hk))⟩⟩
  have := (World.there_setCells hth W0.heap.size 0 cs j hj).2
  rwa [Nat.zero_add] at this

/-- What Bare answers. -/
def BareSaid (d : Nat) (x : It) (W : World) (e : Ending) (w' : World) : Prop :=
  Below W.heap.size W w' ∧ ∃ (l : Bool) (tx : ByteArray) (p : Option Addr) (m c : Nat), e = .returned (valI ⟨0, 0, l, tx, .slice p m c⟩) ∧ Tree encI kB d w' (fun k => W.heap.size ≤ k) ⟨0, 0, l, tx, .slice p m c⟩ x.bare

/-- Made bare so far: the first k. -/
structure BHalf (d g : Nat) (W0 : World) (l : Bool) (tx : ByteArray) (ps : List (El × It)) (k : Nat) (wr : World) (v : Value) (qs : List (El × It)) : Prop where
  lo : W0.heap.size ≤ g
  hi : g < wr.heap.size
  below : Below W0.heap.size W0 wr
  free : ∀ j, j < 3 → wr.frozen? ⟨g, j, none⟩ = false
  c0 : wr.cell? ⟨g, 0, none⟩ = some (.bool l)
  c1 : wr.cell? ⟨g, 1, none⟩ = some (.string tx)
  c2 : wr.cell? ⟨g, 2, none⟩ = some v
  own : OwnC wr W0.heap.size 3 v k (qs.flatMap fun q => encI q.1)
  len : qs.length = k
  out : v.ownBlock ≠ some g
  trees : ∀ q ∈ qs, Tree encI kB d wr (fun b => (W0.heap.size ≤ b ∧ v.ownBlock ≠ some b ∧ b ≠ g) ∧ b < wr.heap.size) q.1 q.2
  codes : qs.map (·.2) = (ps.take k).map (·.2.bare)
  plain : ∀ b, v.ownBlock = some b → Plain wr b
  naught : k = 0 → v = .slice none 0 0

theorem BHalf.more {d g : Nat} {W0 : World} {l : Bool} {tx : ByteArray} {ps : List (El × It)} {k : Nat} {wr W w1 w2 : World} {v v2 : Value} {qs : List (El × It)} {o2 : Obj} {e : El} {c : It} (h : BHalf d g W0 l tx ps k wr v qs) (hk : k < ps.length)
    (hW : Below wr.heap.size wr W) (hb1 : Below W.heap.size W w1) (hT : Tree encI kB d w1 (fun b => W.heap.size ≤ b) e c) (hc : c = ps[k].2.bare)
    (hO2 : OwnC w2 W0.heap.size 3 v2 (k + 1) ((qs.flatMap fun q => encI q.1) ++ encI e)) (hg : (w1.alloc o2).grownBy w2 v.ownBlock) (hf : ∀ b, v2.ownBlock = some b → v.ownBlock = some b ∨ (w1.alloc o2).heap.size ≤ b) (hP : ∀ b, v2.ownBlock = some b → Plain w2 b) :
    BHalf d g W0 l tx ps (k + 1) (w2.setCell ⟨g, 2, none⟩ v2) v2 (qs ++ [(e, c)]) := by
  have hs0 := h.lo
  have hs1 := h.hi
  have hs2 := hW.size
  have hs3 := hb1.size
  have hs4 := hg.size
  simp only [World.size_alloc] at hs4 hf
  have hblk : ∀ b, b < w1.heap.size → v.ownBlock ≠ some b → w2.heap[b]? = w1.heap[b]? := fun b hb hne =>
    (hg.block b (by simp; omega) (fun e => hne e.symm)).trans (Below.heap_alloc _ _ _ hb)
  have hgb : w2.heap[g]? = wr.heap[g]? := (hblk g (by omega) h.out).trans ((hb1.block g (by omega)).trans (hW.block g hs1))
  have hg2 : v2.ownBlock ≠ some g := fun e => by
    rcases hf g e with e | e
    · exact h.out e
    · omega
  have hcell : ∀ j u, wr.cell? ⟨g, j, none⟩ = some u → w2.cell? ⟨g, j, none⟩ = some u := fun j u hu => (World.cell?_of_block hgb).trans hu
  have hset : ∀ b, b ≠ g → (w2.setCell ⟨g, 2, none⟩ v2).heap[b]? = w2.heap[b]? := fun b hb => Below.heap_setCell _ _ _ _ hb
  refine ⟨hs0, by simp; omega, ?_, fun j hj => ?_, ?_, ?_, ?_, ?_, by simp [h.len], hg2, ?_, ?_, fun b hb => (hP b hb).setCell _ _, by omega⟩
  · refine Below.setCell ?_ (by simp only; omega) _
    have hB1 : Below W0.heap.size W0 w1 := (h.below.trans (hW.mono (by omega))).trans (hb1.mono (by omega))
    exact (hB1.alloc (by omega) o2).trans ⟨hg.os, hg.tape, hg.output, hg.size, fun b hb => hg.block b (by simp; omega) (fun e => by have := (h.own.block b e.symm).1; omega)⟩
  · rw [World.frozen?_setCell, World.frozen?_of_block hgb]
    exact h.free j hj
  · exact (World.cell?_setCell_other _ _ _ _ (by simp)).trans (hcell 0 _ h.c0)
  · exact (World.cell?_setCell_other _ _ _ _ (by simp)).trans (hcell 1 _ h.c1)
  · exact World.cell?_setCell_same _ _ _ (hcell 2 _ h.c2)
  · have := hO2.keep (w' := w2.setCell ⟨g, 2, none⟩ v2) (by simp) (fun b _ hb => hset b (fun e => hg2 (e ▸ hb)))
    simpa using this
  · intro q hq
    rcases List.mem_append.1 hq with hq | hq
    · refine Tree.keep (fun b hb => ?_) (by simp; omega) (fun b hb hbs => (hset b hb.1.2.2).trans ((hblk b (by omega) hb.1.2.1).trans ((hb1.block b (by omega)).trans (hW.block b hbs)))) d (h.trees q hq)
      refine ⟨⟨hb.1.1, fun e => ?_, hb.1.2.2⟩, by simp; omega⟩
      rcases hf b e with e | e
      · exact hb.1.2.1 e
      · omega
    · obtain rfl := List.mem_singleton.1 hq
      refine Tree.keep (fun b hb => ?_) (by simp; omega) (fun b hb hbs => (hset b (by have := hb.1; omega)).trans (hblk b hbs (fun e => by have := (h.own.block b e).2; have := hb.1; omega))) d hT.bound
      have hb1 := hb.1
      have hb2 := hb.2
      refine ⟨⟨by omega, fun e => ?_, by omega⟩, by simp; omega⟩
      rcases hf b e with e | e
      · have := (h.own.block b e).2; omega
      · omega
  · rw [List.map_append, h.codes, hc, ← List.take_append_getElem hk, List.map_append]
    rfl

theorem step_append_ownp {P : Program} (w : World) {ops : Array Oper} {o : Oper} {a : Act} {K : Act → World → Prop} {Q : Exit → Act → World → Prop} {E : Prop} (hgd : o.guard = none) (s x : Operand) (t : TypeId)
    (ho : o.op = .call { callee := .builtin .append, args := #[s, x], argTypes := #[t, t] })
    (e : TypeId) (i : TypeInfo) (z : Value) (size bytes : Nat) (ht : P.underlying t = some (.slice e)) (hi : P.info? e = some i) (hz : i.zero = some z) (hsize : i.size = size) (hby : i.bytes = bytes) (hzs : z.cells.size = size) (hsz : 0 < size)
    (B : Nat) (v : Value) (n : Nat) (cs : List Value) (hs : a.eval s = v) (hown : OwnC w B size v n cs) (b p m c : Nat) (news : List Value) (hx : a.eval x = .slice (some ⟨b, p, none⟩) m c)
    (hl : news.length = m * size) (hnews : w.rangeAt b p news) (h1 : ∀ u ∈ news, u.oneCell' = true) (hm : n + m ≤ maxLen) (hb : (n + m) * bytes ≤ 140737488355328) (hB : B ≤ w.heap.size)
    (hK : ∀ v' w', OwnC w' B size v' (n + m) (cs ++ news) → w.grownBy w' v.ownBlock → (∀ k, v'.ownBlock = Option.some k → v.ownBlock = Option.some k ∨ w.heap.size ≤ k) → ((∀ k, v.ownBlock = Option.some k → Plain w k) → ∀ k, v'.ownBlock = Option.some k → Plain w' k) → K (a.put o.dst v') w') :
    if Region.wanted o (yielded ops a.tmps) = true then Oper.wp P o a w K Q else E := by
  have hw : Region.wanted o (yielded ops a.tmps) = true := by simp [Region.wanted, hgd]
  rw [if_pos hw]
  obtain ⟨v', w', hrun, r1, r2, r3, r4⟩ := run_append_ownp (P := P) w t o.type e i z size bytes ht hi hz hsize hby hzs hsz B v n cs hown b p m c news hl hnews h1 hm hb hB
  unfold Oper.wp
  simp [execOp, ho, resolve, invoke, builtin, hs, hx, hrun, Result.andThen]
  exact hK v' w' r1 r2 r3 r4
end Go.Proofs.YtjiikjpnlgogfaaGreatDoor

namespace Go.Proofs.YtjiikjpnlgogfaaGreatDoor
open Go.RowKit

theorem newCellD {w w1 : World} {cs : Array Value} {t : TypeId} {g : Nat} (hb : Below (w.alloc (.cells cs t)).drew.heap.size (w.alloc (.cells cs t)).drew w1) (hg : g = w.heap.size) (j : Nat) {v : Value} (h : cs[j]? = some v) : w1.cell? ⟨g, j, none⟩ = some v ∧ w1.frozen? ⟨g, j, none⟩ = false := by
  subst hg
  exact newCell (w := w) (w1 := w1) (cs := cs) (t := t) ⟨hb.os, hb.tape, hb.output, hb.size, hb.block⟩ j h

theorem oneCell3 (l : Bool) (tx : ByteArray) (p : Option Addr) (m c : Nat) : ∀ u ∈ ([.bool l, .string tx, .slice p m c] : List Value), u.oneCell' = true := by
  intro u hu
  simp only [List.mem_cons, List.not_mem_nil, or_false] at hu
  rcases hu with rfl | rfl | rfl <;> rfl

theorem bare_step {d g : Nat} {W0 : World} {l : Bool} {tx : ByteArray} {ps : List (El × It)} {k : Nat} {wr w1 w2 : World} {v v2 : Value} {qs : List (El × It)} {o1 o2 : Obj} {e : El} {x' : It} (h : BHalf d g W0 l tx ps k wr v qs ∧ (∃ hk : k < ps.length, ps[k].2 = x'))
    (hO2 : OwnC w2 W0.heap.size 3 v2 (k + 1) ((qs.flatMap fun q => encI q.1) ++ encI e)) (hg : (w1.alloc o2).grownBy w2 v.ownBlock) (hf : ∀ b, v2.ownBlock = some b → v.ownBlock = some b ∨ (w1.alloc o2).heap.size ≤ b) (hP : (∀ k, v.ownBlock = some k → Plain (w1.alloc o2) k) → ∀ b, v2.ownBlock = some b → Plain w2 b)
    (hb1 : Below (wr.alloc o1).heap.size (wr.alloc o1) w1) (hT : Tree encI kB d w1 (fun b => (wr.alloc o1).heap.size ≤ b) e x'.bare) :
    ∃ p3 m3 c3, v2 = .slice p3 m3 c3 ∧ BHalf d g W0 l tx ps (k + 1) (w2.setCell ⟨g, 2, none⟩ (.slice p3 m3 c3)) (.slice p3 m3 c3) (qs ++ [(e, x'.bare)]) := by
  obtain ⟨hB, hk, hx⟩ := h
  obtain ⟨p3, m3, c3, rfl⟩ := hO2.shape
  have hs := hb1.size
  rw [World.size_alloc] at hs
  refine ⟨p3, m3, c3, rfl, hB.more hk ((Below.refl _ _).alloc (Nat.le_refl _) o1) hb1 hT (by rw [hx]) hO2 hg hf (hP fun b hb => ?_)⟩
  have hb2 := (hB.own.block b hb).2
  exact (hB.plain b hb).keep ((Below.heap_alloc _ _ _ (by omega)).trans ((hb1.block b (by simp; omega)).trans (Below.heap_alloc _ _ _ hb2)))

theorem bare_kept {d g : Nat} {W0 : World} {l : Bool} {tx : ByteArray} {ps : List (El × It)} {k : Nat} {wr w1 w2 : World} {v : Value} {qs : List (El × It)} {o1 o2 : Obj} (h : BHalf d g W0 l tx ps k wr v qs) (hg : (w1.alloc o2).grownBy w2 v.ownBlock) (hb1 : Below (wr.alloc o1).heap.size (wr.alloc o1) w1) :
    w2.cell? ⟨g, 2, none⟩ = some v ∧ w2.frozen? ⟨g, 2, none⟩ = false ∧ g < w2.heap.size := by
  have h1 := h.hi
  have h2 := hb1.size
  have h3 := hg.size
  rw [World.size_alloc] at h2 h3
  have e : w2.heap[g]? = wr.heap[g]? := (hg.block g (by simp; omega) (fun e => h.out e.symm)).trans ((Below.heap_alloc _ _ _ (by omega)).trans ((hb1.block g (by simp; omega)).trans (Below.heap_alloc _ _ _ h1)))
  exact ⟨(World.cell?_of_block e).trans h.c2, (World.frozen?_of_block e).trans (h.free 2 (by omega)), by omega⟩

theorem grown_cell {d g : Nat} {W0 : World} {l : Bool} {tx : ByteArray} {ps : List (El × It)} {k : Nat} {wr w1 w2 : World} {v : Value} {qs : List (El × It)} {o2 : Obj} (h : BHalf d g W0 l tx ps k wr v qs) (hg : (w1.alloc o2).grownBy w2 v.ownBlock) (hs : wr.heap.size < w1.heap.size) {j : Nat} {u : Value} (hu : w1.cell? ⟨wr.heap.size, j, none⟩ = some u) : w2.cell? ⟨wr.heap.size, j, none⟩ = some u :=
  (World.cell?_of_block ((hg.block wr.heap.size (by simp; omega) (fun e => by have := (h.own.block wr.heap.size e.symm).2; omega)).trans (Below.heap_alloc _ _ _ hs))).trans hu

/-- The result's own block. -/
theorem bare_out {d g : Nat} {w W0 : World} {l : Bool} {tx : ByteArray} {ps : List (El × It)} {k : Nat} {wr : World} {v : Value} {qs : List (El × It)} {cs : Array Value} {t u : TypeId} (h : BHalf d g W0 l tx ps k wr v qs) (hZ : W0.heap.size = w.heap.size + 2 ∧ Below w.heap.size w W0) (hW : W0 = (w.alloc (.cells cs t)).alloc (.cells #[.bool false, .string ⟨#[]⟩, .slice none 0 0] u)) :
    (wr.cell? ⟨w.heap.size + 1, 0, none⟩ = some (.bool false) ∧ wr.frozen? ⟨w.heap.size + 1, 0, none⟩ = false) ∧ (wr.cell? ⟨w.heap.size + 1, 1, none⟩ = some (.string ⟨#[]⟩) ∧ wr.frozen? ⟨w.heap.size + 1, 1, none⟩ = false) ∧ (wr.cell? ⟨w.heap.size + 1, 2, none⟩ = some (.slice none 0 0) ∧ wr.frozen? ⟨w.heap.size + 1, 2, none⟩ = false) ∧ ¬ w.heap.size + 1 = g := by
  have hb := h.below
  have hlo := h.lo
  rw [hW] at hb
  have hs : w.heap.size + 1 = (w.alloc (.cells cs t)).heap.size := by simp
  rw [hs]
  exact ⟨newCell hb 0 rfl, newCell hb 1 rfl, newCell hb 2 rfl, by rw [← hs]; omega⟩

theorem bare_end {d g : Nat} {w W0 : World} {l : Bool} {tx : ByteArray} {ps : List (El × It)} {k : Nat} {wr : World} {v : Value} {qs : List (El × It)} (h : BHalf d g W0 l tx ps k wr v qs) (hk : k = ps.length) (hZ : W0.heap.size = w.heap.size + 2 ∧ Below w.heap.size w W0) {p0 : Option Addr} {m0 c0 : Nat} (hv : v = .slice p0 m0 c0) {a b c : Value} :
    Below w.heap.size w (((wr.setCell ⟨w.heap.size + 1, 0, none⟩ a).setCell ⟨w.heap.size + 1, 1, none⟩ b).setCell ⟨w.heap.size + 1, 2, none⟩ c) ∧ ∃ (p' : Option Addr) (m' c' : Nat) (qs : List (El × It)), Ending.returned (valI ⟨0, 0, l, tx, .slice p0 m0 c0⟩) = .returned (valI ⟨0, 0, l, tx, .slice p' m' c'⟩) ∧
      RowAt (((wr.setCell ⟨w.heap.size + 1, 0, none⟩ a).setCell ⟨w.heap.size + 1, 1, none⟩ b).setCell ⟨w.heap.size + 1, 2, none⟩ c) (fun k => w.heap.size ≤ k) (.slice p' m' c') qs.length (qs.flatMap fun q => encI q.1) ∧ (∀ q ∈ qs, Tree encI kB d (((wr.setCell ⟨w.heap.size + 1, 0, none⟩ a).setCell ⟨w.heap.size + 1, 1, none⟩ b).setCell ⟨w.heap.size + 1, 2, none⟩ c) (fun k => w.heap.size ≤ k) q.1 q.2) ∧ qs.map (·.2) = ps.map (·.2.bare) ∧ (ps = [] → Value.slice p' m' c' = .slice none 0 0) := by
  subst hv hk
  have hz := hZ.1
  have hB : Below w.heap.size w wr := hZ.2.trans (h.below.mono (by omega))
  have hset : ∀ b', b' ≠ w.heap.size + 1 → (((wr.setCell ⟨w.heap.size + 1, 0, none⟩ a).setCell ⟨w.heap.size + 1, 1, none⟩ b).setCell ⟨w.heap.size + 1, 2, none⟩ c).heap[b']? = wr.heap[b']? := fun b' hb => by
    rw [Below.heap_setCell _ _ _ _ hb, Below.heap_setCell _ _ _ _ hb, Below.heap_setCell _ _ _ _ hb]
  refine ⟨((hB.setCell (by simp only; omega) _).setCell (by simp only; omega) _).setCell (by simp only; omega) _, p0, m0, c0, qs, rfl, ?_, fun q hq => ?_, ?_⟩
  · have := h.own.rowAt (F := fun k => W0.heap.size ≤ k) (fun b hb => (h.own.block b hb).1) h.plain
    rw [h.len]
    exact this.keep (fun k hk => by omega) (by simp) (fun k hk _ => hset k (by omega))
  · exact Tree.keep (fun k hk => by have := hk.1.1; omega) (by simp) (fun k hk _ => hset k (by have := hk.1.1; omega)) d (h.trees q hq)
  · exact ⟨by rw [h.codes, List.take_of_length_le (Nat.le_refl _)], fun e => h.naught (by rw [e]; rfl)⟩

set_option maxRecDepth 100000 in
set_option maxHeartbeats 3200000 in
theorem bare_body (d : Nat) (fr en : Nat) (l : Bool) (tx : ByteArray) (p : Option Addr) (m c : Nat) (ps : List (El × It)) (F : Nat → Prop) (w : World) (htx : tx.size ≤ 1048576) (hm : m = ps.length) (hm2 : m ≤ 2048)
    (hrow : RowAt w F (.slice p m c) ps.length (ps.flatMap fun q => encP q.1)) (hsub : ∀ q ∈ ps, ∃ p m c, q.1.sub = .slice p m c)
    (hN : ∀ q ∈ ps, ∀ W, Below w.heap.size w W → Calls Tryz.prog 89 #[valP q.1] W (BareSaid d q.2 W)) :
    Calls Tryz.prog 89 #[valP ⟨fr, en, l, tx, .slice p m c⟩] w fun e w' => Below w.heap.size w w' ∧ ∃ (p' : Option Addr) (m' c' : Nat) (qs : List (El × It)), e = .returned (valI ⟨0, 0, l, tx, .slice p' m' c'⟩) ∧
      RowAt w' (fun k => w.heap.size ≤ k) (.slice p' m' c') qs.length (qs.flatMap fun q => encI q.1) ∧ (∀ q ∈ qs, Tree encI kB d w' (fun k => w.heap.size ≤ k) q.1 q.2) ∧ qs.map (·.2) = ps.map (·.2.bare) ∧ (ps = [] → Value.slice p' m' c' = .slice none 0 0) := by
  obtain ⟨i0, hi, hz0, hz1, hz2⟩ := info_parts infoI
  have HC : Hid (∀ W : World, Calls Tryz.prog 86 #[.string tx] W fun e w' => e = .returned (.string tx) ∧ Below W.heap.size W w') := fun W => clone_any tx W htx
  have HN : Hid (∀ q ∈ ps, ∀ W, Below w.heap.size w W → Calls Tryz.prog 89 #[valP q.1] W (BareSaid d q.2 W)) := hN
  have HR : Hid (RowAt w F (.slice p m c) ps.length (ps.flatMap fun q => encP q.1)) := hrow
  have HS : Hid (∀ q ∈ ps, ∃ p m c, q.1.sub = .slice p m c) := hsub
  have HM : Hid (m = ps.length ∧ m ≤ 2048) := ⟨hm, hm2⟩
  clear htx hN hrow hsub hm hm2
  go_enter Tryz.func89, Tryz.ntmps89
  go_upto_region 1 with fail
  obtain ⟨W0, hW0⟩ : ∃ W0, W0 = (w.alloc (.cells #[.int .i64 (fr : Int), .int .i64 (en : Int), .bool l, .string tx, .slice p m c] 174)).alloc (.cells #[.bool false, .string ⟨#[]⟩, .slice none 0 0] 45) := ⟨_, rfl⟩
  have HW0 : Hid (W0 = (w.alloc (.cells #[.int .i64 (fr : Int), .int .i64 (en : Int), .bool l, .string tx, .slice p m c] 174)).alloc (.cells #[.bool false, .string ⟨#[]⟩, .slice none 0 0] 45)) := hW0
  clear hW0
  go_cut [3] (fun v wc => ∃ g, v = .pointer (some ⟨g, 0, none⟩) ∧ Made W0 g [.bool l, .string tx, .slice none 0 0] wc)
  case first =>
    go_region_held3 (fun w' => w'.cell? ⟨w.heap.size, 2, none⟩ = some (.bool l) ∧ w'.cell? ⟨w.heap.size, 3, none⟩ = some (.string tx)) (first | (go_keep; done) | (exact ⟨d2, d3⟩; done) | (refine ⟨?_, ?_⟩ <;> (go_simp; done)))
      (first | (go_at_call 86; refine (HC.out _).mono ?_; rintro e w1 ⟨rfl, hb1⟩; have b0 := fun h => hb1.cell (p := ⟨w.heap.size + 1 + 1, 0, none⟩) h; have b1 := fun h => hb1.cell (p := ⟨w.heap.size + 1 + 1, 1, none⟩) h; have b2 := fun h => hb1.cell (p := ⟨w.heap.size + 1 + 1, 2, none⟩) h; have k0 := fun h => hb1.frozen (p := ⟨w.heap.size + 1 + 1, 0, none⟩) h; have k1 := fun h => hb1.frozen (p := ⟨w.heap.size + 1 + 1, 1, none⟩) h; have k2 := fun h => hb1.frozen (p := ⟨w.heap.size + 1 + 1, 2, none⟩) h; have hs1 : w.heap.size + 1 < w1.heap.size := (by have := hb1.size; simp at this; omega); have hs0 : ¬ w.heap.size = w1.heap.size := (by omega); have d2 : w1.cell? ⟨w.heap.size, 2, none⟩ = some (.bool l) := (hb1.cell (p := ⟨w.heap.size, 2, none⟩) (by simp <;> omega)).trans (by (go_simp; done)); have d3 : w1.cell? ⟨w.heap.size, 3, none⟩ = some (.string tx) := (hb1.cell (p := ⟨w.heap.size, 3, none⟩) (by simp <;> omega)).trans (by (go_simp; done))))
    all_goals (try go_wp2)
    all_goals go_meet
    · refine ⟨_, rfl, ?_⟩
      rw [HW0.out]
      exact Made.fresh (Below.undrew hb1) [.bool l, .string tx, .slice none 0 0] _
    · refine ⟨_, rfl, ?_⟩
      have := Made.write (W0 := W0) (w1 := w1) (zs := #[.bool false, .string ⟨#[]⟩, .slice none 0 0]) (t := 45) (by rw [HW0.out]; exact Below.undrew hb1) [.bool l, .string tx, .slice none 0 0] rfl
      rw [HW0.out] at this ⊢
      simpa [World.setCells] using this
  case rest =>
    obtain ⟨g, rfl, hM⟩ := hcut
    have hM0 := HW0.out
    have d4 : wc.cell? ⟨w.heap.size, 4, none⟩ = some (.slice p m c) := by
      refine (hM.below.cell (p := ⟨w.heap.size, 4, none⟩) (by rw [hM0]; simp; omega)).trans ?_
      rw [hM0]
      simp
    have A0 : Aside (BHalf d g W0 l tx ps 0 wc (.slice none 0 0) []) := ⟨hM.lo, hM.hi, hM.below, fun j hj => hM.free j (by simpa using hj), hM.cells 0 _ rfl, hM.cells 1 _ rfl, hM.cells 2 _ rfl, OwnC.nil _ _ _, rfl, by simp [Value.ownBlock], by simp, by simp, by simp [Value.ownBlock], fun _ => rfl⟩
    have hsz : W0.heap.size = w.heap.size + 2 := by rw [hM0]; simp
    have HZ : Hid (W0.heap.size = w.heap.size + 2 ∧ Below w.heap.size w W0) := ⟨hsz, by rw [hM0]; exact ((Below.refl _ _).alloc (Nat.le_refl _) _).alloc (by simp) _⟩
    clear hM hM0 hsz
    go_wp2
    go_loopg [15] m (fun gh i wr => ∃ k v qs, k ≤ m ∧ gh = m - k ∧ i = .int .i64 (k : Int) ∧ BHalf d g W0 l tx ps k wr v qs)
    case atStart => exact ⟨0, _, _, Nat.zero_le _, rfl, rfl, A0.out⟩
    case round =>
      obtain ⟨k, v, qs, hk, rfl, rfl, hB⟩ := hrel
      by_cases hlt : k < m
      · have hki : (k : Int) < (m : Int) := by omega
        have hkp : k < ps.length := by have := HM.out; omega
        obtain ⟨gr, cap, er, hcap, hFg, hgs, hpl, hcells⟩ := HR.out.cells (size := 5) (fun _ => rfl) (by omega)
        have hq := List.getElem_mem hkp
        obtain ⟨q, hqe⟩ : ∃ q, ps[k] = q := ⟨_, rfl⟩
        obtain ⟨⟨fr', en', l', tx', sub'⟩, x'⟩ := q
        rw [hqe] at hq
        obtain ⟨p', m', c', hs'⟩ := HS.out _ hq
        simp only at hs'
        subst hs'
        have hrk := hcells k hkp
        rw [hqe] at hrk
        obtain ⟨rfl, _⟩ : p = some ⟨gr, 0, none⟩ ∧ True := by
          simp only [Value.slice.injEq] at er
          exact ⟨er.1, trivial⟩
        have hgr : gr < wr.heap.size ∧ wr.heap[gr]? = w.heap[gr]? := by
          have h1 := hB.below.size
          have h2 := HZ.out.1
          exact ⟨by omega, (hB.below.block gr (by omega)).trans (HZ.out.2.block gr hgs)⟩
        have r0 : wr.cell? ⟨gr, k * 5, none⟩ = some (.int .i64 (fr' : Int)) := (World.cell?_of_block hgr.2).trans (hrk 0 _ rfl)
        have r1 : wr.cell? ⟨gr, k * 5 + 1, none⟩ = some (.int .i64 (en' : Int)) := (World.cell?_of_block hgr.2).trans (hrk 1 _ rfl)
        have r2 : wr.cell? ⟨gr, k * 5 + 2, none⟩ = some (.bool l') := (World.cell?_of_block hgr.2).trans (hrk 2 _ rfl)
        have r3 : wr.cell? ⟨gr, k * 5 + 3, none⟩ = some (.string tx') := (World.cell?_of_block hgr.2).trans (hrk 3 _ rfl)
        have r4 : wr.cell? ⟨gr, k * 5 + 4, none⟩ = some (.slice p' m' c') := (World.cell?_of_block hgr.2).trans (hrk 4 _ rfl)
        obtain ⟨p0, m0, c0, rfl⟩ := hB.own.shape
        have t2 := hB.c2
        have hgw : g < wr.heap.size := hB.hi
        have hgn : ¬ g = wr.heap.size := by omega
        have HW : Hid (Below w.heap.size w wr ∧ W0.heap.size ≤ wr.heap.size) := by
          have h1 := hB.below
          have h2 := HZ.out
          exact ⟨h2.2.trans (h1.mono (by omega)), h1.size⟩
        have HB : Hid (∀ W, Below wr.heap.size wr W → Calls Tryz.prog 89 #[.agg #[.int .i64 (fr' : Int), .int .i64 (en' : Int), .bool l', .string tx', .slice p' m' c']] W (BareSaid d x' W)) := fun W hW => HN.out _ hq W (Below.behind HW.out.1 hW)
        have AB : Aside (BHalf d g W0 l tx ps k wr (.slice p0 m0 c0) qs ∧ ∃ hk : k < ps.length, ps[k].2 = x') := ⟨hB, hkp, by rw [hqe]⟩
        have HK : Hid (k + 1 ≤ 2048) := by have := HM.out; exact (by omega : k + 1 ≤ 2048)
        clear hB hrk er hcells hgr hpl hFg hqe hq
        go_wp2_with fail
        go_region_law
          (first
            | (go_simp; go_at_call 89; refine (HB.out _ ?_).mono ?_; exact ((Below.refl _ _).alloc (Nat.le_refl _) _).drew; rintro e w1 ⟨hb1, l2, tx2, p2, m2, c2, rfl, hT⟩; obtain ⟨y0, _⟩ := newCellD (g := wr.heap.size) hb1 rfl 0 (v := .int .i64 (fr' : Int)) rfl; obtain ⟨y1, _⟩ := newCellD (g := wr.heap.size) hb1 rfl 1 (v := .int .i64 (en' : Int)) rfl; obtain ⟨y2, _⟩ := newCellD (g := wr.heap.size) hb1 rfl 2 (v := .bool l') rfl; obtain ⟨y3, _⟩ := newCellD (g := wr.heap.size) hb1 rfl 3 (v := .string tx') rfl; obtain ⟨y4, _⟩ := newCellD (g := wr.heap.size) hb1 rfl 4 (v := .slice p' m' c') rfl; have HB1 : Hid (Below (wr.alloc (.cells #[.int .i64 (fr' : Int), .int .i64 (en' : Int), .bool l', .string tx', .slice p' m' c'] 174)).heap.size (wr.alloc (.cells #[.int .i64 (fr' : Int), .int .i64 (en' : Int), .bool l', .string tx', .slice p' m' c'] 174)) w1) := Below.undrew hb1; have HT : Hid (Tree encI kB d w1 (fun b => (wr.alloc (.cells #[.int .i64 (fr' : Int), .int .i64 (en' : Int), .bool l', .string tx', .slice p' m' c'] 174)).heap.size ≤ b) ⟨0, 0, l2, tx2, .slice p2 m2 c2⟩ x'.bare) := hT; clear hb1 hT; have hs1 : wr.heap.size < w1.heap.size := (by have := HB1.out.size; simp at this; omega); have hs2 : g < w1.heap.size := (by omega); have hs3 : ¬ g = w1.heap.size := (by omega); have hs4 : ¬ wr.heap.size = w1.heap.size := (by omega); have t3 : w1.cell? ⟨g, 2, none⟩ = some (.slice p0 m0 c0) := (HB1.out.cell (p := ⟨g, 2, none⟩) (by simp; omega)).trans ((World.cell?_alloc_past _ _ _ hgw).trans t2); have HO : Hid (∀ o, OwnC (w1.alloc o) W0.heap.size 3 (.slice p0 m0 c0) k (qs.flatMap fun q => encI q.1)) := (fun o => ((AB.out.1.own.alloc _).below HB1.out).alloc o); have HNw : Hid ((w1.alloc (.cells #[.bool l2, .string tx2, .slice p2 m2 c2] 45)).rangeAt w1.heap.size 0 [.bool l2, .string tx2, .slice p2 m2 c2]) := rangeAt_new w1 [.bool l2, .string tx2, .slice p2 m2 c2] _; go_simp)
            | (refine step_append_ownp _ rfl (.tmp 20) (.tmp 23) 37 rfl 45 i0 zeroI 3 48 Tryz.underlying37 hi hz0 hz1 hz2 rfl (by decide) W0.heap.size (.slice p0 m0 c0) k _ (by simp [Act.eval]) (HO.out _) w1.heap.size 0 1 1 [.bool l2, .string tx2, .slice p2 m2 c2] (by simp [Act.eval]) rfl HNw.out (oneCell3 _ _ _ _ _) (by have := HK.out; unfold maxLen; omega) (by have := HK.out; omega) (by have := HW.out.2; simp; omega) ?_; intro v2 w2 hO2 hg2 hf2 hp2; have AM : Aside (∃ p3 m3 c3, v2 = .slice p3 m3 c3 ∧ BHalf d g W0 l tx ps (k + 1) (w2.setCell ⟨g, 2, none⟩ (.slice p3 m3 c3)) (.slice p3 m3 c3) (qs ++ [(⟨0, 0, l2, tx2, .slice p2 m2 c2⟩, x'.bare)])) := bare_step AB.out hO2 hg2 hf2 hp2 HB1.out HT.out; have z0 := grown_cell AB.out.1 hg2 hs1 y0; have z1 := grown_cell AB.out.1 hg2 hs1 y1; have z2 := grown_cell AB.out.1 hg2 hs1 y2; have z3 := grown_cell AB.out.1 hg2 hs1 y3; have z4 := grown_cell AB.out.1 hg2 hs1 y4; obtain ⟨t4, t5, t6⟩ := bare_kept AB.out.1 hg2 HB1.out; clear hO2 hg2 hf2 hp2; obtain ⟨p3, m3, c3, rfl, hM3⟩ := AM.out; clear hM3))
        all_goals go_wp2
        all_goals
          go_roundg (m - (k + 1))
          case measure => omega
          case rel =>
            obtain ⟨p5, m5, c5, e5, hM5⟩ := AM.out
            cases e5
            refine ⟨k + 1, _, _, by omega, rfl, ?_, hM5⟩
            rw [wrap64_succ k (by have := HK.out; omega)]
      · have hki : (m : Int) ≤ (k : Int) := by omega
        obtain ⟨p0, m0, c0, rfl⟩ := hB.own.shape
        have t0 := hB.c0
        have t1 := hB.c1
        have t2 := hB.c2
        obtain ⟨⟨e0, f0⟩, ⟨e1, f1⟩, ⟨e2, f2⟩, hsl⟩ := bare_out hB HZ.out HW0.out
        have AB : Aside (BHalf d g W0 l tx ps k wr (.slice p0 m0 c0) qs ∧ k = ps.length) := ⟨hB, by have := HM.out; omega⟩
        clear hB hlt
        go_wp2
        refine bodyPost_ret (v := valI ⟨0, 0, l, tx, .slice p0 m0 c0⟩) (by simp [results, Tryz.results89, go_sem, e0, e1, e2]) rfl ?_
        exact bare_end AB.out.1 AB.out.2 HZ.out rfl

theorem Tree.sub {C : Type} {enc : El → List Value} {K : Sort' C} : ∀ {n : Nat} {w : World} {F : Nat → Prop} {e : El} {c : C}, Tree enc K n w F e c → ∃ p m c', e.sub = .slice p m c' := by
  intro n w F e c h
  cases n with
  | zero => exact ⟨_, _, _, h.1.2⟩
  | succ n =>
    rcases h with h | ⟨_, ps, h, _⟩
    · exact ⟨_, _, _, h.1.2⟩
    · rcases h with ⟨h, _⟩ | ⟨g, cap, h, _⟩ <;> exact ⟨_, _, _, h⟩

theorem headB_pos (k n : Nat) : 0 < (headB k n).length := by
  unfold headB
  split <;> simp
theorem textCode_pos (t : List Nat) : 0 < (textCode t).length ∧ t.length ≤ (textCode t).length := by
  unfold textCode
  split
  · rename_i h
    simp [h.1]
  · have := headB_pos 128 t.length
    rw [List.length_append]
    omega
theorem code_pos (x : It) : 0 < x.code.length := by
  cases x with
  | text fr en t => rw [It.code]; exact (textCode_pos t).1
  | list fr en l =>
    rw [It.code]
    unfold listCode
    have := headB_pos 192 (Go.Proofs.YtjiikjpnlgogfaaGreatDoor.codes l).length
    rw [List.length_append]
    omega
theorem codes_length : ∀ l : List It, l.length ≤ (codes l).length
  | [] => by simp
  | x :: l => by
    have := codes_length l
    have := code_pos x
    rw [codes, List.length_append, List.length_cons]
    omega
theorem codes_mem {l : List It} {x : It} (h : x ∈ l) : x.code.length ≤ (codes l).length := by
  induction l with
  | nil => cases h
  | cons y l ih =>
    rw [codes, List.length_append]
    rcases List.mem_cons.1 h with rfl | h
    · omega
    · have := ih h
      omega
theorem listCode_le (t : List Nat) : t.length ≤ (listCode t).length := by
  unfold listCode
  rw [List.length_append]
  omega

/-- Bare, of an item that was read. -/
theorem bare_any : ∀ (d : Nat) (x : It) (e : El) (w : World) (F : Nat → Prop), Tree encP kP d w F e x → x.code.length ≤ 2048 → Calls Tryz.prog 89 #[valP e] w (BareSaid d x w) := by
  have htext : ∀ (d : Nat) (x : It) (e : El) (w : World), IsText e ∧ kP.tx e x → x.code.length ≤ 2048 → Calls Tryz.prog 89 #[valP e] w (BareSaid d x w) := by
    rintro d x ⟨fr, en, l, tx, sub⟩ w ⟨⟨h1, h2⟩, h3⟩ hx
    simp only at h1 h2
    subst h1 h2
    have h3 : x = .text fr en (bytesOf tx) := h3
    subst h3
    rw [It.code] at hx
    have := (textCode_pos (bytesOf tx)).2
    rw [bytesOf_length] at this
    refine (bare_body d fr en false tx none 0 0 [] (fun _ => False) w (by omega) rfl (by omega) (.inl ⟨rfl, rfl, rfl⟩) (by simp) (by simp)).mono ?_
    rintro e w' ⟨hb, p', m', c', qs, rfl, _, _, _, hq⟩
    exact ⟨hb, false, tx, p', m', c', rfl, Tree.text ⟨⟨rfl, hq rfl⟩, rfl⟩ d⟩
  intro d
  induction d with
  | zero => intro x e w F h hx; exact htext 0 x e w h hx
  | succ d ih =>
    intro x e w F h hx
    rcases h with h | ⟨h1, ps, h2, h3, h4⟩
    · exact htext (d + 1) x e w h hx
    · obtain ⟨fr, en, l, tx, sub⟩ := e
      simp only at h1
      subst h1
      obtain ⟨h4, h5⟩ : tx = textB [] ∧ x = .list fr en (ps.map (·.2)) := h4
      subst h4 h5
      rw [It.code] at hx
      have hle := listCode_le (codes (ps.map (·.2)))
      have hln := codes_length (ps.map (·.2))
      rw [List.length_map] at hln
      obtain ⟨p, m, c, hs, hm⟩ : ∃ p m c, sub = .slice p m c ∧ m = ps.length := by
        rcases h2 with ⟨h, h', _⟩ | ⟨g, cap, h, _⟩
        · exact ⟨_, _, _, h, h'.symm⟩
        · exact ⟨_, _, _, h, rfl⟩
      simp only at h2
      subst hs
      refine (bare_body d fr en true (textB []) p m c ps F w (by rw [textB_size]; simp) hm (by omega) h2 (fun q hq => (h3 q hq).sub) (fun q hq W hW => ?_)).mono ?_
      · have := codes_mem (List.mem_map_of_mem (f := (·.2)) hq)
        exact ih q.2 q.1 W F ((h3 q hq).below hW) (by omega)
      · rintro e w' ⟨hb, p', m', c', qs, rfl, hr, ht, hq, _⟩
        refine ⟨hb, true, _, p', m', c', rfl, .inr ⟨rfl, qs, hr, ht, rfl, ?_⟩⟩
        rw [It.bare, hq, bares_map, List.map_map]
        rfl
end Go.Proofs.YtjiikjpnlgogfaaGreatDoor
