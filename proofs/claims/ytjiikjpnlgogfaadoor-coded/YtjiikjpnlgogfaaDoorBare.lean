/-
  Bare of package item: the item without its places.
-/
import Derived.Test.YtjiikjpnlgogfaaDoorClone
import Derived.Deep.RegionHeld3
import Derived.Deep.DeepCutAuto
namespace Go.Proofs.YtjiikjpnlgogfaaDoor
open Go.RowKit

abbrev zeroI : Value := .agg #[.bool false, .string ⟨#[]⟩, .slice none 0 0]
theorem infoI : (Tryd.prog.info? 38).map (fun i => (i.zero, i.size, i.bytes)) = some (some zeroI, 3, 48) := by kernel_rfl

theorem Below.undrew {B : Nat} {X w1 : World} (h : Below B X.drew w1) : Below B X w1 := ⟨h.os, h.tape, h.output, h.size, h.block⟩

/-- A new block g with these cells, none frozen; all that was there is as it was. -/
structure Made (W0 : World) (g : Nat) (cs : List Value) (wc : World) : Prop where
  lo : W0.heap.size ≤ g
  hi : g < wc.heap.size
  cells : wc.rangeAt g 0 cs
  free : ∀ j, j < cs.length → wc.frozen? ⟨g, j, none⟩ = false
  below : Below W0.heap.size W0 wc
theorem Made.fresh {W0 w1 : World} (hb : Below W0.heap.size W0 w1) (cs : List Value) (t : TypeId) : Made W0 w1.heap.size cs (w1.alloc (.cells cs.toArray t)) :=
  ⟨hb.size, by simp, rangeAt_new w1 cs t, fun j _ => World.frozen?_alloc_new _ _ _ _, hb.alloc hb.size _⟩
theorem Made.write {W0 w1 : World} {zs : Array Value} {t : TypeId} (hb : Below (W0.alloc (.cells zs t)).heap.size (W0.alloc (.cells zs t)) w1) (cs : List Value) (hl : cs.length = zs.size) : Made W0 W0.heap.size cs (w1.setCells W0.heap.size 0 cs) := by
  have hth : w1.there W0.heap.size 0 cs.length := fun j hj => by
    rw [Nat.zero_add]
    obtain ⟨q, f⟩ := newCell hb j (v := zs[j]'(by omega)) (by rw [Array.getElem?_eq_getElem])
    exact ⟨by rw [q]; rfl, f⟩
  obtain ⟨q1, q2, q3, q4⟩ := size_setCells W0.heap.size cs 0 w1
  have hs := hb.size
  rw [World.size_alloc] at hs
  refine ⟨Nat.le_refl _, by omega, World.rangeAt_setCells_same w1 _ 0 cs hth, fun j hj => ?_, ⟨q2.trans hb.os, q3.trans hb.tape, q4.trans hb.output, by omega, fun k hk => (heap_setCells _ _ _ _ _ (by omega)).trans ((hb.block k (by simp; omega)).trans (Below.heap_alloc _ _ _ hk))⟩⟩
  have := (World.there_setCells hth W0.heap.size 0 cs j hj).2
  rwa [Nat.zero_add] at this

/-- What Bare answers. -/
def BareSaid (d : Nat) (x : It) (W : World) (e : Ending) (w' : World) : Prop :=
  Below W.heap.size W w' ∧ ∃ (l : Bool) (tx : ByteArray) (p : Option Addr) (m c : Nat), e = .returned (valI ⟨0, 0, l, tx, .slice p m c⟩) ∧ Tree encI kB d w' (fun k => W.heap.size ≤ k) ⟨0, 0, l, tx, .slice p m c⟩ x.bare

/-- Made bare so far: the first k. -/
structure BHalf (d g : Nat) (W0 : World) (l : Bool) (tx : ByteArray) (ps : List (El × It)) (k : Nat) (wr : World) (v : Value) (qs : List (El × It)) : Prop where
  lo : W0.heap.size ≤ g
  hi : g < wr.heap.size
  below : Below W0.heap.size W0 wr
  free : ∀ j, j < 3 → wr.frozen? ⟨g, j, none⟩ = false
  c0 : wr.cell? ⟨g, 0, none⟩ = some (.bool l)
  c1 : wr.cell? ⟨g, 1, none⟩ = some (.string tx)
  c2 : wr.cell? ⟨g, 2, none⟩ = some v
  own : OwnC wr W0.heap.size 3 v k (qs.flatMap fun q => encI q.1)
  len : qs.length = k
  out : v.ownBlock ≠ some g
  trees : ∀ q ∈ qs, Tree encI kB d wr (fun b => (W0.heap.size ≤ b ∧ v.ownBlock ≠ some b ∧ b ≠ g) ∧ b < wr.heap.size) q.1 q.2
  codes : qs.map (·.2) = (ps.take k).map (·.2.bare)
  plain : ∀ b, v.ownBlock = some b → Plain wr b
  naught : k = 0 → v = .slice none 0 0

theorem BHalf.more {d g : Nat} {W0 : World} {l : Bool} {tx : ByteArray} {ps : List (El × It)} {k : Nat} {wr W w1 w2 : World} {v v2 : Value} {qs : List (El × It)} {o2 : Obj} {e : El} {c : It} (h : BHalf d g W0 l tx ps k wr v qs) (hk : k < ps.length)
    (hW : Below wr.heap.size wr W) (hb1 : Below W.heap.size W w1) (hT : Tree encI kB d w1 (fun b => W.heap.size ≤ b) e c) (hc : c = ps[k].2.bare)
    (hO2 : OwnC w2 W0.heap.size 3 v2 (k + 1) ((qs.flatMap fun q => encI q.1) ++ encI e)) (hg : (w1.alloc o2).grownBy w2 v.ownBlock) (hf : ∀ b, v2.ownBlock = some b → v.ownBlock = some b ∨ (w1.alloc o2).heap.size ≤ b) (hP : ∀ b, v2.ownBlock = some b → Plain w2 b) :
    BHalf d g W0 l tx ps (k + 1) (w2.setCell ⟨g, 2, none⟩ v2) v2 (qs ++ [(e, c)]) := by
  have hs0 := h.lo
  have hs1 := h.hi
  have hs2 := hW.size
  have hs3 := hb1.size
  have hs4 := hg.size
  simp only [World.size_alloc] at hs4 hf
  have hblk : ∀ b, b < w1.heap.size → v.ownBlock ≠ some b → w2.heap[b]? = w1.heap[b]? := fun b hb hne =>
    (hg.block b (by simp; omega) (fun e => hne e.symm)).trans (Below.heap_alloc _ _ _ hb)
  have hgb : w2.heap[g]? = wr.heap[g]? := (hblk g (by omega) h.out).trans ((hb1.block g (by omega)).trans (hW.block g hs1))
  have hg2 : v2.ownBlock ≠ some g := fun e => by
    rcases hf g e with e | e
    · exact h.out e
    · omega
  have hcell : ∀ j u, wr.cell? ⟨g, j, none⟩ = some u → w2.cell? ⟨g, j, none⟩ = some u := fun j u hu => (World.cell?_of_block hgb).trans hu
  have hset : ∀ b, b ≠ g → (w2.setCell ⟨g, 2, none⟩ v2).heap[b]? = w2.heap[b]? := fun b hb => Below.heap_setCell _ _ _ _ hb
  refine ⟨hs0, by simp; omega, ?_, fun j hj => ?_, ?_, ?_, ?_, ?_, by simp [h.len], hg2, ?_, ?_, fun b hb => (hP b hb).setCell _ _, by omega⟩
  · refine Below.setCell ?_ (by simp only; omega) _
    have hB1 : Below W0.heap.size W0 w1 := (h.below.trans (hW.mono (by omega))).trans (hb1.mono (by omega))
    exact (hB1.alloc (by omega) o2).trans ⟨hg.os, hg.tape, hg.output, hg.size, fun b hb => hg.block b (by simp; omega) (fun e => by have := (h.own.block b e.symm).1; omega)⟩
  · rw [World.frozen?_setCell, World.frozen?_of_block hgb]
    exact h.free j hj
  · exact (World.cell?_setCell_other _ _ _ _ (by simp)).trans (hcell 0 _ h.c0)
  · exact (World.cell?_setCell_other _ _ _ _ (by simp)).trans (hcell 1 _ h.c1)
  · exact World.cell?_setCell_same _ _ _ (hcell 2 _ h.c2)
  · have := hO2.keep (w' := w2.setCell ⟨g, 2, none⟩ v2) (by simp) (fun b _ hb => hset b (fun e => hg2 (e ▸ hb)))
    simpa using this
  · intro q hq
    rcases List.mem_append.1 hq with hq | hq
    · refine Tree.keep (fun b hb => ?_) (by simp; omega) (fun b hb hbs => (hset b hb.1.2.2).trans ((hblk b (by omega) hb.1.2.1).trans ((hb1.block b (by omega)).trans (hW.block b hbs)))) d (h.trees q hq)
      refine ⟨⟨hb.1.1, fun e => ?_, hb.1.2.2⟩, by simp; omega⟩
      rcases hf b e with e | e
      · exact hb.1.2.1 e
      · omega
    · obtain rfl := List.mem_singleton.1 hq
      refine Tree.keep (fun b hb => ?_) (by simp; omega) (fun b hb hbs => (hset b (by have := hb.1; omega)).trans (hblk b hbs (fun e => by have := (h.own.block b e).2; have := hb.1; omega))) d hT.bound
      have hb1 := hb.1
      have hb2 := hb.2
      refine ⟨⟨by omega, fun e => ?_, by omega⟩, by simp; omega⟩
      rcases hf b e with e | e
      · have := (h.own.block b e).2; omega
      · omega
  · rw [List.map_append, h.codes, hc, ← List.take_append_getElem hk, List.map_append]
    rfl

theorem step_append_ownp {P : Program} (w : World) {ops : Array Oper} {o : Oper} {a : Act} {K : Act → World → Prop} {Q : Exit → Act → World → Prop} {E : Prop} (hgd : o.guard = none) (s x : Operand) (t : TypeId)
    (ho : o.op = .call { callee := .builtin .append, args := #[s, x], argTypes := #[t, t] })
    (e : TypeId) (i : TypeInfo) (z : Value) (size bytes : Nat) (ht : P.underlying t = some (.slice e)) (hi : P.info? e = some i) (hz : i.zero = some z) (hsize : i.size = size) (hby : i.bytes = bytes) (hzs : z.cells.size = size) (hsz : 0 < size)
    (B : Nat) (v : Value) (n : Nat) (cs : List Value) (hs : a.eval s = v) (hown : OwnC w B size v n cs) (b p m c : Nat) (news : List Value) (hx : a.eval x = .slice (some ⟨b, p, none⟩) m c)
    (hl : news.length = m * size) (hnews : w.rangeAt b p news) (h1 : ∀ u ∈ news, u.oneCell' = true) (hm : n + m ≤ maxLen) (hb : (n + m) * bytes ≤ 140737488355328) (hB : B ≤ w.heap.size)
    (hK : ∀ v' w', OwnC w' B size v' (n + m) (cs ++ news) → w.grownBy w' v.ownBlock → (∀ k, v'.ownBlock = Option.some k → v.ownBlock = Option.some k ∨ w.heap.size ≤ k) → ((∀ k, v.ownBlock = Option.some k → Plain w k) → ∀ k, v'.ownBlock = Option.some k → Plain w' k) → K (a.put o.dst v') w') :
    if Region.wanted o (yielded ops a.tmps) = true then Oper.wp P o a w K Q else E := by
  have hw : Region.wanted o (yielded ops a.tmps) = true := by simp [Region.wanted, hgd]
  rw [if_pos hw]
  obtain ⟨v', w', hrun, r1, r2, r3, r4⟩ := run_append_ownp (P := P) w t o.type e i z size bytes ht hi hz hsize hby hzs hsz B v n cs hown b p m c news hl hnews h1 hm hb hB
  unfold Oper.wp
  simp [execOp, ho, resolve, invoke, builtin, hs, hx, hrun, Result.andThen]
  exact hK v' w' r1 r2 r3 r4
end Go.Proofs.YtjiikjpnlgogfaaDoor
