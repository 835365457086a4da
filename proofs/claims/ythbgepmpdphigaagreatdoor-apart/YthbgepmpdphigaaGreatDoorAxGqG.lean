/-
  Package twigskeep: Storage: what holds behind its two trees, and what VerifyStorage answers there.
-/
import Derived.Test.YthbgepmpdphigaaGreatDoorAxOaG
import Derived.Test.YthbgepmpdphigaaGreatDoorAxSbG
import Derived.Test.YthbgepmpdphigaaGreatDoorAxFull
import Derived.Test.YthbgepmpdphigaaGreatDoorAxAuG
import Derived.Test.YthbgepmpdphigaaGreatDoorAxRtG
namespace Go.Proofs.YthbgepmpdphigaaGreatDoor
open Go.RowKit
set_option maxRecDepth 100000
set_option maxHeartbeats 25600000
variable {B : Nat} {S : Wood} {w : World} {t : Nd}
theorem Qq8 {b : Nat} {K : Array Nat} (hf : Forest B S w) (hTb : Tabs w) (hM : 15 <= B) (ht : TreeAt S w b t) (hc : t.can 64) (hK : K.size = 32) (hKb : Bytes K) {L : List (List Nat)} (hL : t.prove (textB (nibs K.toList)) = L) :
  Calls Tryz.prog 12 #[.pointer (some ⟨b, 0, none⟩), .agg (K.toList.map encB).toArray] w fun x w' => ∃ p c, x = .returned (.tuple #[.slice p L.length c, .int .i64 0]) /\ Fr B S S w w' /\ StrRow w' p (L.map textB) c /\ ∀ a, p = some a -> w.heap.size <= a.block /\ a.block < w'.heap.size := by
 refine (Qjl hf hTb hM ht hc hK hKb hL).mono ?_
 rintro e w' ⟨l, rfl, h, f⟩
 obtain ⟨p, c, rfl, k, j⟩ := Qtz f
 refine ⟨p, c, rfl, h, k, fun a d => ?_⟩
 obtain ⟨g, i⟩ := j (by rw [d]; rfl)
 rw [d] at i
 obtain rfl := Option.some.inj i
 exact f.block g (by rw [d]; rfl)
theorem StrRow.keep {w' : World} {p : Option Addr} {l : List ByteArray} {c : Nat} (h : StrRow w p l c) (hs : w.heap.size <= w'.heap.size) (hn : ∀ a, p = some a -> a.block < w.heap.size -> w'.heap[a.block]? = w.heap[a.block]?) : StrRow w' p l c := by
 rcases h with h | ⟨g, o, rfl, e2, e3, e4⟩
 ·exact .inl h
 ·refine .inr ⟨g, o, rfl, e2, fun h => Nat.lt_of_lt_of_le (e3 h) hs, fun j u b => ?_⟩
  have d : 0 < l.length := by
   have := (List.getElem?_eq_some_iff.1 b).1
   simp at this
   omega
  rw [World.cell?_of_block (a := ⟨g, o + j, none⟩) (hn ⟨g, o, none⟩ rfl (e3 d))]
  exact e4 j u b
structure StKit (P : World -> Prop) (F : Nat -> Prop) (B : Nat) (J : Wood) : Prop where
 more : ∀ W W', P W -> Below W.heap.size W W' -> P W'
 fr : ∀ W W', P W -> Fr B J J W W' -> P W'
 set : ∀ W W' f, P W -> F f -> Only f W W' -> P W'
 wood : ∀ k, F k -> J k = none
 fresh : ∀ W k, P W -> W.heap.size <= k -> F k
structure FtY (P : World -> Prop) (F : Nat -> Prop) (y0 y1 y2 y3 : Value) (b5 : Bool) (v5 : Value) (b11 : Bool) (v11 : Value) (b14 : Bool) (W : World) : Prop where
 all : P W
 row : b5 = true -> ∃ g, v5 = .slice (some ⟨g, 0, none⟩) 1 1 /\ F g /\ g < W.heap.size /\ StrRow W (some ⟨g, 0, none⟩) [⟨#[120]⟩] 1 /\ (b11 = true -> v11 ≠ .pointer (some ⟨g, 0, none⟩))
 ft : b11 = true -> ∃ f x0 x1 x2 x3, v11 = .pointer (some ⟨f, 0, none⟩) /\ F f /\ W.heap[f]? = some (.cells #[x0, x1, x2, x3] 35 (0, 0)) /\ (b14 = true -> x0 = y0 /\ x1 = y1 /\ x2 = y2 /\ x3 = y3)
 ft14 : b14 = true -> b11 = true
theorem FtY.fr {P : World -> Prop} {F : Nat -> Prop} {B : Nat} {J : Wood} {y0 y1 y2 y3 : Value} {b5 : Bool} {v5 : Value} {b11 : Bool} {v11 : Value} {b14 : Bool} {W W' : World} (k : StKit P F B J) (h : FtY P F y0 y1 y2 y3 b5 v5 b11 v11 b14 W) (hf : Fr B J J W W') : FtY P F y0 y1 y2 y3 b5 v5 b11 v11 b14 W' :=
 ⟨k.fr _ _ h.all hf, fun q => by
   obtain ⟨g, e1, e2, e3, e4, e5⟩ := h.row q
   exact ⟨g, e1, e2, Nat.lt_of_lt_of_le e3 hf.size, e4.frame hf fun a ha => by obtain rfl := Option.some.inj ha; exact k.wood g e2, e5⟩,
  fun q => by
   obtain ⟨f, x0, x1, x2, x3, e1, e2, e3, e4⟩ := h.ft q
   exact ⟨f, x0, x1, x2, x3, e1, e2, (hf.other f (Array.getElem?_eq_some_iff.1 e3).1 (k.wood f e2)).trans e3, e4⟩, h.ft14⟩
theorem FtY.more {P : World -> Prop} {F : Nat -> Prop} {B : Nat} {J : Wood} {y0 y1 y2 y3 : Value} {b5 : Bool} {v5 : Value} {b11 : Bool} {v11 : Value} {b14 : Bool} {W W' : World} (k : StKit P F B J) (h : FtY P F y0 y1 y2 y3 b5 v5 b11 v11 b14 W) (hf : Below W.heap.size W W') : FtY P F y0 y1 y2 y3 b5 v5 b11 v11 b14 W' :=
 ⟨k.more _ _ h.all hf, fun q => by
   obtain ⟨g, e1, e2, e3, e4, e5⟩ := h.row q
   exact ⟨g, e1, e2, Nat.lt_of_lt_of_le e3 hf.size, e4.below hf, e5⟩,
  fun q => by
   obtain ⟨f, x0, x1, x2, x3, e1, e2, e3, e4⟩ := h.ft q
   exact ⟨f, x0, x1, x2, x3, e1, e2, (hf.block f (Array.getElem?_eq_some_iff.1 e3).1).trans e3, e4⟩, h.ft14⟩
theorem FtY.alloc {P : World -> Prop} {F : Nat -> Prop} {B : Nat} {J : Wood} {y0 y1 y2 y3 : Value} {b5 : Bool} {v5 : Value} {b11 : Bool} {v11 : Value} {b14 : Bool} {W : World} (k : StKit P F B J) (h : FtY P F y0 y1 y2 y3 b5 v5 b11 v11 b14 W) (h14 : b14 = false) : FtY P F y0 y1 y2 y3 b5 v5 true (.pointer (some ⟨W.heap.size, 0, none⟩)) b14 (W.alloc (.cells #[.int .i64 0, .int .i64 0, .int .i64 0, .int .i64 0] 35)) := by
 have c := h.more k ((Below.refl W.heap.size W).alloc (Nat.le_refl _) (.cells #[.int .i64 0, .int .i64 0, .int .i64 0, .int .i64 0] 35))
 refine ⟨c.all, fun q => ?_, fun _ => ⟨W.heap.size, _, _, _, _, rfl, k.fresh _ _ h.all (Nat.le_refl _), Array.getElem?_push_size, fun q => (by rw [h14] at q; cases q)⟩, fun _ => rfl⟩
 obtain ⟨g, b, d, f, i, l⟩ := c.row q
 obtain ⟨m, a, _, j, _⟩ := h.row q
 refine ⟨g, b, d, f, i, fun _ e => ?_⟩
 rw [b] at a
 simp only [Value.slice.injEq, Option.some.injEq, Addr.mk.injEq, and_true] at a
 simp only [Value.pointer.injEq, Option.some.injEq, Addr.mk.injEq, and_true] at e
 omega
theorem FtY.set {P : World -> Prop} {F : Nat -> Prop} {B : Nat} {J : Wood} {y0 y1 y2 y3 : Value} {b5 : Bool} {v5 : Value} {b14 : Bool} {W : World} {f : Nat} (k : StKit P F B J) (h : FtY P F y0 y1 y2 y3 b5 v5 true (.pointer (some ⟨f, 0, none⟩)) b14 W) : FtY P F y0 y1 y2 y3 b5 v5 true (.pointer (some ⟨f, 0, none⟩)) true ((((W.setCell ⟨f, 0, none⟩ y0).setCell ⟨f, 1, none⟩ y1).setCell ⟨f, 2, none⟩ y2).setCell ⟨f, 3, none⟩ y3) := by
 obtain ⟨o, p, r, s, t, c, d, i, -⟩ := h.ft rfl
 simp only [Value.pointer.injEq, Option.some.injEq, Addr.mk.injEq, and_true] at c
 subst c
 have e : Only f W ((((W.setCell ⟨f, 0, none⟩ y0).setCell ⟨f, 1, none⟩ y1).setCell ⟨f, 2, none⟩ y2).setCell ⟨f, 3, none⟩ y3) := ⟨rfl, rfl, rfl, by simp, fun k _ b => (((Below.heap_setCell _ _ _ _ b).trans (Below.heap_setCell _ _ _ _ b)).trans (Below.heap_setCell _ _ _ _ b)).trans (Below.heap_setCell _ _ _ _ b)⟩
 refine ⟨k.set _ _ _ h.all d e, fun q => ?_, fun _ => ⟨f, y0, y1, y2, y3, rfl, d, Qhr i _ _ _ _, fun _ => ⟨rfl, rfl, rfl, rfl⟩⟩, fun _ => rfl⟩
 obtain ⟨g, c, d, i, l, j⟩ := h.row q
 exact ⟨g, c, d, Nat.lt_of_lt_of_le i e.size, l.keep e.size (fun a m n => e.block _ n (by obtain rfl := Option.some.inj m; rintro rfl; exact j rfl rfl)), j⟩
variable {P : World -> Prop} {F : Nat -> Prop} {y0 y1 y2 y3 v5 v11 : Value} {b5 : Bool} {W : World}
theorem FtY.put {J : Wood} {b11 : Bool} {b14 : Bool} {f : Nat} (k : StKit P F B J) (h : FtY P F y0 y1 y2 y3 b5 v5 b11 v11 b14 W) (hb : b11 = true) (hv : v11 = .pointer (some ⟨f, 0, none⟩)) : FtY P F y0 y1 y2 y3 b5 v5 b11 v11 true ((((W.setCell ⟨f, 0, none⟩ y0).setCell ⟨f, 1, none⟩ y1).setCell ⟨f, 2, none⟩ y2).setCell ⟨f, 3, none⟩ y3) := by
 subst hb hv
 exact h.set k
theorem FtY.start {b11 : Bool} {b14 : Bool} (h : P W) (h5 : b5 = false) (h11 : b11 = false) (h14 : b14 = false) : FtY P F y0 y1 y2 y3 b5 v5 b11 v11 b14 W := by
 subst h5 h11 h14
 exact ⟨h, fun q => (by cases q), fun q => (by cases q), fun q => (by cases q)⟩
theorem FtY.fault (h : FtY P F y0 y1 y2 y3 b5 v5 true v11 true W) : ∃ f, v11 = .pointer (some ⟨f, 0, none⟩) /\ F f /\ W.heap[f]? = some (.cells #[y0, y1, y2, y3] 35 (0, 0)) := by
 obtain ⟨f, e, g, i, j, a, b, c, d⟩ := h.ft rfl
 obtain ⟨rfl, rfl, rfl, rfl⟩ := d rfl
 exact ⟨f, a, b, c⟩
structure GenQ (w : World) (R : World) (U : Nat -> Prop) (B : Nat) (S : Wood) (bt : Nat) (t : Nd) (W : World) : Prop where
 below : Below w.heap.size w W
 size : R.heap.size <= W.heap.size
 keep : ∀ k, U k -> W.heap[k]? = R.heap[k]?
 wood : Forest B S W
 tree : TreeAt S W bt t
def GenF (w : World) (U : Nat -> Prop) (S : Wood) (bt : Nat) (k : Nat) : Prop := w.heap.size <= k /\ S k = none /\ k ≠ bt /\ ¬ U k
variable {U : Nat -> Prop}
theorem GenQ.kit {R : World} {bt : Nat} (hB : w.heap.size <= B) (hU : ∀ k, U k -> k < R.heap.size /\ S k = none) : StKit (GenQ w R U B S bt t) (GenF w U S bt) B S := by
 have g : ∀ W W', GenQ w R U B S bt t W -> Fr B S S W W' -> GenQ w R U B S bt t W' := fun W W' h c =>
  ⟨h.below.trans (((c.x (fun _ => False)).below h.wood fun _ h => h.elim).mono hB), Nat.le_trans h.size c.size, fun k a => (c.other k (Nat.lt_of_lt_of_le (hU k a).1 h.size) (hU k a).2).trans (h.keep k a), c.forest, h.tree.frame c⟩
 refine ⟨fun W W' h i => g W W' h (Fr.of_below h.wood i), g, fun W W' f h b d => ?_, fun k b => b.2.1, fun W k h a => ?_⟩
 ·exact ⟨d.below h.below b.1 h.below.size, Nat.le_trans h.size d.size, fun k a => (d.block k (Nat.lt_of_lt_of_le (hU k a).1 h.size) (fun e => b.2.2.2 (e ▸ a))).trans (h.keep k a), Qbh h.wood d b.2.1, h.tree.only d b.2.2.1.symm⟩
 ·exact ⟨Nat.le_trans h.below.size a, h.wood.fresh a, fun e => by have := h.tree.lt; omega, fun j => by have := (hU k j).1; have := h.size; omega⟩
theorem GenQ.kn {R : World} {bt : Nat} (h : GenQ w R U B S bt t W) {C : Nat} {ks vs : Value} {m : Mp} (hk : Kn R C ks vs m) (hb : ∀ j, ks.ownBlock = some j \/ vs.ownBlock = some j -> U j) : Kn W C ks vs m :=
 hk.keep2 h.size fun j hj => h.keep j (hb j hj)
theorem Qam {P : Program} {o : Oper} {a : Act} {v : Value} {S : World -> Prop} {Q : Exit -> Act -> World -> Prop} (hS : S W) (h : o.wp P a W (fun a' w' => a' = a.put o.dst v /\ w' = W) Q) : o.wp P a W (fun a' w' => a' = a.put o.dst v /\ S w') Q :=
 Oper.wp_mono (by rintro a' w' ⟨rfl, rfl⟩; exact ⟨rfl, hS⟩) h
theorem Qq9 {a : Act} {k : Nat} {v : Value} (h : a.tmps[k]? = some v) : a.eval (.tmp k) = v := by simp only [Act.eval, Array.getD_eq_getD_getElem?, h, Option.getD_some]
theorem Tells.only {S : Wood} {w w' : World} {b f : Nat} {g : List Nat -> Option ByteArray} (h : Tells S w b g) (ho : Only f w w') (hf : b ≠ f) : Tells S w' b g := by
 obtain ⟨t, a, c, d⟩ := h.ex
 exact ⟨t, a.only ho hf, c, d⟩
theorem Step.only {b lo hi : Nat} {w' : World} (h : Step b lo hi w w') : Only b w w' := ⟨h.os, h.tape, h.output, h.size, h.block⟩
structure ApX (w : World) (U : Nat -> Prop) (B bt bu bw bp gb : Nat) : Prop where
 base : w.heap.size <= B
 ub : B <= bu
 gB : B <= gb
 ut : bu ≠ bt
 uw : bu ≠ bw
 up : bu ≠ bp
 ug : bu ≠ gb
 gt : gb ≠ bt
 gw : gb ≠ bw
 gp : gb ≠ bp
 uU : ¬ U bu
 gU : ¬ U gb
structure ApS (w R : World) (U : Nat -> Prop) (B bt bu bw bp gb : Nat) (t ww : Nd) (gu : List Nat -> Option ByteArray) (J : Wood) (W : World) : Prop where
 q : GenQ w R U B J bt t W
 u : Tells J W bu gu
 two : TreeAt J W bw ww
 p : TreeAt J W bp t
 g : ∃ st, Hs W gb st
 gl : gb < W.heap.size /\ J gb = none
 uj : ∀ k, U k -> k < R.heap.size /\ J k = none
def ApF (w : World) (U : Nat -> Prop) (bt bu bw bp gb : Nat) (J : Wood) (k : Nat) : Prop := GenF w U J bt k /\ k ≠ bu /\ k ≠ bw /\ k ≠ bp /\ k ≠ gb
section
variable {w R : World} {U : Nat -> Prop} {B bt bu bw bp gb : Nat} {t ww : Nd} {gu : List Nat -> Option ByteArray} {J : Wood} {W W' : World}
theorem ApS.fr (h : ApS w R U B bt bu bw bp gb t ww gu J W) (hB : w.heap.size <= B) (hf : Fr B J J W W') : ApS w R U B bt bu bw bp gb t ww gu J W' := by
 obtain ⟨b, a⟩ := h.g
 exact ⟨(GenQ.kit hB h.uj).fr _ _ h.q hf, h.u.framex (hf.x fun _ => False) (fun h => h), h.two.frame hf, h.p.frame hf, ⟨b, a.block (hf.other gb h.gl.1 h.gl.2)⟩, ⟨Nat.lt_of_lt_of_le h.gl.1 hf.size, h.gl.2⟩, h.uj⟩
theorem ApS.more (h : ApS w R U B bt bu bw bp gb t ww gu J W) (hB : w.heap.size <= B) (hb : Below W.heap.size W W') : ApS w R U B bt bu bw bp gb t ww gu J W' := h.fr hB (Fr.of_below h.q.wood hb)
theorem ApS.only {f : Nat} (h : ApS w R U B bt bu bw bp gb t ww gu J W) (hB : w.heap.size <= B) (hF : ApF w U bt bu bw bp gb J f) (ho : Only f W W') : ApS w R U B bt bu bw bp gb t ww gu J W' := by
 obtain ⟨b, a⟩ := h.g
 exact ⟨(GenQ.kit hB h.uj).set _ _ f h.q hF.1 ho, h.u.only ho hF.2.1.symm, h.two.only ho hF.2.2.1.symm, h.p.only ho hF.2.2.2.1.symm, ⟨b, a.block (ho.block gb h.gl.1 hF.2.2.2.2.symm)⟩, ⟨Nat.lt_of_lt_of_le h.gl.1 ho.size, h.gl.2⟩, h.uj⟩
theorem ApS.kit (hX : ApX w U B bt bu bw bp gb) : StKit (ApS w R U B bt bu bw bp gb t ww gu J) (ApF w U bt bu bw bp gb J) B J := by
 refine ⟨fun _ _ h c => h.more hX.base c, fun _ _ h d => h.fr hX.base d, fun _ _ f h a g => h.only hX.base a g, fun k a => a.1.2.1, fun W k h e => ?_⟩
 have b := h.two.lt
 have i := h.p.lt
 have j := h.gl.1
 have l : bu < W.heap.size := by
  obtain ⟨t, b, -⟩ := h.u.ex
  exact b.lt
 exact ⟨(GenQ.kit hX.base h.uj).fresh W k h.q e, by omega, by omega, by omega, by omega⟩
theorem ApS.turn {gu' : List Nat -> Option ByteArray} {J' : Wood} (h : ApS w R U B bt bu bw bp gb t ww gu J W) (hX : ApX w U B bt bu bw bp gb) (hf : FrX B (· = bu) J J' W W') (hu : Tells J' W' bu gu') : ApS w R U B bt bu bw bp gb t ww gu' J' W' := by
 obtain ⟨d, c⟩ := h.g
 have b := h.q.size
 refine ⟨⟨h.q.below.trans ((hf.below h.q.wood (fun k a => by rw [a]; exact hX.ub)).mono hX.base), Nat.le_trans b hf.size, fun k a => (hf.other k (Nat.lt_of_lt_of_le (h.uj k a).1 b) (h.uj k a).2 (fun e => hX.uU (e ▸ a))).trans (h.q.keep k a), hf.forest, h.q.tree.framex hf hX.ut.symm⟩, hu, h.two.framex hf hX.uw.symm, h.p.framex hf hX.up.symm, ⟨d, c.block (hf.other gb h.gl.1 h.gl.2 hX.ug.symm)⟩, ⟨Nat.lt_of_lt_of_le h.gl.1 hf.size, hf.new gb h.gl.1 h.gl.2⟩, fun k a => ⟨(h.uj k a).1, hf.new k (Nat.lt_of_lt_of_le (h.uj k a).1 b) (h.uj k a).2⟩⟩
theorem ApS.wrote {st : HSt} (h : ApS w R U B bt bu bw bp gb t ww gu J W) (hX : ApX w U B bt bu bw bp gb) (ho : Only gb W W') (hg : Hs W' gb st) : ApS w R U B bt bu bw bp gb t ww gu J W' := by
 have b := h.q.size
 refine ⟨⟨ho.below h.q.below (Nat.le_trans hX.base hX.gB) h.q.below.size, Nat.le_trans b ho.size, fun k a => (ho.block k (Nat.lt_of_lt_of_le (h.uj k a).1 b) (fun e => hX.gU (e ▸ a))).trans (h.q.keep k a), Qbh h.q.wood ho h.gl.2, h.q.tree.only ho hX.gt.symm⟩, h.u.only ho hX.ug, h.two.only ho hX.gw.symm, h.p.only ho hX.gp.symm, ⟨st, hg⟩, ⟨Nat.lt_of_lt_of_le h.gl.1 ho.size, h.gl.2⟩, h.uj⟩
theorem ApS.rowKit (hX : ApX w U B bt bu bw bp gb) {p : Option Addr} {l : List ByteArray} {c : Nat} (hJ : ∀ a, p = some a -> J a.block = none) : StKit (fun W => ApS w R U B bt bu bw bp gb t ww gu J W /\ StrRow W p l c /\ ∀ a, p = some a -> a.block < W.heap.size) (fun f => ApF w U bt bu bw bp gb J f /\ ∀ a, p = some a -> f ≠ a.block) B J := by
 have k := ApS.kit (w := w) (R := R) (t := t) (ww := ww) (gu := gu) (J := J) hX
 have m : ∀ W d, (ApS w R U B bt bu bw bp gb t ww gu J W /\ StrRow W p l c /\ ∀ a, p = some a -> a.block < W.heap.size) -> Fr B J J W d -> (ApS w R U B bt bu bw bp gb t ww gu J d /\ StrRow d p l c /\ ∀ a, p = some a -> a.block < d.heap.size) := fun W d h g => ⟨k.fr _ _ h.1 g, h.2.1.keep g.size fun a b n => g.other a.block n (hJ a b), fun a b => Nat.lt_of_lt_of_le (h.2.2 a b) g.size⟩
 refine ⟨fun W d h o => m W d h (Fr.of_below h.1.q.wood o), m, fun W d f h e i => ⟨k.set _ _ f h.1 e.1 i, h.2.1.keep i.size fun a b n => i.block a.block n (e.2 a b).symm, fun a b => Nat.lt_of_lt_of_le (h.2.2 a b) i.size⟩, fun j e => k.wood j e.1, fun W j h r => ⟨k.fresh W j h.1 r, fun a b => by have := h.2.2 a b; omega⟩⟩
end
end Go.Proofs.YthbgepmpdphigaaGreatDoor
