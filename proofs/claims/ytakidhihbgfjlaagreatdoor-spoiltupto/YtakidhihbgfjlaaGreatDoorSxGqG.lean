/-
  Package twigskeep: Storage: what holds behind its two trees, and what VerifyStorage answers there.
-/
import Derived.Test.YtakidhihbgfjlaaGreatDoorSxOaG
import Derived.Test.YtakidhihbgfjlaaGreatDoorSxSbG
import Derived.Test.YtakidhihbgfjlaaGreatDoorSxFull
import Derived.Test.YtakidhihbgfjlaaGreatDoorSxAuG
namespace Go.Proofs.YtakidhihbgfjlaaGreatDoor
open Go.RowKit
set_option maxRecDepth 100000
set_option maxHeartbeats 25600000
variable {w : World}
theorem StrRow.keep {w' : World} {p : Option Addr} {l : List ByteArray} {c : Nat} (h : StrRow w p l c) (hs : w.heap.size <= w'.heap.size) (hn : ∀ a, p = some a -> a.block < w.heap.size -> w'.heap[a.block]? = w.heap[a.block]?) : StrRow w' p l c := by
 rcases h with h | ⟨g, o, rfl, e2, e3, e4⟩
 ·exact .inl h
 ·refine .inr ⟨g, o, rfl, e2, fun h => Nat.lt_of_lt_of_le (e3 h) hs, fun j u b => ?_⟩
  have d : 0 < l.length := by
   have := (List.getElem?_eq_some_iff.1 b).1
   simp at this
   omega
  rw [World.cell?_of_block (a := ⟨g, o + j, none⟩) (hn ⟨g, o, none⟩ rfl (e3 d))]
  exact e4 j u b
structure StKit (P : World -> Prop) (F : Nat -> Prop) (B : Nat) (J : Wood) : Prop where
 more : ∀ W W', P W -> Below W.heap.size W W' -> P W'
 fr : ∀ W W', P W -> Fr B J J W W' -> P W'
 set : ∀ W W' f, P W -> F f -> Only f W W' -> P W'
 wood : ∀ k, F k -> J k = none
 fresh : ∀ W k, P W -> W.heap.size <= k -> F k
structure FtY (P : World -> Prop) (F : Nat -> Prop) (y0 y1 y2 y3 : Value) (b5 : Bool) (v5 : Value) (b11 : Bool) (v11 : Value) (b14 : Bool) (W : World) : Prop where
 all : P W
 row : b5 = true -> ∃ g, v5 = .slice (some ⟨g, 0, none⟩) 1 1 /\ F g /\ g < W.heap.size /\ StrRow W (some ⟨g, 0, none⟩) [⟨#[120]⟩] 1 /\ (b11 = true -> v11 ≠ .pointer (some ⟨g, 0, none⟩))
 ft : b11 = true -> ∃ f x0 x1 x2 x3, v11 = .pointer (some ⟨f, 0, none⟩) /\ F f /\ W.heap[f]? = some (.cells #[x0, x1, x2, x3] 33 (0, 0)) /\ (b14 = true -> x0 = y0 /\ x1 = y1 /\ x2 = y2 /\ x3 = y3)
 ft14 : b14 = true -> b11 = true
theorem FtY.fr {P : World -> Prop} {F : Nat -> Prop} {B : Nat} {J : Wood} {y0 y1 y2 y3 : Value} {b5 : Bool} {v5 : Value} {b11 : Bool} {v11 : Value} {b14 : Bool} {W W' : World} (k : StKit P F B J) (h : FtY P F y0 y1 y2 y3 b5 v5 b11 v11 b14 W) (hf : Fr B J J W W') : FtY P F y0 y1 y2 y3 b5 v5 b11 v11 b14 W' :=
 ⟨k.fr _ _ h.all hf, fun q => by
   obtain ⟨g, e1, e2, e3, e4, e5⟩ := h.row q
   exact ⟨g, e1, e2, Nat.lt_of_lt_of_le e3 hf.size, e4.frame hf fun a ha => by obtain rfl := Option.some.inj ha; exact k.wood g e2, e5⟩,
  fun q => by
   obtain ⟨f, x0, x1, x2, x3, e1, e2, e3, e4⟩ := h.ft q
   exact ⟨f, x0, x1, x2, x3, e1, e2, (hf.other f (Array.getElem?_eq_some_iff.1 e3).1 (k.wood f e2)).trans e3, e4⟩, h.ft14⟩
theorem FtY.more {P : World -> Prop} {F : Nat -> Prop} {B : Nat} {J : Wood} {y0 y1 y2 y3 : Value} {b5 : Bool} {v5 : Value} {b11 : Bool} {v11 : Value} {b14 : Bool} {W W' : World} (k : StKit P F B J) (h : FtY P F y0 y1 y2 y3 b5 v5 b11 v11 b14 W) (hf : Below W.heap.size W W') : FtY P F y0 y1 y2 y3 b5 v5 b11 v11 b14 W' :=
 ⟨k.more _ _ h.all hf, fun q => by
   obtain ⟨g, e1, e2, e3, e4, e5⟩ := h.row q
   exact ⟨g, e1, e2, Nat.lt_of_lt_of_le e3 hf.size, e4.below hf, e5⟩,
  fun q => by
   obtain ⟨f, x0, x1, x2, x3, e1, e2, e3, e4⟩ := h.ft q
   exact ⟨f, x0, x1, x2, x3, e1, e2, (hf.block f (Array.getElem?_eq_some_iff.1 e3).1).trans e3, e4⟩, h.ft14⟩
theorem FtY.alloc {P : World -> Prop} {F : Nat -> Prop} {B : Nat} {J : Wood} {y0 y1 y2 y3 : Value} {b5 : Bool} {v5 : Value} {b11 : Bool} {v11 : Value} {b14 : Bool} {W : World} (k : StKit P F B J) (h : FtY P F y0 y1 y2 y3 b5 v5 b11 v11 b14 W) (h14 : b14 = false) : FtY P F y0 y1 y2 y3 b5 v5 true (.pointer (some ⟨W.heap.size, 0, none⟩)) b14 (W.alloc (.cells #[.int .i64 0, .int .i64 0, .int .i64 0, .int .i64 0] 33)) := by
 have c := h.more k ((Below.refl W.heap.size W).alloc (Nat.le_refl _) (.cells #[.int .i64 0, .int .i64 0, .int .i64 0, .int .i64 0] 33))
 refine ⟨c.all, fun q => ?_, fun _ => ⟨W.heap.size, _, _, _, _, rfl, k.fresh _ _ h.all (Nat.le_refl _), Array.getElem?_push_size, fun q => (by rw [h14] at q; cases q)⟩, fun _ => rfl⟩
 obtain ⟨g, b, d, f, i, l⟩ := c.row q
 obtain ⟨m, a, _, j, _⟩ := h.row q
 refine ⟨g, b, d, f, i, fun _ e => ?_⟩
 rw [b] at a
 simp only [Value.slice.injEq, Option.some.injEq, Addr.mk.injEq, and_true] at a
 simp only [Value.pointer.injEq, Option.some.injEq, Addr.mk.injEq, and_true] at e
 omega
theorem FtY.set {P : World -> Prop} {F : Nat -> Prop} {B : Nat} {J : Wood} {y0 y1 y2 y3 : Value} {b5 : Bool} {v5 : Value} {b14 : Bool} {W : World} {f : Nat} (k : StKit P F B J) (h : FtY P F y0 y1 y2 y3 b5 v5 true (.pointer (some ⟨f, 0, none⟩)) b14 W) : FtY P F y0 y1 y2 y3 b5 v5 true (.pointer (some ⟨f, 0, none⟩)) true ((((W.setCell ⟨f, 0, none⟩ y0).setCell ⟨f, 1, none⟩ y1).setCell ⟨f, 2, none⟩ y2).setCell ⟨f, 3, none⟩ y3) := by
 obtain ⟨o, p, r, s, t, c, d, i, -⟩ := h.ft rfl
 simp only [Value.pointer.injEq, Option.some.injEq, Addr.mk.injEq, and_true] at c
 subst c
 have e : Only f W ((((W.setCell ⟨f, 0, none⟩ y0).setCell ⟨f, 1, none⟩ y1).setCell ⟨f, 2, none⟩ y2).setCell ⟨f, 3, none⟩ y3) := ⟨rfl, rfl, rfl, by simp, fun k _ b => (((Below.heap_setCell _ _ _ _ b).trans (Below.heap_setCell _ _ _ _ b)).trans (Below.heap_setCell _ _ _ _ b)).trans (Below.heap_setCell _ _ _ _ b)⟩
 refine ⟨k.set _ _ _ h.all d e, fun q => ?_, fun _ => ⟨f, y0, y1, y2, y3, rfl, d, Qfn i _ _ _ _, fun _ => ⟨rfl, rfl, rfl, rfl⟩⟩, fun _ => rfl⟩
 obtain ⟨g, c, d, i, l, j⟩ := h.row q
 exact ⟨g, c, d, Nat.lt_of_lt_of_le i e.size, l.keep e.size (fun a m n => e.block _ n (by obtain rfl := Option.some.inj m; rintro rfl; exact j rfl rfl)), j⟩
variable {P : World -> Prop} {F : Nat -> Prop} {B : Nat} {y0 y1 y2 y3 v5 v11 : Value} {b5 : Bool} {W : World}
theorem FtY.put {J : Wood} {b11 : Bool} {b14 : Bool} {f : Nat} (k : StKit P F B J) (h : FtY P F y0 y1 y2 y3 b5 v5 b11 v11 b14 W) (hb : b11 = true) (hv : v11 = .pointer (some ⟨f, 0, none⟩)) : FtY P F y0 y1 y2 y3 b5 v5 b11 v11 true ((((W.setCell ⟨f, 0, none⟩ y0).setCell ⟨f, 1, none⟩ y1).setCell ⟨f, 2, none⟩ y2).setCell ⟨f, 3, none⟩ y3) := by
 subst hb hv
 exact h.set k
theorem FtY.start {b11 : Bool} {b14 : Bool} (h : P W) (h5 : b5 = false) (h11 : b11 = false) (h14 : b14 = false) : FtY P F y0 y1 y2 y3 b5 v5 b11 v11 b14 W := by
 subst h5 h11 h14
 exact ⟨h, fun q => (by cases q), fun q => (by cases q), fun q => (by cases q)⟩
theorem FtY.fault (h : FtY P F y0 y1 y2 y3 b5 v5 true v11 true W) : ∃ f, v11 = .pointer (some ⟨f, 0, none⟩) /\ F f /\ W.heap[f]? = some (.cells #[y0, y1, y2, y3] 33 (0, 0)) := by
 obtain ⟨f, e, g, i, j, a, b, c, d⟩ := h.ft rfl
 obtain ⟨rfl, rfl, rfl, rfl⟩ := d rfl
 exact ⟨f, a, b, c⟩
theorem Qkr (w : World) (s : ByteArray) : (Instr.buildSlice 23 1 #[(0, .string s)]).run Tryz.prog w = .ok (.slice (some ⟨w.heap.size, 0, none⟩) 1 1) (w.alloc (.cells #[.string s] 9)) := by
 obtain ⟨i, b, c, a, d⟩ := info_parts strZ
 refine run_buildSlice w _ 9 1 _ #[.string s] i (.string ⟨#[]⟩) Tryz.underlying23 b c (by rw [a]; decide) (by rw [a]; decide) ?_
 rw [a]
 have := Great.fill_whole (s := 1) (by decide) [.string s] ((Array.range (1 * 1)).map ((Value.string ⟨#[]⟩).cells[· % (Value.string ⟨#[]⟩).cells.size]!)) (by simp [Value.cells]) (by simp)
 simpa [Value.cells] using this
structure GenQ (w : World) (R : World) (U : Nat -> Prop) (B : Nat) (S : Wood) (bt : Nat) (t : Nd) (W : World) : Prop where
 below : Below w.heap.size w W
 size : R.heap.size <= W.heap.size
 keep : ∀ k, U k -> W.heap[k]? = R.heap[k]?
 wood : Forest B S W
 tree : TreeAt S W bt t
def GenF (w : World) (U : Nat -> Prop) (S : Wood) (bt : Nat) (k : Nat) : Prop := w.heap.size <= k /\ S k = none /\ k ≠ bt /\ ¬ U k
variable {R : World} {U : Nat -> Prop} {S : Wood} {bt : Nat} {t : Nd}
theorem GenQ.kit (hB : w.heap.size <= B) (hU : ∀ k, U k -> k < R.heap.size /\ S k = none) : StKit (GenQ w R U B S bt t) (GenF w U S bt) B S := by
 have g : ∀ W W', GenQ w R U B S bt t W -> Fr B S S W W' -> GenQ w R U B S bt t W' := fun W W' h c =>
  ⟨h.below.trans (((c.x (fun _ => False)).below h.wood fun _ h => h.elim).mono hB), Nat.le_trans h.size c.size, fun k a => (c.other k (Nat.lt_of_lt_of_le (hU k a).1 h.size) (hU k a).2).trans (h.keep k a), c.forest, h.tree.frame c⟩
 refine ⟨fun W W' h i => g W W' h (Fr.of_below h.wood i), g, fun W W' f h b d => ?_, fun k b => b.2.1, fun W k h a => ?_⟩
 ·exact ⟨d.below h.below b.1 h.below.size, Nat.le_trans h.size d.size, fun k a => (d.block k (Nat.lt_of_lt_of_le (hU k a).1 h.size) (fun e => b.2.2.2 (e ▸ a))).trans (h.keep k a), Qbj h.wood d b.2.1, h.tree.only d b.2.2.1.symm⟩
 ·exact ⟨Nat.le_trans h.below.size a, h.wood.fresh a, fun e => by have := h.tree.lt; omega, fun j => by have := (hU k j).1; have := h.size; omega⟩
theorem GenQ.kn (h : GenQ w R U B S bt t W) {C : Nat} {ks vs : Value} {m : Mp} (hk : Kn R C ks vs m) (hb : ∀ j, ks.ownBlock = some j \/ vs.ownBlock = some j -> U j) : Kn W C ks vs m :=
 hk.keep2 h.size fun j hj => h.keep j (hb j hj)
theorem GenQ.next {U' : Nat -> Prop} (h : GenQ w R U B S bt t W) : GenQ w W U' B S bt t W :=
 ⟨h.below, Nat.le_refl _, fun _ _ => rfl, h.wood, h.tree⟩
end Go.Proofs.YtakidhihbgfjlaaGreatDoor
