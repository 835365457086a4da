/-
  Package storage: keyOf, the key of a name; package twigskeep: hashed, named.
  Package twigskeep: Storage: what holds on its way.
  Package twigskeep: Storage: what holds behind its two trees, and what VerifyStorage answers there.
  What holds over calls: a tree in its wood, and blocks that are as they were in a world before.
-/
import Derived.Test.YtjiikjpnlgogfaaGreatDoorSdKnG
import Derived.Test.YtjiikjpnlgogfaaGreatDoorSdAccH
import Derived.Test.YtjiikjpnlgogfaaGreatDoorSdVeA
import Derived.Test.YtjiikjpnlgogfaaGreatDoorSdVfO
import Derived.Test.YtjiikjpnlgogfaaGreatDoorSdAccT
import Derived.Test.YtjiikjpnlgogfaaGreatDoorSdOhG
import Derived.Test.YtjiikjpnlgogfaaGreatDoorSdSbG
import Derived.Test.YtjiikjpnlgogfaaGreatDoorSdFull
namespace Go.Proofs.YtjiikjpnlgogfaaGreatDoor
open Go.RowKit
theorem name_loads {W : World} {b n : Nat} {l : List Nat} (hb : W.rangeAt b 0 (l.map encB)) (hn : n = l.length) : Sem.run Tryz.prog (convert 111 9 (.slice (some ⟨b, 0, none⟩) n n)) W = .ok (.string (textB l)) W :=
 run_range_text (P := Tryz.prog) W 111 9 5 Tryz.underlying111 Tryz.underlying5 Tryz.underlying9 hb n n hn
end Go.Proofs.YtjiikjpnlgogfaaGreatDoor
namespace Go.Proofs.YtjiikjpnlgogfaaGreatDoor
open Go.RowKit
theorem Kn.keep2 {w w' : World} {C : Nat} {ks vs : Value} {m : Mp} (h : Kn w C ks vs m) (hs : w.heap.size ≤ w'.heap.size) (hb : ∀ j, ks.ownBlock = some j ∨ vs.ownBlock = some j → w'.heap[j]? = w.heap[j]?) : Kn w' C ks vs m :=
 ⟨h.keys.keep hs fun j _ e => hb j (.inl e), h.vals.keep hs fun j _ e => hb j (.inr e), h.ok, h.apart⟩
theorem laid_feed (w : World) (s : ByteArray) : FeedAt (w.alloc (.cells #[.string s, .int .i64 0] 30)) w.heap.size s :=
 ⟨by simp, by rw [World.cell?_alloc_new]; rfl, ⟨0, by rw [World.cell?_alloc_new]; rfl, Nat.zero_le _⟩, World.frozen?_alloc_new _ _ _ _⟩
def intOf : Value → Int
 | .int _ z => z
 | _ => 0
@[simp, go_sem] theorem intOf_int (k : IntKind) (z : Int) : intOf (.int k z) = z := rfl
theorem box_cells {w : World} {n : Nat} {x y : Value} (h : w.heap[n]? = some (.cells #[x, y] 54 (0, 0))) : w.cell? ⟨n, 0, none⟩ = some x ∧ w.cell? ⟨n, 1, none⟩ = some y ∧ w.frozen? ⟨n, 0, none⟩ = false ∧ w.frozen? ⟨n, 1, none⟩ = false := by
 refine ⟨?_, ?_, ?_, ?_⟩ <;> simp [World.cell?, World.frozen?, h]
theorem forest_only {B : Nat} {S : Wood} {w w' : World} {g : Nat} (hf : Forest B S w) (ho : Only g w w') (hg : S g = none) : Forest B S w' := hf.keep ho.size fun k t hk => ho.block k (hf.lt hk) (fun e => by rw [e, hg] at hk; cases hk)
theorem TreeAt.only {S : Wood} {w w' : World} {g b : Nat} {t : Nd} (h : TreeAt S w b t) (ho : Only g w w') (hne : b ≠ g) : TreeAt S w' b t := by
 have hl := h.lt
 obtain ⟨h1, v, h2, h3⟩ := h
 exact ⟨h1, v, h2, (ho.block b hl hne).trans h3⟩
end Go.Proofs.YtjiikjpnlgogfaaGreatDoor
namespace Go.Proofs.YtjiikjpnlgogfaaGreatDoor
open Go.RowKit
theorem xprove_row {B : Nat} {S : Wood} {w : World} {b : Nat} {t : Nd} {K : Array Nat} (hf : Forest B S w) (hTb : Tabs w) (hM : 16 ≤ B) (ht : TreeAt S w b t) (hc : t.can 64) (hK : K.size = 32) (hKb : Bytes K) {L : List (List Nat)} (hL : t.prove (textB (nibs K.toList)) = L) :
  Calls Tryz.prog 29 #[.pointer (some ⟨b, 0, none⟩), .agg (K.toList.map encB).toArray] w fun x w' => ∃ p c, x = .returned (.tuple #[.slice p L.length c, .int .i64 0]) ∧ Fr B S S w w' ∧ StrRow w' p (L.map textB) c ∧ ∀ a, p = some a → w.heap.size ≤ a.block ∧ a.block < w'.heap.size := by
 refine (xprove_any hf hTb hM ht hc hK hKb hL).mono ?_
 rintro e w' ⟨res, rfl, hfr, hO⟩
 obtain ⟨p, c, rfl, hr, hp⟩ := strRow_of hO
 refine ⟨p, c, rfl, hfr, hr, fun a ha => ?_⟩
 obtain ⟨g, hg⟩ := hp (by rw [ha]; rfl)
 rw [ha] at hg
 obtain rfl := Option.some.inj hg
 exact hO.block g (by rw [ha]; rfl)
theorem StrRow.keep {w w' : World} {p : Option Addr} {l : List ByteArray} {c : Nat} (h : StrRow w p l c) (hs : w.heap.size ≤ w'.heap.size) (hn : ∀ a, p = some a → a.block < w.heap.size → w'.heap[a.block]? = w.heap[a.block]?) : StrRow w' p l c := by
 rcases h with h | ⟨g, o, rfl, e2, e3, e4⟩
 ·exact .inl h
 ·refine .inr ⟨g, o, rfl, e2, fun h => Nat.lt_of_lt_of_le (e3 h) hs, fun j u hu => ?_⟩
  have hj : 0 < l.length := by
   have := (List.getElem?_eq_some_iff.1 hu).1
   simp at this
   omega
  rw [World.cell?_of_block (a := ⟨g, o + j, none⟩) (hn ⟨g, o, none⟩ rfl (e3 hj))]
  exact e4 j u hu
structure StKit (P : World → Prop) (F : Nat → Prop) (B : Nat) (J : Wood) : Prop where
 more : ∀ W W', P W → Below W.heap.size W W' → P W'
 fr : ∀ W W', P W → Fr B J J W W' → P W'
 set : ∀ W W' f, P W → F f → Only f W W' → P W'
 wood : ∀ k, F k → J k = none
 fresh : ∀ W k, P W → W.heap.size ≤ k → F k
structure FtY (P : World → Prop) (F : Nat → Prop) (y0 y1 y2 y3 : Value) (b5 : Bool) (v5 : Value) (b11 : Bool) (v11 : Value) (b14 : Bool) (W : World) : Prop where
 all : P W
 row : b5 = true → ∃ g, v5 = .slice (some ⟨g, 0, none⟩) 1 1 ∧ F g ∧ g < W.heap.size ∧ StrRow W (some ⟨g, 0, none⟩) [⟨#[120]⟩] 1 ∧ (b11 = true → v11 ≠ .pointer (some ⟨g, 0, none⟩))
 ft : b11 = true → ∃ f x0 x1 x2 x3, v11 = .pointer (some ⟨f, 0, none⟩) ∧ F f ∧ W.heap[f]? = some (.cells #[x0, x1, x2, x3] 66 (0, 0)) ∧ (b14 = true → x0 = y0 ∧ x1 = y1 ∧ x2 = y2 ∧ x3 = y3)
 ft14 : b14 = true → b11 = true
theorem FtY.fr {P : World → Prop} {F : Nat → Prop} {B : Nat} {J : Wood} {y0 y1 y2 y3 : Value} {b5 : Bool} {v5 : Value} {b11 : Bool} {v11 : Value} {b14 : Bool} {W W' : World} (k : StKit P F B J) (h : FtY P F y0 y1 y2 y3 b5 v5 b11 v11 b14 W) (hf : Fr B J J W W') : FtY P F y0 y1 y2 y3 b5 v5 b11 v11 b14 W' :=
 ⟨k.fr _ _ h.all hf, fun q => by
   obtain ⟨g, e1, e2, e3, e4, e5⟩ := h.row q
   exact ⟨g, e1, e2, Nat.lt_of_lt_of_le e3 hf.size, e4.frame hf fun a ha => by obtain rfl := Option.some.inj ha; exact k.wood g e2, e5⟩,
  fun q => by
   obtain ⟨f, x0, x1, x2, x3, e1, e2, e3, e4⟩ := h.ft q
   exact ⟨f, x0, x1, x2, x3, e1, e2, (hf.other f (Array.getElem?_eq_some_iff.1 e3).1 (k.wood f e2)).trans e3, e4⟩, h.ft14⟩
theorem FtY.more {P : World → Prop} {F : Nat → Prop} {B : Nat} {J : Wood} {y0 y1 y2 y3 : Value} {b5 : Bool} {v5 : Value} {b11 : Bool} {v11 : Value} {b14 : Bool} {W W' : World} (k : StKit P F B J) (h : FtY P F y0 y1 y2 y3 b5 v5 b11 v11 b14 W) (hf : Below W.heap.size W W') : FtY P F y0 y1 y2 y3 b5 v5 b11 v11 b14 W' :=
 ⟨k.more _ _ h.all hf, fun q => by
   obtain ⟨g, e1, e2, e3, e4, e5⟩ := h.row q
   exact ⟨g, e1, e2, Nat.lt_of_lt_of_le e3 hf.size, e4.below hf, e5⟩,
  fun q => by
   obtain ⟨f, x0, x1, x2, x3, e1, e2, e3, e4⟩ := h.ft q
   exact ⟨f, x0, x1, x2, x3, e1, e2, (hf.block f (Array.getElem?_eq_some_iff.1 e3).1).trans e3, e4⟩, h.ft14⟩
theorem FtY.alloc {P : World → Prop} {F : Nat → Prop} {B : Nat} {J : Wood} {y0 y1 y2 y3 : Value} {b5 : Bool} {v5 : Value} {b11 : Bool} {v11 : Value} {b14 : Bool} {W : World} (k : StKit P F B J) (h : FtY P F y0 y1 y2 y3 b5 v5 b11 v11 b14 W) (h14 : b14 = false) : FtY P F y0 y1 y2 y3 b5 v5 true (.pointer (some ⟨W.heap.size, 0, none⟩)) b14 (W.alloc (.cells #[.int .i64 0, .int .i64 0, .int .i64 0, .int .i64 0] 66)) := by
 have h' := h.more k ((Below.refl W.heap.size W).alloc (Nat.le_refl _) (.cells #[.int .i64 0, .int .i64 0, .int .i64 0, .int .i64 0] 66))
 refine ⟨h'.all, fun q => ?_, fun _ => ⟨W.heap.size, _, _, _, _, rfl, k.fresh _ _ h.all (Nat.le_refl _), Array.getElem?_push_size, fun q => (by rw [h14] at q; cases q)⟩, fun _ => rfl⟩
 obtain ⟨g, e1, e2, e3, e4, e5⟩ := h'.row q
 obtain ⟨g', e1', _, e3', _⟩ := h.row q
 refine ⟨g, e1, e2, e3, e4, fun _ e => ?_⟩
 rw [e1] at e1'
 simp only [Value.slice.injEq, Option.some.injEq, Addr.mk.injEq, and_true] at e1'
 simp only [Value.pointer.injEq, Option.some.injEq, Addr.mk.injEq, and_true] at e
 omega
theorem FtY.set {P : World → Prop} {F : Nat → Prop} {B : Nat} {J : Wood} {y0 y1 y2 y3 : Value} {b5 : Bool} {v5 : Value} {b14 : Bool} {W : World} {f : Nat} (k : StKit P F B J) (h : FtY P F y0 y1 y2 y3 b5 v5 true (.pointer (some ⟨f, 0, none⟩)) b14 W) : FtY P F y0 y1 y2 y3 b5 v5 true (.pointer (some ⟨f, 0, none⟩)) true ((((W.setCell ⟨f, 0, none⟩ y0).setCell ⟨f, 1, none⟩ y1).setCell ⟨f, 2, none⟩ y2).setCell ⟨f, 3, none⟩ y3) := by
 obtain ⟨f', x0, x1, x2, x3, e1, e2, e3, -⟩ := h.ft rfl
 simp only [Value.pointer.injEq, Option.some.injEq, Addr.mk.injEq, and_true] at e1
 subst e1
 have ho : Only f W ((((W.setCell ⟨f, 0, none⟩ y0).setCell ⟨f, 1, none⟩ y1).setCell ⟨f, 2, none⟩ y2).setCell ⟨f, 3, none⟩ y3) := ⟨rfl, rfl, rfl, by simp, fun k _ hne => (((Below.heap_setCell _ _ _ _ hne).trans (Below.heap_setCell _ _ _ _ hne)).trans (Below.heap_setCell _ _ _ _ hne)).trans (Below.heap_setCell _ _ _ _ hne)⟩
 refine ⟨k.set _ _ _ h.all e2 ho, fun q => ?_, fun _ => ⟨f, y0, y1, y2, y3, rfl, e2, fault_set e3 _ _ _ _, fun _ => ⟨rfl, rfl, rfl, rfl⟩⟩, fun _ => rfl⟩
 obtain ⟨g, e1, e2, e3, e4, e5⟩ := h.row q
 exact ⟨g, e1, e2, Nat.lt_of_lt_of_le e3 ho.size, e4.keep ho.size (fun a ha hl => ho.block _ hl (by obtain rfl := Option.some.inj ha; rintro rfl; exact e5 rfl rfl)), e5⟩
theorem FtY.put {P : World → Prop} {F : Nat → Prop} {B : Nat} {J : Wood} {y0 y1 y2 y3 : Value} {b5 : Bool} {v5 : Value} {b11 : Bool} {v11 : Value} {b14 : Bool} {W : World} {f : Nat} (k : StKit P F B J) (h : FtY P F y0 y1 y2 y3 b5 v5 b11 v11 b14 W) (hb : b11 = true) (hv : v11 = .pointer (some ⟨f, 0, none⟩)) : FtY P F y0 y1 y2 y3 b5 v5 b11 v11 true ((((W.setCell ⟨f, 0, none⟩ y0).setCell ⟨f, 1, none⟩ y1).setCell ⟨f, 2, none⟩ y2).setCell ⟨f, 3, none⟩ y3) := by
 subst hb hv
 exact h.set k
theorem FtY.start {P : World → Prop} {F : Nat → Prop} {y0 y1 y2 y3 : Value} {b5 : Bool} {v5 : Value} {b11 : Bool} {v11 : Value} {b14 : Bool} {W : World} (h : P W) (h5 : b5 = false) (h11 : b11 = false) (h14 : b14 = false) : FtY P F y0 y1 y2 y3 b5 v5 b11 v11 b14 W := by
 subst h5 h11 h14
 exact ⟨h, fun q => (by cases q), fun q => (by cases q), fun q => (by cases q)⟩
theorem FtY.low {P : World → Prop} {F : Nat → Prop} {y0 y1 y2 y3 : Value} {b5 : Bool} {v5 : Value} {b11 : Bool} {v11 : Value} {b14 : Bool} {W : World} (h : FtY P F y0 y1 y2 y3 b5 v5 b11 v11 false W) (h14 : b14 = false) : FtY P F y0 y1 y2 y3 b5 v5 b11 v11 b14 W := by
 subst h14
 exact h
theorem FtY.fault {P : World → Prop} {F : Nat → Prop} {y0 y1 y2 y3 : Value} {b5 : Bool} {v5 v11 : Value} {W : World} (h : FtY P F y0 y1 y2 y3 b5 v5 true v11 true W) : ∃ f, v11 = .pointer (some ⟨f, 0, none⟩) ∧ F f ∧ W.heap[f]? = some (.cells #[y0, y1, y2, y3] 66 (0, 0)) := by
 obtain ⟨f, x0, x1, x2, x3, e1, e2, e3, e4⟩ := h.ft rfl
 obtain ⟨rfl, rfl, rfl, rfl⟩ := e4 rfl
 exact ⟨f, e1, e2, e3⟩
theorem dig_ok {t : Nd} (hc : t.can 64) {D : List Nat} (hD : t.dig = D) : D.length = 32 ∧ ∀ x ∈ D, x < 256 := by
 obtain ⟨htok, _⟩ := t.can_ok 64 hc (Nat.le_refl _)
 subst hD
 exact ⟨t.dig_length htok, dig_byte hc⟩
end Go.Proofs.YtjiikjpnlgogfaaGreatDoor
namespace Go.Proofs.YtjiikjpnlgogfaaGreatDoor
open Go.RowKit
structure GenQ (w : World) (R : World) (U : Nat → Prop) (B : Nat) (S : Wood) (bt : Nat) (t : Nd) (W : World) : Prop where
 below : Below w.heap.size w W
 size : R.heap.size ≤ W.heap.size
 keep : ∀ k, U k → W.heap[k]? = R.heap[k]?
 wood : Forest B S W
 tree : TreeAt S W bt t
def GenF (w : World) (U : Nat → Prop) (S : Wood) (bt : Nat) (k : Nat) : Prop := w.heap.size ≤ k ∧ S k = none ∧ k ≠ bt ∧ ¬ U k
theorem GenQ.kit {w R : World} {U : Nat → Prop} {B : Nat} {S : Wood} {bt : Nat} {t : Nd} (hB : w.heap.size ≤ B) (hU : ∀ k, U k → k < R.heap.size ∧ S k = none) : StKit (GenQ w R U B S bt t) (GenF w U S bt) B S := by
 have hfr : ∀ W W', GenQ w R U B S bt t W → Fr B S S W W' → GenQ w R U B S bt t W' := fun W W' h hf =>
  ⟨h.below.trans (((hf.x (fun _ => False)).below h.wood fun _ h => h.elim).mono hB), Nat.le_trans h.size hf.size, fun k hk => (hf.other k (Nat.lt_of_lt_of_le (hU k hk).1 h.size) (hU k hk).2).trans (h.keep k hk), hf.forest, h.tree.frame hf⟩
 refine ⟨fun W W' h hb => hfr W W' h (Fr.of_below h.wood hb), hfr, fun W W' f h hF ho => ?_, fun k hF => hF.2.1, fun W k h hk => ?_⟩
 ·exact ⟨ho.below h.below hF.1 h.below.size, Nat.le_trans h.size ho.size, fun k hk => (ho.block k (Nat.lt_of_lt_of_le (hU k hk).1 h.size) (fun e => hF.2.2.2 (e ▸ hk))).trans (h.keep k hk), forest_only h.wood ho hF.2.1, h.tree.only ho hF.2.2.1.symm⟩
 ·exact ⟨Nat.le_trans h.below.size hk, h.wood.fresh hk, fun e => by have := h.tree.lt; omega, fun hu => by have := (hU k hu).1; have := h.size; omega⟩
theorem GenQ.row {w R : World} {U : Nat → Prop} {B : Nat} {S : Wood} {bt : Nat} {t : Nd} {W : World} (h : GenQ w R U B S bt t W) {p : Option Addr} {l : List ByteArray} {c : Nat} (hr : StrRow R p l c) (hp : ∀ a, p = some a → U a.block) : StrRow W p l c :=
 hr.keep h.size fun a ha _ => h.keep _ (hp a ha)
theorem GenQ.range {w R : World} {U : Nat → Prop} {B : Nat} {S : Wood} {bt : Nat} {t : Nd} {W : World} (h : GenQ w R U B S bt t W) {b o : Nat} {cs : List Value} (hr : R.rangeAt b o cs) (hb : U b) : W.rangeAt b o cs := rangeAt_block hr (h.keep b hb)
theorem GenQ.anyRow {w R : World} {U : Nat → Prop} {B : Nat} {S : Wood} {bt : Nat} {t : Nd} {W : World} (h : GenQ w R U B S bt t W) {p : Option Addr} {l : List ByteArray} {c : Nat} (hr : StrRow w p l c) : StrRow W p l c :=
 hr.below h.below
theorem GenQ.next {w R : World} {U U' : Nat → Prop} {B : Nat} {S : Wood} {bt : Nat} {t : Nd} {W : World} (h : GenQ w R U B S bt t W) : GenQ w W U' B S bt t W :=
 ⟨h.below, Nat.le_refl _, fun _ _ => rfl, h.wood, h.tree⟩
def FtZ (P : World → Prop) (F : Nat → Prop) (f : Nat) (W : World) : Prop := P W ∧ F f ∧ ∃ x0 x1 x2 x3, W.heap[f]? = some (.cells #[x0, x1, x2, x3] 66 (0, 0))
theorem FtZ.fr {P : World → Prop} {F : Nat → Prop} {B : Nat} {J : Wood} {f : Nat} {W W' : World} (k : StKit P F B J) (h : FtZ P F f W) (hf : Fr B J J W W') : FtZ P F f W' := by
 obtain ⟨h1, h2, x0, x1, x2, x3, h3⟩ := h
 exact ⟨k.fr _ _ h1 hf, h2, x0, x1, x2, x3, (hf.other f (Array.getElem?_eq_some_iff.1 h3).1 (k.wood f h2)).trans h3⟩
theorem FtZ.more {P : World → Prop} {F : Nat → Prop} {B : Nat} {J : Wood} {f : Nat} {W W' : World} (k : StKit P F B J) (h : FtZ P F f W) (hf : Below W.heap.size W W') : FtZ P F f W' := by
 obtain ⟨h1, h2, x0, x1, x2, x3, h3⟩ := h
 exact ⟨k.more _ _ h1 hf, h2, x0, x1, x2, x3, (hf.block f (Array.getElem?_eq_some_iff.1 h3).1).trans h3⟩
theorem FtZ.y {P : World → Prop} {F : Nat → Prop} {f : Nat} {W : World} (h : FtZ P F f W) (y0 y1 y2 y3 : Value) : FtY P F y0 y1 y2 y3 false undef true (.pointer (some ⟨f, 0, none⟩)) false W := by
 obtain ⟨h1, h2, x0, x1, x2, x3, h3⟩ := h
 exact ⟨h1, fun q => (by cases q), fun _ => ⟨f, x0, x1, x2, x3, rfl, h2, h3, fun q => (by cases q)⟩, fun q => (by cases q)⟩
theorem FtY.z {P : World → Prop} {F : Nat → Prop} {y0 y1 y2 y3 : Value} {b5 : Bool} {v5 : Value} {b14 : Bool} {f : Nat} {W : World} (h : FtY P F y0 y1 y2 y3 b5 v5 true (.pointer (some ⟨f, 0, none⟩)) b14 W) : FtZ P F f W := by
 obtain ⟨f', x0, x1, x2, x3, e1, e2, e3, -⟩ := h.ft rfl
 simp only [Value.pointer.injEq, Option.some.injEq, Addr.mk.injEq, and_true] at e1
 subst e1
 exact ⟨h.all, e2, x0, x1, x2, x3, e3⟩
end Go.Proofs.YtjiikjpnlgogfaaGreatDoor
