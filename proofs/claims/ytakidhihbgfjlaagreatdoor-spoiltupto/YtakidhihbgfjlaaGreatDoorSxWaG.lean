/-
  Witnesses: what is written (pure), what is left of what is wanted; a row of bytes that grows while nodes stand by.
-/
import Derived.Test.YtakidhihbgfjlaaGreatDoorSxTreB
import Derived.Test.YtakidhihbgfjlaaGreatDoorSxVeC
import Derived.Test.YtakidhihbgfjlaaGreatDoorSxOrdA
namespace Go.Proofs.YtakidhihbgfjlaaGreatDoor
open Go.RowKit
set_option maxRecDepth 100000
set_option maxHeartbeats 25600000
def behP (ps : List ByteArray) (q : ByteArray) : List ByteArray := ps.filterMap fun p => if begins q p then some (p.extract q.size p.size) else none
def Nd.pick (t : Nd) (all : Bool) (ps : List ByteArray) (c : List Nat) : List Nat :=
 match t with
 | .no => []
 | _ => if (all || decide (ps ≠ []) || decide (t.ref.length < 32)) = true then c else 4 :: t.dig
def forkB : List Nd -> Nat -> Nat
 | [], _ => 0
 | .no :: ks, i => forkB ks (i + 1)
 | _ :: ks, i => 2 ^ i + forkB ks (i + 1)
mutual
def Nd.wit : Nd -> Bool -> List ByteArray -> List Nat
 | .no, _, _ => []
 | .leaf p v, _, _ => 1 :: p.size :: (pairsU (bytesOf p) ++ v.size % 256 :: bytesOf v)
 | .ext p t, all, ps => t.pick all (behP ps p) (t.wit all (behP ps p)) ++ 2 :: p.size :: pairsU (bytesOf p)
 | .br ks, all, ps => wits ks 0 all ps ++ [3, forkB ks 0 % 256, forkB ks 0 / 256]
 | .stub h, _, _ => 4 :: h
def wits : List Nd -> Nat -> Bool -> List ByteArray -> List Nat
 | [], _, _, _ => []
 | t :: ks, i, all, ps => t.pick all (behP ps (textB [i])) (t.wit all (behP ps (textB [i]))) ++ wits ks (i + 1) all ps
end
def Nd.shw (t : Nd) (all : Bool) (ps : List ByteArray) : List Nat := t.pick all ps (t.wit all ps)
def Nd.witness (t : Nd) (all : Bool) (ps : List ByteArray) : List Nat :=
 match t with
 | .no => [0]
 | _ => t.shw all ps
theorem Qiz (a b : List Nd) (i : Nat) (all : Bool) (ps : List ByteArray) : wits (a ++ b) i all ps = wits a i all ps ++ wits b (i + a.length) all ps := by
 induction a generalizing i with
 | nil => simp [wits]
 | cons x a ih => rw [List.cons_append, wits, wits, ih, List.append_assoc, List.length_cons, show i + 1 + a.length = i + (a.length + 1) by omega]
theorem Nd.wit_ext (p : ByteArray) (t : Nd) (all : Bool) (ps : List ByteArray) : (Nd.ext p t).wit all ps = t.shw all (behP ps p) ++ 2 :: p.size :: pairsU (bytesOf p) := by rw [Nd.wit]; rfl
theorem Qe4 (t : Nd) (ks : List Nd) (i : Nat) (all : Bool) (ps : List ByteArray) : wits (t :: ks) i all ps = t.shw all (behP ps (textB [i])) ++ wits ks (i + 1) all ps := by rw [wits]; rfl
structure GrF (B : Nat) (S : Wood) (w w' : World) (C : Nat) (v v' : Value) (l' : List Nat) : Prop where
 own : Own w' C v' l'
 fr : FrX B (fun k => v.ownBlock = some k) S S w w'
 fresh : ∀ k, v'.ownBlock = some k -> v.ownBlock = some k \/ w.heap.size <= k
 kids : ∀ b t, S b = some t -> ∀ j, 0 < j -> w'.cell? ⟨b, j, none⟩ = w.cell? ⟨b, j, none⟩
theorem GrF.trans {B : Nat} {S : Wood} {w w1 w2 : World} {C : Nat} {v v1 v2 : Value} {l1 l2 : List Nat} (h : GrF B S w w1 C v v1 l1) (k : GrF B S w1 w2 C v1 v2 l2) : GrF B S w w2 C v v2 l2 := by
 have l := h.fr.size
 refine ⟨k.own, ⟨k.fr.os.trans h.fr.os, k.fr.tape.trans h.fr.tape, k.fr.output.trans h.fr.output, Nat.le_trans l k.fr.size, fun i a f g => ?_, k.fr.forest, fun _ _ h => h, fun _ _ h => h⟩, fun i a => ?_, fun b t c j d => (k.kids b t c j d).trans (h.kids b t c j d)⟩
 ·refine (k.fr.other i (by omega) f fun e => ?_).trans (h.fr.other i a f g)
  rcases h.fresh i e with e' | e'
  ·exact g e'
  ·omega
 ·rcases k.fresh i a with e | e
  ·exact h.fresh i e
  ·exact .inr (by omega)
variable {B C : Nat} {S : Wood} {w w' : World} {v v' : Value} {l' : List Nat}
theorem GrF.plain (h : GrF B S w w' C v v' l') (hv : v.ownBlock = none) : Fr B S S w w' := ⟨h.fr.os, h.fr.tape, h.fr.output, h.fr.size, fun k hk hn => h.fr.other k hk hn (by rw [hv]; simp), h.fr.forest, h.fr.sub, h.fr.new, h.kids⟩
theorem GrF.of_grew (hf : Forest B S w) (g : Grew w w' C v v' l') (hn : ∀ k, v.ownBlock = some k -> S k = none) : GrF B S w w' C v v' l' := by
 have d : ∀ k t, S k = some t -> w'.heap[k]? = w.heap[k]? := fun k t c => g.grown.block k (hf.lt c) fun e => by rw [hn k e.symm] at c; cases c
 exact ⟨g.own, ⟨g.grown.os, g.grown.tape, g.grown.output, g.grown.size, fun k c _ i => g.grown.block k c (fun e => i e.symm), hf.keep g.grown.size d, fun _ _ h => h, fun _ _ h => h⟩, g.fresh, fun b t f j _ => World.cell?_of_block (a := ⟨b, j, none⟩) (d b t f)⟩
variable {l : List Nat}
theorem GrF.of_fr (h : Own w C v l) (hf : Fr B S S w w') (hn : ∀ k, v.ownBlock = some k -> S k = none) : GrF B S w w' C v v l :=
 ⟨h.keep hf.size fun k hk hv => hf.other k hk (hn k hv), hf.x _, fun _ hk => .inl hk, hf.kids⟩
theorem GrF.of_below {B : Nat} {S : Wood} {w w' : World} {C : Nat} {v : Value} {l : List Nat} (hF : Forest B S w) (h : Own w C v l) (hb : Below w.heap.size w w') (hn : ∀ k, v.ownBlock = some k -> S k = none) : GrF B S w w' C v v l := GrF.of_fr h (Fr.of_below hF hb) hn
theorem GrF.away (h : GrF B S w w' C v v' l') (hf : Forest B S w) (hn : ∀ k, v.ownBlock = some k -> S k = none) : ∀ k, v'.ownBlock = some k -> S k = none := fun k hk => by
 rcases h.fresh k hk with e | e
 ·exact hn k e
 ·exact hf.fresh e
theorem GrF.block (h : GrF B S w w' C v v' l') {k : Nat} (hk : k < w.heap.size) (h1 : S k = none) (h2 : v.ownBlock ≠ some k) : w'.heap[k]? = w.heap[k]? := h.fr.other k hk h1 h2
theorem GrF.row (h : GrF B S w w' C v v' l') {p : Option Addr} {l : List ByteArray} {c : Nat} (hr : StrRow w p l c) (h1 : ∀ a, p = some a -> S a.block = none /\ v.ownBlock ≠ some a.block) : StrRow w' p l c := by
 rcases hr with hr | ⟨g, o, rfl, h3, h4, h5⟩
 ·exact .inl hr
 ·refine .inr ⟨g, o, rfl, h3, fun b => Nat.lt_of_lt_of_le (h4 b) h.fr.size, ?_⟩
  by_cases b : 0 < l.length
  ·exact Qa4 h5 (h.block (h4 b) (h1 _ rfl).1 (h1 _ rfl).2)
  ·have : l = [] := by cases l with
    | nil => rfl
    | cons => simp at b
   subst this
   intro j u d
   simp at d
theorem Fr.less {S' : Wood} (h : Fr B S S' w w') (hf : Forest B S w) : Fr B S S w w' := by
 refine ⟨h.os, h.tape, h.output, h.size, h.other, ⟨fun b t c => ?_, hf.ok, hf.low, Nat.le_trans hf.le h.size⟩, fun _ _ h => h, fun _ _ h => h, h.kids⟩
 obtain ⟨g, r, o, m, l⟩ := hf.node b t c
 obtain ⟨k, i, d, n, a⟩ := h.forest.node b t (h.sub b t c)
 have f : i = r := by
  apply List.ext_getElem?
  intro j
  have e := h.kids b t c (j + 1) (by omega)
  simp only [World.cell?, l, a] at e
  simpa using e
 subst f
 exact ⟨k, i, d, m, a⟩
variable {n : Nat} {x y : Value} {t : TypeId}
theorem Qa7 (h : w.heap[n]? = some (.cells #[x, y] t (0, 0))) : w.cell? ⟨n, 0, none⟩ = some x /\ w.cell? ⟨n, 1, none⟩ = some y /\ w.frozen? ⟨n, 0, none⟩ = false /\ w.frozen? ⟨n, 1, none⟩ = false := by
 refine ⟨?_, ?_, ?_, ?_⟩ <;> simp [World.cell?, World.frozen?, h]
theorem Qqx (h : w.heap[n]? = some (.cells #[x, y] t (0, 0))) (y' : Value) : (w.setCell ⟨n, 1, none⟩ y').heap[n]? = some (.cells #[x, y'] t (0, 0)) /\ Only n w (w.setCell ⟨n, 1, none⟩ y') :=
 ⟨Qa2 (cs := [x, y]) h 1 _, ⟨rfl, rfl, rfl, by simp, fun k _ hne => Below.heap_setCell _ _ _ _ hne⟩⟩
theorem Qej (h : w.heap[n]? = some (.cells #[x, y] t (0, 0))) (x' y' : Value) : ((w.setCell ⟨n, 0, none⟩ x').setCell ⟨n, 1, none⟩ y').heap[n]? = some (.cells #[x', y'] t (0, 0)) /\ Only n w ((w.setCell ⟨n, 0, none⟩ x').setCell ⟨n, 1, none⟩ y') :=
 ⟨Qa2 (Qa2 (cs := [x, y]) h 0 _) 1 _, ⟨rfl, rfl, rfl, by simp, fun k _ hne => (Below.heap_setCell _ _ _ _ hne).trans (Below.heap_setCell _ _ _ _ hne)⟩⟩
theorem Qai (w : World) (o : Obj) : (w.alloc o).heap[w.heap.size]? = some o := Array.getElem?_push_size
theorem Qby (w : World) (o : Obj) {k : Nat} (hk : k < w.heap.size) : (w.alloc o).heap[k]? = w.heap[k]? := ((Below.refl w.heap.size w).alloc (Nat.le_refl _) o).block k hk
theorem QD6 (w : World) (a b c : Obj) : Below w.heap.size w (((w.alloc a).alloc b).alloc c) /\ (((w.alloc a).alloc b).alloc c).heap[w.heap.size]? = some a /\ (((w.alloc a).alloc b).alloc c).heap[w.heap.size + 1]? = some b /\ (((w.alloc a).alloc b).alloc c).heap[w.heap.size + 1 + 1]? = some c /\ (((w.alloc a).alloc b).alloc c).heap.size = w.heap.size + 1 + 1 + 1 := by
 have d : (w.alloc a).heap.size = w.heap.size + 1 := by simp
 have e : ((w.alloc a).alloc b).heap.size = w.heap.size + 1 + 1 := by simp
 refine ⟨(((Below.refl _ _).alloc (Nat.le_refl _) _).alloc (by simp) _).alloc (by simp; omega) _, ?_, ?_, ?_, by simp⟩
 ·rw [Qby _ _ (by omega), Qby _ _ (by omega), Qai]
 ·rw [Qby _ _ (by omega), <- d, Qai]
 ·rw [<- e, Qai]
def cutS (p s : ByteArray) : ByteArray := if begins p s then s.extract p.size s.size else s
theorem Qz2 (s p : ByteArray) (w : World) :
  Calls Tryz.prog 176 #[.string s, .string p] w fun e w' => e = .returned (.tuple #[.string (cutS p s), .bool (decide (begins p s))]) /\ w' = w := by
 unfold cutS
 by_cases h : begins p s
 ·have a := Qmv h
  have i := Qjn h
  have d : (p.size : Int) <= (s.size : Int) := by omega
  have b : decide (p.size <= s.size) = true := decide_eq_true a
  rw [decide_eq_true h, if_pos h]
  clear h
  go_enter Tryz.func176, Tryz.ntmps176
  go_wp2
  go_ret2
  exact ⟨rfl, rfl⟩
 ·rw [decide_eq_false h, if_neg h]
  by_cases a : p.size <= s.size
  ·have d : (p.size : Int) <= (s.size : Int) := by omega
   have b : decide (p.size <= s.size) = true := decide_eq_true a
   obtain ⟨z, f⟩ : ∃ z, s.extract 0 p.size = z := ⟨_, rfl⟩
   have c : ¬ z = p := fun e => h (Qf9 (f.trans e))
   have g : (z.toList == p.toList) = false := Qce c
   clear h
   go_enter Tryz.func176, Tryz.ntmps176
   go_wp2
   go_ret2
   exact ⟨rfl, rfl⟩
  ·have d : (s.size : Int) < (p.size : Int) := by omega
   have b : decide (p.size <= s.size) = false := decide_eq_false a
   clear h
   go_enter Tryz.func176, Tryz.ntmps176
   go_wp2
   go_ret2
   exact ⟨rfl, rfl⟩
theorem Qkd (p : ByteArray) (w : World) (hown : Own w C v l) (hC : C <= w.heap.size) (hp : nibOK p) (hl : l.length <= 1000000) :
  Calls Tryz.prog 146 #[v, .string p] w fun e w' => ∃ v', e = .returned v' /\ Grew w w' C v v' (l ++ p.size :: pairsU (bytesOf p)) := by
 obtain ⟨B, u, o, q, r⟩ := info_parts Qc8
 have D : IntKind.u8.wrap (p.size : Int) = (p.size : Int) := Ql8 (by have := hp.1; omega)
 have g : Hid (Own w C v l /\ C <= w.heap.size /\ nibOK p /\ l.length <= 1000000) := ⟨hown, hC, hp, hl⟩
 obtain ⟨z, y⟩ : ∃ z, p.size = z := ⟨_, rfl⟩
 have m : ∀ a, a = w.alloc (.cells #[.int .u8 (z : Int)] 5) -> Own a C v l /\ (∀ j, j < [z].length -> a.cell? ⟨w.heap.size, 0 + j, none⟩ = some (encB [z][j]!)) /\ l.length + [z].length <= 140737488355328 /\ C <= a.heap.size /\ ∀ f c, Grew a c C v f (l ++ [z]) -> Grew w c C v f (l ++ [z]) := by
  rintro a rfl
  refine ⟨hown.alloc _, fun j x => ?_, ?_, ?_, fun f c t => t.after ((Below.refl _ _).alloc (Nat.le_refl _) _)⟩
  ·have n : j = 0 := by simpa using x
   subst n
   exact World.cell?_alloc_new w #[.int .u8 (z : Int)] 5 0
  ·simp only [List.length_cons, List.length_nil]; omega
  ·simp; omega
 have b := Hq m
 rw [y] at D ⊢
 clear hown hC hp hl m
 go_enter Tryz.func146, Tryz.ntmps146
 go_wp2_with (at_builtin; refine Qal _ rfl _ _ 41 rfl 5 B Tryz.underlying41 u o q r C v _ rfl (b.out _ rfl).1 w.heap.size 0 1 [z] rfl (b.out _ rfl).2.1 (b.out _ rfl).2.2.1 (b.out _ rfl).2.2.2.1 ?_; intro f c i; have d : Hid (Grew w c C v f (l ++ [z])) := (b.out _ rfl).2.2.2.2 _ _ i; clear i b)
 refine (Qmr p c d.out.own (by have := d.out.grown.size; have := g.out.2.1; omega) (by have := g.out.2.2.1.1; omega) (by rw [List.length_append]; have := g.out.2.2.2; simp; omega) g.out.2.2.1.2).mono ?_
 rintro e E ⟨s, rfl, h⟩
 have k : Hid (Grew w E C v s (l ++ z :: pairsU (bytesOf p))) := by
  have := d.out.trans h
  rw [List.append_assoc] at this
  exact this
 clear h
 go_wp2
 go_ret
 exact ⟨s, rfl, k.out⟩
end Go.Proofs.YtakidhihbgfjlaaGreatDoor
