/-
  Nodes: a plain tree, its code and the reference to it; how nodes lie in memory, each in a block of its own, and what keeps them.
-/
import Derived.Test.YtakidhihbgfjlaaGreatDoorSxRawG
import Derived.Test.YtakidhihbgfjlaaGreatDoorSxWriG
namespace Go.Proofs.YtakidhihbgfjlaaGreatDoor
open Go.RowKit
set_option maxRecDepth 100000
set_option maxHeartbeats 25600000
inductive Nd where
 | no
 | leaf (p v : ByteArray)
 | ext (p : ByteArray) (t : Nd)
 | br (ks : List Nd)
 | stub (h : List Nat)
def digB (c : List Nat) : List Nat := (digF (textB c)).toList
def refOf (c : List Nat) : List Nat := if c.length < 32 then c else textCode (digB c)
def Nd.sel (t : Nd) (c : List Nat) : List Nat :=
 match t with
 | .no => textCode []
 | .stub h => textCode h
 | _ => refOf c
mutual
def Nd.code : Nd -> List Nat
 | .no => []
 | .leaf p v => listCode (textCode (pathCode (bytesOf p) true) ++ textCode (bytesOf v))
 | .ext p t => listCode (textCode (pathCode (bytesOf p) false) ++ t.sel t.code)
 | .br ks => listCode (refs ks ++ textCode [])
 | .stub _ => []
def refs : List Nd -> List Nat
 | [] => []
 | x :: xs => x.sel x.code ++ refs xs
end
def Nd.ref (t : Nd) : List Nat := t.sel t.code
theorem Nd.ref_ext (p : ByteArray) (t : Nd) : (Nd.ext p t).code = listCode (textCode (pathCode (bytesOf p) false) ++ t.ref) := by rw [Nd.code]; rfl
theorem Qbh (x : Nd) (xs : List Nd) : refs (x :: xs) = x.ref ++ refs xs := by rw [refs]; rfl
theorem Qop (a b : List Nd) : refs (a ++ b) = refs a ++ refs b := by
 induction a with
 | nil => rfl
 | cons x a ih => rw [List.cons_append, Qbh, Qbh, ih, List.append_assoc]
def nibOK (p : ByteArray) : Prop := p.size <= 64 /\ ∀ x ∈ bytesOf p, x < 16
mutual
def Nd.ok : Nd -> Prop
 | .no => True
 | .leaf p v => nibOK p /\ v.size <= 1024
 | .ext p t => nibOK p /\ t.ok /\ t ≠ .no
 | .br ks => ks.length = 16 /\ oks ks
 | .stub h => h.length = 32 /\ ∀ x ∈ h, x < 256
def oks : List Nd -> Prop
 | [] => True
 | x :: xs => x.ok /\ oks xs
end
theorem Qhd {x : Nd} : ∀ {l : List Nd}, oks l -> x ∈ l -> x.ok := by
 intro l
 induction l with
 | nil => intro _ h; cases h
 | cons y l ih =>
  intro h a
  rw [oks] at h
  rcases List.mem_cons.1 a with rfl | a
  ·exact h.1
  ·exact ih h.2 a
theorem Qmp : ∀ {l : List Nd}, (∀ x ∈ l, x.ok) -> oks l := by
 intro l
 induction l with
 | nil => intro _; rw [oks]; trivial
 | cons y l ih => intro h; rw [oks]; exact ⟨h y (List.mem_cons_self ..), ih fun x a => h x (List.mem_cons_of_mem _ a)⟩
variable {l : List Nat}
theorem Qdc (h : ∀ x ∈ l, x < 256) : ∀ x ∈ listCode l, x < 256 := by
 intro x a
 unfold listCode at a
 rcases List.mem_append.1 a with a | a
 ·exact Qi7 _ _ x a
 ·exact h x a
theorem Qan (h : ∀ x ∈ l, x < 256) : ∀ x ∈ textCode l, x < 256 := by
 intro x a
 unfold textCode at a
 rcases List.mem_append.1 a with a | a
 ·split at a
  ·simp at a
  ·exact Qi7 _ _ x a
 ·exact h x a
theorem Qak (c : List Nat) : (digB c).length = 32 := by
 unfold digB digF
 rw [Array.length_toList]
 exact Qd4 _
theorem Qku (s : ByteArray) : ∀ x ∈ (digF s).toList, x < 256 := by
 intro x b
 obtain ⟨j, a, rfl⟩ := List.getElem_of_mem b
 have h : Bytes (digF s) := Qph _ _
 have := h j
 rw [getElem!_pos (digF s) j (by simpa using a)] at this
 simpa using this
theorem Qdt (c : List Nat) : ∀ x ∈ digB c, x < 256 := Qku (textB c)
theorem Qjk : ∀ l : List Nat, (∀ x ∈ l, x < 16) -> ∀ x ∈ pairs l, x < 256
 | [], _ => fun x hx => by cases hx
 | [_], _ => fun x hx => by cases hx
 | a :: b :: r, h => fun x hx => by
  have ha := h a (by simp)
  have hb := h b (by simp)
  rw [pairs] at hx
  rcases List.mem_cons.1 hx with rfl | hx
  ·omega
  ·exact Qjk r (fun y hy => h y (by simp [hy])) x hx
theorem Qca {p : List Nat} (leaf : Bool) (h : ∀ x ∈ p, x < 16) : ∀ x ∈ pathCode p leaf, x < 256 := by
 intro x a
 unfold pathCode at a
 rcases List.mem_cons.1 a with rfl | a
 ·have : p.length % 2 = 1 -> p[0]! < 16 := fun d => by
   have b : 0 < p.length := by omega
   rw [getElem!_pos p 0 b]
   exact h _ (List.getElem_mem b)
  split <;> split <;> first | omega | (have := this (by assumption); omega)
 ·exact Qjk _ (fun y c => h y (List.mem_of_mem_drop c)) x a
variable {c : List Nat}
theorem Qbd (h : ∀ x ∈ c, x < 256) : ∀ x ∈ refOf c, x < 256 := by
 unfold refOf
 split
 ·exact h
 ·exact Qan (Qdt c)
mutual
theorem Nd.code_byte : ∀ t : Nd, t.ok -> ∀ x ∈ t.code, x < 256
 | .no, _ => fun x hx => by rw [Nd.code] at hx; cases hx
 | .leaf p v, h => by
  rw [Nd.ok] at h
  rw [Nd.code]
  refine Qdc fun x hx => ?_
  rcases List.mem_append.1 hx with hx | hx
  ·exact Qan (Qca true h.1.2) x hx
  ·exact Qan (Qao v) x hx
 | .ext p t, h => by
  rw [Nd.ok] at h
  have hc := t.code_byte h.2.1
  have hs : ∀ x ∈ t.sel t.code, x < 256 := by
   cases t with
   | no => exact Qan (fun x hx => by cases hx)
   | stub g => have := h.2.1; rw [Nd.ok] at this; exact Qan this.2
   | leaf _ _ => exact Qbd hc
   | ext _ _ => exact Qbd hc
   | br _ => exact Qbd hc
  rw [Nd.code]
  refine Qdc fun x hx => ?_
  rcases List.mem_append.1 hx with hx | hx
  ·exact Qan (Qca false h.1.2) x hx
  ·exact hs x hx
 | .br ks, h => by
  rw [Nd.ok] at h
  rw [Nd.code]
  refine Qdc fun x hx => ?_
  rcases List.mem_append.1 hx with hx | hx
  ·exact Qmq ks h.2 x hx
  ·exact Qan (fun x hx => by cases hx) x hx
 | .stub _, _ => fun x hx => by rw [Nd.code] at hx; cases hx
theorem Qmq : ∀ ks : List Nd, oks ks -> ∀ x ∈ refs ks, x < 256
 | [], _ => fun x hx => by rw [refs] at hx; cases hx
 | t :: ks, h => by
  rw [oks] at h
  have hc := t.code_byte h.1
  have hs : ∀ x ∈ t.sel t.code, x < 256 := by
   cases t with
   | no => exact Qan (fun x hx => by cases hx)
   | stub g => have := h.1; rw [Nd.ok] at this; exact Qan this.2
   | leaf _ _ => exact Qbd hc
   | ext _ _ => exact Qbd hc
   | br _ => exact Qbd hc
  intro x hx
  rw [refs] at hx
  rcases List.mem_append.1 hx with hx | hx
  ·exact hs x hx
  ·exact Qmq ks h.2 x hx
end
theorem Nd.ref_byte (t : Nd) (h : t.ok) : ∀ x ∈ t.ref, x < 256 := by
 have a := t.code_byte h
 cases t with
 | no => exact Qan (fun x b => by cases b)
 | stub g => rw [Nd.ok] at h; exact Qan h.2
 | leaf _ _ => exact Qbd a
 | ext _ _ => exact Qbd a
 | br _ => exact Qbd a
theorem Qbu (h : l.length = 32) : (textCode l).length = 33 := by
 unfold textCode headB
 simp [h]
theorem Qkv (c : List Nat) : (refOf c).length <= 33 := by
 unfold refOf
 split
 ·omega
 ·rw [Qbu (Qak c)]
  omega
theorem Nd.ref_le (t : Nd) (h : t.ok) : t.ref.length <= 33 := by
 cases t with
 | no => have := Qae []; simp at this; show (textCode []).length <= 33; omega
 | stub g => rw [Nd.ok] at h; show (textCode g).length <= 33; rw [Qbu h.1]; omega
 | leaf _ _ => exact Qkv _
 | ext _ _ => exact Qkv _
 | br _ => exact Qkv _
theorem Qto : ∀ ks : List Nd, oks ks -> (refs ks).length <= 33 * ks.length
 | [], _ => by rw [refs]; simp
 | t :: ks, h => by
  rw [oks] at h
  have h1 := t.ref_le h.1
  have h2 := Qto ks h.2
  rw [Qbh, List.length_append, List.length_cons]
  omega
theorem Qhe (h : 0 < c.length) : 0 < (refOf c).length := by
 unfold refOf
 split
 ·exact h
 ·rw [Qbu (Qak c)]
  omega
theorem Nd.ref_pos (t : Nd) : 0 < t.ref.length := by
 cases t with
 | no => exact (Qb9 []).1
 | stub g => exact (Qb9 g).1
 | leaf _ _ => exact Qhe (by rw [Nd.code]; exact Qdq _)
 | ext _ _ => exact Qhe (by rw [Nd.code]; exact Qdq _)
 | br _ => exact Qhe (by rw [Nd.code]; exact Qdq _)
def ndTy : Nd -> TypeId
 | .no => 0
 | .leaf _ _ => 165
 | .ext _ _ => 230
 | .br _ => 229
 | .stub _ => 160
def ndObj : Nd -> TypeId
 | .no => 0
 | .leaf _ _ => 169
 | .ext _ _ => 232
 | .br _ => 235
 | .stub _ => 208
abbrev Wood := Nat -> Option Nd
def ndV (S : Wood) (v : Value) (t : Nd) : Prop := (t = .no /\ v = .nilIface) \/ (t ≠ .no /\ ∃ b, v = .iface (ndTy t) (.pointer (some ⟨b, 0, none⟩)) /\ S b = some t)
def NdRest (S : Wood) : Nd -> List Value -> Prop
 | .no, _ => False
 | .leaf p v, r => r = [.string p, .string v]
 | .ext p t, r => ∃ v, r = [.string p, v] /\ ndV S v t
 | .br ks, r => r.length = 16 /\ ∀ i (h1 : i < r.length) (h2 : i < ks.length), ndV S r[i] ks[i]
 | .stub _, r => r = []
def heldOK (t : Nd) (h : ByteArray) : Prop := h = textB t.ref \/ (h = ⟨#[]⟩ /\ ∀ x, t ≠ .stub x)
def NdAt (S : Wood) (w : World) (b : Nat) (t : Nd) : Prop := ∃ h r, heldOK t h /\ NdRest S t r /\ w.heap[b]? = some (.cells (.string h :: r).toArray (ndObj t) (0, 0))
structure Forest (B : Nat) (S : Wood) (w : World) : Prop where
 node : ∀ b t, S b = some t -> NdAt S w b t
 ok : ∀ b t, S b = some t -> t.ok
 low : ∀ b t, S b = some t -> B <= b
 le : B <= w.heap.size
structure Fr (B : Nat) (S S' : Wood) (w w' : World) : Prop where
 os : w'.os = w.os
 tape : w'.tape = w.tape
 output : w'.output = w.output
 size : w.heap.size <= w'.heap.size
 other : ∀ k, k < w.heap.size -> S k = none -> w'.heap[k]? = w.heap[k]?
 forest : Forest B S' w'
 sub : ∀ b t, S b = some t -> S' b = some t
 new : ∀ k, k < w.heap.size -> S k = none -> S' k = none
 kids : ∀ b t, S b = some t -> ∀ j, 0 < j -> w'.cell? ⟨b, j, none⟩ = w.cell? ⟨b, j, none⟩
variable {S : Wood} {w : World} {b : Nat} {t : Nd}
theorem NdAt.lt (h : NdAt S w b t) : b < w.heap.size := by
 obtain ⟨_, _, _, _, h⟩ := h
 exact (Array.getElem?_eq_some_iff.1 h).1
theorem Forest.lt {B : Nat} {S : Wood} {w : World} (h : Forest B S w) {b : Nat} {t : Nd} (hb : S b = some t) : b < w.heap.size := (h.node b t hb).lt
variable {B : Nat} {w' : World}
theorem Forest.keep (h : Forest B S w) (hs : w.heap.size <= w'.heap.size) (hb : ∀ k t, S k = some t -> w'.heap[k]? = w.heap[k]?) : Forest B S w' :=
 ⟨fun b t ht => by obtain ⟨g, r, h1, h2, h3⟩ := h.node b t ht; exact ⟨g, r, h1, h2, (hb b t ht).trans h3⟩, h.ok, h.low, Nat.le_trans h.le hs⟩
theorem Forest.below (h : Forest B S w) (hb : Below w.heap.size w w') : Forest B S w' := h.keep hb.size fun k _ hk => hb.block k (h.lt hk)
theorem Fr.refl (h : Forest B S w) : Fr B S S w w := ⟨rfl, rfl, rfl, Nat.le_refl _, fun _ _ _ => rfl, h, fun _ _ h => h, fun _ _ h => h, fun _ _ _ _ _ => rfl⟩
theorem Fr.trans {B : Nat} {S S1 S2 : Wood} {w w1 w2 : World} (h : Fr B S S1 w w1) (k : Fr B S1 S2 w1 w2) : Fr B S S2 w w2 :=
 ⟨k.os.trans h.os, k.tape.trans h.tape, k.output.trans h.output, Nat.le_trans h.size k.size, fun i hi hn => (k.other i (Nat.lt_of_lt_of_le hi h.size) (h.new i hi hn)).trans (h.other i hi hn), k.forest, fun b t hb => k.sub b t (h.sub b t hb), fun i hi hn => k.new i (Nat.lt_of_lt_of_le hi h.size) (h.new i hi hn), fun b t hb j hj => (k.kids b t (h.sub b t hb) j hj).trans (h.kids b t hb j hj)⟩
theorem Fr.of_below (h : Forest B S w) (hb : Below w.heap.size w w') : Fr B S S w w' := ⟨hb.os, hb.tape, hb.output, hb.size, fun k hk _ => hb.block k hk, h.below hb, fun _ _ h => h, fun _ _ h => h, fun b _ hk j _ => hb.cell (p := ⟨b, j, none⟩) (h.lt hk)⟩
variable {k : Nat}
theorem Forest.nothing (h : Forest B S w) (hk : k < B) : S k = none := by
 cases hs : S k with
 | none => rfl
 | some t => have := h.low k t hs; omega
variable {S' : Wood}
theorem Fr.below (h : Fr B S S' w w') (hf : Forest B S w) : Below B w w' := ⟨h.os, h.tape, h.output, h.size, fun k hk => h.other k (Nat.lt_of_lt_of_le hk hf.le) (hf.nothing hk)⟩
theorem Fr.behind {w1 w2 : World} (h : Fr B S S' w w1) (hb : Below w1.heap.size w1 w2) : Fr B S S' w w2 := h.trans (Fr.of_below h.forest hb)
theorem Fr.cell {B : Nat} {S S' : Wood} {w w' : World} (h : Fr B S S' w w') {a : Addr} (ha : a.block < w.heap.size) (hn : S a.block = none) : w'.cell? a = w.cell? a := World.cell?_of_block (h.other a.block ha hn)
theorem Forest.fresh (h : Forest B S w) (hk : w.heap.size <= k) : S k = none := by
 cases hs : S k with
 | none => rfl
 | some t => have := h.lt hs; omega
theorem ndV.sub (hs : ∀ b t, S b = some t -> S' b = some t) {v : Value} (h : ndV S v t) : ndV S' v t := by
 rcases h with h | ⟨h, b, h1, h2⟩
 ·exact .inl h
 ·exact .inr ⟨h, b, h1, hs b t h2⟩
theorem NdRest.sub {S S' : Wood} (hs : ∀ b t, S b = some t -> S' b = some t) : ∀ {t : Nd} {r : List Value}, NdRest S t r -> NdRest S' t r
 | .no, _, h => h
 | .leaf _ _, _, h => h
 | .ext _ _, _, ⟨v, h1, h2⟩ => ⟨v, h1, h2.sub hs⟩
 | .br _, _, ⟨h1, h2⟩ => ⟨h1, fun i a b => (h2 i a b).sub hs⟩
 | .stub _, _, h => h
theorem Qhf {x u : Value} {r : List Value} {t : TypeId} (h : w.heap[b]? = some (.cells (x :: r).toArray t (0, 0))) : (w.setCell ⟨b, 0, none⟩ u).heap[b]? = some (.cells (u :: r).toArray t (0, 0)) := by
 have a := (Array.getElem?_eq_some_iff.1 h).1
 unfold World.setCell
 simp only [Array.getElem?_modify, h]
 simp
theorem Fr.held (hf : Forest B S w) (hb : S b = some t) {h : ByteArray} (hh : heldOK t h) : Fr B S S w (w.setCell ⟨b, 0, none⟩ (.string h)) := by
 refine ⟨rfl, rfl, rfl, by simp, fun k _ f => Below.heap_setCell _ _ _ _ (fun e => ?_), ⟨fun k u d => ?_, hf.ok, hf.low, by simpa using hf.le⟩, fun _ _ h => h, fun _ _ h => h, fun k u _ j l => World.cell?_setCell_other _ _ _ _ (fun e => by have := congrArg Addr.off e; simp at this; omega)⟩
 ·rw [e, hb] at f
  cases f
 ·obtain ⟨g, r, i, a, c⟩ := hf.node k u d
  by_cases e : k = b
  ·subst e
   obtain rfl : t = u := Option.some.inj (hb.symm.trans d)
   exact ⟨h, r, hh, a, Qhf c⟩
  ·exact ⟨g, r, i, a, (Below.heap_setCell _ _ _ _ e).trans c⟩
def Wood.put (S : Wood) (b : Nat) (t : Nd) : Wood := fun k => if k = b then some t else S k
theorem Wood.put_same (S : Wood) (b : Nat) (t : Nd) : S.put b t b = some t := by simp [Wood.put]
theorem Wood.put_other (S : Wood) (b : Nat) (t : Nd) (h : k ≠ b) : S.put b t k = S k := by simp [Wood.put, h]
theorem Fr.alloc {B : Nat} {S : Wood} {w : World} (hf : Forest B S w) {t : Nd} {h : ByteArray} {r : List Value} (hh : heldOK t h) (hr : NdRest S t r) (ht : t.ok) : Fr B S (S.put w.heap.size t) w (w.alloc (.cells (.string h :: r).toArray (ndObj t))) := by
 have n : S w.heap.size = none := hf.fresh (Nat.le_refl _)
 have c : ∀ b u, S b = some u -> S.put w.heap.size t b = some u := fun b u d => by
  have := hf.lt d
  rw [Wood.put_other _ _ _ (by omega)]
  exact d
 refine ⟨rfl, rfl, rfl, by simp, fun k a _ => Below.heap_alloc _ _ _ a, ⟨fun k u a => ?_, fun k u a => ?_, fun k u a => ?_, ?_⟩, c, fun k a h => by rw [Wood.put_other _ _ _ (by omega)]; exact h, fun k u a j _ => World.cell?_of_block (Below.heap_alloc _ _ _ (hf.lt a))⟩
 ·by_cases e : k = w.heap.size
  ·subst e
   rw [Wood.put_same] at a
   obtain rfl := Option.some.inj a
   refine ⟨h, r, hh, hr.sub c, ?_⟩
   show (w.heap.push _)[w.heap.size]? = some _
   exact Array.getElem?_push_size
  ·rw [Wood.put_other _ _ _ e] at a
   obtain ⟨g, m, f, i, l⟩ := hf.node k u a
   exact ⟨g, m, f, i.sub c, (Below.heap_alloc _ _ _ (hf.lt a)).trans l⟩
 ·by_cases e : k = w.heap.size
  ·subst e
   rw [Wood.put_same] at a
   obtain rfl := Option.some.inj a
   exact ht
  ·rw [Wood.put_other _ _ _ e] at a
   exact hf.ok k u a
 ·by_cases e : k = w.heap.size
  ·subst e
   exact hf.le
  ·rw [Wood.put_other _ _ _ e] at a
   exact hf.low k u a
 ·have := hf.le
  simp
  omega
end Go.Proofs.YtakidhihbgfjlaaGreatDoor
