/-
  Extract: the first two nodes that are different, of what Prove gives and of another proof.
  An account's code is accepted, and gives the account. Plain facts.
  Package twigskeep: Storage: what holds behind its two trees, and what VerifyStorage answers there.
-/
import Derived.Test.YtjiikjpnlgogfaaGreatDoorSgVeE
import Derived.Test.YtjiikjpnlgogfaaGreatDoorSgOhG
import Derived.Test.YtjiikjpnlgogfaaGreatDoorSgVaG
import Derived.Test.YtjiikjpnlgogfaaGreatDoorSgFull
import Derived.Test.YtjiikjpnlgogfaaGreatDoorSgAccT
import Derived.Test.YtjiikjpnlgogfaaGreatDoorSgStG
namespace Go.Proofs.YtjiikjpnlgogfaaGreatDoor
open Go.RowKit
theorem StrRow.frame {B : Nat} {S S' : Wood} {w w' : World} {p : Option Addr} {l : List ByteArray} {c : Nat} (h : StrRow w p l c) (hf : Fr B S S' w w') (hn : ∀ a, p = some a → S a.block = none) : StrRow w' p l c := by
 rcases h with h | ⟨g, o, rfl, e2, e3, e4⟩
 ·exact .inl h
 ·refine .inr ⟨g, o, rfl, e2, fun h => Nat.lt_of_lt_of_le (e3 h) hf.size, fun j u hu => ?_⟩
  have hj : 0 < l.length := by
   have := (List.getElem?_eq_some_iff.1 hu).1
   simp at this
   omega
  rw [World.cell?_of_block (a := ⟨g, o + j, none⟩) (hf.other g (e3 hj) (hn _ rfl))]
  exact e4 j u hu
end Go.Proofs.YtjiikjpnlgogfaaGreatDoor
namespace Go.Proofs.YtjiikjpnlgogfaaGreatDoor
open Go.RowKit
theorem bare_textL {y : It} {t : List Nat} (h : y.bare = .text 0 0 t) : y.isList = false ∧ y.txt = t := by
 cases y with
 | text a b u =>
  rw [It.bare] at h
  injection h with _ _ h
  exact ⟨rfl, h⟩
 | list a b l => rw [It.bare] at h; cases h
theorem numIt_of {y : It} {n : Nat} (hn : n < 18446744073709551616) (h : y.bare = .text 0 0 (bigE n)) : numIt y ∧ numB y.txt = n := by
 obtain ⟨h1, h2⟩ := bare_textL h
 refine ⟨⟨h1, ?_⟩, by rw [h2]; exact numB_bigE hn⟩
 rw [h2]
 refine ⟨bigE_le n, ?_⟩
 rintro ⟨a, b⟩
 have hf := bigE_first hn
 cases hb : bigE n with
 | nil => rw [hb] at a; simp at a
 | cons x r =>
  rw [hb] at b hf
  have hx : x = 0 := by simpa using b
  subst hx
  exact hf (by simp) rfl
theorem accF_full {a : Acc} (ha : a.ok) : accF (encAcc a) = .ok a := by
 obtain ⟨h1, h2, h3, h4, h5, h6⟩ := ha
 have hx : fits 6 (.list 0 0 [.text 0 0 (bigE a.nonce), .text 0 0 (bigE a.bal), .text 0 0 a.root, .text 0 0 a.code]) := by
  intro y hy
  simp only [List.mem_cons, List.not_mem_nil, or_false] at hy
  rcases hy with rfl | rfl | rfl | rfl <;> trivial
 have hc : (It.list 0 0 [.text 0 0 (bigE a.nonce), .text 0 0 (bigE a.bal), .text 0 0 a.root, .text 0 0 a.code]).code = encAcc a := by
  rw [It.code]
  simp only [codes, It.code]
  unfold encAcc accTexts
  simp only [List.append_assoc, List.append_nil]
 have hl : (encAcc a).length ≤ 2048 := by
  unfold encAcc listCode accTexts
  have t1 := textCode_length (bigE a.nonce)
  have t2 := textCode_length (bigE a.bal)
  have t3 := textCode_length a.root
  have t4 := textCode_length a.code
  have b1 := bigE_le a.nonce
  have b2 := bigE_le a.bal
  have hh := headB_length 192 (textCode (bigE a.nonce) ++ textCode (bigE a.bal) ++ textCode a.root ++ textCode a.code).length
  simp only [List.length_append] at hh ⊢
  omega
 obtain ⟨y, hd, hb⟩ := decF_full hx (by rw [hc]; exact hl)
 rw [hc] at hd
 clear hx hc hl
 obtain ⟨t0, ht0⟩ : ∃ t, bigE a.nonce = t := ⟨_, rfl⟩
 obtain ⟨t1, ht1⟩ : ∃ t, bigE a.bal = t := ⟨_, rfl⟩
 rw [ht0, ht1] at hb
 unfold accF
 rw [hd]
 simp only
 clear hd
 cases y with
 | text p q t => rw [It.bare, It.bare] at hb; cases hb
 | list p q its =>
  rw [It.bare, It.bare] at hb
  injection hb with _ _ hb
  rw [bares_map, bares_map] at hb
  simp only [List.map_cons, List.map_nil, It.bare] at hb
  have hlen := congrArg List.length hb
  simp only [List.length_map, List.length_cons, List.length_nil] at hlen
  obtain ⟨y0, y1, y2, y3, rfl⟩ : ∃ y0 y1 y2 y3, its = [y0, y1, y2, y3] := by
   rcases its with _ | ⟨y0, _ | ⟨y1, _ | ⟨y2, _ | ⟨y3, _ | ⟨y4, r⟩⟩⟩⟩⟩
   ·simp at hlen
   ·simp at hlen
   ·simp at hlen
   ·simp at hlen
   ·exact ⟨y0, y1, y2, y3, rfl⟩
   ·simp at hlen
  simp only [List.map_cons, List.map_nil, List.cons.injEq, and_true] at hb
  obtain ⟨e0, e1, e2, e3⟩ := hb
  obtain ⟨n0, v0⟩ := numIt_of h1 (e0.trans (by rw [ht0]))
  obtain ⟨n1, v1⟩ := numIt_of h2 (e1.trans (by rw [ht1]))
  obtain ⟨l2, v2⟩ := bare_textL e2
  obtain ⟨l3, v3⟩ := bare_textL e3
  have k2 : hashIt y2 := ⟨l2, by rw [v2]; exact h3⟩
  have k3 : hashIt y3 := ⟨l3, by rw [v3]; exact h4⟩
  show readAcc y0 y1 y2 y3 = _
  unfold readAcc
  rw [if_neg (fun h => h n0), if_neg (fun h => h n1), if_neg (fun h => h k2), if_neg (fun h => h k3), v0, v1, v2, v3]
end Go.Proofs.YtjiikjpnlgogfaaGreatDoor
namespace Go.Proofs.YtjiikjpnlgogfaaGreatDoor
open Go.RowKit
theorem xprove_row {B : Nat} {S : Wood} {w : World} {b : Nat} {t : Nd} {K : Array Nat} (hf : Forest B S w) (hTb : Tabs w) (hM : 16 ≤ B) (ht : TreeAt S w b t) (hc : t.can 64) (hK : K.size = 32) (hKb : Bytes K) {L : List (List Nat)} (hL : t.prove (textB (nibs K.toList)) = L) :
  Calls Tryz.prog 29 #[.pointer (some ⟨b, 0, none⟩), .agg (K.toList.map encB).toArray] w fun x w' => ∃ p c, x = .returned (.tuple #[.slice p L.length c, .int .i64 0]) ∧ Fr B S S w w' ∧ StrRow w' p (L.map textB) c ∧ ∀ a, p = some a → w.heap.size ≤ a.block ∧ a.block < w'.heap.size := by
 refine (xprove_any hf hTb hM ht hc hK hKb hL).mono ?_
 rintro e w' ⟨res, rfl, hfr, hO⟩
 obtain ⟨p, c, rfl, hr, hp⟩ := strRow_of hO
 refine ⟨p, c, rfl, hfr, hr, fun a ha => ?_⟩
 obtain ⟨g, hg⟩ := hp (by rw [ha]; rfl)
 rw [ha] at hg
 obtain rfl := Option.some.inj hg
 exact hO.block g (by rw [ha]; rfl)
theorem xprove_l {B : Nat} {S : Wood} {w : World} {b : Nat} {t : Nd} {D : List Nat} (hf : Forest B S w) (hTb : Tabs w) (hM : 16 ≤ B) (ht : TreeAt S w b t) (hc : t.can 64) (hK : D.toArray.size = 32) (hKb : Bytes D.toArray) {L : List (List Nat)} (hL : t.prove (textB (nibs D)) = L) :
  Calls Tryz.prog 29 #[.pointer (some ⟨b, 0, none⟩), .agg (D.map encB).toArray] w fun x w' => ∃ p c, x = .returned (.tuple #[.slice p L.length c, .int .i64 0]) ∧ Fr B S S w w' ∧ StrRow w' p (L.map textB) c ∧ ∀ a, p = some a → w.heap.size ≤ a.block ∧ a.block < w'.heap.size := by
 have h := xprove_row hf hTb hM ht hc hK hKb (L := L) hL
 exact h
theorem answered_l {w : World} {C : Nat} {ks vs : Value} {m : Mp} {D : List Nat} (hk : Kn w C ks vs m) (hm : m.length ≤ 1000) (hd : (m.map pth).Nodup) (hK : D.toArray.size = 32) (hKb : Bytes D.toArray) (s : ByteArray) (f : Bool) {o : Option ByteArray} (ho : getN m (nibs D) = o) :
  Calls Tryz.prog 32 #[.agg #[ks, vs], .agg (D.map encB).toArray, .string s, .bool f] w fun e w' => e = .returned (.bool (ansB o s f)) ∧ Below w.heap.size w w' := by
 have h := answered_any hk hm hd hK hKb s f (o := o) ho
 exact h
theorem StrRow.keep {w w' : World} {p : Option Addr} {l : List ByteArray} {c : Nat} (h : StrRow w p l c) (hs : w.heap.size ≤ w'.heap.size) (hn : ∀ a, p = some a → a.block < w.heap.size → w'.heap[a.block]? = w.heap[a.block]?) : StrRow w' p l c := by
 rcases h with h | ⟨g, o, rfl, e2, e3, e4⟩
 ·exact .inl h
 ·refine .inr ⟨g, o, rfl, e2, fun h => Nat.lt_of_lt_of_le (e3 h) hs, fun j u hu => ?_⟩
  have hj : 0 < l.length := by
   have := (List.getElem?_eq_some_iff.1 hu).1
   simp at this
   omega
  rw [World.cell?_of_block (a := ⟨g, o + j, none⟩) (hn ⟨g, o, none⟩ rfl (e3 hj))]
  exact e4 j u hu
def StoF (w : World) (U : Nat → Prop) (J : Wood) (bt : Nat) (p q : Option Addr) (k : Nat) : Prop :=
 w.heap.size ≤ k ∧ ¬ U k ∧ J k = none ∧ k ≠ bt ∧ (∀ a, p = some a → a.block ≠ k) ∧ ∀ a, q = some a → a.block ≠ k
structure StoQ (w : World) (ow nb : List Nat) (n1 n2 sb ab : Nat) (ks vs ks2 vs2 : Value) (m o : Mp) (sl kat : List Nat) (B : Nat) (J : Wood) (bt : Nat) (tt : Nd) (p : Option Addr) (l : List ByteArray) (c : Nat) (q : Option Addr) (l' : List ByteArray) (c' : Nat) (W : World) : Prop where
 mem : StoM w ow nb n1 n2 sb ab ks vs ks2 vs2 m o sl kat W
 wood : Forest B J W
 tree : TreeAt J W bt tt
 free : ∀ k, StoU w n1 n2 sb ab ks vs ks2 vs2 k → J k = none
 row1 : StrRow W p l c
 in1 : ∀ a, p = some a → J a.block = none ∧ a.block < W.heap.size
 row2 : StrRow W q l' c'
 in2 : ∀ a, q = some a → J a.block = none ∧ a.block < W.heap.size
structure StKit (P : World → Prop) (F : Nat → Prop) (B : Nat) (J : Wood) : Prop where
 more : ∀ W W', P W → Below W.heap.size W W' → P W'
 fr : ∀ W W', P W → Fr B J J W W' → P W'
 set : ∀ W W' f, P W → F f → Only f W W' → P W'
 wood : ∀ k, F k → J k = none
 fresh : ∀ W k, P W → W.heap.size ≤ k → F k
theorem StoQ.kit (w : World) (ow nb : List Nat) (n1 n2 sb ab : Nat) (ks vs ks2 vs2 : Value) (m o : Mp) (sl kat : List Nat) (B : Nat) (hB : w.heap.size ≤ B) (J : Wood) (bt : Nat) (tt : Nd) (p : Option Addr) (l : List ByteArray) (c : Nat) (q : Option Addr) (l' : List ByteArray) (c' : Nat) :
  StKit (StoQ w ow nb n1 n2 sb ab ks vs ks2 vs2 m o sl kat B J bt tt p l c q l' c') (StoF w (StoU w n1 n2 sb ab ks vs ks2 vs2) J bt p q) B J := by
 have hfr : ∀ W W', StoQ w ow nb n1 n2 sb ab ks vs ks2 vs2 m o sl kat B J bt tt p l c q l' c' W → Fr B J J W W' → StoQ w ow nb n1 n2 sb ab ks vs ks2 vs2 m o sl kat B J bt tt p l c q l' c' W' := fun W W' h hf =>
  ⟨h.mem.fr h.wood hB (hf.x _) h.free, hf.forest, h.tree.frame hf, h.free, h.row1.frame hf fun a ha => (h.in1 a ha).1, fun a ha => ⟨(h.in1 a ha).1, Nat.lt_of_lt_of_le (h.in1 a ha).2 hf.size⟩, h.row2.frame hf fun a ha => (h.in2 a ha).1, fun a ha => ⟨(h.in2 a ha).1, Nat.lt_of_lt_of_le (h.in2 a ha).2 hf.size⟩⟩
 refine ⟨fun W W' h hb => hfr W W' h (Fr.of_below h.wood hb), hfr, fun W W' f h hF ho => ?_, fun k hF => hF.2.2.1, fun W k h hk => ?_⟩
 ·exact ⟨h.mem.only ho hF.1 hF.2.1, forest_only h.wood ho hF.2.2.1, h.tree.only ho hF.2.2.2.1.symm, h.free, h.row1.keep ho.size fun a ha hl => ho.block _ hl (hF.2.2.2.2.1 a ha), fun a ha => ⟨(h.in1 a ha).1, Nat.lt_of_lt_of_le (h.in1 a ha).2 ho.size⟩, h.row2.keep ho.size fun a ha hl => ho.block _ hl (hF.2.2.2.2.2 a ha), fun a ha => ⟨(h.in2 a ha).1, Nat.lt_of_lt_of_le (h.in2 a ha).2 ho.size⟩⟩
 ·refine ⟨Nat.le_trans h.mem.below.size hk, fun hu => ?_, h.wood.fresh hk, fun e => ?_, fun a ha e => ?_, fun a ha e => ?_⟩
  ·have := (h.mem.lt k hu).1; omega
  ·have := h.tree.lt; omega
  ·have := (h.in1 a ha).2; omega
  ·have := (h.in2 a ha).2; omega
structure FtY (P : World → Prop) (F : Nat → Prop) (y0 y1 y2 y3 : Value) (b5 : Bool) (v5 : Value) (b11 : Bool) (v11 : Value) (b14 : Bool) (W : World) : Prop where
 all : P W
 row : b5 = true → ∃ g, v5 = .slice (some ⟨g, 0, none⟩) 1 1 ∧ F g ∧ g < W.heap.size ∧ StrRow W (some ⟨g, 0, none⟩) [⟨#[120]⟩] 1 ∧ (b11 = true → v11 ≠ .pointer (some ⟨g, 0, none⟩))
 ft : b11 = true → ∃ f x0 x1 x2 x3, v11 = .pointer (some ⟨f, 0, none⟩) ∧ F f ∧ W.heap[f]? = some (.cells #[x0, x1, x2, x3] 66 (0, 0)) ∧ (b14 = true → x0 = y0 ∧ x1 = y1 ∧ x2 = y2 ∧ x3 = y3)
 ft14 : b14 = true → b11 = true
theorem FtY.fr {P : World → Prop} {F : Nat → Prop} {B : Nat} {J : Wood} {y0 y1 y2 y3 : Value} {b5 : Bool} {v5 : Value} {b11 : Bool} {v11 : Value} {b14 : Bool} {W W' : World} (k : StKit P F B J) (h : FtY P F y0 y1 y2 y3 b5 v5 b11 v11 b14 W) (hf : Fr B J J W W') : FtY P F y0 y1 y2 y3 b5 v5 b11 v11 b14 W' :=
 ⟨k.fr _ _ h.all hf, fun q => by
   obtain ⟨g, e1, e2, e3, e4, e5⟩ := h.row q
   exact ⟨g, e1, e2, Nat.lt_of_lt_of_le e3 hf.size, e4.frame hf fun a ha => by obtain rfl := Option.some.inj ha; exact k.wood g e2, e5⟩,
  fun q => by
   obtain ⟨f, x0, x1, x2, x3, e1, e2, e3, e4⟩ := h.ft q
   exact ⟨f, x0, x1, x2, x3, e1, e2, (hf.other f (Array.getElem?_eq_some_iff.1 e3).1 (k.wood f e2)).trans e3, e4⟩, h.ft14⟩
theorem FtY.more {P : World → Prop} {F : Nat → Prop} {B : Nat} {J : Wood} {y0 y1 y2 y3 : Value} {b5 : Bool} {v5 : Value} {b11 : Bool} {v11 : Value} {b14 : Bool} {W W' : World} (k : StKit P F B J) (h : FtY P F y0 y1 y2 y3 b5 v5 b11 v11 b14 W) (hf : Below W.heap.size W W') : FtY P F y0 y1 y2 y3 b5 v5 b11 v11 b14 W' :=
 ⟨k.more _ _ h.all hf, fun q => by
   obtain ⟨g, e1, e2, e3, e4, e5⟩ := h.row q
   exact ⟨g, e1, e2, Nat.lt_of_lt_of_le e3 hf.size, e4.below hf, e5⟩,
  fun q => by
   obtain ⟨f, x0, x1, x2, x3, e1, e2, e3, e4⟩ := h.ft q
   exact ⟨f, x0, x1, x2, x3, e1, e2, (hf.block f (Array.getElem?_eq_some_iff.1 e3).1).trans e3, e4⟩, h.ft14⟩
theorem FtY.alloc {P : World → Prop} {F : Nat → Prop} {B : Nat} {J : Wood} {y0 y1 y2 y3 : Value} {b5 : Bool} {v5 : Value} {b11 : Bool} {v11 : Value} {b14 : Bool} {W : World} (k : StKit P F B J) (h : FtY P F y0 y1 y2 y3 b5 v5 b11 v11 b14 W) (h14 : b14 = false) : FtY P F y0 y1 y2 y3 b5 v5 true (.pointer (some ⟨W.heap.size, 0, none⟩)) b14 (W.alloc (.cells #[.int .i64 0, .int .i64 0, .int .i64 0, .int .i64 0] 66)) := by
 have h' := h.more k ((Below.refl W.heap.size W).alloc (Nat.le_refl _) (.cells #[.int .i64 0, .int .i64 0, .int .i64 0, .int .i64 0] 66))
 refine ⟨h'.all, fun q => ?_, fun _ => ⟨W.heap.size, _, _, _, _, rfl, k.fresh _ _ h.all (Nat.le_refl _), Array.getElem?_push_size, fun q => (by rw [h14] at q; cases q)⟩, fun _ => rfl⟩
 obtain ⟨g, e1, e2, e3, e4, e5⟩ := h'.row q
 obtain ⟨g', e1', _, e3', _⟩ := h.row q
 refine ⟨g, e1, e2, e3, e4, fun _ e => ?_⟩
 rw [e1] at e1'
 simp only [Value.slice.injEq, Option.some.injEq, Addr.mk.injEq, and_true] at e1'
 simp only [Value.pointer.injEq, Option.some.injEq, Addr.mk.injEq, and_true] at e
 omega
theorem FtY.set {P : World → Prop} {F : Nat → Prop} {B : Nat} {J : Wood} {y0 y1 y2 y3 : Value} {b5 : Bool} {v5 : Value} {b14 : Bool} {W : World} {f : Nat} (k : StKit P F B J) (h : FtY P F y0 y1 y2 y3 b5 v5 true (.pointer (some ⟨f, 0, none⟩)) b14 W) : FtY P F y0 y1 y2 y3 b5 v5 true (.pointer (some ⟨f, 0, none⟩)) true ((((W.setCell ⟨f, 0, none⟩ y0).setCell ⟨f, 1, none⟩ y1).setCell ⟨f, 2, none⟩ y2).setCell ⟨f, 3, none⟩ y3) := by
 obtain ⟨f', x0, x1, x2, x3, e1, e2, e3, -⟩ := h.ft rfl
 simp only [Value.pointer.injEq, Option.some.injEq, Addr.mk.injEq, and_true] at e1
 subst e1
 have ho : Only f W ((((W.setCell ⟨f, 0, none⟩ y0).setCell ⟨f, 1, none⟩ y1).setCell ⟨f, 2, none⟩ y2).setCell ⟨f, 3, none⟩ y3) := ⟨rfl, rfl, rfl, by simp, fun k _ hne => (((Below.heap_setCell _ _ _ _ hne).trans (Below.heap_setCell _ _ _ _ hne)).trans (Below.heap_setCell _ _ _ _ hne)).trans (Below.heap_setCell _ _ _ _ hne)⟩
 refine ⟨k.set _ _ _ h.all e2 ho, fun q => ?_, fun _ => ⟨f, y0, y1, y2, y3, rfl, e2, fault_set e3 _ _ _ _, fun _ => ⟨rfl, rfl, rfl, rfl⟩⟩, fun _ => rfl⟩
 obtain ⟨g, e1, e2, e3, e4, e5⟩ := h.row q
 exact ⟨g, e1, e2, Nat.lt_of_lt_of_le e3 ho.size, e4.keep ho.size (fun a ha hl => ho.block _ hl (by obtain rfl := Option.some.inj ha; rintro rfl; exact e5 rfl rfl)), e5⟩
theorem FtY.put {P : World → Prop} {F : Nat → Prop} {B : Nat} {J : Wood} {y0 y1 y2 y3 : Value} {b5 : Bool} {v5 : Value} {b11 : Bool} {v11 : Value} {b14 : Bool} {W : World} {f : Nat} (k : StKit P F B J) (h : FtY P F y0 y1 y2 y3 b5 v5 b11 v11 b14 W) (hb : b11 = true) (hv : v11 = .pointer (some ⟨f, 0, none⟩)) : FtY P F y0 y1 y2 y3 b5 v5 b11 v11 true ((((W.setCell ⟨f, 0, none⟩ y0).setCell ⟨f, 1, none⟩ y1).setCell ⟨f, 2, none⟩ y2).setCell ⟨f, 3, none⟩ y3) := by
 subst hb hv
 exact h.set k
theorem FtY.start {P : World → Prop} {F : Nat → Prop} {y0 y1 y2 y3 : Value} {b5 : Bool} {v5 : Value} {b11 : Bool} {v11 : Value} {b14 : Bool} {W : World} (h : P W) (h5 : b5 = false) (h11 : b11 = false) (h14 : b14 = false) : FtY P F y0 y1 y2 y3 b5 v5 b11 v11 b14 W := by
 subst h5 h11 h14
 exact ⟨h, fun q => (by cases q), fun q => (by cases q), fun q => (by cases q)⟩
theorem FtY.low {P : World → Prop} {F : Nat → Prop} {y0 y1 y2 y3 : Value} {b5 : Bool} {v5 : Value} {b11 : Bool} {v11 : Value} {b14 : Bool} {W : World} (h : FtY P F y0 y1 y2 y3 b5 v5 b11 v11 false W) (h14 : b14 = false) : FtY P F y0 y1 y2 y3 b5 v5 b11 v11 b14 W := by
 subst h14
 exact h
theorem FtY.fault {P : World → Prop} {F : Nat → Prop} {y0 y1 y2 y3 : Value} {b5 : Bool} {v5 v11 : Value} {W : World} (h : FtY P F y0 y1 y2 y3 b5 v5 true v11 true W) : ∃ f, v11 = .pointer (some ⟨f, 0, none⟩) ∧ F f ∧ W.heap[f]? = some (.cells #[y0, y1, y2, y3] 66 (0, 0)) := by
 obtain ⟨f, x0, x1, x2, x3, e1, e2, e3, e4⟩ := h.ft rfl
 obtain ⟨rfl, rfl, rfl, rfl⟩ := e4 rfl
 exact ⟨f, e1, e2, e3⟩
theorem FtY.lay {P : World → Prop} {F : Nat → Prop} {B : Nat} {J : Wood} {y0 y1 y2 y3 : Value} {b5 : Bool} {v5 : Value} {b11 : Bool} {v11 : Value} {b14 : Bool} {W : World} {t : TypeId} (k : StKit P F B J) (h : FtY P F y0 y1 y2 y3 b5 v5 b11 v11 b14 W) : FtY P F y0 y1 y2 y3 true (.slice (some ⟨W.heap.size, 0, none⟩) 1 1) b11 v11 b14 (W.alloc (.cells #[.string ⟨#[120]⟩] t)) := by
 have hb := (Below.refl W.heap.size W).alloc (Nat.le_refl _) (.cells #[.string ⟨#[120]⟩] t)
 refine ⟨k.more _ _ h.all hb, fun _ => ⟨W.heap.size, rfl, k.fresh _ _ h.all (Nat.le_refl _), by simp, .inr ⟨_, 0, rfl, Nat.le_refl _, fun _ => by simp, fun j u hu => ?_⟩, fun q e => ?_⟩, fun q => ?_, h.ft14⟩
 ·rw [Nat.zero_add, World.cell?_alloc_new]
  simpa using hu
 ·obtain ⟨f, x0, x1, x2, x3, e1, e2, e3, -⟩ := h.ft q
  rw [e1] at e
  simp only [Value.pointer.injEq, Option.some.injEq, Addr.mk.injEq, and_true] at e
  have := (Array.getElem?_eq_some_iff.1 e3).1
  omega
 ·obtain ⟨f, x0, x1, x2, x3, e1, e2, e3, e4⟩ := h.ft q
  exact ⟨f, x0, x1, x2, x3, e1, e2, (hb.block f (Array.getElem?_eq_some_iff.1 e3).1).trans e3, e4⟩
theorem run_build_str (w : World) (s : ByteArray) : (Instr.buildSlice 52 1 #[(0, .string s)]).run Tryz.prog w = .ok (.slice (some ⟨w.heap.size, 0, none⟩) 1 1) (w.alloc (.cells #[.string s] 9)) := by
 obtain ⟨i, h1, h2, h3, h4⟩ := info_parts strZ
 refine run_buildSlice w _ 9 1 _ #[.string s] i (.string ⟨#[]⟩) Tryz.underlying52 h1 h2 (by rw [h3]; decide) (by rw [h3]; decide) ?_
 rw [h3]
 have := Great.fill_whole (s := 1) (by decide) [.string s] ((Array.range (1 * 1)).map ((Value.string ⟨#[]⟩).cells[· % (Value.string ⟨#[]⟩).cells.size]!)) (by simp [Value.cells]) (by simp)
 simpa [Value.cells] using this
theorem wp_build_str (dst : Option Tmp) (s : ByteArray) (type : TypeId) (pos : String) (af : Array Edge) (gd : Option (Nat × Bool)) (a : Act) (w : World) (K : Act → World → Prop) (Q : Exit → Act → World → Prop) :
  Oper.wp Tryz.prog { dst := dst, op := .buildSlice 52 1 #[(0, .const (.string s))], type := type, pos := pos, after := af, guard := gd } a w K Q = K (a.put dst (.slice (some ⟨w.heap.size, 0, none⟩) 1 1)) (w.alloc (.cells #[.string s] 9)) := by
 have h := run_build_str w s
 unfold Oper.wp execOp
 simp only [List.map_toArray, List.map_cons, List.map_nil, Act.eval, Sem.run_bind, h, Result.andThen_ok]
 rfl
theorem xstor_codes {w W : World} (sent : Nat → Addr) (hE : Env w.heap.size sent w ∧ typeAt w ∧ 12 < w.heap.size) (hb : Below w.heap.size w W) (h ad sl : List Nat) (L1 L2 : List (List Nat)) (p1 p2 : Option Addr) (c1 c2 : Nat) (hh : h.length = 32) (hhb : ∀ x ∈ h, x < 256) (had : ad.length = 20) (hsl : sl.length = 32) (hr1 : StrRow W p1 (L1.map textB) c1) (hr2 : StrRow W p2 (L2.map textB) c2) (hl1 : L1.length ≤ 1000) (hl2 : L2.length ≤ 1000) (hB1 : ∀ c ∈ L1, ∀ y ∈ c, y < 256) (hB2 : ∀ c ∈ L2, ∀ y ∈ c, y < 256) {q : Except Er (Option ByteArray)} (hq : storF h ad sl L1 L2 = q) :
  Calls Tryz.prog 42 #[.agg (h.map encB).toArray, .agg (ad.map encB).toArray, .agg (sl.map encB).toArray, .slice p1 L1.length c1, .slice p2 L2.length c2] W fun e w' => e = .returned (.tuple #[.string (verStr q), .bool (verHas q), verFault q]) ∧ Below W.heap.size W w' := by
 have := xstor_any sent h ad sl (L1.map textB) (L2.map textB) p1 p2 c1 c2 ((hE.1.below hb).raise hb.size) ((hb.cell (p := ⟨12, 0, none⟩) hE.2.2).trans hE.2.1) (Nat.lt_of_lt_of_le hE.2.2 hb.size) hh hhb had hsl hr1 hr2 (by rw [List.length_map]; omega) (by rw [List.length_map]; omega) (q := q) (by rw [texts_back hB1, texts_back hB2]; exact hq)
 rw [List.length_map, List.length_map] at this
 exact this
theorem encAcc_byte {a : Acc} (ha : a.ok) : ∀ x ∈ encAcc a, x < 256 := by
 refine listCode_byte fun y hy => ?_
 rw [accTexts] at hy
 rcases List.mem_append.1 hy with hy | hy
 ·rcases List.mem_append.1 hy with hy | hy
  ·rcases List.mem_append.1 hy with hy | hy
   ·exact textCode_byte (bigE_byte _) y hy
   ·exact textCode_byte (bigE_byte _) y hy
  ·exact textCode_byte ha.2.2.2.2.1 y hy
 ·exact textCode_byte ha.2.2.2.2.2 y hy
theorem getN_wi {m : Mp} (hd : (m.map (·.1)).Nodup) {K : Array Nat} (u : ByteArray) : getN (wiN m K u) (nibs K.toList) = some u := by
 have h := wi_dup hd K u
 have hx : (K, u) ∈ wiN m K u := by rw [wiN]; simp
 exact getN_mem (pth_dup h) hx
theorem prove_row_ok {t : Nd} {D : List Nat} (hc : t.can 64) (hK : D.toArray.size = 32) (hKb : Bytes D.toArray) {L : List (List Nat)} (hL : t.prove (textB (nibs D)) = L) : (∀ c ∈ L, ∀ y ∈ c, y < 256) ∧ L.length ≤ 1000 := by
 have q := (key_path hK hKb).2.2
 dsimp only at q
 subst hL
 exact ⟨prove_byte (by rw [q]; exact hc) (by omega), Nat.le_trans (prove_len _ _) (by omega)⟩
theorem dig_ok {t : Nd} (hc : t.can 64) {D : List Nat} (hD : t.dig = D) : D.length = 32 ∧ ∀ x ∈ D, x < 256 := by
 obtain ⟨htok, _⟩ := t.can_ok 64 hc (Nat.le_refl _)
 subst hD
 exact ⟨t.dig_length htok, dig_byte hc⟩
theorem stor_honest {tt ts : Nd} {ow sl : List Nat} {o : Mp} {a : Acc} {m : Mp} (hct : tt.can 64) (hcs : ts.can 64) (ha : a.ok) (hr : a.root = ts.dig) (hg : ∀ s, s.length = 64 → tt.get s = getN (wiN o (digB ow).toArray (textB (encAcc a))) s) (hd : (o.map (·.1)).Nodup) (hgs : ∀ s, s.length = 64 → ts.get s = getN m s) :
  storF tt.dig ow sl (tt.prove (textB (nibs (digB ow)))) (ts.prove (textB (nibs (digB sl)))) = .ok (getN m (nibs (digB sl))) := by
 obtain ⟨k1, k2⟩ := digB_key ow
 obtain ⟨q1, q2, q3⟩ := key_path k1 k2
 obtain ⟨k3, k4⟩ := digB_key sl
 obtain ⟨r1, r2, r3⟩ := key_path k3 k4
 dsimp only at q1 q2 q3 r1 r2 r3
 have l1 : (nibs (digB ow)).length = 64 := by rw [← q1, bytesOf_length, q3]
 have l2 : (nibs (digB sl)).length = 64 := by rw [← r1, bytesOf_length, r3]
 have v1 := ver_honest hct q3 (by rw [q1]; exact q2)
 have v2 := ver_honest hcs r3 (by rw [r1]; exact r2)
 have g1 := getN_wi hd (K := (digB ow).toArray) (textB (encAcc a))
 dsimp only at g1
 rw [q1, hg _ l1, g1] at v1
 rw [r1, hgs _ l2] at v2
 have hby : bytesOf (textB (encAcc a)) = encAcc a := bytes_textB (encAcc_byte ha)
 unfold storF
 rw [v1]
 simp only [hby, accF_full ha, hr, v2]
 rfl
theorem stor_honest' {tt ts : Nd} {ow sl DO DS TD : List Nat} {o o' : Mp} {a : Acc} {m : Mp} {EA : ByteArray} {L1 L2 : List (List Nat)} {ov : Option ByteArray} (hct : tt.can 64) (hcs : ts.can 64) (ha : a.ok) (hr : ts.dig = a.root) (hDO : digB ow = DO) (hDS : digB sl = DS) (hEA : textB (encAcc a) = EA) (ho' : wiN o DO.toArray EA = o') (hg : ∀ s, s.length = 64 → tt.get s = getN o' s) (hd : (o.map (·.1)).Nodup) (hgs : ∀ s, s.length = 64 → ts.get s = getN m s) (hTD : tt.dig = TD) (hL1 : tt.prove (textB (nibs DO)) = L1) (hL2 : ts.prove (textB (nibs DS)) = L2) (hov : getN m (nibs DS) = ov) :
  storF TD ow sl L1 L2 = .ok ov := by
 subst hDO hDS hEA ho' hTD hL1 hL2 hov
 exact stor_honest hct hcs ha hr.symm hg hd hgs
theorem stor_nobody {tt : Nd} {nb sl : List Nat} {o : Mp} (hct : tt.can 64) (hg : ∀ s, s.length = 64 → tt.get s = getN o s) (hn : findN o (digB nb).toArray = none) (L2 : List (List Nat)) :
  storF tt.dig nb sl (tt.prove (textB (nibs (digB nb)))) L2 = if L2 = [] then .ok none else .error (.inProof 2 (.inNode 0 (.base 4))) := by
 obtain ⟨k1, k2⟩ := digB_key nb
 obtain ⟨q1, q2, q3⟩ := key_path k1 k2
 dsimp only at q1 q2 q3
 have l1 : (nibs (digB nb)).length = 64 := by rw [← q1, bytesOf_length, q3]
 have v1 := ver_honest hct q3 (by rw [q1]; exact q2)
 have g1 := find_no hn
 dsimp only at g1
 rw [q1, hg _ l1, g1] at v1
 unfold storF
 rw [v1]
theorem stor_nobody' {tt : Nd} {nb DN TD : List Nat} {o : Mp} {L3 : List (List Nat)} (hct : tt.can 64) (hg : ∀ s, s.length = 64 → tt.get s = getN o s) (hDN : digB nb = DN) (hn : findN o DN.toArray = none) (hL : tt.prove (textB (nibs DN)) = L3) (hTD : tt.dig = TD) (sl : List Nat) :
  storF TD nb sl L3 [] = .ok none ∧ storF TD nb sl L3 [[120]] = .error (.inProof 2 (.inNode 0 (.base 4))) := by
 subst hDN hTD hL
 exact ⟨(stor_nobody hct hg hn []).trans (if_pos rfl), (stor_nobody hct hg hn [[120]]).trans (if_neg (by simp))⟩
end Go.Proofs.YtjiikjpnlgogfaaGreatDoor
