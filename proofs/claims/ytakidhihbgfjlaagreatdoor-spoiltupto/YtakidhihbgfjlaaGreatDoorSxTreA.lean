/-
  Trees: a way with a value at its end (with); the tree is changed (change).
-/
import Derived.Test.YtakidhihbgfjlaaGreatDoorSxNodD
namespace Go.Proofs.YtakidhihbgfjlaaGreatDoor
open Go.RowKit
set_option maxRecDepth 100000
set_option maxHeartbeats 25600000
def putFn : Nd -> FuncId
 | .leaf _ _ => 142
 | .ext _ _ => 185
 | .br _ => 150
 | _ => 0
def Nd.shown : Nd -> Bool
 | .leaf _ _ => true
 | .ext _ _ => true
 | .br _ => true
 | _ => false
theorem mPut (t : Nd) (ht : t.shown = true) (a : Addr) (w : World) : (Go.method 386 (ndTy t) (.pointer (some a)) "twigs/tree.put").run Tryz.prog w = .ok (putFn t, .pointer (some a)) w := by
 cases t with
 | leaf _ _ => kernel_rfl
 | ext _ _ => kernel_rfl
 | br _ => kernel_rfl
 | _ => simp [Nd.shown] at ht
theorem QDq (t : Nd) (ht : t.shown = true) (args : Array Value) (w : World) : (callFunc (putFn t) args).run Tryz.prog w = .ok (.enter (putFn t) args) w := by
 cases t with
 | leaf _ _ => kernel_rfl
 | ext _ _ => kernel_rfl
 | br _ => kernel_rfl
 | _ => simp [Nd.shown] at ht
theorem Qvp (t : Nd) (ht : t.shown = true) (a : Addr) (w : World) : (Instr.typeAssert (.iface (ndTy t) (.pointer (some a))) 56 155 true).run Tryz.prog w = .ok (.tuple #[.iface (ndTy t) (.pointer (some a)), .bool true]) w := by
 cases t with
 | leaf _ _ => kernel_rfl
 | ext _ _ => kernel_rfl
 | br _ => kernel_rfl
 | _ => simp [Nd.shown] at ht
theorem Qk7 (w : World) : (Instr.typeAssert .nilIface 56 155 true).run Tryz.prog w = .ok (.tuple #[.nilIface, .bool false]) w := by kernel_rfl
def Nd.puts : Nd -> ByteArray -> Prop
 | .no, _ => True
 | .leaf p _, r => p.size = r.size
 | .ext p _, r => p.size < r.size /\ ¬ begins p r
 | .br _, r => 0 < r.size
 | .stub _, _ => False
variable {B b : Nat} {S : Wood} {w : World} {t : Nd} {r u : ByteArray}
theorem QAz (hf : Forest B S w) (hb : S b = some t) (ht : t.shown = true) (hp : t.puts r) (hr : nibOK r) (hu : u.size <= 1024) :
  Calls Tryz.prog (putFn t) #[.pointer (some ⟨b, 0, none⟩), .string r, .string u] w (Made' B S w (t.putAt r u)) := by
 cases t with
 | leaf p v => exact Qxj hf hb hp hr hu
 | ext p t => exact Qxk hf hb hp.1 hp.2 hr hu
 | br ks => exact Ql6 hf hb hp rfl (hr.at hp) (hr.tail 1) hu
 | _ => simp [Nd.shown] at ht
theorem WayTo.puts {t : Nd} {r : ByteArray} {l : List (Nd × ByteArray)} {e : Nd} {r' : ByteArray} (h : WayTo t r l e r') : ∀ (_ : t.fits r.size) (_ : t.ok) (_ : ∀ h, e ≠ .stub h), e.puts r' := by
 induction h with
 | @stop t r h =>
  intro a b c
  cases t with
  | no => trivial
  | leaf p v => rw [Nd.fits] at a; exact a
  | ext p t =>
   rw [Nd.fits] at a
   rw [Nd.ok] at b
   refine ⟨a.2.1, fun d => ?_⟩
   rw [Nd.next, if_pos d] at h
   exact b.2.2 h
  | br ks => rw [Nd.fits] at a; exact a.1
  | stub g => exact absurd rfl (c g)
 | @go t r l e r' hn _ ih =>
  intro a b c
  obtain ⟨i, j, f⟩ := Nd.next_fits a hn
  refine ih (by rw [Qa6]; exact f) ?_ c
  cases t with
  | ext p t =>
   rw [Nd.ok] at b
   rw [Nd.next] at hn ⊢
   split
   ·exact b.2.1
   ·rw [Nd.ok]; trivial
  | br ks =>
   rw [Nd.ok] at b
   rw [Nd.next] at hn ⊢
   rw [List.getD_eq_getElem?_getD] at hn ⊢
   cases hk : ks[(bytesOf r)[0]!]? with
   | none => rw [Option.getD_none, Nd.ok]; trivial
   | some x => exact Qhd b.2 (List.mem_of_getElem? hk)
  | _ => exact absurd rfl hn
variable {e : Nd} {v : Value}
theorem Qvq (p : Option Addr) (m c : Nat) (hf : Forest B S w) (hv : ndV S v e) (hs : ∀ h, e ≠ .stub h) (hp : e.puts r) (hr : nibOK r) (hu : u.size <= 1024) :
  Calls Tryz.prog 49 #[.agg #[.slice p m c, v, .string r], .string u] w (Made' B S w (e.putAt r u)) := by
 have a : Below w.heap.size w (w.alloc (.cells #[.slice p m c, v, .string r] 112)) := (Below.refl _ _).alloc (Nat.le_refl _) _
 rcases hv with ⟨rfl, rfl⟩ | ⟨hne, b, rfl, hb⟩
 ·have g := Qk7
  have j : Hid (Fr B S (S.put (w.heap.size + 1) (.leaf r u)) w ((w.alloc (.cells #[.slice p m c, .nilIface, .string r] 112)).alloc (.cells #[.string ⟨#[]⟩, .string r, .string u] 169))) := by
   have := (Fr.of_below hf a).trans (Fr.leaf (hf.below a) hr hu)
   rw [World.size_alloc] at this
   exact this
  rw [show Nd.putAt .no r u = .leaf r u from rfl]
  clear hf hp hr hu hs a
  go_enter Tryz.func49, Tryz.ntmps49
  go_wp2
  go_ret
  exact ⟨_, _, rfl, .inr ⟨by simp, w.heap.size + 1, rfl, Wood.put_same _ _ _⟩, j.out⟩
 ·have d : e.shown = true := by
   cases e with
   | no => exact absurd rfl hne
   | stub h => exact absurd rfl (hs h)
   | _ => rfl
  have g := Qvp e d
  have q := mPut e d
  have l := QDq e d
  have o := Hq (QAz (hf.below a) hb d hp hr hu)
  have n : Hid (Fr B S S w _) := Fr.of_below hf a
  clear hf hp hr hu hs a hb
  go_enter Tryz.func49, Tryz.ntmps49
  go_wp2_with fail
  refine o.out.mono ?_
  rintro x t ⟨s, k, rfl, i, f⟩
  have j : Hid (ndV k s (e.putAt r u) /\ Fr B S k w t) := ⟨i, n.out.trans f⟩
  clear i f g q l
  go_wp2
  go_ret
  exact ⟨_, _, rfl, j.out⟩
structure FrX (B : Nat) (X : Nat -> Prop) (S S' : Wood) (w w' : World) : Prop where
 os : w'.os = w.os
 tape : w'.tape = w.tape
 output : w'.output = w.output
 size : w.heap.size <= w'.heap.size
 other : ∀ k, k < w.heap.size -> S k = none -> ¬ X k -> w'.heap[k]? = w.heap[k]?
 forest : Forest B S' w'
 sub : ∀ b t, S b = some t -> S' b = some t
 new : ∀ k, k < w.heap.size -> S k = none -> S' k = none
variable {S' : Wood}
theorem Fr.x {w' : World} (h : Fr B S S' w w') (X : Nat -> Prop) : FrX B X S S' w w' := ⟨h.os, h.tape, h.output, h.size, fun k a b _ => h.other k a b, h.forest, h.sub, h.new⟩
theorem FrX.trans {B : Nat} {X : Nat -> Prop} {S S1 S2 : Wood} {w w1 w2 : World} (h : FrX B X S S1 w w1) (k : FrX B X S1 S2 w1 w2) : FrX B X S S2 w w2 :=
 ⟨k.os.trans h.os, k.tape.trans h.tape, k.output.trans h.output, Nat.le_trans h.size k.size, fun i hi hn hx => (k.other i (Nat.lt_of_lt_of_le hi h.size) (h.new i hi hn) hx).trans (h.other i hi hn hx), k.forest, fun b t hb => k.sub b t (h.sub b t hb), fun i hi hn => k.new i (Nat.lt_of_lt_of_le hi h.size) (h.new i hi hn)⟩
variable {X : Nat -> Prop}
theorem FrX.set {w' : World} (h : FrX B X S S' w w') (a : Addr) (v : Value) (hx : X a.block) (hn : S' a.block = none) : FrX B X S S' w (w'.setCell a v) := by
 refine ⟨h.os, h.tape, h.output, by simpa using h.size, fun k b d c => (Below.heap_setCell w' a v k fun e => c (by rw [e]; exact hx)).trans (h.other k b d c), h.forest.keep (by simp) fun k t b => Below.heap_setCell _ _ _ _ fun e => ?_, h.sub, h.new⟩
 rw [e, hn] at b
 cases b
theorem FrX.behind {w1 w2 : World} (h : FrX B X S S' w w1) (hb : Below w1.heap.size w1 w2) : FrX B X S S' w w2 := h.trans ((Fr.of_below h.forest hb).x X)
variable {l : List (Nd × ByteArray)}
theorem Qs3 {C : Nat} {t0 : Nd} {thr u : Value} {cs : List Value} (hf : Forest B S w) (ht : TreeAt S w b t0) (hO : OwnC w C 2 thr l.length cs) (hT : Turns S l cs) (hnone : ∀ g, thr.ownBlock = some g -> S g = none) (hv : v = .nilIface \/ ∃ T a, v = .iface T (.pointer (some a))) (hu : ndV S u t) (hl : l.length <= 1000) (hok : endOK l t) :
  Calls Tryz.prog 48 #[.pointer (some ⟨b, 0, none⟩), .agg #[thr, v, .string r], u] w fun x w' => x = .returned .nilIface /\ ∃ S', TreeAt S' w' b (endN l t) /\ FrX B (· = b) S S' w w' := by
 have d : Below w.heap.size w (w.alloc (.cells #[thr, v, .string r] 112)) := (Below.refl _ _).alloc (Nat.le_refl _) _
 have q := Hq (Qre (r := r) (hf.below d) (hO.below d) hT hnone hv hu hl hok)
 have n : Hid (Fr B S S w (w.alloc (.cells #[thr, v, .string r] 112)) /\ TreeAt S w b t0) := ⟨Fr.of_below hf d, ht⟩
 obtain ⟨I, H, F, rfl⟩ := hO.shape
 have D := ht.lt
 have p := hu.shape
 clear hf ht hO hT hnone hu hl hok d
 rcases hv with rfl | ⟨T, a, rfl⟩
 all_goals rcases p with rfl | ⟨T', a', rfl⟩
 all_goals
  go_enter Tryz.func48, Tryz.ntmps48
  go_wp2_with fail
  refine q.out.mono ?_
  rintro x j ⟨i, y, rfl, h, k⟩
  have e := n.out.1.trans k
  obtain ⟨f, v0, m, c⟩ := n.out.2.frame e
  have E : j.cell? ⟨b, 0, none⟩ = some v0 := (Qb6 c).1
  have G : j.frozen? ⟨b, 0, none⟩ = false := (Qb6 c).2
  have s : Hid ((∃ S', TreeAt S' (j.setCell ⟨b, 0, none⟩ i) b (endN l t) /\ FrX B (· = b) S S' w (j.setCell ⟨b, 0, none⟩ i))) := ⟨y, ⟨f, i, h, Qa2 (cs := [v0]) c 0 i⟩, (e.x _).set _ _ rfl f⟩
  have o := h.shape
  have z := m.shape
  clear h k e f m c
  rcases o with rfl | ⟨T3, a3, rfl⟩
  all_goals
   go_wp2
   go_ret
   exact ⟨rfl, s.out⟩
theorem Qir (u : ByteArray) (w : World) (h0 : 0 < u.size) (h1 : u.size <= 100) : Calls Tryz.prog 46 #[.string u] w fun e w' => e = .returned (.bool true) /\ w' = w := by
 have b := Qcu u h0
 have c : (u.size : Int) <= 100 := by omega
 have a : decide (u.size <= 100) = true := decide_eq_true h1
 go_enter Tryz.func46, Tryz.ntmps46
 go_wp2
 go_ret
 exact ⟨rfl, rfl⟩
theorem Turns.sub {S S' : Wood} (hs : ∀ b t, S b = some t -> S' b = some t) : ∀ {l : List (Nd × ByteArray)} {cs : List Value}, Turns S l cs -> Turns S' l cs
 | [], _, h => h
 | _ :: _, _, ⟨v, cs', h1, h2, h3⟩ => ⟨v, cs', h1, h2.sub hs, h3.sub hs⟩
theorem Qgp {x y z : Value} {t : TypeId} (h : w.heap[b]? = some (.cells #[x, y, z] t (0, 0))) : w.cell? ⟨b, 0, none⟩ = some x /\ w.cell? ⟨b, 1, none⟩ = some y /\ w.cell? ⟨b, 2, none⟩ = some z := by
 refine ⟨?_, ?_, ?_⟩ <;> simp [World.cell?, h]
variable {r' : ByteArray}
theorem Qqq {W3 : World} {g : Nat} {pv : Option Addr} {mv cv : Nat} (hf : Forest B S w) (ht : TreeAt S w b t) (hb3 : Below w.heap.size w W3) (hgw : w.heap.size <= g) (hg3 : W3.heap[g]? = some (.cells #[.slice pv mv cv, v, .string r'] 112 (0, 0))) (hs3 : g < W3.heap.size) (hF3 : Followed S w.heap.size W3 l e (.slice pv mv cv) v) (hX : e.puts r' /\ nibOK r' /\ u.size <= 100 /\ l.length <= 1000 /\ endOK l (e.putAt r' u) /\ ∀ h, e ≠ .stub h) :
  (∀ w4, Below W3.drew.heap.size W3.drew w4 -> (w4.cell? ⟨g, 0, none⟩ = some (.slice pv mv cv) /\ w4.cell? ⟨g, 1, none⟩ = some v /\ w4.cell? ⟨g, 2, none⟩ = some (.string r')) /\ Calls Tryz.prog 49 #[.agg #[.slice pv mv cv, v, .string r'], .string u] w4 (Made' B S w4 (e.putAt r' u)) /\
   ∀ w5 v5 S5, ndV S5 v5 (e.putAt r' u) -> Fr B S S5 w4 w5 -> (w5.cell? ⟨g, 0, none⟩ = some (.slice pv mv cv) /\ w5.cell? ⟨g, 1, none⟩ = some v /\ w5.cell? ⟨g, 2, none⟩ = some (.string r')) /\ Calls Tryz.prog 48 #[.pointer (some ⟨b, 0, none⟩), .agg #[.slice pv mv cv, v, .string r'], v5] w5 (fun x w' => x = .returned .nilIface /\ ∃ S', TreeAt S' w' b (endN l (e.putAt r' u)) /\ FrX B (· = b) S5 S' w5 w') /\
    ∀ w6 S6, TreeAt S6 w6 b (endN l (e.putAt r' u)) -> FrX B (· = b) S5 S6 w5 w6 -> (w6.cell? ⟨g, 0, none⟩ = some (.slice pv mv cv) /\ w6.cell? ⟨g, 1, none⟩ = some v /\ w6.cell? ⟨g, 2, none⟩ = some (.string r')) /\ TreeAt S6 w6 b (endN l (e.putAt r' u)) /\ FrX B (· = b) S S6 w w6) /\ True := by
 refine ⟨fun w4 f => ?_, trivial⟩
 have J := ht.lt
 have d : Below W3.heap.size W3 w4 := ⟨f.os, f.tape, f.output, f.size, f.block⟩
 have E : Below w.heap.size w w4 := hb3.trans (d.mono hb3.size)
 have n : w4.heap[g]? = some (.cells #[.slice pv mv cv, v, .string r'] 112 (0, 0)) := (d.block g hs3).trans hg3
 have i := hF3.keep d
 have j := Fr.of_below hf E
 have s : S g = none := hf.fresh hgw
 obtain ⟨cs, y, D⟩ := i.row
 refine ⟨Qgp n, Qvq pv mv cv j.forest i.node hX.2.2.2.2.2 hX.1 hX.2.1 (by omega), fun w5 v5 S5 H a => ?_⟩
 have p : g < w4.heap.size := (Array.getElem?_eq_some_iff.1 n).1
 have o : w5.heap[g]? = some (.cells #[.slice pv mv cv, v, .string r'] 112 (0, 0)) := (a.other g p s).trans n
 have r : ∀ k, (Value.slice pv mv cv).ownBlock = some k -> S k = none := fun k c => hf.fresh (y.block k c).1
 have C : OwnC w5 w.heap.size 2 (.slice pv mv cv) l.length cs := y.keep a.size fun k c I => a.other k c (r k I)
 have m := j.trans a
 refine ⟨Qgp o, Qs3 a.forest (ht.frame m) C (D.sub a.sub) (fun k c => a.new k (y.block k c).2 (r k c)) i.node.shape H hX.2.2.2.1 hX.2.2.2.2.1, fun w6 S6 G q => ?_⟩
 have z : g < w5.heap.size := (Array.getElem?_eq_some_iff.1 o).1
 have F : w6.heap[g]? = some (.cells #[.slice pv mv cv, v, .string r'] 112 (0, 0)) := (q.other g z (a.new g p s) (by show ¬ g = b; omega)).trans o
 exact ⟨Qgp F, G, (m.x _).trans q⟩
variable {K : Array Nat} {p : ByteArray}
theorem Qyo (hf : Forest B S w) (ht : TreeAt S w b t) (hto : t.ok) (hK : K.size = 32) (hKb : Bytes K) (hp : textB (nibs K.toList) = p) (hfit : t.fits p.size) (hn : ∀ x ∈ bytesOf p, x < 16) (hps : p.size <= 64) (hT : WayTo t p l e r') (hs : ∀ h, e ≠ .stub h) (hr : nibOK r') (hu0 : 0 < u.size) (hu1 : u.size <= 100) (hl : l.length <= 1000) (hok : endOK l (e.putAt r' u)) :
  Calls Tryz.prog 31 #[.pointer (some ⟨b, 0, none⟩), .agg (K.toList.map encB).toArray, .string u] w fun x w' => x = .returned .nilIface /\ ∃ S', TreeAt S' w' b (endN l (e.putAt r' u)) /\ FrX B (· = b) S S' w w' := by
 have M := hT.puts hfit hto hs
 have H : Below w.heap.size w (w.alloc (.cells (K.toList.map encB).toArray 42)) := (Below.refl _ _).alloc (Nat.le_refl _) _
 have aa : (w.alloc (.cells (K.toList.map encB).toArray 42)).rangeAt w.heap.size 0 (K.toList.map encB) := fun j u hu => by
  rw [Nat.zero_add, World.cell?_alloc_new]
  simpa using hu
 have ac : (Tryz.prog.info? 42).map (·.size) = some (K.toList.map encB).length := by rw [Qb4]; simp [hK]
 have HI := fun W => Hq (Qir u W hu0 hu1)
 have U := Hq (Ql4 (hf.below H) (ht.frame (Fr.of_below hf H)) hK hKb hp hfit hn (by omega) hT hs)
 have I : Hid (Forest B S w /\ TreeAt S w b t /\ Below w.heap.size w (w.alloc (.cells (K.toList.map encB).toArray 42))) := ⟨hf, ht, H⟩
 have N : Hid (e.puts r' /\ nibOK r' /\ u.size <= 100 /\ l.length <= 1000 /\ endOK l (e.putAt r' u) /\ ∀ h, e ≠ .stub h) := ⟨M, hr, hu1, hl, hok, hs⟩
 clear hf ht hto hK hKb hp hfit hn hps hT hs hr hu0 hu1 hl hok M H
 go_enter Tryz.func31, Tryz.ntmps31
 go_upto_region 6 with (first | (go_at_call 46; refine (HI _).out.mono ?_; rintro x w1 ⟨rfl, rfl⟩) | (refine wpList_load_mid rfl 42 _ rfl w.heap.size 0 rfl _ _ aa Tryz.underlying42 rfl ac ?_) | (go_at_call 47; refine U.out.mono ?_; rintro x c ⟨O, ag, v2, rfl, G⟩; obtain ⟨k, i, g, rfl⟩ := G.shape; have ae := G.node.shape; have d : Hid (Below w.heap.size w c /\ Followed S w.heap.size c l e (.slice k i g) v2) := ⟨I.out.2.2.behind' O, G.mono (by simp)⟩; clear O G; rcases ae with rfl | ⟨T2, a2, rfl⟩))
 ·obtain ⟨W3, a⟩ : ∃ W3, c.alloc (.cells #[.slice k i g, .nilIface, .string r'] 112) = W3 := ⟨_, rfl⟩
  have y : c.heap.size < W3.heap.size := by rw [<- a]; simp
  have q : Below w.heap.size w W3 := by rw [<- a]; exact d.out.1.alloc d.out.1.size _
  have f : W3.heap[c.heap.size]? = some (.cells #[.slice k i g, .nilIface, .string r'] 112 (0, 0)) := by rw [<- a]; exact Array.getElem?_push_size
  have o : Followed S w.heap.size W3 l e (.slice k i g) (.nilIface) := by rw [<- a]; exact d.out.2.keep ((Below.refl _ _).alloc (Nat.le_refl _) _)
  rw [a]
  have T := Hq (Qqq I.out.1 I.out.2.1 q d.out.1.size f y o N.out)
  obtain ⟨X, Y, Z⟩ := Qgp f
  clear a y q f o U
  go_region_held3 (fun w' => w'.cell? ⟨c.heap.size, 0, none⟩ = some (.slice k i g) /\ w'.cell? ⟨c.heap.size, 1, none⟩ = some (.nilIface) /\ w'.cell? ⟨c.heap.size, 2, none⟩ = some (.string r')) (first | exact ⟨X, Y, Z⟩ | exact P | exact Q | exact R)
   (first | (go_at_call 50; refine (Qds u _ (by have := N.out; omega)).mono ?_; rintro x w4 ⟨rfl, r⟩; obtain ⟨P, D⟩ := T.out.1 w4 r; have m := Hq D; clear r D) | (go_at_call 49; refine m.out.1.mono ?_; rintro x w5 ⟨v5, V, rfl, C, s⟩; obtain ⟨Q, E⟩ := m.out.2 w5 v5 V C s; have n := Hq E; clear C s E) | (go_at_call 48; refine n.out.1.mono ?_; rintro x w6 ⟨rfl, L, z, v⟩; obtain ⟨R, F⟩ := n.out.2 w6 L z v; have J := Hq F; clear z v F))
  all_goals go_wp2
  all_goals go_ret
  all_goals exact ⟨rfl, L, J.out⟩
 ·obtain ⟨W3, a⟩ : ∃ W3, c.alloc (.cells #[.slice k i g, .iface T2 (.pointer (some a2)), .string r'] 112) = W3 := ⟨_, rfl⟩
  have y : c.heap.size < W3.heap.size := by rw [<- a]; simp
  have q : Below w.heap.size w W3 := by rw [<- a]; exact d.out.1.alloc d.out.1.size _
  have f : W3.heap[c.heap.size]? = some (.cells #[.slice k i g, .iface T2 (.pointer (some a2)), .string r'] 112 (0, 0)) := by rw [<- a]; exact Array.getElem?_push_size
  have o : Followed S w.heap.size W3 l e (.slice k i g) (.iface T2 (.pointer (some a2))) := by rw [<- a]; exact d.out.2.keep ((Below.refl _ _).alloc (Nat.le_refl _) _)
  rw [a]
  have T := Hq (Qqq I.out.1 I.out.2.1 q d.out.1.size f y o N.out)
  obtain ⟨X, Y, Z⟩ := Qgp f
  clear a y q f o U
  go_region_held3 (fun w' => w'.cell? ⟨c.heap.size, 0, none⟩ = some (.slice k i g) /\ w'.cell? ⟨c.heap.size, 1, none⟩ = some (.iface T2 (.pointer (some a2))) /\ w'.cell? ⟨c.heap.size, 2, none⟩ = some (.string r')) (first | exact ⟨X, Y, Z⟩ | exact P | exact Q | exact R)
   (first | (go_at_call 50; refine (Qds u _ (by have := N.out; omega)).mono ?_; rintro x w4 ⟨rfl, r⟩; obtain ⟨P, D⟩ := T.out.1 w4 r; have m := Hq D; clear r D) | (go_at_call 49; refine m.out.1.mono ?_; rintro x w5 ⟨v5, V, rfl, C, s⟩; obtain ⟨Q, E⟩ := m.out.2 w5 v5 V C s; have n := Hq E; clear C s E) | (go_at_call 48; refine n.out.1.mono ?_; rintro x w6 ⟨rfl, L, z, v⟩; obtain ⟨R, F⟩ := n.out.2 w6 L z v; have J := Hq F; clear z v F))
  all_goals go_wp2
  all_goals go_ret
  all_goals exact ⟨rfl, L, J.out⟩
theorem Qyp (hf : Forest B S w) : Calls Tryz.prog 17 #[] w fun e w' => e = .returned (.pointer (some ⟨w.heap.size, 0, none⟩)) /\ TreeAt S w' w.heap.size .no /\ Fr B S S w w' /\ w' = w.alloc (.cells #[.nilIface] 60) := by
 have a : Hid (TreeAt S (w.alloc (.cells #[.nilIface] 60)) w.heap.size .no /\ Fr B S S w (w.alloc (.cells #[.nilIface] 60))) := ⟨⟨hf.fresh (Nat.le_refl _), .nilIface, .inl ⟨rfl, rfl⟩, Array.getElem?_push_size⟩, Fr.of_below hf ((Below.refl _ _).alloc (Nat.le_refl _) _)⟩
 clear hf
 go_enter Tryz.func17, Tryz.ntmps17
 go_wp2
 go_ret
 exact ⟨rfl, a.out.1, a.out.2, rfl⟩
theorem Qyq (hf : Forest B S w) (ht : TreeAt S w b t) (hto : t.ok) (hK : K.size = 32) (hKb : Bytes K) (hp : textB (nibs K.toList) = p) (hfit : t.fits p.size) (hn : ∀ x ∈ bytesOf p, x < 16) (hps : p.size <= 64) (hT : WayTo t p l e r') (hs : ∀ h, e ≠ .stub h) (hr : nibOK r') (hu0 : 0 < u.size) (hu1 : u.size <= 100) (hl : l.length <= 1000) (hok : endOK l (e.putAt r' u)) :
  Calls Tryz.prog 18 #[.pointer (some ⟨b, 0, none⟩), .agg (K.toList.map encB).toArray, .string u] w fun x w' => x = .returned (.int .i64 0) /\ ∃ S', TreeAt S' w' b (endN l (e.putAt r' u)) /\ FrX B (· = b) S S' w w' := by
 have D := ht.lt
 have E : (Tryz.prog.info? 42).map (·.size) = some (K.toList.map encB).length := by rw [Qb4]; simp [hK]
 obtain ⟨W0, c⟩ : ∃ W0, w.alloc (.cells (K.toList.map encB).toArray 42) = W0 := ⟨_, rfl⟩
 have d : Below w.heap.size w W0 := by rw [<- c]; exact (Below.refl _ _).alloc (Nat.le_refl _) _
 have r : w.heap.size < W0.heap.size := by rw [<- c]; simp
 have g : W0.rangeAt w.heap.size 0 (K.toList.map encB) := fun j u z => by
  rw [<- c, Nat.zero_add, World.cell?_alloc_new]
  simpa using z
 have n := Fr.of_below hf d
 have i : Below w.heap.size w W0.drew := d.drew
 have a := Fr.of_below hf i
 have v := Hq (Qyo a.forest (ht.frame a) hto hK hKb hp hfit hn hps hT hs hr hu0 hu1 hl hok)
 have q : Hid (Fr B S S w W0.drew /\ S w.heap.size = none) := ⟨a, hf.fresh (Nat.le_refl _)⟩
 have C := Tryz.underlying42
 clear hf ht hto hK hKb hp hfit hn hps hT hs hr hu0 hu1 hl hok d n i a
 go_enter Tryz.func18, Tryz.ntmps18
 go_upto_region 1 with fail
 clear c
 go_region_held3 (fun w' => w'.rangeAt w.heap.size 0 (K.toList.map encB)) (first | exact g | exact y )
  (first | (go_at_call 31; refine v.out.mono ?_; rintro x o ⟨rfl, m, k, f⟩; have y : o.rangeAt w.heap.size 0 (K.toList.map encB) := Qa4 g (f.other w.heap.size r q.out.2 (by show ¬ w.heap.size = b; omega)); have s : Hid (TreeAt m o b (endN l (e.putAt r' u)) /\ FrX B (· = b) S m w o) := ⟨k, (q.out.1.x _).trans f⟩; clear k f) | (go_at_call 30; refine (Qio _).mono ?_; rintro x F ⟨rfl, rfl⟩))
 all_goals go_wp2
 all_goals go_ret
 all_goals exact ⟨rfl, m, s.out⟩
end Go.Proofs.YtakidhihbgfjlaaGreatDoor
