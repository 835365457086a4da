/-
  Trees: a way with a value at its end (with); the tree is changed (change).
  Trees: Put.
  Trees: twigs.New, twigs.Put.
-/
import Derived.Test.YtjiikjpnlgogfaaGreatDoorSdNodD
namespace Go.Proofs.YtjiikjpnlgogfaaGreatDoor
open Go.RowKit
def putFn : Nd → FuncId
 | .leaf _ _ => 292
 | .ext _ _ => 344
 | .br _ => 298
 | _ => 0
def Nd.shown : Nd → Bool
 | .leaf _ _ => true
 | .ext _ _ => true
 | .br _ => true
 | _ => false
theorem mPut (t : Nd) (ht : t.shown = true) (a : Addr) (w : World) : (Go.method 563 (ndTy t) (.pointer (some a)) "twigs/tree.put").run Tryz.prog w = .ok (putFn t, .pointer (some a)) w := by
 cases t with
 | leaf _ _ => kernel_rfl
 | ext _ _ => kernel_rfl
 | br _ => kernel_rfl
 | _ => simp [Nd.shown] at ht
theorem enPut (t : Nd) (ht : t.shown = true) (args : Array Value) (w : World) : (callFunc (putFn t) args).run Tryz.prog w = .ok (.enter (putFn t) args) w := by
 cases t with
 | leaf _ _ => kernel_rfl
 | ext _ _ => kernel_rfl
 | br _ => kernel_rfl
 | _ => simp [Nd.shown] at ht
theorem taShown (t : Nd) (ht : t.shown = true) (a : Addr) (w : World) : (Instr.typeAssert (.iface (ndTy t) (.pointer (some a))) 106 189 true).run Tryz.prog w = .ok (.tuple #[.iface (ndTy t) (.pointer (some a)), .bool true]) w := by
 cases t with
 | leaf _ _ => kernel_rfl
 | ext _ _ => kernel_rfl
 | br _ => kernel_rfl
 | _ => simp [Nd.shown] at ht
theorem taShownNil (w : World) : (Instr.typeAssert .nilIface 106 189 true).run Tryz.prog w = .ok (.tuple #[.nilIface, .bool false]) w := by kernel_rfl
def Nd.puts : Nd → ByteArray → Prop
 | .no, _ => True
 | .leaf p _, r => p.size = r.size
 | .ext p _, r => p.size < r.size ∧ ¬ begins p r
 | .br _, r => 0 < r.size
 | .stub _, _ => False
theorem put_any {B : Nat} {S : Wood} {w : World} {b : Nat} {t : Nd} {r u : ByteArray} (hf : Forest B S w) (hb : S b = some t) (ht : t.shown = true) (hp : t.puts r) (hr : nibOK r) (hu : u.size ≤ 1024) :
  Calls Tryz.prog (putFn t) #[.pointer (some ⟨b, 0, none⟩), .string r, .string u] w (Made' B S w (t.putAt r u)) := by
 cases t with
 | leaf p v => exact lput_any hf hb hp hr hu
 | ext p t => exact eput_any hf hb hp.1 hp.2 hr hu
 | br ks => exact bput_any hf hb hp rfl (hr.at hp) (hr.tail 1) hu
 | _ => simp [Nd.shown] at ht
theorem WayTo.puts {t : Nd} {r : ByteArray} {l : List (Nd × ByteArray)} {e : Nd} {r' : ByteArray} (h : WayTo t r l e r') : ∀ (_ : t.fits r.size) (_ : t.ok) (_ : ∀ h, e ≠ .stub h), e.puts r' := by
 induction h with
 | @stop t r h =>
  intro hf ho hs
  cases t with
  | no => trivial
  | leaf p v => rw [Nd.fits] at hf; exact hf
  | ext p t =>
   rw [Nd.fits] at hf
   rw [Nd.ok] at ho
   refine ⟨hf.2.1, fun hb => ?_⟩
   rw [Nd.next, if_pos hb] at h
   exact ho.2.2 h
  | br ks => rw [Nd.fits] at hf; exact hf.1
  | stub g => exact absurd rfl (hs g)
 | @go t r l e r' hn _ ih =>
  intro hf ho hs
  obtain ⟨k1, k2, k3⟩ := Nd.next_fits hf hn
  refine ih (by rw [extract_size]; exact k3) ?_ hs
  cases t with
  | ext p t =>
   rw [Nd.ok] at ho
   rw [Nd.next] at hn ⊢
   split
   ·exact ho.2.1
   ·rw [Nd.ok]; trivial
  | br ks =>
   rw [Nd.ok] at ho
   rw [Nd.next] at hn ⊢
   rw [List.getD_eq_getElem?_getD] at hn ⊢
   cases hk : ks[(bytesOf r)[0]!]? with
   | none => rw [Option.getD_none, Nd.ok]; trivial
   | some x => exact oks_mem ho.2 (List.mem_of_getElem? hk)
  | _ => exact absurd rfl hn
set_option maxRecDepth 100000 in
set_option maxHeartbeats 1600000 in
theorem wwith_any {B : Nat} {S : Wood} {w : World} {e : Nd} {v : Value} {r u : ByteArray} (p : Option Addr) (m c : Nat) (hf : Forest B S w) (hv : ndV S v e) (hs : ∀ h, e ≠ .stub h) (hp : e.puts r) (hr : nibOK r) (hu : u.size ≤ 1024) :
  Calls Tryz.prog 85 #[.agg #[.slice p m c, v, .string r], .string u] w (Made' B S w (e.putAt r u)) := by
 have hb0 : Below w.heap.size w (w.alloc (.cells #[.slice p m c, v, .string r] 165)) := (Below.refl _ _).alloc (Nat.le_refl _) _
 rcases hv with ⟨rfl, rfl⟩ | ⟨hne, b, rfl, hb⟩
 ·have hta := taShownNil
  have HE : Hid (Fr B S (S.put (w.heap.size + 1) (.leaf r u)) w ((w.alloc (.cells #[.slice p m c, .nilIface, .string r] 165)).alloc (.cells #[.string ⟨#[]⟩, .string r, .string u] 245))) := by
   have := (Fr.of_below hf hb0).trans (Fr.leaf (hf.below hb0) hr hu)
   rw [World.size_alloc] at this
   exact this
  rw [show Nd.putAt .no r u = .leaf r u from rfl]
  clear hf hp hr hu hs hb0
  go_enter Tryz.func85, Tryz.ntmps85
  go_wp2
  go_ret
  exact ⟨_, _, rfl, .inr ⟨by simp, w.heap.size + 1, rfl, Wood.put_same _ _ _⟩, HE.out⟩
 ·have hsh : e.shown = true := by
   cases e with
   | no => exact absurd rfl hne
   | stub h => exact absurd rfl (hs h)
   | _ => rfl
  have hta := taShown e hsh
  have hm := mPut e hsh
  have hfn := enPut e hsh
  have HP := Hid.hide (put_any (hf.below hb0) hb hsh hp hr hu)
  have HF : Hid (Fr B S S w _) := Fr.of_below hf hb0
  clear hf hp hr hu hs hb0 hb
  go_enter Tryz.func85, Tryz.ntmps85
  go_wp2_with fail
  refine HP.out.mono ?_
  rintro x w1 ⟨v1, S1, rfl, hv1, hf1⟩
  have HE : Hid (ndV S1 v1 (e.putAt r u) ∧ Fr B S S1 w w1) := ⟨hv1, HF.out.trans hf1⟩
  clear hv1 hf1 hta hm hfn
  go_wp2
  go_ret
  exact ⟨_, _, rfl, HE.out⟩
structure FrX (B : Nat) (X : Nat → Prop) (S S' : Wood) (w w' : World) : Prop where
 os : w'.os = w.os
 tape : w'.tape = w.tape
 output : w'.output = w.output
 size : w.heap.size ≤ w'.heap.size
 other : ∀ k, k < w.heap.size → S k = none → ¬ X k → w'.heap[k]? = w.heap[k]?
 forest : Forest B S' w'
 sub : ∀ b t, S b = some t → S' b = some t
 new : ∀ k, k < w.heap.size → S k = none → S' k = none
theorem Fr.x {B : Nat} {S S' : Wood} {w w' : World} (h : Fr B S S' w w') (X : Nat → Prop) : FrX B X S S' w w' := ⟨h.os, h.tape, h.output, h.size, fun k a b _ => h.other k a b, h.forest, h.sub, h.new⟩
theorem FrX.trans {B : Nat} {X : Nat → Prop} {S S1 S2 : Wood} {w w1 w2 : World} (h : FrX B X S S1 w w1) (k : FrX B X S1 S2 w1 w2) : FrX B X S S2 w w2 :=
 ⟨k.os.trans h.os, k.tape.trans h.tape, k.output.trans h.output, Nat.le_trans h.size k.size, fun i hi hn hx => (k.other i (Nat.lt_of_lt_of_le hi h.size) (h.new i hi hn) hx).trans (h.other i hi hn hx), k.forest, fun b t hb => k.sub b t (h.sub b t hb), fun i hi hn => k.new i (Nat.lt_of_lt_of_le hi h.size) (h.new i hi hn)⟩
theorem FrX.set {B : Nat} {X : Nat → Prop} {S S' : Wood} {w w' : World} (h : FrX B X S S' w w') (a : Addr) (v : Value) (hx : X a.block) (hn : S' a.block = none) : FrX B X S S' w (w'.setCell a v) := by
 refine ⟨h.os, h.tape, h.output, by simpa using h.size, fun k hk hs hx' => (Below.heap_setCell w' a v k fun e => hx' (by rw [e]; exact hx)).trans (h.other k hk hs hx'), h.forest.keep (by simp) fun k t hk => Below.heap_setCell _ _ _ _ fun e => ?_, h.sub, h.new⟩
 rw [e, hn] at hk
 cases hk
set_option maxRecDepth 100000 in
set_option maxHeartbeats 1600000 in
theorem change_any {B : Nat} {S : Wood} {C : Nat} {w : World} {b : Nat} {t0 t : Nd} {l : List (Nd × ByteArray)} {r : ByteArray} {thr v u : Value} {cs : List Value} (hf : Forest B S w) (ht : TreeAt S w b t0) (hO : OwnC w C 2 thr l.length cs) (hT : Turns S l cs) (hnone : ∀ g, thr.ownBlock = some g → S g = none) (hv : v = .nilIface ∨ ∃ T a, v = .iface T (.pointer (some a))) (hu : ndV S u t) (hl : l.length ≤ 1000) (hok : endOK l t) :
  Calls Tryz.prog 84 #[.pointer (some ⟨b, 0, none⟩), .agg #[thr, v, .string r], u] w fun x w' => x = .returned .nilIface ∧ ∃ S', TreeAt S' w' b (endN l t) ∧ FrX B (· = b) S S' w w' := by
 have hb0 : Below w.heap.size w (w.alloc (.cells #[thr, v, .string r] 165)) := (Below.refl _ _).alloc (Nat.le_refl _) _
 have HE := Hid.hide (ending_any (r := r) (hf.below hb0) (hO.below hb0) hT hnone hv hu hl hok)
 have HF : Hid (Fr B S S w (w.alloc (.cells #[thr, v, .string r] 165)) ∧ TreeAt S w b t0) := ⟨Fr.of_below hf hb0, ht⟩
 obtain ⟨pv, mv, cv, rfl⟩ := hO.shape
 have hbl := ht.lt
 have hus := hu.shape
 clear hf ht hO hT hnone hu hl hok hb0
 rcases hv with rfl | ⟨T, a, rfl⟩
 all_goals rcases hus with rfl | ⟨T', a', rfl⟩
 all_goals
  go_enter Tryz.func84, Tryz.ntmps84
  go_wp2_with fail
  refine HE.out.mono ?_
  rintro x w1 ⟨v1, S1, rfl, hv1, hf1⟩
  have hF1 := HF.out.1.trans hf1
  obtain ⟨hsb, v0, hv0, hcell⟩ := HF.out.2.frame hF1
  have c0 : w1.cell? ⟨b, 0, none⟩ = some v0 := (heap_cell1 hcell).1
  have f0 : w1.frozen? ⟨b, 0, none⟩ = false := (heap_cell1 hcell).2
  have HZ : Hid ((∃ S', TreeAt S' (w1.setCell ⟨b, 0, none⟩ v1) b (endN l t) ∧ FrX B (· = b) S S' w (w1.setCell ⟨b, 0, none⟩ v1))) := ⟨S1, ⟨hsb, v1, hv1, heap_setCell_list (cs := [v0]) hcell 0 v1⟩, (hF1.x _).set _ _ rfl hsb⟩
  have hsh := hv1.shape
  have hv0s := hv0.shape
  clear hv1 hf1 hF1 hsb hv0 hcell
  rcases hsh with rfl | ⟨T3, a3, rfl⟩
  all_goals
   go_wp2
   go_ret
   exact ⟨rfl, HZ.out⟩
end Go.Proofs.YtjiikjpnlgogfaaGreatDoor
namespace Go.Proofs.YtjiikjpnlgogfaaGreatDoor
open Go.RowKit
set_option maxRecDepth 100000 in
set_option maxHeartbeats 1600000 in
theorem isvalue_any (u : ByteArray) (w : World) (h0 : 0 < u.size) (h1 : u.size ≤ 100) : Calls Tryz.prog 82 #[.string u] w fun e w' => e = .returned (.bool true) ∧ w' = w := by
 have hs := some_text u h0
 have i1 : (u.size : Int) ≤ 100 := by omega
 have d1 : decide (u.size ≤ 100) = true := decide_eq_true h1
 go_enter Tryz.func82, Tryz.ntmps82
 go_wp2
 go_ret
 exact ⟨rfl, rfl⟩
theorem Turns.sub {S S' : Wood} (hs : ∀ b t, S b = some t → S' b = some t) : ∀ {l : List (Nd × ByteArray)} {cs : List Value}, Turns S l cs → Turns S' l cs
 | [], _, h => h
 | _ :: _, _, ⟨v, cs', h1, h2, h3⟩ => ⟨v, cs', h1, h2.sub hs, h3.sub hs⟩
theorem rowOf3 {w : World} {b : Nat} {x y z : Value} {t : TypeId} (h : w.heap[b]? = some (.cells #[x, y, z] t (0, 0))) : w.cell? ⟨b, 0, none⟩ = some x ∧ w.cell? ⟨b, 1, none⟩ = some y ∧ w.cell? ⟨b, 2, none⟩ = some z := by
 refine ⟨?_, ?_, ?_⟩ <;> simp [World.cell?, h]
theorem tput_pre {B : Nat} {S : Wood} {w W3 : World} {b g : Nat} {t e : Nd} {r' u : ByteArray} {l : List (Nd × ByteArray)} {pv : Option Addr} {mv cv : Nat} {v : Value} (hf : Forest B S w) (ht : TreeAt S w b t) (hb3 : Below w.heap.size w W3) (hgw : w.heap.size ≤ g) (hg3 : W3.heap[g]? = some (.cells #[.slice pv mv cv, v, .string r'] 165 (0, 0))) (hs3 : g < W3.heap.size) (hF3 : Followed S w.heap.size W3 l e (.slice pv mv cv) v) (hX : e.puts r' ∧ nibOK r' ∧ u.size ≤ 100 ∧ l.length ≤ 1000 ∧ endOK l (e.putAt r' u) ∧ ∀ h, e ≠ .stub h) :
  (∀ w4, Below W3.drew.heap.size W3.drew w4 → (w4.cell? ⟨g, 0, none⟩ = some (.slice pv mv cv) ∧ w4.cell? ⟨g, 1, none⟩ = some v ∧ w4.cell? ⟨g, 2, none⟩ = some (.string r')) ∧ Calls Tryz.prog 85 #[.agg #[.slice pv mv cv, v, .string r'], .string u] w4 (Made' B S w4 (e.putAt r' u)) ∧
   ∀ w5 v5 S5, ndV S5 v5 (e.putAt r' u) → Fr B S S5 w4 w5 → (w5.cell? ⟨g, 0, none⟩ = some (.slice pv mv cv) ∧ w5.cell? ⟨g, 1, none⟩ = some v ∧ w5.cell? ⟨g, 2, none⟩ = some (.string r')) ∧ Calls Tryz.prog 84 #[.pointer (some ⟨b, 0, none⟩), .agg #[.slice pv mv cv, v, .string r'], v5] w5 (fun x w' => x = .returned .nilIface ∧ ∃ S', TreeAt S' w' b (endN l (e.putAt r' u)) ∧ FrX B (· = b) S5 S' w5 w') ∧
    ∀ w6 S6, TreeAt S6 w6 b (endN l (e.putAt r' u)) → FrX B (· = b) S5 S6 w5 w6 → (w6.cell? ⟨g, 0, none⟩ = some (.slice pv mv cv) ∧ w6.cell? ⟨g, 1, none⟩ = some v ∧ w6.cell? ⟨g, 2, none⟩ = some (.string r')) ∧ TreeAt S6 w6 b (endN l (e.putAt r' u)) ∧ FrX B (· = b) S S6 w w6) ∧ True := by
 refine ⟨fun w4 h4 => ?_, trivial⟩
 have hbl := ht.lt
 have h34 : Below W3.heap.size W3 w4 := ⟨h4.os, h4.tape, h4.output, h4.size, h4.block⟩
 have hb4 : Below w.heap.size w w4 := hb3.trans (h34.mono hb3.size)
 have hg4 : w4.heap[g]? = some (.cells #[.slice pv mv cv, v, .string r'] 165 (0, 0)) := (h34.block g hs3).trans hg3
 have hF4 := hF3.keep h34
 have hfr4 := Fr.of_below hf hb4
 have hsg : S g = none := hf.fresh hgw
 obtain ⟨cs, hO, hTn⟩ := hF4.row
 refine ⟨rowOf3 hg4, wwith_any pv mv cv hfr4.forest hF4.node hX.2.2.2.2.2 hX.1 hX.2.1 (by omega), fun w5 v5 S5 hv5 hf5 => ?_⟩
 have hgl4 : g < w4.heap.size := (Array.getElem?_eq_some_iff.1 hg4).1
 have hg5 : w5.heap[g]? = some (.cells #[.slice pv mv cv, v, .string r'] 165 (0, 0)) := (hf5.other g hgl4 hsg).trans hg4
 have hno : ∀ k, (Value.slice pv mv cv).ownBlock = some k → S k = none := fun k hk => hf.fresh (hO.block k hk).1
 have hO5 : OwnC w5 w.heap.size 2 (.slice pv mv cv) l.length cs := hO.keep hf5.size fun k hk he => hf5.other k hk (hno k he)
 have hfr5 := hfr4.trans hf5
 refine ⟨rowOf3 hg5, change_any hf5.forest (ht.frame hfr5) hO5 (hTn.sub hf5.sub) (fun k hk => hf5.new k (hO.block k hk).2 (hno k hk)) hF4.node.shape hv5 hX.2.2.2.1 hX.2.2.2.2.1, fun w6 S6 ht6 hf6 => ?_⟩
 have hgl5 : g < w5.heap.size := (Array.getElem?_eq_some_iff.1 hg5).1
 have hg6 : w6.heap[g]? = some (.cells #[.slice pv mv cv, v, .string r'] 165 (0, 0)) := (hf6.other g hgl5 (hf5.new g hgl4 hsg) (by show ¬ g = b; omega)).trans hg5
 exact ⟨rowOf3 hg6, ht6, (hfr5.x _).trans hf6⟩
set_option maxRecDepth 100000 in
set_option maxHeartbeats 3200000 in
theorem tput_any {B : Nat} {S : Wood} {w : World} {b : Nat} {t e : Nd} {K : Array Nat} {p r' u : ByteArray} {l : List (Nd × ByteArray)} (hf : Forest B S w) (ht : TreeAt S w b t) (hto : t.ok) (hK : K.size = 32) (hKb : Bytes K) (hp : textB (nibs K.toList) = p) (hfit : t.fits p.size) (hn : ∀ x ∈ bytesOf p, x < 16) (hps : p.size ≤ 64) (hT : WayTo t p l e r') (hs : ∀ h, e ≠ .stub h) (hr : nibOK r') (hu0 : 0 < u.size) (hu1 : u.size ≤ 100) (hl : l.length ≤ 1000) (hok : endOK l (e.putAt r' u)) :
  Calls Tryz.prog 50 #[.pointer (some ⟨b, 0, none⟩), .agg (K.toList.map encB).toArray, .string u] w fun x w' => x = .returned .nilIface ∧ ∃ S', TreeAt S' w' b (endN l (e.putAt r' u)) ∧ FrX B (· = b) S S' w w' := by
 have hput := hT.puts hfit hto hs
 have hb0 : Below w.heap.size w (w.alloc (.cells (K.toList.map encB).toArray 26)) := (Below.refl _ _).alloc (Nat.le_refl _) _
 have hrow : (w.alloc (.cells (K.toList.map encB).toArray 26)).rangeAt w.heap.size 0 (K.toList.map encB) := fun j u hu => by
  rw [Nat.zero_add, World.cell?_alloc_new]
  simpa using hu
 have hsz : (Tryz.prog.info? 26).map (·.size) = some (K.toList.map encB).length := by rw [size51]; simp [hK]
 have HI := fun W => Hid.hide (isvalue_any u W hu0 hu1)
 have HW := Hid.hide (tway_any (hf.below hb0) (ht.frame (Fr.of_below hf hb0)) hK hKb hp hfit hn (by omega) hT hs)
 have HF : Hid (Forest B S w ∧ TreeAt S w b t ∧ Below w.heap.size w (w.alloc (.cells (K.toList.map encB).toArray 26))) := ⟨hf, ht, hb0⟩
 have HX : Hid (e.puts r' ∧ nibOK r' ∧ u.size ≤ 100 ∧ l.length ≤ 1000 ∧ endOK l (e.putAt r' u) ∧ ∀ h, e ≠ .stub h) := ⟨hput, hr, hu1, hl, hok, hs⟩
 clear hf ht hto hK hKb hp hfit hn hps hT hs hr hu0 hu1 hl hok hput hb0
 go_enter Tryz.func50, Tryz.ntmps50
 go_upto_region 6 with (first | (go_at_call 82; refine (HI _).out.mono ?_; rintro x w1 ⟨rfl, rfl⟩) | (refine wpList_load_mid rfl 26 _ rfl w.heap.size 0 rfl _ _ hrow Tryz.underlying26 rfl hsz ?_) | (go_at_call 83; refine HW.out.mono ?_; rintro x w2 ⟨hb2, thr, v2, rfl, hF2⟩; obtain ⟨pv, mv, cv, rfl⟩ := hF2.shape; have hvs := hF2.node.shape; have HF2 : Hid (Below w.heap.size w w2 ∧ Followed S w.heap.size w2 l e (.slice pv mv cv) v2) := ⟨HF.out.2.2.behind' hb2, hF2.mono (by simp)⟩; clear hb2 hF2; rcases hvs with rfl | ⟨T2, a2, rfl⟩))
 ·obtain ⟨W3, hW3⟩ : ∃ W3, w2.alloc (.cells #[.slice pv mv cv, .nilIface, .string r'] 165) = W3 := ⟨_, rfl⟩
  have hs3 : w2.heap.size < W3.heap.size := by rw [← hW3]; simp
  have hb3 : Below w.heap.size w W3 := by rw [← hW3]; exact HF2.out.1.alloc HF2.out.1.size _
  have hg3 : W3.heap[w2.heap.size]? = some (.cells #[.slice pv mv cv, .nilIface, .string r'] 165 (0, 0)) := by rw [← hW3]; exact Array.getElem?_push_size
  have hF3 : Followed S w.heap.size W3 l e (.slice pv mv cv) (.nilIface) := by rw [← hW3]; exact HF2.out.2.keep ((Below.refl _ _).alloc (Nat.le_refl _) _)
  rw [hW3]
  have HP := Hid.hide (tput_pre HF.out.1 HF.out.2.1 hb3 HF2.out.1.size hg3 hs3 hF3 HX.out)
  obtain ⟨d0, d1, d2⟩ := rowOf3 hg3
  clear hW3 hs3 hb3 hg3 hF3 HW
  go_region_held3 (fun w' => w'.cell? ⟨w2.heap.size, 0, none⟩ = some (.slice pv mv cv) ∧ w'.cell? ⟨w2.heap.size, 1, none⟩ = some (.nilIface) ∧ w'.cell? ⟨w2.heap.size, 2, none⟩ = some (.string r')) (first | exact ⟨d0, d1, d2⟩ | exact A4 | exact A5 | exact A6)
   (first | (go_at_call 86; refine (clone_any u _ (by have := HX.out; omega)).mono ?_; rintro x w4 ⟨rfl, hb4⟩; obtain ⟨A4, hw4⟩ := HP.out.1 w4 hb4; have HW4 := Hid.hide hw4; clear hb4 hw4) | (go_at_call 85; refine HW4.out.1.mono ?_; rintro x w5 ⟨v5, S5, rfl, hv5, hf5⟩; obtain ⟨A5, hw5⟩ := HW4.out.2 w5 v5 S5 hv5 hf5; have HW5 := Hid.hide hw5; clear hv5 hf5 hw5) | (go_at_call 84; refine HW5.out.1.mono ?_; rintro x w6 ⟨rfl, S6, ht6, hf6⟩; obtain ⟨A6, hw6⟩ := HW5.out.2 w6 S6 ht6 hf6; have HW6 := Hid.hide hw6; clear ht6 hf6 hw6))
  all_goals go_wp2
  all_goals go_ret
  all_goals exact ⟨rfl, S6, HW6.out⟩
 ·obtain ⟨W3, hW3⟩ : ∃ W3, w2.alloc (.cells #[.slice pv mv cv, .iface T2 (.pointer (some a2)), .string r'] 165) = W3 := ⟨_, rfl⟩
  have hs3 : w2.heap.size < W3.heap.size := by rw [← hW3]; simp
  have hb3 : Below w.heap.size w W3 := by rw [← hW3]; exact HF2.out.1.alloc HF2.out.1.size _
  have hg3 : W3.heap[w2.heap.size]? = some (.cells #[.slice pv mv cv, .iface T2 (.pointer (some a2)), .string r'] 165 (0, 0)) := by rw [← hW3]; exact Array.getElem?_push_size
  have hF3 : Followed S w.heap.size W3 l e (.slice pv mv cv) (.iface T2 (.pointer (some a2))) := by rw [← hW3]; exact HF2.out.2.keep ((Below.refl _ _).alloc (Nat.le_refl _) _)
  rw [hW3]
  have HP := Hid.hide (tput_pre HF.out.1 HF.out.2.1 hb3 HF2.out.1.size hg3 hs3 hF3 HX.out)
  obtain ⟨d0, d1, d2⟩ := rowOf3 hg3
  clear hW3 hs3 hb3 hg3 hF3 HW
  go_region_held3 (fun w' => w'.cell? ⟨w2.heap.size, 0, none⟩ = some (.slice pv mv cv) ∧ w'.cell? ⟨w2.heap.size, 1, none⟩ = some (.iface T2 (.pointer (some a2))) ∧ w'.cell? ⟨w2.heap.size, 2, none⟩ = some (.string r')) (first | exact ⟨d0, d1, d2⟩ | exact A4 | exact A5 | exact A6)
   (first | (go_at_call 86; refine (clone_any u _ (by have := HX.out; omega)).mono ?_; rintro x w4 ⟨rfl, hb4⟩; obtain ⟨A4, hw4⟩ := HP.out.1 w4 hb4; have HW4 := Hid.hide hw4; clear hb4 hw4) | (go_at_call 85; refine HW4.out.1.mono ?_; rintro x w5 ⟨v5, S5, rfl, hv5, hf5⟩; obtain ⟨A5, hw5⟩ := HW4.out.2 w5 v5 S5 hv5 hf5; have HW5 := Hid.hide hw5; clear hv5 hf5 hw5) | (go_at_call 84; refine HW5.out.1.mono ?_; rintro x w6 ⟨rfl, S6, ht6, hf6⟩; obtain ⟨A6, hw6⟩ := HW5.out.2 w6 S6 ht6 hf6; have HW6 := Hid.hide hw6; clear ht6 hf6 hw6))
  all_goals go_wp2
  all_goals go_ret
  all_goals exact ⟨rfl, S6, HW6.out⟩
end Go.Proofs.YtjiikjpnlgogfaaGreatDoor
namespace Go.Proofs.YtjiikjpnlgogfaaGreatDoor
open Go.RowKit
set_option maxRecDepth 100000 in
set_option maxHeartbeats 1600000 in
theorem newt_any {B : Nat} {S : Wood} {w : World} (hf : Forest B S w) : Calls Tryz.prog 15 #[] w fun e w' => e = .returned (.pointer (some ⟨w.heap.size, 0, none⟩)) ∧ TreeAt S w' w.heap.size .no ∧ Fr B S S w w' ∧ w' = w.alloc (.cells #[.nilIface] 110) := by
 have HE : Hid (TreeAt S (w.alloc (.cells #[.nilIface] 110)) w.heap.size .no ∧ Fr B S S w (w.alloc (.cells #[.nilIface] 110))) := ⟨⟨hf.fresh (Nat.le_refl _), .nilIface, .inl ⟨rfl, rfl⟩, Array.getElem?_push_size⟩, Fr.of_below hf ((Below.refl _ _).alloc (Nat.le_refl _) _)⟩
 clear hf
 go_enter Tryz.func15, Tryz.ntmps15
 go_wp2
 go_ret
 exact ⟨rfl, HE.out.1, HE.out.2, rfl⟩
set_option maxRecDepth 100000 in
set_option maxHeartbeats 3200000 in
theorem xput_any {B : Nat} {S : Wood} {w : World} {b : Nat} {t e : Nd} {K : Array Nat} {p r' u : ByteArray} {l : List (Nd × ByteArray)} (hf : Forest B S w) (ht : TreeAt S w b t) (hto : t.ok) (hK : K.size = 32) (hKb : Bytes K) (hp : textB (nibs K.toList) = p) (hfit : t.fits p.size) (hn : ∀ x ∈ bytesOf p, x < 16) (hps : p.size ≤ 64) (hT : WayTo t p l e r') (hs : ∀ h, e ≠ .stub h) (hr : nibOK r') (hu0 : 0 < u.size) (hu1 : u.size ≤ 100) (hl : l.length ≤ 1000) (hok : endOK l (e.putAt r' u)) :
  Calls Tryz.prog 19 #[.pointer (some ⟨b, 0, none⟩), .agg (K.toList.map encB).toArray, .string u] w fun x w' => x = .returned (.int .i64 0) ∧ ∃ S', TreeAt S' w' b (endN l (e.putAt r' u)) ∧ FrX B (· = b) S S' w w' := by
 have hbl := ht.lt
 have hsz : (Tryz.prog.info? 26).map (·.size) = some (K.toList.map encB).length := by rw [size51]; simp [hK]
 obtain ⟨W0, hW0⟩ : ∃ W0, w.alloc (.cells (K.toList.map encB).toArray 26) = W0 := ⟨_, rfl⟩
 have hb0 : Below w.heap.size w W0 := by rw [← hW0]; exact (Below.refl _ _).alloc (Nat.le_refl _) _
 have hs0 : w.heap.size < W0.heap.size := by rw [← hW0]; simp
 have hrow : W0.rangeAt w.heap.size 0 (K.toList.map encB) := fun j u hu => by
  rw [← hW0, Nat.zero_add, World.cell?_alloc_new]
  simpa using hu
 have hfr0 := Fr.of_below hf hb0
 have hbd : Below w.heap.size w W0.drew := hb0.drew
 have hfrd := Fr.of_below hf hbd
 have HP := Hid.hide (tput_any hfrd.forest (ht.frame hfrd) hto hK hKb hp hfit hn hps hT hs hr hu0 hu1 hl hok)
 have HF : Hid (Fr B S S w W0.drew ∧ S w.heap.size = none) := ⟨hfrd, hf.fresh (Nat.le_refl _)⟩
 have hu26 := Tryz.underlying26
 clear hf ht hto hK hKb hp hfit hn hps hT hs hr hu0 hu1 hl hok hb0 hfr0 hbd hfrd
 go_enter Tryz.func19, Tryz.ntmps19
 go_upto_region 1 with fail
 clear hW0
 go_region_held3 (fun w' => w'.rangeAt w.heap.size 0 (K.toList.map encB)) (first | exact hrow | exact h1 )
  (first | (go_at_call 50; refine HP.out.mono ?_; rintro x w1 ⟨rfl, S1, ht1, hf1⟩; have h1 : w1.rangeAt w.heap.size 0 (K.toList.map encB) := rangeAt_block hrow (hf1.other w.heap.size hs0 HF.out.2 (by show ¬ w.heap.size = b; omega)); have HE : Hid (TreeAt S1 w1 b (endN l (e.putAt r' u)) ∧ FrX B (· = b) S S1 w w1) := ⟨ht1, (HF.out.1.x _).trans hf1⟩; clear ht1 hf1) | (go_at_call 49; refine (errno_nil _).mono ?_; rintro x w2 ⟨rfl, rfl⟩))
 all_goals go_wp2
 all_goals go_ret
 all_goals exact ⟨rfl, S1, HE.out⟩
end Go.Proofs.YtjiikjpnlgogfaaGreatDoor
