/-
  The nodes on a way.
  Prove: the codes of the nodes on a way.
  twigs.Prove.
-/
import Derived.Test.YtjiikjpnlgogfaaGreatDoorSdVfO
namespace Go.Proofs.YtjiikjpnlgogfaaGreatDoor
open Go.RowKit
def Vals (S : Wood) (ts : List Nd) (cs : List Value) : Prop := cs.length = ts.length ∧ ∀ i (h1 : i < cs.length) (h2 : i < ts.length), ndV S cs[i] ts[i]
theorem Vals.snoc {S : Wood} {ts : List Nd} {cs : List Value} (h : Vals S ts cs) {t : Nd} {v : Value} (hv : ndV S v t) : Vals S (ts ++ [t]) (cs ++ [v]) := by
 refine ⟨by simp [h.1], fun i h1 h2 => ?_⟩
 rw [List.getElem_append, List.getElem_append]
 split
 ·rename_i e
  rw [dif_pos (by rw [← h.1]; exact e)]
  exact h.2 i e _
 ·rename_i e
  rw [dif_neg (by rw [← h.1]; exact e)]
  simpa using hv
structure NIn (S : Wood) (w : World) (l : List (Nd × ByteArray)) (thr v : Value) (r : ByteArray) (k : Nat) (res : Value) (cs : List Value) (wr : World) : Prop where
 own : OwnC wr (w.heap.size + 1) 1 res k cs
 vals : Vals S ((l.take k).map (·.1)) cs
 below : Below w.heap.size w wr
 box : wr.heap[w.heap.size]? = some (.cells #[thr, v, .string r] 165 (0, 0))
theorem shownZ : (Tryz.prog.info? 189).map (fun i => (i.zero, i.size, i.bytes)) = some (some .nilIface, 1, 16) := by kernel_rfl
theorem nin_grow {S : Wood} {w wr w2 w3 : World} {l : List (Nd × ByteArray)} {thr v : Value} {r : ByteArray} {k : Nat} {res v2 : Value} {cs : List Value} {t : Nd} {x : Value} (h : NIn S w l thr v r k res cs wr) (hb : Below wr.heap.size wr w2) (hO : OwnC w3 (w.heap.size + 1) 1 v2 (k + 1) (cs ++ [x])) (hg : w2.grownBy w3 res.ownBlock) (hv : ndV S x t) : OwnC w3 (w.heap.size + 1) 1 v2 (k + 1) (cs ++ [x]) ∧ Vals S ((l.take k).map (·.1) ++ [t]) (cs ++ [x]) ∧ Below w.heap.size w w3 ∧ w3.heap[w.heap.size]? = some (.cells #[thr, v, .string r] 165 (0, 0)) := by
 have hlt : w.heap.size < wr.heap.size := (Array.getElem?_eq_some_iff.1 h.box).1
 have hb2 := h.below.behind' hb
 have s2 := hb.size
 have hne : ∀ j, j ≤ w.heap.size → some j ≠ res.ownBlock := fun j hj e => by
  have := (h.own.block j e.symm).1
  omega
 refine ⟨hO, h.vals.snoc hv, ⟨hg.os.trans hb2.os, hg.tape.trans hb2.tape, hg.output.trans hb2.output, Nat.le_trans hb2.size hg.size, fun j hj => (hg.block j (by omega) (hne j (by omega))).trans (hb2.block j hj)⟩, ?_⟩
 exact (hg.block _ (by omega) (hne _ (Nat.le_refl _))).trans ((hb.block _ hlt).trans h.box)
def Nd.shownL (e : Nd) : List Nd := if e.isNo = true then [] else [e]
set_option maxRecDepth 100000 in
set_option maxHeartbeats 3200000 in
theorem nodes_any {S : Wood} {w : World} {C : Nat} {l : List (Nd × ByteArray)} {e : Nd} {thr v : Value} {r : ByteArray} (hF : Followed S C w l e thr v) (hs : ∀ h, e ≠ .stub h) (hl : l.length ≤ 1000) (hin : ∀ x ∈ l, x.1 ≠ .no) :
  Calls Tryz.prog 94 #[.agg #[thr, v, .string r]] w fun x w' => Below w.heap.size w w' ∧ ∃ res cs, x = .returned res ∧ OwnC w' (w.heap.size + 1) 1 res (l.map (·.1) ++ e.shownL).length cs ∧ Vals S (l.map (·.1) ++ e.shownL) cs := by
 obtain ⟨⟨ct, hO, hT⟩, hv⟩ := hF
 obtain ⟨i0, hi, hz0, hz1, hz2⟩ := info_parts shownZ
 obtain ⟨pt, mt, capt, rfl⟩ := hO.shape
 have hmt : mt = l.length := by
  rcases hO.2 with ⟨e1, e2⟩ | ⟨g, cap, e1, _⟩
  ·simp only [Value.slice.injEq] at e1; omega
  ·simp only [Value.slice.injEq] at e1; exact e1.2.1
 subst hmt
 obtain ⟨W0, hW0⟩ : ∃ W0, w.alloc (.cells #[.slice pt l.length capt, v, .string r] 165) = W0 := ⟨_, rfl⟩
 have hb0 : Below w.heap.size w W0 := by rw [← hW0]; exact (Below.refl _ _).alloc (Nat.le_refl _) _
 have hbox : W0.heap[w.heap.size]? = some (.cells #[.slice pt l.length capt, v, .string r] 165 (0, 0)) := by rw [← hW0]; exact Array.getElem?_push_size
 have A0 : Aside (NIn S w l (.slice pt l.length capt) v r 0 (.slice none 0 0) [] W0) := ⟨OwnC.nil _ _ _, ⟨rfl, by simp⟩, hb0, hbox⟩
 obtain ⟨x0, x1, x2⟩ := rowOf3 hbox
 have HX : Hid (OwnC w C 2 (.slice pt l.length capt) l.length ct ∧ Turns S l ct ∧ ndV S v e ∧ (∀ h, e ≠ .stub h) ∧ l.length ≤ 1000 ∧ ∀ x ∈ l, x.1 ≠ .no) := ⟨hO, hT, hv, hs, hl, hin⟩
 clear hO hT hv hs hl hin hb0 hbox
 go_enter Tryz.func94, Tryz.ntmps94
 go_wp2
 clear hW0
 go_loopg [11, 3] l.length (fun gh i res wr => ∃ k cs, k ≤ l.length ∧ gh = l.length - k ∧ i = .int .i64 (k : Int) ∧ NIn S w l (.slice pt l.length capt) v r k res cs wr)
 case atStart => exact ⟨0, [], Nat.zero_le _, rfl, rfl, A0.out⟩
 case round =>
  obtain ⟨k, cs, hk, rfl, rfl, hN⟩ := hrel
  clear A0 x0 x1 x2
  have HN := Hid.hide hN
  obtain ⟨pr, mr, cr, rfl⟩ := hN.own.shape
  obtain ⟨hO, hT, hv, hs, hl, hin⟩ := HX.out
  by_cases hlt : k < l.length
  ·have i1 : (k : Int) < (l.length : Int) := by omega
   obtain ⟨t1, t2⟩ := hT.at k hlt
   have hne := hin _ (List.getElem_mem hlt)
   obtain ⟨g, cap, eg, hgC, hgs, hrange⟩ : ∃ g cap, Value.slice pt l.length capt = .slice (some ⟨g, 0, none⟩) l.length cap ∧ C ≤ g ∧ g < w.heap.size ∧ w.rangeAt g 0 ct := by
    rcases hO.2 with ⟨_, e2⟩ | ⟨g, cap, e1, a1, a2, _, _, _, a3⟩
    ·omega
    ·exact ⟨g, cap, e1, a1, a2, a3⟩
   simp only [Value.slice.injEq] at eg
   obtain ⟨rfl, -, rfl⟩ := eg
   obtain ⟨⟨td, by_⟩, htd⟩ : ∃ q, l[k] = q := ⟨_, rfl⟩
   rw [htd] at t1 t2 hne
   simp only at t1 t2 hne
   obtain ⟨db, hdb, hdS⟩ := t2.full hne
   have hlen := hT.length
   have c0 : wr.cell? ⟨g, k * 2, none⟩ = some (.iface (ndTy td) (.pointer (some ⟨db, 0, none⟩))) := (World.cell?_of_block (hN.below.block g hgs)).trans (by
    have := hrange (k * 2) (ct.getD (k * 2) undef) (by rw [List.getD_eq_getElem?_getD, List.getElem?_eq_getElem (by omega)]; rfl)
    rw [Nat.zero_add, hdb] at this
    exact this)
   have c1 : wr.cell? ⟨g, k * 2 + 1, none⟩ = some (.string by_) := (World.cell?_of_block (hN.below.block g hgs)).trans (by
    have := hrange (k * 2 + 1) (ct.getD (k * 2 + 1) undef) (by rw [List.getD_eq_getElem?_getD, List.getElem?_eq_getElem (by omega)]; rfl)
    rw [Nat.zero_add, t1] at this
    exact this)
   have hgr : g < wr.heap.size := Nat.lt_of_lt_of_le hgs hN.below.size
   have hgn : ¬ g = wr.heap.size := by omega
   have HK : Hid (k < l.length ∧ l.length ≤ 1000 ∧ ndV S (.iface (ndTy td) (.pointer (some ⟨db, 0, none⟩))) td ∧ l[k]? = some (td, by_)) := ⟨hlt, hl, by rw [← hdb]; exact t2, by rw [List.getElem?_eq_getElem hlt, htd]⟩
   have HO : Hid (∀ W, Below wr.heap.size wr W → OwnC W (w.heap.size + 1) 1 (.slice pr mr cr) k cs) := fun W hb => hN.own.below hb
   have HB : Hid (w.heap.size + 1 ≤ wr.heap.size) := (Array.getElem?_eq_some_iff.1 hN.box).1
   have HRg : Hid (∀ o t, ((wr.alloc o).alloc (.cells #[.iface (ndTy td) (.pointer (some ⟨db, 0, none⟩))] t)).rangeAt (wr.heap.size + 1) 0 [.iface (ndTy td) (.pointer (some ⟨db, 0, none⟩))]) := fun o t => by
    have := rangeAt_new (wr.alloc o) [.iface (ndTy td) (.pointer (some ⟨db, 0, none⟩))] t
    simpa using this
   have HW64 : Hid (wrap64 ((k : Int) + 1) = ((k + 1 : Nat) : Int)) := sum_few k 1 (by omega)
   clear hN hO hT hv hs hl hin t1 t2 hne hrange hgC hlen hdS htd hdb hlt
   go_wp2_with (at_builtin; refine wpList_append_ownp _ rfl _ _ 186 rfl 189 i0 .nilIface 1 16 Tryz.underlying186 hi hz0 hz1 hz2 rfl (by decide) (w.heap.size + 1) (.slice pr mr cr) k cs rfl (HO.out _ (two_below _ _ _)) (wr.heap.size + 1) 0 1 1 [.iface (ndTy td) (.pointer (some ⟨db, 0, none⟩))] rfl rfl (HRg.out _ _) (by simp [Value.oneCell']) (by have := HK.out; unfold maxLen; omega) (by have := HK.out; omega) (by have := HB.out; simp; omega) ?_; intro v2 w2 hO2 hg2 hf2 hp2; have HY := Hid.hide (nin_grow HN.out (two_below _ _ _) hO2 hg2 HK.out.2.2.1); obtain ⟨p2, m2, k2, rfl⟩ := hO2.shape; clear hO2 hg2 hf2 hp2)
   go_roundg (l.length - (k + 1))
   case measure => have := HK.out; omega
   case rel => exact ⟨k + 1, _, by have := HK.out; omega, rfl, by rw [HW64.out], HY.out.1, by rw [List.take_add_one, HK.out.2.2.2]; simp only [Option.toList_some, List.map_append, List.map_cons, List.map_nil]; exact HY.out.2.1, HY.out.2.2.1, HY.out.2.2.2⟩
  ·obtain rfl : k = l.length := by omega
   have i1 : ¬ (l.length : Int) < (l.length : Int) := by omega
   obtain ⟨x0, x1, x2⟩ := rowOf3 hN.box
   have hall : l.take l.length = l := List.take_length
   by_cases he : e = .no
   ·subst he
    obtain rfl : v = .nilIface := hv.nil rfl
    have hta := taShownNil
    have HY : Hid (Below w.heap.size w wr ∧ OwnC wr (w.heap.size + 1) 1 (.slice pr mr cr) (l.map (·.1) ++ Nd.no.shownL).length cs ∧ Vals S (l.map (·.1) ++ Nd.no.shownL) cs) := by
     have e1 : l.map (·.1) ++ Nd.no.shownL = l.map (·.1) := by simp [Nd.shownL, Nd.isNo]
     have hvs := hN.vals
     rw [hall] at hvs
     rw [e1, List.length_map]
     exact ⟨hN.below, hN.own, hvs⟩
    clear hN hO hT hv hs hl hin hall hk hlt
    go_wp2
    go_ret
    exact ⟨HY.out.1, _, rfl, _, by simpa using HY.out.2.1, HY.out.2.2⟩
   ·obtain ⟨db, rfl, hdS⟩ := hv.full he
    have hsh : e.shown = true := by
     cases e with
     | no => exact absurd rfl he
     | stub h => exact absurd rfl (hs h)
     | _ => rfl
    have hta := taShown e hsh ⟨db, 0, none⟩
    have e1 : l.map (·.1) ++ e.shownL = l.map (·.1) ++ [e] := by
     unfold Nd.shownL
     rw [if_neg (fun h => he (Nd.isNo_iff.1 h))]
    have HK : Hid (l.length ≤ 1000 ∧ ndV S (.iface (ndTy e) (.pointer (some ⟨db, 0, none⟩))) e ∧ l.map (·.1) ++ e.shownL = l.map (·.1) ++ [e] ∧ l.take l.length = l) := ⟨hl, hv, e1, hall⟩
    have HO : Hid (∀ W, Below wr.heap.size wr W → OwnC W (w.heap.size + 1) 1 (.slice pr mr cr) l.length cs) := fun W hb => hN.own.below hb
    have HB : Hid (w.heap.size + 1 ≤ wr.heap.size) := (Array.getElem?_eq_some_iff.1 hN.box).1
    have HRg : Hid (∀ t, (wr.alloc (.cells #[.iface (ndTy e) (.pointer (some ⟨db, 0, none⟩))] t)).rangeAt wr.heap.size 0 [.iface (ndTy e) (.pointer (some ⟨db, 0, none⟩))]) := fun t => rangeAt_new wr [.iface (ndTy e) (.pointer (some ⟨db, 0, none⟩))] t
    have HB1 : Hid (∀ o, Below wr.heap.size wr (wr.alloc o)) := fun o => (Below.refl _ _).alloc (Nat.le_refl _) _
    clear hN hO hT hv hs hl hin hall hk hlt he hdS hsh e1
    go_wp2_with (at_builtin; refine wpList_append_ownp _ rfl _ _ 186 rfl 189 i0 .nilIface 1 16 Tryz.underlying186 hi hz0 hz1 hz2 rfl (by decide) (w.heap.size + 1) (.slice pr mr cr) l.length cs rfl (HO.out _ (HB1.out _)) wr.heap.size 0 1 1 [.iface (ndTy e) (.pointer (some ⟨db, 0, none⟩))] rfl rfl (HRg.out _) (by simp [Value.oneCell']) (by have := HK.out; unfold maxLen; omega) (by have := HK.out; omega) (by have := HB.out; simp; omega) ?_; intro v2 w2 hO2 hg2 hf2 hp2; have HY := Hid.hide (nin_grow HN.out (HB1.out _) hO2 hg2 HK.out.2.1); obtain ⟨p2, m2, k2, rfl⟩ := hO2.shape; clear hO2 hg2 hf2 hp2)
    go_ret
    obtain ⟨y1, y2, y3, y4⟩ := HY.out
    rw [HK.out.2.2.2] at y2
    have e2 : (l.map (·.1) ++ e.shownL).length = l.length + 1 := by rw [HK.out.2.2.1]; simp
    refine ⟨y3, _, rfl, cs ++ [.iface (ndTy e) (.pointer (some ⟨db, 0, none⟩))], ?_, ?_⟩
    ·have e3 : l.length + e.shownL.length = l.length + 1 := by rw [List.length_append, List.length_map] at e2; exact e2
     first | (rw [e2]; exact y1) | (rw [e3]; exact y1)
    ·rw [HK.out.2.2.1]; exact y2
end Go.Proofs.YtjiikjpnlgogfaaGreatDoor
namespace Go.Proofs.YtjiikjpnlgogfaaGreatDoor
open Go.RowKit
def codeFn : Nd → FuncId
 | .leaf _ _ => 289
 | .ext _ _ => 339
 | .br _ => 329
 | _ => 0
theorem mCode (t : Nd) (ht : t.shown = true) (a : Addr) (w : World) : (Go.method 563 (ndTy t) (.pointer (some a)) "twigs/tree.code").run Tryz.prog w = .ok (codeFn t, .pointer (some a)) w := by
 cases t with
 | leaf _ _ => kernel_rfl
 | ext _ _ => kernel_rfl
 | br _ => kernel_rfl
 | _ => simp [Nd.shown] at ht
theorem enCode (t : Nd) (ht : t.shown = true) (args : Array Value) (w : World) : (callFunc (codeFn t) args).run Tryz.prog w = .ok (.enter (codeFn t) args) w := by
 cases t with
 | leaf _ _ => kernel_rfl
 | ext _ _ => kernel_rfl
 | br _ => kernel_rfl
 | _ => simp [Nd.shown] at ht
theorem naCode (t : Nd) (ht : t.shown = true) (a : Addr) (w : World) : (nilAhead 563 (ndTy t) (.pointer (some a)) "twigs/tree.code").run Tryz.prog w = .ok (some false) w := by
 cases t with
 | leaf _ _ => kernel_rfl
 | ext _ _ => kernel_rfl
 | br _ => kernel_rfl
 | _ => simp [Nd.shown] at ht
theorem ncod_any {B : Nat} {S : Wood} {w : World} {b : Nat} {t : Nd} (hf : Forest B S w) (hT : Tabs w) (hM : 16 ≤ B) (hb : S b = some t) (ht : t.shown = true) :
  Calls Tryz.prog (codeFn t) #[.pointer (some ⟨b, 0, none⟩)] w fun e w' => e = .returned (.string (textB t.code)) ∧ Fr B S S w w' := by
 cases t with
 | leaf _ _ => exact leaf_code hf hb
 | ext p t =>
  have := hf.ok b _ hb
  rw [Nd.ok] at this
  exact ext_code hf hT hM hb (ref_any B S t this.2.2)
 | br ks => exact br_code hf hT hM hb (refs_any B S ks)
 | _ => simp [Nd.shown] at ht
def provL : List Nd → List (List Nat)
 | [] => []
 | t :: ts => t.code :: (ts.map Nd.code).filter (fun c => decide (32 ≤ c.length))
theorem provL_snoc (ts : List Nd) (t : Nd) : provL (ts ++ [t]) = if provL ts = [] ∨ 32 ≤ t.code.length then provL ts ++ [t.code] else provL ts := by
 cases ts with
 | nil => simp [provL]
 | cons s ts =>
  simp only [provL, List.cons_append, List.map_append, List.filter_append, List.map_cons, List.map_nil, List.filter_cons, List.filter_nil]
  by_cases h : 32 ≤ t.code.length
  ·simp [h]
  ·simp [h]
theorem provL_length (ts : List Nd) : (provL ts).length ≤ ts.length := by
 cases ts with
 | nil => simp [provL]
 | cons s ts =>
  have := List.length_filter_le (fun c : List Nat => decide (32 ≤ c.length)) (ts.map Nd.code)
  simp only [provL, List.length_cons]
  rw [List.length_map] at this
  omega
def strs (L : List (List Nat)) : List Value := L.map fun c => .string (textB c)
theorem OwnC.frame {B C size : Nat} {S S' : Wood} {w w' : World} {v : Value} {n : Nat} {cs : List Value} (h : OwnC w C size v n cs) (hf : Fr B S S' w w') (hn : ∀ k, v.ownBlock = some k → S k = none) : OwnC w' C size v n cs :=
 h.keep hf.size fun k hk e => hf.other k hk (hn k e)
structure PIn (B : Nat) (S : Wood) (W1 : World) (ts : List Nd) (k : Nat) (res : Value) (wr : World) : Prop where
 fr : Fr B S S W1 wr
 own : OwnC wr W1.heap.size 1 res (provL (ts.take k)).length (strs (provL (ts.take k)))
theorem PIn.none {B : Nat} {S : Wood} {W1 : World} {ts : List Nd} {k : Nat} {res : Value} {wr : World} (h : PIn B S W1 ts k res wr) (hf : Forest B S W1) : ∀ g, res.ownBlock = some g → S g = none := fun g hg => hf.fresh (h.own.block g hg).1
theorem PIn.frame {B : Nat} {S : Wood} {W1 : World} {ts : List Nd} {k : Nat} {res : Value} {wr w2 : World} (h : PIn B S W1 ts k res wr) (hf : Forest B S W1) (hr : Fr B S S wr w2) : PIn B S W1 ts k res w2 := ⟨h.fr.trans hr, h.own.frame hr (h.none hf)⟩
set_option maxRecDepth 100000 in
set_option maxHeartbeats 3200000 in
theorem tprove_any {B : Nat} {S : Wood} {w : World} {b : Nat} {t e : Nd} {K : Array Nat} {p r' : ByteArray} {l : List (Nd × ByteArray)} (hf : Forest B S w) (hTb : Tabs w) (hM : 16 ≤ B) (ht : TreeAt S w b t) (hK : K.size = 32) (hKb : Bytes K) (hp : textB (nibs K.toList) = p) (hfit : t.fits p.size) (hn : ∀ x ∈ bytesOf p, x < 16) (hps : p.size ≤ 64) (hT : WayTo t p l e r') (hs : ∀ h, e ≠ .stub h) (hl : l.length ≤ 64) (hin : ∀ x ∈ l, x.1.inner = true) :
  Calls Tryz.prog 56 #[.pointer (some ⟨b, 0, none⟩), .agg (K.toList.map encB).toArray] w fun x w' => ∃ res, x = .returned (.tuple #[res, .nilIface]) ∧ Fr B S S w w' ∧ OwnC w' w.heap.size 1 res (provL (l.map (·.1) ++ e.shownL)).length (strs (provL (l.map (·.1) ++ e.shownL))) := by
 obtain ⟨i0, hi, hz0, hz1, hz2⟩ := info_parts strZ
 obtain ⟨Kc, hKc⟩ : ∃ Kc, (K.toList.map encB).toArray = Kc := ⟨_, rfl⟩
 obtain ⟨W0, hW0⟩ : ∃ W0, w.alloc (.cells Kc 26) = W0 := ⟨_, rfl⟩
 have hrow : W0.rangeAt w.heap.size 0 (K.toList.map encB) := fun j u hu => by
  rw [← hW0, Nat.zero_add, World.cell?_alloc_new, ← hKc]
  simpa using hu
 have hb0 : Below w.heap.size w W0 := by rw [← hW0]; exact (Below.refl _ _).alloc (Nat.le_refl _) _
 have hf0 := Fr.of_below hf hb0
 have HW := Hid.hide (tway_any hf0.forest (ht.frame hf0) hK hKb hp hfit hn (by omega) hT hs)
 have hzK : (Tryz.prog.info? 26).map (·.size) = some (K.toList.map encB).length := by rw [size51]; simp [hK]
 have HX : Hid (Forest B S w ∧ Tabs w ∧ 16 ≤ B ∧ (∀ h, e ≠ .stub h) ∧ l.length ≤ 64 ∧ (∀ x ∈ l, x.1.inner = true) ∧ Below w.heap.size w W0 ∧ w.heap.size < W0.heap.size) := ⟨hf, hTb, hM, hs, hl, hin, hb0, by rw [← hW0]; simp⟩
 have hu26 := Tryz.underlying26
 clear hf hTb hM ht hK hKb hp hfit hn hps hT hs hl hin hb0 hf0
 rw [hKc] at HW ⊢
 go_enter Tryz.func56, Tryz.ntmps56
 go_upto_region 1 with fail
 clear hW0
 rw [← hKc] at HW
 clear hKc
 go_wp2_with (first | (refine wpList_load_mid rfl 26 _ rfl w.heap.size 0 rfl (K.toList.map encB) _ hrow hu26 rfl hzK ?_))
 refine HW.out.mono ?_
 rintro x w1 ⟨hb1, thr, v, rfl, hF⟩
 obtain ⟨pt, mt, ct, rfl⟩ := hF.shape
 have hone := way_one hF.node pt mt ct r'
 have HF := Hid.hide hF
 have hvs := hF.node.shape
 have HB1 : Hid (Below w.heap.size w w1) := HX.out.2.2.2.2.2.2.1.behind' hb1
 clear hb1 hF hrow hzK hu26
 obtain ⟨vv, hvv⟩ : ∃ vv, v = vv := ⟨_, rfl⟩
 have HF2 : Hid (Followed S W0.heap.size w1 l e (.slice pt mt ct) vv) := by rw [← hvv]; exact HF.out
 have HVV : Hid (v = vv) := hvv
 clear hvv
 rcases hvs with rfl | ⟨Tv, av, rfl⟩
 all_goals
  go_upto_region 5 with fail
  generalize hw2 : w1.alloc _ = w2
  have hb2 : Below w1.heap.size w1 w2 := by rw [← hw2]; exact (Below.refl _ _).alloc (Nat.le_refl _) _
  have HN := Hid.hide (nodes_any (r := r') (HF2.out.keep hb2) HX.out.2.2.2.1 (by have := HX.out.2.2.2.2.1; omega) (fun x hx h => by have := HX.out.2.2.2.2.2.1 x hx; rw [h] at this; cases this))
  have HB2 : Hid (Below w.heap.size w w2) := HB1.out.behind' hb2
  have hrg : w2.rangeAt w1.heap.size 0 [.slice pt mt ct, vv, .string r'] := by rw [← hw2, ← HVV.out]; exact rangeAt_new w1 [_, _, _] _
  clear hb2 hw2
  go_wp2_with (first | (refine wpList_load_mid rfl 165 _ rfl w1.heap.size 0 rfl _ _ hrg Tryz.underlying165 rfl way_size ?_))
  refine HN.out.mono ?_
  rintro x W1 ⟨hb3, ns, cs, rfl, hOn, hVn⟩
  generalize hts : l.map (·.1) ++ e.shownL = ts at hOn hVn
  obtain ⟨pn, mn, cn, rfl⟩ := hOn.shape
  have hmn : mn = ts.length := by
   rcases hOn.2 with ⟨e1, e2⟩ | ⟨g, cap, e1, _⟩
   ·simp only [Value.slice.injEq] at e1; omega
   ·simp only [Value.slice.injEq] at e1; exact e1.2.1
  subst hmn
  have hBW : Below w.heap.size w W1 := HB2.out.behind' hb3
  have hfW := HX.out.1.below hBW
  have A0 : Aside (PIn B S W1 ts 0 (.slice none 0 0) W1) := ⟨Fr.refl hfW, OwnC.nil _ _ _⟩
  have HY : Hid (Below w.heap.size w W1 ∧ Forest B S W1 ∧ Tabs W1 ∧ OwnC W1 (w2.heap.size + 1) 1 (.slice pn ts.length cn) ts.length cs ∧ Vals S ts cs ∧ ts.length ≤ 65 ∧ (∀ t ∈ ts, t.shown = true) ∧ l.map (·.1) ++ e.shownL = ts ∧ w.heap.size ≤ w2.heap.size) := by
   refine ⟨hBW, hfW, HX.out.2.1.below hBW (Nat.le_trans HX.out.2.2.1 HX.out.1.le), hOn, hVn, ?_, fun t ht => ?_, hts, HB2.out.size⟩
   ·rw [← hts, List.length_append, List.length_map]
    have h1 : e.shownL.length ≤ 1 := by unfold Nd.shownL; split <;> simp
    have := HX.out.2.2.2.2.1
    omega
   ·rw [← hts] at ht
    rcases List.mem_append.1 ht with h | h
    ·obtain ⟨q, hq, rfl⟩ := List.mem_map.1 h
     have := HX.out.2.2.2.2.2.1 q hq
     cases hx : q.1 <;> rw [hx] at this <;> simp [Nd.inner] at this <;> rfl
    ·unfold Nd.shownL at h
     split at h
     ·cases h
     ·rename_i hno
      obtain rfl : t = e := by simpa using h
      cases t with
      | no => exact absurd rfl hno
      | stub g => exact absurd rfl (HX.out.2.2.2.1 g)
      | _ => rfl
  clear hb3 hOn hVn hBW hfW hts HN HF HF2 HB2 HB1 hrg hone HW
  go_wp2
  go_loopg [24, 8] ts.length (fun gh i res wr => ∃ k, k ≤ ts.length ∧ gh = ts.length - k ∧ i = .int .i64 (k : Int) ∧ PIn B S W1 ts k res wr)
  case atStart => exact ⟨0, Nat.zero_le _, rfl, rfl, A0.out⟩
  case round =>
   obtain ⟨k, hk, rfl, rfl, hP⟩ := hrel
   clear A0
   obtain ⟨hBW, hfW, hTW, hOn, hVn, h65, hsh, hts, hsz⟩ := HY.out
   obtain ⟨pr, mr, cr, rfl⟩ := hP.own.shape
   by_cases hlt : k < ts.length
   ·have i1 : (k : Int) < (ts.length : Int) := by omega
    obtain ⟨g, cap, eg, hgs, hrange⟩ : ∃ g cap, Value.slice pn ts.length cn = .slice (some ⟨g, 0, none⟩) ts.length cap ∧ g < W1.heap.size ∧ W1.rangeAt g 0 cs := by
     rcases hOn.2 with ⟨_, e2⟩ | ⟨g, cap, e1, a1, a2, _, _, _, a3⟩
     ·omega
     ·exact ⟨g, cap, e1, a2, a3⟩
    have hgS : S g = none := by
     have hown := hOn.block g (by rw [eg]; rfl)
     exact HX.out.1.fresh (by omega)
    simp only [Value.slice.injEq] at eg
    obtain ⟨rfl, -, rfl⟩ := eg
    have hkc : k < cs.length := by rw [hVn.1]; exact hlt
    obtain ⟨td, htd⟩ : ∃ td, ts[k] = td := ⟨_, rfl⟩
    have hv := hVn.2 k hkc hlt
    have hshd := hsh _ (List.getElem_mem hlt)
    rw [htd] at hv hshd
    obtain ⟨db, hdb, hdS⟩ := hv.full (fun h => by rw [h] at hshd; cases hshd)
    have c0 : wr.cell? ⟨g, k, none⟩ = some (.iface (ndTy td) (.pointer (some ⟨db, 0, none⟩))) := (hP.fr.cell (a := ⟨g, k, none⟩) hgs hgS).trans (by
     have := hrange k cs[k] (List.getElem?_eq_getElem hkc)
     rw [Nat.zero_add, hdb] at this
     exact this)
    have hm := mCode td hshd
    have hfn := enCode td hshd
    have hna := naCode td hshd
    have HC := Hid.hide (ncod_any hP.fr.forest (hP.fr.tabs hfW hTW HX.out.2.2.1) HX.out.2.2.1 hdS hshd)
    have HP := Hid.hide hP
    have HK : Hid (k < ts.length ∧ ts.length ≤ 65 ∧ ts.take (k + 1) = ts.take k ++ [td] ∧ (provL (ts.take k)).length ≤ 65) := ⟨hlt, h65, by rw [List.take_add_one, List.getElem?_eq_getElem hlt, htd]; rfl, by have := provL_length (ts.take k); rw [List.length_take] at this; omega⟩
    have HW64 : Hid (wrap64 ((k : Int) + 1) = ((k + 1 : Nat) : Int)) := sum_few k 1 (by omega)
    obtain ⟨cd, hcd⟩ : ∃ cd, td.code = cd := ⟨_, rfl⟩
    rw [hcd] at HC
    have HCD := Hid.hide hcd
    obtain ⟨sc, hsc⟩ : ∃ sc, textB cd = sc := ⟨_, rfl⟩
    rw [hsc] at HC
    have HSC : Hid (textB cd = sc ∧ sc.size = cd.length) := ⟨hsc, by rw [← hsc, textB_size]⟩
    have hmr : mr = (provL (ts.take k)).length := by
     rcases hP.own.2 with ⟨e1, e2⟩ | ⟨g, cap, e1, _⟩
     ·simp only [Value.slice.injEq] at e1; omega
     ·simp only [Value.slice.injEq] at e1; exact e1.2.1
    clear hBW hTW hOn hVn h65 hsh hts hsz hP hrange hkc hv hdb hdS htd hlt hcd hsc hgS
    go_upto_region 9 with fail
    refine HC.out.mono ?_
    rintro x w3 ⟨rfl, hf3⟩
    have HP3 := Hid.hide (HP.out.frame hfW hf3)
    have HFW := Hid.hide hfW
    clear hf3 hm hfn hna hfW c0 hshd
    by_cases hcond : provL (ts.take k) = [] ∨ 32 ≤ cd.length
    ·have HPL : Hid (provL (ts.take (k + 1)) = provL (ts.take k) ++ [cd]) := by
      show provL (ts.take (k + 1)) = _
      rw [HK.out.2.2.1, provL_snoc, HCD.out, if_pos hcond]
     have HO : Hid (∀ o, OwnC (w3.alloc o) W1.heap.size 1 (.slice pr mr cr) (provL (ts.take k)).length (strs (provL (ts.take k)))) := fun o => HP3.out.own.alloc o
     have HRg : Hid (∀ t, (w3.alloc (.cells #[.string sc] t)).rangeAt w3.heap.size 0 [.string sc]) := fun t => rangeAt_new w3 [.string sc] t
     have HEnd : Hid (∀ o v2 w4, OwnC w4 W1.heap.size 1 v2 ((provL (ts.take k)).length + 1) (strs (provL (ts.take k)) ++ [.string sc]) → (w3.alloc o).grownBy w4 (Value.ownBlock (.slice pr mr cr)) → PIn B S W1 ts (k + 1) v2 w4) := fun o v2 w4 h1 h2 => by
      have hb : Below w3.heap.size w3 (w3.alloc o) := (Below.refl _ _).alloc (Nat.le_refl _) _
      refine ⟨(HP3.out.fr.behind hb).grow h2 fun j hj => ⟨(HP3.out.own.block j hj).1, HP3.out.none HFW.out j hj⟩, ?_⟩
      rw [HPL.out]
      have e1 : strs (provL (ts.take k) ++ [cd]) = strs (provL (ts.take k)) ++ [.string sc] := by unfold strs; rw [List.map_append, ← HSC.out.1]; rfl
      rw [e1, List.length_append]
      exact h1
     have HL : Hid (W1.heap.size ≤ w3.heap.size ∧ (provL (ts.take k)).length ≤ 65) := ⟨HP3.out.fr.size, HK.out.2.2.2⟩
     by_cases hmz : mr = 0
     ·have hm1 : ((mr : Int) == 0) = true := by simp; omega
      clear hmr hcond hmz
      go_wp2_with (at_builtin; refine wpList_append_ownp _ rfl _ _ 52 rfl 9 i0 (.string ⟨#[]⟩) 1 16 Tryz.underlying52 hi hz0 hz1 hz2 rfl (by decide) W1.heap.size (.slice pr mr cr) _ _ rfl (HO.out _) w3.heap.size 0 1 1 [.string sc] rfl rfl (HRg.out _) (by simp [Value.oneCell']) (by have := HL.out; unfold maxLen; omega) (by have := HL.out; omega) (by have := HL.out; simp; omega) ?_; intro v2 w4 hO2 hg2 hf2 hp2; have HY2 := Hid.hide (HEnd.out _ _ _ hO2 hg2); obtain ⟨p2, m2, k2, rfl⟩ := hO2.shape; clear hO2 hg2 hf2 hp2)
      go_roundg (ts.length - (k + 1))
      case measure => have := HK.out; omega
      case rel => exact ⟨k + 1, by have := HK.out; omega, rfl, by rw [HW64.out], HY2.out⟩
     ·have hm1 : ((mr : Int) == 0) = false := by simp; omega
      have h32 : (32 : Int) ≤ (sc.size : Int) := by
       have := HSC.out.2
       rcases hcond with h | h
       ·rw [h] at hmr; exact absurd hmr hmz
       ·omega
      clear hmr hcond hmz
      go_wp2_with (at_builtin; refine wpList_append_ownp _ rfl _ _ 52 rfl 9 i0 (.string ⟨#[]⟩) 1 16 Tryz.underlying52 hi hz0 hz1 hz2 rfl (by decide) W1.heap.size (.slice pr mr cr) _ _ rfl (HO.out _) w3.heap.size 0 1 1 [.string sc] rfl rfl (HRg.out _) (by simp [Value.oneCell']) (by have := HL.out; unfold maxLen; omega) (by have := HL.out; omega) (by have := HL.out; simp; omega) ?_; intro v2 w4 hO2 hg2 hf2 hp2; have HY2 := Hid.hide (HEnd.out _ _ _ hO2 hg2); obtain ⟨p2, m2, k2, rfl⟩ := hO2.shape; clear hO2 hg2 hf2 hp2)
      go_roundg (ts.length - (k + 1))
      case measure => have := HK.out; omega
      case rel => exact ⟨k + 1, by have := HK.out; omega, rfl, by rw [HW64.out], HY2.out⟩
    ·have HPL : Hid (provL (ts.take (k + 1)) = provL (ts.take k)) := by
      show provL (ts.take (k + 1)) = _
      rw [HK.out.2.2.1, provL_snoc, HCD.out, if_neg hcond]
     have hm1 : ((mr : Int) == 0) = false := by
      have : mr ≠ 0 := fun e => hcond (.inl (List.eq_nil_of_length_eq_zero (by omega)))
      simp
      omega
     have h32 : (sc.size : Int) < 32 := by
      have := HSC.out.2
      have : ¬ 32 ≤ cd.length := fun h => hcond (.inr h)
      omega
     clear hmr hcond
     go_wp2
     go_roundg (ts.length - (k + 1))
     case measure => have := HK.out; omega
     case rel => exact ⟨k + 1, by have := HK.out; omega, rfl, by rw [HW64.out], HP3.out.fr, by rw [HPL.out]; exact HP3.out.own⟩
   ·obtain rfl : k = ts.length := by omega
    have i1 : ¬ (ts.length : Int) < (ts.length : Int) := by omega
    have HE : Hid (Fr B S S w wr ∧ OwnC wr w.heap.size 1 (.slice pr mr cr) (provL (l.map (·.1) ++ e.shownL)).length (strs (provL (l.map (·.1) ++ e.shownL)))) := by
     refine ⟨(Fr.of_below HX.out.1 hBW).trans hP.fr, ?_⟩
     have := hP.own
     rw [List.take_length] at this
     rw [hts]
     exact this.mono hBW.size
    clear hBW hfW hTW hOn hVn h65 hsh hts hsz hP
    go_wp2
    go_ret2
    exact ⟨_, rfl, HE.out.1, HE.out.2⟩
end Go.Proofs.YtjiikjpnlgogfaaGreatDoor
namespace Go.Proofs.YtjiikjpnlgogfaaGreatDoor
open Go.RowKit
def Nd.ways : Nat → Nd → ByteArray → List Nd
 | 0, t, _ => t.shownL
 | n + 1, t, r => if (t.next r).1.isNo = true then t.shownL else t :: (t.next r).1.ways n (r.extract (t.next r).2 r.size)
theorem WayTo.ways {t : Nd} {r : ByteArray} {l : List (Nd × ByteArray)} {e : Nd} {r' : ByteArray} (h : WayTo t r l e r') : ∀ n, t.fits r.size → r.size ≤ n → l.map (·.1) ++ e.shownL = t.ways n r := by
 induction h with
 | stop h =>
  intro n _ _
  cases n with
  | zero => rfl
  | succ n => rw [Nd.ways, if_pos (Nd.isNo_iff.2 h)]; rfl
 | go hn _ ih =>
  intro n hf hr
  obtain ⟨k1, k2, k3⟩ := Nd.next_fits hf hn
  cases n with
  | zero => omega
  | succ n =>
   rw [Nd.ways, if_neg (by rw [isNo_false hn]; simp)]
   rw [List.map_cons, List.cons_append, ih n (by rw [extract_size]; exact k3) (by rw [extract_size]; omega)]
theorem WayTo.inner {t : Nd} {r : ByteArray} {l : List (Nd × ByteArray)} {e : Nd} {r' : ByteArray} (h : WayTo t r l e r') : ∀ x ∈ l, x.1.inner = true := by
 induction h with
 | stop h => intro x hx; cases hx
 | @go t r _ _ _ hn _ ih =>
  intro x hx
  rcases List.mem_cons.1 hx with rfl | hx
  ·cases ht : t.inner with
   | true => rfl
   | false => exact absurd (Nd.next_not ht r) hn
  ·exact ih x hx
def Nd.prove (t : Nd) (p : ByteArray) : List (List Nat) := provL (t.ways 64 p)
set_option maxRecDepth 100000 in
set_option maxHeartbeats 1600000 in
theorem xprove_any {B : Nat} {S : Wood} {w : World} {b : Nat} {t : Nd} {K : Array Nat} (hf : Forest B S w) (hTb : Tabs w) (hM : 16 ≤ B) (ht : TreeAt S w b t) (hc : t.can 64) (hK : K.size = 32) (hKb : Bytes K) {L : List (List Nat)} (hL : t.prove (textB (nibs K.toList)) = L) :
  Calls Tryz.prog 29 #[.pointer (some ⟨b, 0, none⟩), .agg (K.toList.map encB).toArray] w fun x w' => ∃ res, x = .returned (.tuple #[res, .int .i64 0]) ∧ Fr B S S w w' ∧ OwnC w' w.heap.size 1 res L.length (strs L) := by
 obtain ⟨p, hp⟩ : ∃ p, textB (nibs K.toList) = p := ⟨_, rfl⟩
 obtain ⟨hp1, hp2, hp3⟩ := key_path hK hKb
 rw [hp] at hp1 hp3 hL
 have hnb : nib (bytesOf p) := by rw [hp1]; exact hp2
 have hc' : t.can p.size := by rw [hp3]; exact hc
 obtain ⟨l, e, r', hT, hl⟩ := way_ex p.size t p (Nat.le_refl _) hc'
 obtain ⟨_, he, _, _⟩ := way_get hT hc'
 obtain ⟨_, hfit⟩ := t.can_ok p.size hc' (by omega)
 have hL' : provL (l.map (·.1) ++ e.shownL) = L := by rw [hT.ways 64 hfit (by omega)]; exact hL
 obtain ⟨Kc, hKc⟩ : ∃ Kc, (K.toList.map encB).toArray = Kc := ⟨_, rfl⟩
 obtain ⟨W0, hW0⟩ : ∃ W0, w.alloc (.cells Kc 26) = W0 := ⟨_, rfl⟩
 have hrow : W0.rangeAt w.heap.size 0 (K.toList.map encB) := fun j u hu => by
  rw [← hW0, Nat.zero_add, World.cell?_alloc_new, ← hKc]
  simpa using hu
 have hb0 : Below w.heap.size w W0 := by rw [← hW0]; exact (Below.refl _ _).alloc (Nat.le_refl _) _
 have hs0 : w.heap.size < W0.heap.size := by rw [← hW0]; simp
 have hfrd := Fr.of_below hf hb0.drew
 have HP := Hid.hide (tprove_any hfrd.forest (hfrd.tabs hf hTb hM) hM (ht.frame hfrd) hK hKb hp hfit hnb (by omega) hT (fun g => can_stub he g) (by omega) hT.inner)
 rw [hL'] at HP
 have HX : Hid (Fr B S S w W0.drew ∧ Forest B S w) := ⟨hfrd, hf⟩
 have hzK : (Tryz.prog.info? 26).map (·.size) = some (K.toList.map encB).length := by rw [size51]; simp [hK]
 have hu26 := Tryz.underlying26
 have HS0 : Hid (w.heap.size < W0.heap.size ∧ S w.heap.size = none) := ⟨hs0, hf.fresh (Nat.le_refl _)⟩
 clear hf hTb hM ht hc hK hKb hL hp1 hp2 hp3 hnb hc' hT hl he hfit hL' hp hb0 hs0 hfrd
 rw [hKc] at HP ⊢
 go_enter Tryz.func29, Tryz.ntmps29
 go_upto_region 1 with fail
 clear hW0
 rw [← hKc] at HP
 clear hKc
 go_region_held3 (fun w' => w'.rangeAt w.heap.size 0 (K.toList.map encB)) (first | exact hrow | exact h1)
  (first | (go_at_call 56; refine HP.out.mono ?_; rintro x w1 ⟨res, rfl, hf1, hO1⟩; have h1 : w1.rangeAt w.heap.size 0 (K.toList.map encB) := rangeAt_block hrow (hf1.other w.heap.size HS0.out.1 HS0.out.2); have HE : Hid (Fr B S S w w1 ∧ OwnC w1 w.heap.size 1 res L.length (strs L)) := ⟨HX.out.1.trans hf1, hO1.mono HX.out.1.size⟩; obtain ⟨pr, mr, cr, rfl⟩ := hO1.shape; clear hf1 hO1))
 all_goals go_wp2_with (go_at_call 49; refine (errno_nil _).mono ?_; rintro x w2 ⟨rfl, rfl⟩)
 all_goals go_ret2
 all_goals exact ⟨_, rfl, HE.out⟩
end Go.Proofs.YtjiikjpnlgogfaaGreatDoor
