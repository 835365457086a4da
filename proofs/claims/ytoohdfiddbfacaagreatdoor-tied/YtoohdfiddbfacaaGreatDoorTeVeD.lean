/-
  The nodes on a way.
  Prove: the codes of the nodes on a way.
  twigs.Prove.
-/
import Derived.Test.YtoohdfiddbfacaaGreatDoorTeVfO
namespace Go.Proofs.YtoohdfiddbfacaaGreatDoor
open Go.RowKit
set_option maxRecDepth 100000
set_option maxHeartbeats 25600000
def Vals (S : Wood) (ts : List Nd) (cs : List Value) : Prop := cs.length = ts.length /\ ∀ i (h1 : i < cs.length) (h2 : i < ts.length), ndV S cs[i] ts[i]
theorem Vals.snoc {S : Wood} {ts : List Nd} {cs : List Value} (h : Vals S ts cs) {t : Nd} {v : Value} (hv : ndV S v t) : Vals S (ts ++ [t]) (cs ++ [v]) := by
 refine ⟨by simp [h.1], fun i a b => ?_⟩
 rw [List.getElem_append, List.getElem_append]
 split
 ·rename_i e
  rw [dif_pos (by rw [<- h.1]; exact e)]
  exact h.2 i e _
 ·rename_i e
  rw [dif_neg (by rw [<- h.1]; exact e)]
  simpa using hv
structure NIn (S : Wood) (w : World) (l : List (Nd × ByteArray)) (thr v : Value) (r : ByteArray) (k : Nat) (res : Value) (cs : List Value) (wr : World) : Prop where
 own : OwnC wr (w.heap.size + 1) 1 res k cs
 vals : Vals S ((l.take k).map (·.1)) cs
 below : Below w.heap.size w wr
 box : wr.heap[w.heap.size]? = some (.cells #[thr, v, .string r] 94 (0, 0))
theorem shownZ : (Tryz.prog.info? 100).map (fun i => (i.zero, i.size, i.bytes)) = some (some .nilIface, 1, 16) := by kernel_rfl
theorem nin_grow {S : Wood} {w wr w2 w3 : World} {l : List (Nd × ByteArray)} {thr v : Value} {r : ByteArray} {k : Nat} {res v2 : Value} {cs : List Value} {t : Nd} {x : Value} (h : NIn S w l thr v r k res cs wr) (hb : Below wr.heap.size wr w2) (hO : OwnC w3 (w.heap.size + 1) 1 v2 (k + 1) (cs ++ [x])) (hg : w2.grownBy w3 res.ownBlock) (hv : ndV S x t) : OwnC w3 (w.heap.size + 1) 1 v2 (k + 1) (cs ++ [x]) /\ Vals S ((l.take k).map (·.1) ++ [t]) (cs ++ [x]) /\ Below w.heap.size w w3 /\ w3.heap[w.heap.size]? = some (.cells #[thr, v, .string r] 94 (0, 0)) := by
 have d : w.heap.size < wr.heap.size := (Array.getElem?_eq_some_iff.1 h.box).1
 have a := h.below.behind' hb
 have f := hb.size
 have b : ∀ j, j <= w.heap.size -> some j ≠ res.ownBlock := fun j c e => by
  have := (h.own.block j e.symm).1
  omega
 refine ⟨hO, h.vals.snoc hv, ⟨hg.os.trans a.os, hg.tape.trans a.tape, hg.output.trans a.output, Nat.le_trans a.size hg.size, fun j c => (hg.block j (by omega) (b j (by omega))).trans (a.block j c)⟩, ?_⟩
 exact (hg.block _ (by omega) (b _ (Nat.le_refl _))).trans ((hb.block _ d).trans h.box)
def Nd.shownL (e : Nd) : List Nd := if e.isNo = true then [] else [e]
theorem nodes_any {S : Wood} {w : World} {C : Nat} {l : List (Nd × ByteArray)} {e : Nd} {thr v : Value} {r : ByteArray} (hF : Followed S C w l e thr v) (hs : ∀ h, e ≠ .stub h) (hl : l.length <= 1000) (hin : ∀ x ∈ l, x.1 ≠ .no) :
  Calls Tryz.prog 41 #[.agg #[thr, v, .string r]] w fun x w' => Below w.heap.size w w' /\ ∃ res cs, x = .returned res /\ OwnC w' (w.heap.size + 1) 1 res (l.map (·.1) ++ e.shownL).length cs /\ Vals S (l.map (·.1) ++ e.shownL) cs := by
 obtain ⟨⟨ct, s, B⟩, y⟩ := hF
 obtain ⟨i0, hi, ah, ai, aj⟩ := info_parts shownZ
 obtain ⟨H, mt, d, rfl⟩ := s.shape
 have ao : mt = l.length := by
  rcases s.2 with ⟨f, K⟩ | ⟨g, z, f, _⟩
  ·simp only [Value.slice.injEq] at f; omega
  ·simp only [Value.slice.injEq] at f; exact f.2.1
 subst ao
 obtain ⟨W0, L⟩ : ∃ W0, w.alloc (.cells #[.slice H l.length d, v, .string r] 94) = W0 := ⟨_, rfl⟩
 have ac : Below w.heap.size w W0 := by rw [<- L]; exact (Below.refl _ _).alloc (Nat.le_refl _) _
 have F : W0.heap[w.heap.size]? = some (.cells #[.slice H l.length d, v, .string r] 94 (0, 0)) := by rw [<- L]; exact Array.getElem?_push_size
 have A0 : Aside (NIn S w l (.slice H l.length d) v r 0 (.slice none 0 0) [] W0) := ⟨OwnC.nil _ _ _, ⟨rfl, by simp⟩, ac, F⟩
 obtain ⟨x0, x1, x2⟩ := rowOf3 F
 have HX : Hid (OwnC w C 2 (.slice H l.length d) l.length ct /\ Turns S l ct /\ ndV S v e /\ (∀ h, e ≠ .stub h) /\ l.length <= 1000 /\ ∀ x ∈ l, x.1 ≠ .no) := ⟨s, B, y, hs, hl, hin⟩
 clear s B y hs hl hin ac F
 go_enter Tryz.func41, Tryz.ntmps41
 go_wp2
 clear L
 go_loopg [11, 3] l.length (fun gh i res wr => ∃ k cs, k <= l.length /\ gh = l.length - k /\ i = .int .i64 (k : Int) /\ NIn S w l (.slice H l.length d) v r k res cs wr)
 case atStart => exact ⟨0, [], Nat.zero_le _, rfl, rfl, A0.out⟩
 case round =>
  obtain ⟨k, cs, hk, rfl, rfl, a⟩ := hrel
  clear A0 x0 x1 x2
  have HN := Hid.hide a
  obtain ⟨V, U, J, rfl⟩ := a.own.shape
  obtain ⟨s, B, y, hs, hl, hin⟩ := HX.out
  by_cases m : k < l.length
  ·have i1 : (k : Int) < (l.length : Int) := by omega
   obtain ⟨Y, X⟩ := B.at k m
   have G := hin _ (List.getElem_mem m)
   obtain ⟨g, z, eg, am, Q, n⟩ : ∃ g z, Value.slice H l.length d = .slice (some ⟨g, 0, none⟩) l.length z /\ C <= g /\ g < w.heap.size /\ w.rangeAt g 0 ct := by
    rcases s.2 with ⟨_, K⟩ | ⟨g, z, f, a1, a2, _, _, _, a3⟩
    ·omega
    ·exact ⟨g, z, f, a1, a2, a3⟩
   simp only [Value.slice.injEq] at eg
   obtain ⟨rfl, -, rfl⟩ := eg
   obtain ⟨⟨E, aa⟩, T⟩ : ∃ q, l[k] = q := ⟨_, rfl⟩
   rw [T] at Y X G
   simp only at Y X G
   obtain ⟨b, N, M⟩ := X.full G
   have al := B.length
   have c0 : wr.cell? ⟨g, k * 2, none⟩ = some (.iface (ndTy E) (.pointer (some ⟨b, 0, none⟩))) := (World.cell?_of_block (a.below.block g Q)).trans (by
    have := n (k * 2) (ct.getD (k * 2) undef) (by rw [List.getD_eq_getElem?_getD, List.getElem?_eq_getElem (by omega)]; rfl)
    rw [Nat.zero_add, N] at this
    exact this)
   have c1 : wr.cell? ⟨g, k * 2 + 1, none⟩ = some (.string aa) := (World.cell?_of_block (a.below.block g Q)).trans (by
    have := n (k * 2 + 1) (ct.getD (k * 2 + 1) undef) (by rw [List.getD_eq_getElem?_getD, List.getElem?_eq_getElem (by omega)]; rfl)
    rw [Nat.zero_add, Y] at this
    exact this)
   have ar : g < wr.heap.size := Nat.lt_of_lt_of_le Q a.below.size
   have aq : ¬ g = wr.heap.size := by omega
   have c : Hid (k < l.length /\ l.length <= 1000 /\ ndV S (.iface (ndTy E) (.pointer (some ⟨b, 0, none⟩))) E /\ l[k]? = some (E, aa)) := ⟨m, hl, by rw [<- N]; exact X, by rw [List.getElem?_eq_getElem m, T]⟩
   have HO : Hid (∀ W, Below wr.heap.size wr W -> OwnC W (w.heap.size + 1) 1 (.slice V U J) k cs) := fun W hb => a.own.below hb
   have HB : Hid (w.heap.size + 1 <= wr.heap.size) := (Array.getElem?_eq_some_iff.1 a.box).1
   have I : Hid (∀ o t, ((wr.alloc o).alloc (.cells #[.iface (ndTy E) (.pointer (some ⟨b, 0, none⟩))] t)).rangeAt (wr.heap.size + 1) 0 [.iface (ndTy E) (.pointer (some ⟨b, 0, none⟩))]) := fun o t => by
    have := rangeAt_new (wr.alloc o) [.iface (ndTy E) (.pointer (some ⟨b, 0, none⟩))] t
    simpa using this
   have ak : Hid (wrap64 ((k : Int) + 1) = ((k + 1 : Nat) : Int)) := sum_few k 1 (by omega)
   clear a s B y hs hl hin Y X G n am al M T N m
   go_wp2_with (at_builtin; refine wpList_append_ownp _ rfl _ _ 97 rfl 100 i0 .nilIface 1 16 Tryz.underlying97 hi ah ai aj rfl (by decide) (w.heap.size + 1) (.slice V U J) k cs rfl (HO.out _ (two_below _ _ _)) (wr.heap.size + 1) 0 1 1 [.iface (ndTy E) (.pointer (some ⟨b, 0, none⟩))] rfl rfl (I.out _ _) (by simp [Value.oneCell']) (by have := c.out; unfold maxLen; omega) (by have := c.out; omega) (by have := HB.out; simp; omega) ?_; intro v2 w2 j D P R; have p := Hid.hide (nin_grow HN.out (two_below _ _ _) j D c.out.2.2.1); obtain ⟨p2, m2, k2, rfl⟩ := j.shape; clear j D P R)
   go_roundg (l.length - (k + 1))
   case measure => have := c.out; omega
   case rel => exact ⟨k + 1, _, by have := c.out; omega, rfl, by rw [ak.out], p.out.1, by rw [List.take_add_one, c.out.2.2.2]; simp only [Option.toList_some, List.map_append, List.map_cons, List.map_nil]; exact p.out.2.1, p.out.2.2.1, p.out.2.2.2⟩
  ·obtain rfl : k = l.length := by omega
   have i1 : ¬ (l.length : Int) < (l.length : Int) := by omega
   obtain ⟨x0, x1, x2⟩ := rowOf3 a.box
   have u : l.take l.length = l := List.take_length
   by_cases O : e = .no
   ·subst O
    obtain rfl : v = .nilIface := y.nil rfl
    have ap := taShownNil
    have p : Hid (Below w.heap.size w wr /\ OwnC wr (w.heap.size + 1) 1 (.slice V U J) (l.map (·.1) ++ Nd.no.shownL).length cs /\ Vals S (l.map (·.1) ++ Nd.no.shownL) cs) := by
     have f : l.map (·.1) ++ Nd.no.shownL = l.map (·.1) := by simp [Nd.shownL, Nd.isNo]
     have ag := a.vals
     rw [u] at ag
     rw [f, List.length_map]
     exact ⟨a.below, a.own, ag⟩
    clear a s B y hs hl hin u hk m
    go_wp2
    go_ret
    exact ⟨p.out.1, _, rfl, _, by simpa using p.out.2.1, p.out.2.2⟩
   ·obtain ⟨b, rfl, M⟩ := y.full O
    have ae : e.shown = true := by
     cases e with
     | no => exact absurd rfl O
     | stub h => exact absurd rfl (hs h)
     | _ => rfl
    have ap := taShown e ae ⟨b, 0, none⟩
    have f : l.map (·.1) ++ e.shownL = l.map (·.1) ++ [e] := by
     unfold Nd.shownL
     rw [if_neg (fun h => O (Nd.isNo_iff.1 h))]
    have c : Hid (l.length <= 1000 /\ ndV S (.iface (ndTy e) (.pointer (some ⟨b, 0, none⟩))) e /\ l.map (·.1) ++ e.shownL = l.map (·.1) ++ [e] /\ l.take l.length = l) := ⟨hl, y, f, u⟩
    have HO : Hid (∀ W, Below wr.heap.size wr W -> OwnC W (w.heap.size + 1) 1 (.slice V U J) l.length cs) := fun W hb => a.own.below hb
    have HB : Hid (w.heap.size + 1 <= wr.heap.size) := (Array.getElem?_eq_some_iff.1 a.box).1
    have I : Hid (∀ t, (wr.alloc (.cells #[.iface (ndTy e) (.pointer (some ⟨b, 0, none⟩))] t)).rangeAt wr.heap.size 0 [.iface (ndTy e) (.pointer (some ⟨b, 0, none⟩))]) := fun t => rangeAt_new wr [.iface (ndTy e) (.pointer (some ⟨b, 0, none⟩))] t
    have Z : Hid (∀ o, Below wr.heap.size wr (wr.alloc o)) := fun o => (Below.refl _ _).alloc (Nat.le_refl _) _
    clear a s B y hs hl hin u hk m O M ae f
    go_wp2_with (at_builtin; refine wpList_append_ownp _ rfl _ _ 97 rfl 100 i0 .nilIface 1 16 Tryz.underlying97 hi ah ai aj rfl (by decide) (w.heap.size + 1) (.slice V U J) l.length cs rfl (HO.out _ (Z.out _)) wr.heap.size 0 1 1 [.iface (ndTy e) (.pointer (some ⟨b, 0, none⟩))] rfl rfl (I.out _) (by simp [Value.oneCell']) (by have := c.out; unfold maxLen; omega) (by have := c.out; omega) (by have := HB.out; simp; omega) ?_; intro v2 w2 j D P R; have p := Hid.hide (nin_grow HN.out (Z.out _) j D c.out.2.1); obtain ⟨p2, m2, k2, rfl⟩ := j.shape; clear j D P R)
    go_ret
    obtain ⟨y1, y2, y3, y4⟩ := p.out
    rw [c.out.2.2.2] at y2
    have K : (l.map (·.1) ++ e.shownL).length = l.length + 1 := by rw [c.out.2.2.1]; simp
    refine ⟨y3, _, rfl, cs ++ [.iface (ndTy e) (.pointer (some ⟨b, 0, none⟩))], ?_, ?_⟩
    ·have e3 : l.length + e.shownL.length = l.length + 1 := by rw [List.length_append, List.length_map] at K; exact K
     first | (rw [K]; exact y1) | (rw [e3]; exact y1)
    ·rw [c.out.2.2.1]; exact y2
def codeFn : Nd -> FuncId
 | .leaf _ _ => 144
 | .ext _ _ => 180
 | .br _ => 172
 | _ => 0
theorem mCode (t : Nd) (ht : t.shown = true) (a : Addr) (w : World) : (Go.method 395 (ndTy t) (.pointer (some a)) "twigs/tree.code").run Tryz.prog w = .ok (codeFn t, .pointer (some a)) w := by
 cases t with
 | leaf _ _ => kernel_rfl
 | ext _ _ => kernel_rfl
 | br _ => kernel_rfl
 | _ => simp [Nd.shown] at ht
theorem enCode (t : Nd) (ht : t.shown = true) (args : Array Value) (w : World) : (callFunc (codeFn t) args).run Tryz.prog w = .ok (.enter (codeFn t) args) w := by
 cases t with
 | leaf _ _ => kernel_rfl
 | ext _ _ => kernel_rfl
 | br _ => kernel_rfl
 | _ => simp [Nd.shown] at ht
theorem naCode (t : Nd) (ht : t.shown = true) (a : Addr) (w : World) : (nilAhead 395 (ndTy t) (.pointer (some a)) "twigs/tree.code").run Tryz.prog w = .ok (some false) w := by
 cases t with
 | leaf _ _ => kernel_rfl
 | ext _ _ => kernel_rfl
 | br _ => kernel_rfl
 | _ => simp [Nd.shown] at ht
theorem ncod_any {B : Nat} {S : Wood} {w : World} {b : Nat} {t : Nd} (hf : Forest B S w) (hT : Tabs w) (hM : 15 <= B) (hb : S b = some t) (ht : t.shown = true) :
  Calls Tryz.prog (codeFn t) #[.pointer (some ⟨b, 0, none⟩)] w fun e w' => e = .returned (.string (textB t.code)) /\ Fr B S S w w' := by
 cases t with
 | leaf _ _ => exact leaf_code hf hb
 | ext p t =>
  have := hf.ok b _ hb
  rw [Nd.ok] at this
  exact ext_code hf hT hM hb (ref_any B S t this.2.2)
 | br ks => exact br_code hf hT hM hb (refs_any B S ks)
 | _ => simp [Nd.shown] at ht
def provL : List Nd -> List (List Nat)
 | [] => []
 | t :: ts => t.code :: (ts.map Nd.code).filter (fun c => decide (32 <= c.length))
theorem provL_snoc (ts : List Nd) (t : Nd) : provL (ts ++ [t]) = if provL ts = [] \/ 32 <= t.code.length then provL ts ++ [t.code] else provL ts := by
 cases ts with
 | nil => simp [provL]
 | cons s ts =>
  simp only [provL, List.cons_append, List.map_append, List.filter_append, List.map_cons, List.map_nil, List.filter_cons, List.filter_nil]
  by_cases h : 32 <= t.code.length
  ·simp [h]
  ·simp [h]
theorem provL_length (ts : List Nd) : (provL ts).length <= ts.length := by
 cases ts with
 | nil => simp [provL]
 | cons s ts =>
  have := List.length_filter_le (fun c : List Nat => decide (32 <= c.length)) (ts.map Nd.code)
  simp only [provL, List.length_cons]
  rw [List.length_map] at this
  omega
def strs (L : List (List Nat)) : List Value := L.map fun c => .string (textB c)
theorem OwnC.frame {B C size : Nat} {S S' : Wood} {w w' : World} {v : Value} {n : Nat} {cs : List Value} (h : OwnC w C size v n cs) (hf : Fr B S S' w w') (hn : ∀ k, v.ownBlock = some k -> S k = none) : OwnC w' C size v n cs :=
 h.keep hf.size fun k hk e => hf.other k hk (hn k e)
structure PIn (B : Nat) (S : Wood) (W1 : World) (ts : List Nd) (k : Nat) (res : Value) (wr : World) : Prop where
 fr : Fr B S S W1 wr
 own : OwnC wr W1.heap.size 1 res (provL (ts.take k)).length (strs (provL (ts.take k)))
theorem PIn.none {B : Nat} {S : Wood} {W1 : World} {ts : List Nd} {k : Nat} {res : Value} {wr : World} (h : PIn B S W1 ts k res wr) (hf : Forest B S W1) : ∀ g, res.ownBlock = some g -> S g = none := fun g hg => hf.fresh (h.own.block g hg).1
theorem PIn.frame {B : Nat} {S : Wood} {W1 : World} {ts : List Nd} {k : Nat} {res : Value} {wr w2 : World} (h : PIn B S W1 ts k res wr) (hf : Forest B S W1) (hr : Fr B S S wr w2) : PIn B S W1 ts k res w2 := ⟨h.fr.trans hr, h.own.frame hr (h.none hf)⟩
theorem tprove_any {B : Nat} {S : Wood} {w : World} {b : Nat} {t e : Nd} {K : Array Nat} {p r' : ByteArray} {l : List (Nd × ByteArray)} (hf : Forest B S w) (hTb : Tabs w) (hM : 15 <= B) (ht : TreeAt S w b t) (hK : K.size = 32) (hKb : Bytes K) (hp : textB (nibs K.toList) = p) (hfit : t.fits p.size) (hn : ∀ x ∈ bytesOf p, x < 16) (hps : p.size <= 64) (hT : WayTo t p l e r') (hs : ∀ h, e ≠ .stub h) (hl : l.length <= 64) (hin : ∀ x ∈ l, x.1.inner = true) :
  Calls Tryz.prog 27 #[.pointer (some ⟨b, 0, none⟩), .agg (K.toList.map encB).toArray] w fun x w' => ∃ res, x = .returned (.tuple #[res, .nilIface]) /\ Fr B S S w w' /\ OwnC w' w.heap.size 1 res (provL (l.map (·.1) ++ e.shownL)).length (strs (provL (l.map (·.1) ++ e.shownL))) := by
 obtain ⟨i0, hi, bq, bx, bz⟩ := info_parts strZ
 obtain ⟨Kc, T⟩ : ∃ Kc, (K.toList.map encB).toArray = Kc := ⟨_, rfl⟩
 obtain ⟨W0, U⟩ : ∃ W0, w.alloc (.cells Kc 34) = W0 := ⟨_, rfl⟩
 have ar : W0.rangeAt w.heap.size 0 (K.toList.map encB) := fun j u hu => by
  rw [<- U, Nat.zero_add, World.cell?_alloc_new, <- T]
  simpa using hu
 have ai : Below w.heap.size w W0 := by rw [<- U]; exact (Below.refl _ _).alloc (Nat.le_refl _) _
 have al := Fr.of_below hf ai
 have HW := Hid.hide (tway_any al.forest (ht.frame al) hK hKb hp hfit hn (by omega) hT hs)
 have ce : (Tryz.prog.info? 34).map (·.size) = some (K.toList.map encB).length := by rw [size51]; simp [hK]
 have m : Hid (Forest B S w /\ Tabs w /\ 15 <= B /\ (∀ h, e ≠ .stub h) /\ l.length <= 64 /\ (∀ x ∈ l, x.1.inner = true) /\ Below w.heap.size w W0 /\ w.heap.size < W0.heap.size) := ⟨hf, hTb, hM, hs, hl, hin, ai, by rw [<- U]; simp⟩
 have ay := Tryz.underlying34
 clear hf hTb hM ht hK hKb hp hfit hn hps hT hs hl hin ai al
 rw [T] at HW ⊢
 go_enter Tryz.func27, Tryz.ntmps27
 go_upto_region 1 with fail
 clear U
 rw [<- T] at HW
 clear T
 go_wp2_with (first | (refine wpList_load_mid rfl 34 _ rfl w.heap.size 0 rfl (K.toList.map encB) _ ar ay rfl ce ?_))
 refine HW.out.mono ?_
 rintro x Q ⟨bg, cz, v, rfl, hF⟩
 obtain ⟨pt, mt, ct, rfl⟩ := hF.shape
 have cf := way_one hF.node pt mt ct r'
 have HF := Hid.hide hF
 have cu := hF.node.shape
 have b9 : Hid (Below w.heap.size w Q) := m.out.2.2.2.2.2.2.1.behind' bg
 clear bg hF ar ce ay
 obtain ⟨vv, az⟩ : ∃ vv, v = vv := ⟨_, rfl⟩
 have bc : Hid (Followed S W0.heap.size Q l e (.slice pt mt ct) vv) := by rw [<- az]; exact HF.out
 have ci : Hid (v = vv) := az
 clear az
 rcases cu with rfl | ⟨Tv, av, rfl⟩
 all_goals
  go_upto_region 5 with fail
  generalize hw2 : Q.alloc _ = w2
  have aj : Below Q.heap.size Q w2 := by rw [<- hw2]; exact (Below.refl _ _).alloc (Nat.le_refl _) _
  have HN := Hid.hide (nodes_any (r := r') (bc.out.keep aj) m.out.2.2.2.1 (by have := m.out.2.2.2.2.1; omega) (fun x hx h => by have := m.out.2.2.2.2.2.1 x hx; rw [h] at this; cases this))
  have Y : Hid (Below w.heap.size w w2) := b9.out.behind' aj
  have bo : w2.rangeAt Q.heap.size 0 [.slice pt mt ct, vv, .string r'] := by rw [<- hw2, <- ci.out]; exact rangeAt_new Q [_, _, _] _
  clear aj hw2
  go_wp2_with (first | (refine wpList_load_mid rfl 94 _ rfl Q.heap.size 0 rfl _ _ bo Tryz.underlying94 rfl way_size ?_))
  refine HN.out.mono ?_
  rintro x W1 ⟨bi, ns, cs, rfl, f, z⟩
  generalize C : l.map (·.1) ++ e.shownL = ts at f z
  obtain ⟨pn, mn, cn, rfl⟩ := f.shape
  have cp : mn = ts.length := by
   rcases f.2 with ⟨y, e2⟩ | ⟨g, I, y, _⟩
   ·simp only [Value.slice.injEq] at y; omega
   ·simp only [Value.slice.injEq] at y; exact y.2.1
  subst cp
  have n : Below w.heap.size w W1 := Y.out.behind' bi
  have s := m.out.1.below n
  have A0 : Aside (PIn B S W1 ts 0 (.slice none 0 0) W1) := ⟨Fr.refl s, OwnC.nil _ _ _⟩
  have HY : Hid (Below w.heap.size w W1 /\ Forest B S W1 /\ Tabs W1 /\ OwnC W1 (w2.heap.size + 1) 1 (.slice pn ts.length cn) ts.length cs /\ Vals S ts cs /\ ts.length <= 65 /\ (∀ t ∈ ts, t.shown = true) /\ l.map (·.1) ++ e.shownL = ts /\ w.heap.size <= w2.heap.size) := by
   refine ⟨n, s, m.out.2.1.below n (Nat.le_trans m.out.2.2.1 m.out.1.le), f, z, ?_, fun t ht => ?_, C, Y.out.size⟩
   ·rw [<- C, List.length_append, List.length_map]
    have h1 : e.shownL.length <= 1 := by unfold Nd.shownL; split <;> simp
    have := m.out.2.2.2.2.1
    omega
   ·rw [<- C] at ht
    rcases List.mem_append.1 ht with h | h
    ·obtain ⟨q, hq, rfl⟩ := List.mem_map.1 h
     have := m.out.2.2.2.2.2.1 q hq
     cases hx : q.1 <;> rw [hx] at this <;> simp [Nd.inner] at this <;> rfl
    ·unfold Nd.shownL at h
     split at h
     ·cases h
     ·rename_i hno
      obtain rfl : t = e := by simpa using h
      cases t with
      | no => exact absurd rfl hno
      | stub g => exact absurd rfl (m.out.2.2.2.1 g)
      | _ => rfl
  clear bi f z n s C HN HF bc Y b9 bo cf HW
  go_wp2
  go_loopg [24, 8] ts.length (fun gh i res wr => ∃ k, k <= ts.length /\ gh = ts.length - k /\ i = .int .i64 (k : Int) /\ PIn B S W1 ts k res wr)
  case atStart => exact ⟨0, Nat.zero_le _, rfl, rfl, A0.out⟩
  case round =>
   obtain ⟨k, hk, rfl, rfl, H⟩ := hrel
   clear A0
   obtain ⟨n, s, ah, f, z, ag, au, C, bp⟩ := HY.out
   obtain ⟨pr, F, cr, rfl⟩ := H.own.shape
   by_cases J : k < ts.length
   ·have i1 : (k : Int) < (ts.length : Int) := by omega
    obtain ⟨g, I, eg, cm, P⟩ : ∃ g I, Value.slice pn ts.length cn = .slice (some ⟨g, 0, none⟩) ts.length I /\ g < W1.heap.size /\ W1.rangeAt g 0 cs := by
     rcases f.2 with ⟨_, e2⟩ | ⟨g, I, y, a1, a2, _, _, _, a3⟩
     ·omega
     ·exact ⟨g, I, y, a2, a3⟩
    have bm : S g = none := by
     have cw := f.block g (by rw [eg]; rfl)
     exact m.out.1.fresh (by omega)
    simp only [Value.slice.injEq] at eg
    obtain ⟨rfl, -, rfl⟩ := eg
    have ao : k < cs.length := by rw [z.1]; exact J
    obtain ⟨td, aw⟩ : ∃ td, ts[k] = td := ⟨_, rfl⟩
    have hv := z.2 k ao J
    have d := au _ (List.getElem_mem J)
    rw [aw] at hv d
    obtain ⟨db, bk, bj⟩ := hv.full (fun h => by rw [h] at d; cases d)
    have c0 : wr.cell? ⟨g, k, none⟩ = some (.iface (ndTy td) (.pointer (some ⟨db, 0, none⟩))) := (H.fr.cell (a := ⟨g, k, none⟩) cm bm).trans (by
     have := P k cs[k] (List.getElem?_eq_getElem ao)
     rw [Nat.zero_add, bk] at this
     exact this)
    have hm := mCode td d
    have cl := enCode td d
    have cq := naCode td d
    have HC := Hid.hide (ncod_any H.fr.forest (H.fr.tabs s ah m.out.2.2.1) m.out.2.2.1 bj d)
    have HP := Hid.hide H
    have L : Hid (k < ts.length /\ ts.length <= 65 /\ ts.take (k + 1) = ts.take k ++ [td] /\ (provL (ts.take k)).length <= 65) := ⟨J, ag, by rw [List.take_add_one, List.getElem?_eq_getElem J, aw]; rfl, by have := provL_length (ts.take k); rw [List.length_take] at this; omega⟩
    have R : Hid (wrap64 ((k : Int) + 1) = ((k + 1 : Nat) : Int)) := sum_few k 1 (by omega)
    obtain ⟨cd, ak⟩ : ∃ cd, td.code = cd := ⟨_, rfl⟩
    rw [ak] at HC
    have ba := Hid.hide ak
    obtain ⟨sc, V⟩ : ∃ sc, textB cd = sc := ⟨_, rfl⟩
    rw [V] at HC
    have ac : Hid (textB cd = sc /\ sc.size = cd.length) := ⟨V, by rw [<- V, textB_size]⟩
    have O : F = (provL (ts.take k)).length := by
     rcases H.own.2 with ⟨y, e2⟩ | ⟨g, I, y, _⟩
     ·simp only [Value.slice.injEq] at y; omega
     ·simp only [Value.slice.injEq] at y; exact y.2.1
    clear n ah f z ag au C bp H P ao hv bk bj aw J ak V bm
    go_upto_region 9 with fail
    refine HC.out.mono ?_
    rintro x G ⟨rfl, bl⟩
    have D := Hid.hide (HP.out.frame s bl)
    have ch := Hid.hide s
    clear bl hm cl cq s c0 d
    by_cases c : provL (ts.take k) = [] \/ 32 <= cd.length
    ·have aa : Hid (provL (ts.take (k + 1)) = provL (ts.take k) ++ [cd]) := by
      show provL (ts.take (k + 1)) = _
      rw [L.out.2.2.1, provL_snoc, ba.out, if_pos c]
     have HO : Hid (∀ o, OwnC (G.alloc o) W1.heap.size 1 (.slice pr F cr) (provL (ts.take k)).length (strs (provL (ts.take k)))) := fun o => D.out.own.alloc o
     have bf : Hid (∀ t, (G.alloc (.cells #[.string sc] t)).rangeAt G.heap.size 0 [.string sc]) := fun t => rangeAt_new G [.string sc] t
     have Z : Hid (∀ o v2 X, OwnC X W1.heap.size 1 v2 ((provL (ts.take k)).length + 1) (strs (provL (ts.take k)) ++ [.string sc]) -> (G.alloc o).grownBy X (Value.ownBlock (.slice pr F cr)) -> PIn B S W1 ts (k + 1) v2 X) := fun o v2 X h1 h2 => by
      have hb : Below G.heap.size G (G.alloc o) := (Below.refl _ _).alloc (Nat.le_refl _) _
      refine ⟨(D.out.fr.behind hb).grow h2 fun j hj => ⟨(D.out.own.block j hj).1, D.out.none ch.out j hj⟩, ?_⟩
      rw [aa.out]
      have y : strs (provL (ts.take k) ++ [cd]) = strs (provL (ts.take k)) ++ [.string sc] := by unfold strs; rw [List.map_append, <- ac.out.1]; rfl
      rw [y, List.length_append]
      exact h1
     have W : Hid (W1.heap.size <= G.heap.size /\ (provL (ts.take k)).length <= 65) := ⟨D.out.fr.size, L.out.2.2.2⟩
     by_cases ap : F = 0
     ·have bn : ((F : Int) == 0) = true := by simp; omega
      clear O c ap
      go_wp2_with (at_builtin; refine wpList_append_ownp _ rfl _ _ 24 rfl 9 i0 (.string ⟨#[]⟩) 1 16 Tryz.underlying24 hi bq bx bz rfl (by decide) W1.heap.size (.slice pr F cr) _ _ rfl (HO.out _) G.heap.size 0 1 1 [.string sc] rfl rfl (bf.out _) (by simp [Value.oneCell']) (by have := W.out; unfold maxLen; omega) (by have := W.out; omega) (by have := W.out; simp; omega) ?_; intro v2 X E N am aq; have ae := Hid.hide (Z.out _ _ _ E N); obtain ⟨p2, m2, k2, rfl⟩ := E.shape; clear E N am aq)
      go_roundg (ts.length - (k + 1))
      case measure => have := L.out; omega
      case rel => exact ⟨k + 1, by have := L.out; omega, rfl, by rw [R.out], ae.out⟩
     ·have bn : ((F : Int) == 0) = false := by simp; omega
      have cj : (32 : Int) <= (sc.size : Int) := by
       have := ac.out.2
       rcases c with h | h
       ·rw [h] at O; exact absurd O ap
       ·omega
      clear O c ap
      go_wp2_with (at_builtin; refine wpList_append_ownp _ rfl _ _ 24 rfl 9 i0 (.string ⟨#[]⟩) 1 16 Tryz.underlying24 hi bq bx bz rfl (by decide) W1.heap.size (.slice pr F cr) _ _ rfl (HO.out _) G.heap.size 0 1 1 [.string sc] rfl rfl (bf.out _) (by simp [Value.oneCell']) (by have := W.out; unfold maxLen; omega) (by have := W.out; omega) (by have := W.out; simp; omega) ?_; intro v2 X E N am aq; have ae := Hid.hide (Z.out _ _ _ E N); obtain ⟨p2, m2, k2, rfl⟩ := E.shape; clear E N am aq)
      go_roundg (ts.length - (k + 1))
      case measure => have := L.out; omega
      case rel => exact ⟨k + 1, by have := L.out; omega, rfl, by rw [R.out], ae.out⟩
    ·have aa : Hid (provL (ts.take (k + 1)) = provL (ts.take k)) := by
      show provL (ts.take (k + 1)) = _
      rw [L.out.2.2.1, provL_snoc, ba.out, if_neg c]
     have bn : ((F : Int) == 0) = false := by
      have : F ≠ 0 := fun e => c (.inl (List.eq_nil_of_length_eq_zero (by omega)))
      simp
      omega
     have cj : (sc.size : Int) < 32 := by
      have := ac.out.2
      have : ¬ 32 <= cd.length := fun h => c (.inr h)
      omega
     clear O c
     go_wp2
     go_roundg (ts.length - (k + 1))
     case measure => have := L.out; omega
     case rel => exact ⟨k + 1, by have := L.out; omega, rfl, by rw [R.out], D.out.fr, by rw [aa.out]; exact D.out.own⟩
   ·obtain rfl : k = ts.length := by omega
    have i1 : ¬ (ts.length : Int) < (ts.length : Int) := by omega
    have HE : Hid (Fr B S S w wr /\ OwnC wr w.heap.size 1 (.slice pr F cr) (provL (l.map (·.1) ++ e.shownL)).length (strs (provL (l.map (·.1) ++ e.shownL)))) := by
     refine ⟨(Fr.of_below m.out.1 n).trans H.fr, ?_⟩
     have := H.own
     rw [List.take_length] at this
     rw [C]
     exact this.mono n.size
    clear n s ah f z ag au C bp H
    go_wp2
    go_ret2
    exact ⟨_, rfl, HE.out.1, HE.out.2⟩
def Nd.ways : Nat -> Nd -> ByteArray -> List Nd
 | 0, t, _ => t.shownL
 | n + 1, t, r => if (t.next r).1.isNo = true then t.shownL else t :: (t.next r).1.ways n (r.extract (t.next r).2 r.size)
theorem WayTo.ways {t : Nd} {r : ByteArray} {l : List (Nd × ByteArray)} {e : Nd} {r' : ByteArray} (h : WayTo t r l e r') : ∀ n, t.fits r.size -> r.size <= n -> l.map (·.1) ++ e.shownL = t.ways n r := by
 induction h with
 | stop h =>
  intro n _ _
  cases n with
  | zero => rfl
  | succ n => rw [Nd.ways, if_pos (Nd.isNo_iff.2 h)]; rfl
 | go hn _ ih =>
  intro n a c
  obtain ⟨d, f, b⟩ := Nd.next_fits a hn
  cases n with
  | zero => omega
  | succ n =>
   rw [Nd.ways, if_neg (by rw [isNo_false hn]; simp)]
   rw [List.map_cons, List.cons_append, ih n (by rw [extract_size]; exact b) (by rw [extract_size]; omega)]
theorem WayTo.inner {t : Nd} {r : ByteArray} {l : List (Nd × ByteArray)} {e : Nd} {r' : ByteArray} (h : WayTo t r l e r') : ∀ x ∈ l, x.1.inner = true := by
 induction h with
 | stop h => intro x a; cases a
 | @go t r _ _ _ hn _ ih =>
  intro x a
  rcases List.mem_cons.1 a with rfl | a
  ·cases ht : t.inner with
   | true => rfl
   | false => exact absurd (Nd.next_not ht r) hn
  ·exact ih x a
def Nd.prove (t : Nd) (p : ByteArray) : List (List Nat) := provL (t.ways 64 p)
theorem xprove_any {B : Nat} {S : Wood} {w : World} {b : Nat} {t : Nd} {K : Array Nat} (hf : Forest B S w) (hTb : Tabs w) (hM : 15 <= B) (ht : TreeAt S w b t) (hc : t.can 64) (hK : K.size = 32) (hKb : Bytes K) {L : List (List Nat)} (hL : t.prove (textB (nibs K.toList)) = L) :
  Calls Tryz.prog 14 #[.pointer (some ⟨b, 0, none⟩), .agg (K.toList.map encB).toArray] w fun x w' => ∃ res, x = .returned (.tuple #[res, .int .i64 0]) /\ Fr B S S w w' /\ OwnC w' w.heap.size 1 res L.length (strs L) := by
 obtain ⟨p, E⟩ : ∃ p, textB (nibs K.toList) = p := ⟨_, rfl⟩
 obtain ⟨n, C, o⟩ := key_path hK hKb
 rw [E] at n o hL
 have z : nib (bytesOf p) := by rw [n]; exact C
 have h : t.can p.size := by rw [o]; exact hc
 obtain ⟨l, e, V, k, N⟩ := way_ex p.size t p (Nat.le_refl _) h
 obtain ⟨_, H, _, _⟩ := way_get k h
 obtain ⟨_, c⟩ := t.can_ok p.size h (by omega)
 have v : provL (l.map (·.1) ++ e.shownL) = L := by rw [k.ways 64 c (by omega)]; exact hL
 obtain ⟨Kc, d⟩ : ∃ Kc, (K.toList.map encB).toArray = Kc := ⟨_, rfl⟩
 obtain ⟨W0, f⟩ : ∃ W0, w.alloc (.cells Kc 34) = W0 := ⟨_, rfl⟩
 have q : W0.rangeAt w.heap.size 0 (K.toList.map encB) := fun j u O => by
  rw [<- f, Nat.zero_add, World.cell?_alloc_new, <- d]
  simpa using O
 have y : Below w.heap.size w W0 := by rw [<- f]; exact (Below.refl _ _).alloc (Nat.le_refl _) _
 have D : w.heap.size < W0.heap.size := by rw [<- f]; simp
 have a := Fr.of_below hf y.drew
 have r := Hid.hide (tprove_any a.forest (a.tabs hf hTb hM) hM (ht.frame a) hK hKb E c z (by omega) k (fun g => can_stub H g) (by omega) k.inner)
 rw [v] at r
 have G : Hid (Fr B S S w W0.drew /\ Forest B S w) := ⟨a, hf⟩
 have Q : (Tryz.prog.info? 34).map (·.size) = some (K.toList.map encB).length := by rw [size51]; simp [hK]
 have P := Tryz.underlying34
 have s : Hid (w.heap.size < W0.heap.size /\ S w.heap.size = none) := ⟨D, hf.fresh (Nat.le_refl _)⟩
 clear hf hTb hM ht hc hK hKb hL n C o z h k N H c v E y D a
 rw [d] at r ⊢
 go_enter Tryz.func14, Tryz.ntmps14
 go_upto_region 1 with fail
 clear f
 rw [<- d] at r
 clear d
 go_region_held3 (fun w' => w'.rangeAt w.heap.size 0 (K.toList.map encB)) (first | exact q | exact J)
  (first | (go_at_call 27; refine r.out.mono ?_; rintro x F ⟨res, rfl, m, i⟩; have J : F.rangeAt w.heap.size 0 (K.toList.map encB) := rangeAt_block q (m.other w.heap.size s.out.1 s.out.2); have I : Hid (Fr B S S w F /\ OwnC F w.heap.size 1 res L.length (strs L)) := ⟨G.out.1.trans m, i.mono G.out.1.size⟩; obtain ⟨U, T, R, rfl⟩ := i.shape; clear m i))
 all_goals go_wp2_with (go_at_call 28; refine (errno_nil _).mono ?_; rintro x W ⟨rfl, rfl⟩)
 all_goals go_ret2
 all_goals exact ⟨_, rfl, I.out⟩
end Go.Proofs.YtoohdfiddbfacaaGreatDoor
