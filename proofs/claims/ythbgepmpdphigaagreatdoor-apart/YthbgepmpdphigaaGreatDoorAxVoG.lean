/-
  twigs.Verify.
-/
import Derived.Test.YthbgepmpdphigaaGreatDoorAxVfN
import Derived.Test.YthbgepmpdphigaaGreatDoorAxVeA
namespace Go.Proofs.YthbgepmpdphigaaGreatDoor
open Go.RowKit
set_option maxRecDepth 100000
set_option maxHeartbeats 25600000
def verStr : Except Er (Option ByteArray) -> ByteArray
 | .error _ => ⟨#[]⟩
 | .ok o => o.getD ⟨#[]⟩
def verHas : Except Er (Option ByteArray) -> Bool
 | .error _ => false
 | .ok o => o.isSome
def verFault : Except Er (Option ByteArray) -> Value
 | .error er => faultV er.num er.proof er.node er.at_
 | .ok _ => faultV 0 0 0 0
variable {w : World} {b : Nat}
theorem Qbw {x0 x1 x2 x3 : Value} {t : TypeId} (h : w.heap[b]? = some (.cells #[x0, x1, x2, x3] t (0, 0))) : w.cell? ⟨b, 0, none⟩ = some x0 /\ w.cell? ⟨b, 1, none⟩ = some x1 /\ w.cell? ⟨b, 2, none⟩ = some x2 /\ w.cell? ⟨b, 3, none⟩ = some x3 /\ w.frozen? ⟨b, 0, none⟩ = false /\ w.frozen? ⟨b, 1, none⟩ = false /\ w.frozen? ⟨b, 2, none⟩ = false /\ w.frozen? ⟨b, 3, none⟩ = false := by
 refine ⟨?_, ?_, ?_, ?_, ?_, ?_, ?_, ?_⟩ <;> simp [World.cell?, World.frozen?, h]
def Vals (S : Wood) (ts : List Nd) (cs : List Value) : Prop := cs.length = ts.length /\ ∀ i (h1 : i < cs.length) (h2 : i < ts.length), ndV S cs[i] ts[i]
variable {S : Wood} {cs : List Value} {t : Nd} {v : Value}
theorem Vals.snoc {ts : List Nd} (h : Vals S ts cs) (hv : ndV S v t) : Vals S (ts ++ [t]) (cs ++ [v]) := by
 refine ⟨by simp [h.1], fun i a b => ?_⟩
 rw [List.getElem_append, List.getElem_append]
 split
 ·rename_i e
  rw [dif_pos (by rw [<- h.1]; exact e)]
  exact h.2 i e _
 ·rename_i e
  rw [dif_neg (by rw [<- h.1]; exact e)]
  simpa using hv
structure NIn (S : Wood) (w : World) (l : List (Nd × ByteArray)) (thr v : Value) (r : ByteArray) (k : Nat) (res : Value) (cs : List Value) (wr : World) : Prop where
 own : OwnC wr (w.heap.size + 1) 1 res k cs
 vals : Vals S ((l.take k).map (·.1)) cs
 below : Below w.heap.size w wr
 box : wr.heap[w.heap.size]? = some (.cells #[thr, v, .string r] 125 (0, 0))
theorem QA4 : (Tryz.prog.info? 131).map (fun i => (i.zero, i.size, i.bytes)) = some (some .nilIface, 1, 16) := by kernel_rfl
variable {l : List (Nd × ByteArray)} {thr : Value} {r : ByteArray}
theorem Qpt {wr w2 w3 : World} {k : Nat} {res v2 : Value} {x : Value} (h : NIn S w l thr v r k res cs wr) (hb : Below wr.heap.size wr w2) (hO : OwnC w3 (w.heap.size + 1) 1 v2 (k + 1) (cs ++ [x])) (hg : w2.grownBy w3 res.ownBlock) (hv : ndV S x t) : OwnC w3 (w.heap.size + 1) 1 v2 (k + 1) (cs ++ [x]) /\ Vals S ((l.take k).map (·.1) ++ [t]) (cs ++ [x]) /\ Below w.heap.size w w3 /\ w3.heap[w.heap.size]? = some (.cells #[thr, v, .string r] 125 (0, 0)) := by
 have d : w.heap.size < wr.heap.size := (Array.getElem?_eq_some_iff.1 h.box).1
 have a := h.below.behind' hb
 have f := hb.size
 have b : ∀ j, j <= w.heap.size -> some j ≠ res.ownBlock := fun j c e => by
  have := (h.own.block j e.symm).1
  omega
 refine ⟨hO, h.vals.snoc hv, ⟨hg.os.trans a.os, hg.tape.trans a.tape, hg.output.trans a.output, Nat.le_trans a.size hg.size, fun j c => (hg.block j (by omega) (b j (by omega))).trans (a.block j c)⟩, ?_⟩
 exact (hg.block _ (by omega) (b _ (Nat.le_refl _))).trans ((hb.block _ d).trans h.box)
def Nd.shownL (e : Nd) : List Nd := if e.isNo = true then [] else [e]
theorem Qug {C : Nat} {e : Nd} (hF : Followed S C w l e thr v) (hs : ∀ h, e ≠ .stub h) (hl : l.length <= 1000) (hin : ∀ x ∈ l, x.1 ≠ .no) :
  Calls Tryz.prog 48 #[.agg #[thr, v, .string r]] w fun x w' => Below w.heap.size w w' /\ ∃ res cs, x = .returned res /\ OwnC w' (w.heap.size + 1) 1 res (l.map (·.1) ++ e.shownL).length cs /\ Vals S (l.map (·.1) ++ e.shownL) cs := by
 obtain ⟨⟨ct, s, B⟩, y⟩ := hF
 obtain ⟨i0, hi, ag, ah, ai⟩ := info_parts QA4
 obtain ⟨H, mt, d, rfl⟩ := s.shape
 have am : mt = l.length := by
  rcases s.2 with ⟨f, K⟩ | ⟨g, z, f, _⟩
  ·simp only [Value.slice.injEq] at f; omega
  ·simp only [Value.slice.injEq] at f; exact f.2.1
 subst am
 obtain ⟨W0, L⟩ : ∃ W0, w.alloc (.cells #[.slice H l.length d, v, .string r] 125) = W0 := ⟨_, rfl⟩
 have ab : Below w.heap.size w W0 := by rw [<- L]; exact (Below.refl _ _).alloc (Nat.le_refl _) _
 have F : W0.heap[w.heap.size]? = some (.cells #[.slice H l.length d, v, .string r] 125 (0, 0)) := by rw [<- L]; exact Array.getElem?_push_size
 have A0 : Aside (NIn S w l (.slice H l.length d) v r 0 (.slice none 0 0) [] W0) := ⟨OwnC.nil _ _ _, ⟨rfl, by simp⟩, ab, F⟩
 obtain ⟨x0, x1, x2⟩ := Qg9 F
 have HX : Hid (OwnC w C 2 (.slice H l.length d) l.length ct /\ Turns S l ct /\ ndV S v e /\ (∀ h, e ≠ .stub h) /\ l.length <= 1000 /\ ∀ x ∈ l, x.1 ≠ .no) := ⟨s, B, y, hs, hl, hin⟩
 clear s B y hs hl hin ab F
 go_enter Tryz.func48, Tryz.ntmps48
 go_wp2
 clear L
 go_loopg [11, 3] l.length (fun gh i res wr => ∃ k cs, k <= l.length /\ gh = l.length - k /\ i = .int .i64 (k : Int) /\ NIn S w l (.slice H l.length d) v r k res cs wr)
 case atStart => exact ⟨0, [], Nat.zero_le _, rfl, rfl, A0.out⟩
 case round =>
  obtain ⟨k, cs, hk, rfl, rfl, a⟩ := hrel
  clear A0 x0 x1 x2
  have HN := Hid.hide a
  obtain ⟨V, U, J, rfl⟩ := a.own.shape
  obtain ⟨s, B, y, hs, hl, hin⟩ := HX.out
  by_cases m : k < l.length
  ·have i1 : (k : Int) < (l.length : Int) := by omega
   obtain ⟨Y, X⟩ := B.at k m
   have G := hin _ (List.getElem_mem m)
   obtain ⟨g, z, eg, al, Q, n⟩ : ∃ g z, Value.slice H l.length d = .slice (some ⟨g, 0, none⟩) l.length z /\ C <= g /\ g < w.heap.size /\ w.rangeAt g 0 ct := by
    rcases s.2 with ⟨_, K⟩ | ⟨g, z, f, a1, a2, _, _, _, a3⟩
    ·omega
    ·exact ⟨g, z, f, a1, a2, a3⟩
   simp only [Value.slice.injEq] at eg
   obtain ⟨rfl, -, rfl⟩ := eg
   obtain ⟨⟨E, aa⟩, T⟩ : ∃ q, l[k] = q := ⟨_, rfl⟩
   rw [T] at Y X G
   simp only at Y X G
   obtain ⟨b, N, M⟩ := X.full G
   have ak := B.length
   have c0 : wr.cell? ⟨g, k * 2, none⟩ = some (.iface (ndTy E) (.pointer (some ⟨b, 0, none⟩))) := (World.cell?_of_block (a.below.block g Q)).trans (by
    have := n (k * 2) (ct.getD (k * 2) undef) (by rw [List.getD_eq_getElem?_getD, List.getElem?_eq_getElem (by omega)]; rfl)
    rw [Nat.zero_add, N] at this
    exact this)
   have c1 : wr.cell? ⟨g, k * 2 + 1, none⟩ = some (.string aa) := (World.cell?_of_block (a.below.block g Q)).trans (by
    have := n (k * 2 + 1) (ct.getD (k * 2 + 1) undef) (by rw [List.getD_eq_getElem?_getD, List.getElem?_eq_getElem (by omega)]; rfl)
    rw [Nat.zero_add, Y] at this
    exact this)
   have aq : g < wr.heap.size := Nat.lt_of_lt_of_le Q a.below.size
   have ap : ¬ g = wr.heap.size := by omega
   have c : Hid (k < l.length /\ l.length <= 1000 /\ ndV S (.iface (ndTy E) (.pointer (some ⟨b, 0, none⟩))) E /\ l[k]? = some (E, aa)) := ⟨m, hl, by rw [<- N]; exact X, by rw [List.getElem?_eq_getElem m, T]⟩
   have HO : Hid (∀ W, Below wr.heap.size wr W -> OwnC W (w.heap.size + 1) 1 (.slice V U J) k cs) := fun W hb => a.own.below hb
   have HB : Hid (w.heap.size + 1 <= wr.heap.size) := (Array.getElem?_eq_some_iff.1 a.box).1
   have I : Hid (∀ o t, ((wr.alloc o).alloc (.cells #[.iface (ndTy E) (.pointer (some ⟨b, 0, none⟩))] t)).rangeAt (wr.heap.size + 1) 0 [.iface (ndTy E) (.pointer (some ⟨b, 0, none⟩))]) := fun o t => by
    have := Qax (wr.alloc o) [.iface (ndTy E) (.pointer (some ⟨b, 0, none⟩))] t
    simpa using this
   have aj : Hid (wrap64 ((k : Int) + 1) = ((k + 1 : Nat) : Int)) := Qbg k 1 (by omega)
   clear a s B y hs hl hin Y X G n al ak M T N m
   go_wp2_with (at_builtin; refine Qal _ rfl _ _ 128 rfl 131 i0 .nilIface 1 16 Tryz.underlying128 hi ag ah ai rfl (by decide) (w.heap.size + 1) (.slice V U J) k cs rfl (HO.out _ (Qfa _ _ _)) (wr.heap.size + 1) 0 1 1 [.iface (ndTy E) (.pointer (some ⟨b, 0, none⟩))] rfl rfl (I.out _ _) (by simp [Value.oneCell']) (by have := c.out; unfold maxLen; omega) (by have := c.out; omega) (by have := HB.out; simp; omega) ?_; intro v2 w2 j D P R; have p := Hid.hide (Qpt HN.out (Qfa _ _ _) j D c.out.2.2.1); obtain ⟨p2, m2, k2, rfl⟩ := j.shape; clear j D P R)
   go_roundg (l.length - (k + 1))
   case measure => have := c.out; omega
   case rel => exact ⟨k + 1, _, by have := c.out; omega, rfl, by rw [aj.out], p.out.1, by rw [List.take_add_one, c.out.2.2.2]; simp only [Option.toList_some, List.map_append, List.map_cons, List.map_nil]; exact p.out.2.1, p.out.2.2.1, p.out.2.2.2⟩
  ·obtain rfl : k = l.length := by omega
   have i1 : ¬ (l.length : Int) < (l.length : Int) := by omega
   obtain ⟨x0, x1, x2⟩ := Qg9 a.box
   have u : l.take l.length = l := List.take_length
   by_cases O : e = .no
   ·subst O
    obtain rfl : v = .nilIface := y.nil rfl
    have ao := Qjg
    have p : Hid (Below w.heap.size w wr /\ OwnC wr (w.heap.size + 1) 1 (.slice V U J) (l.map (·.1) ++ Nd.no.shownL).length cs /\ Vals S (l.map (·.1) ++ Nd.no.shownL) cs) := by
     have f : l.map (·.1) ++ Nd.no.shownL = l.map (·.1) := by simp [Nd.shownL, Nd.isNo]
     have ae := a.vals
     rw [u] at ae
     rw [f, List.length_map]
     exact ⟨a.below, a.own, ae⟩
    clear a s B y hs hl hin u hk m
    go_wp2
    go_ret
    exact ⟨p.out.1, _, rfl, _, by simpa using p.out.2.1, p.out.2.2⟩
   ·obtain ⟨b, rfl, M⟩ := y.full O
    have ac : e.shown = true := by
     cases e with
     | no => exact absurd rfl O
     | stub h => exact absurd rfl (hs h)
     | _ => rfl
    have ao := Qu1 e ac ⟨b, 0, none⟩
    have f : l.map (·.1) ++ e.shownL = l.map (·.1) ++ [e] := by
     unfold Nd.shownL
     rw [if_neg (fun h => O (Nd.isNo_iff.1 h))]
    have c : Hid (l.length <= 1000 /\ ndV S (.iface (ndTy e) (.pointer (some ⟨b, 0, none⟩))) e /\ l.map (·.1) ++ e.shownL = l.map (·.1) ++ [e] /\ l.take l.length = l) := ⟨hl, y, f, u⟩
    have HO : Hid (∀ W, Below wr.heap.size wr W -> OwnC W (w.heap.size + 1) 1 (.slice V U J) l.length cs) := fun W hb => a.own.below hb
    have HB : Hid (w.heap.size + 1 <= wr.heap.size) := (Array.getElem?_eq_some_iff.1 a.box).1
    have I : Hid (∀ t, (wr.alloc (.cells #[.iface (ndTy e) (.pointer (some ⟨b, 0, none⟩))] t)).rangeAt wr.heap.size 0 [.iface (ndTy e) (.pointer (some ⟨b, 0, none⟩))]) := fun t => Qax wr [.iface (ndTy e) (.pointer (some ⟨b, 0, none⟩))] t
    have Z : Hid (∀ o, Below wr.heap.size wr (wr.alloc o)) := fun o => (Below.refl _ _).alloc (Nat.le_refl _) _
    clear a s B y hs hl hin u hk m O M ac f
    go_wp2_with (at_builtin; refine Qal _ rfl _ _ 128 rfl 131 i0 .nilIface 1 16 Tryz.underlying128 hi ag ah ai rfl (by decide) (w.heap.size + 1) (.slice V U J) l.length cs rfl (HO.out _ (Z.out _)) wr.heap.size 0 1 1 [.iface (ndTy e) (.pointer (some ⟨b, 0, none⟩))] rfl rfl (I.out _) (by simp [Value.oneCell']) (by have := c.out; unfold maxLen; omega) (by have := c.out; omega) (by have := HB.out; simp; omega) ?_; intro v2 w2 j D P R; have p := Hid.hide (Qpt HN.out (Z.out _) j D c.out.2.1); obtain ⟨p2, m2, k2, rfl⟩ := j.shape; clear j D P R)
    go_ret
    obtain ⟨y1, y2, y3, y4⟩ := p.out
    rw [c.out.2.2.2] at y2
    have K : (l.map (·.1) ++ e.shownL).length = l.length + 1 := by rw [c.out.2.2.1]; simp
    refine ⟨y3, _, rfl, cs ++ [.iface (ndTy e) (.pointer (some ⟨b, 0, none⟩))], ?_, ?_⟩
    ·have e3 : l.length + e.shownL.length = l.length + 1 := by rw [List.length_append, List.length_map] at K; exact K
     first | (rw [K]; exact y1) | (rw [e3]; exact y1)
    ·rw [c.out.2.2.1]; exact y2
def codeFn : Nd -> FuncId
 | .leaf _ _ => 152
 | .ext _ _ => 200
 | .br _ => 189
 | _ => 0
theorem QAl (t : Nd) (ht : t.shown = true) (a : Addr) (w : World) : (Go.method 418 (ndTy t) (.pointer (some a)) "twigs/tree.code").run Tryz.prog w = .ok (codeFn t, .pointer (some a)) w := by
 cases t with
 | leaf _ _ => kernel_rfl
 | ext _ _ => kernel_rfl
 | br _ => kernel_rfl
 | _ => simp [Nd.shown] at ht
theorem QA5 (t : Nd) (ht : t.shown = true) (args : Array Value) (w : World) : (callFunc (codeFn t) args).run Tryz.prog w = .ok (.enter (codeFn t) args) w := by
 cases t with
 | leaf _ _ => kernel_rfl
 | ext _ _ => kernel_rfl
 | br _ => kernel_rfl
 | _ => simp [Nd.shown] at ht
theorem QA6 (t : Nd) (ht : t.shown = true) (a : Addr) (w : World) : (nilAhead 418 (ndTy t) (.pointer (some a)) "twigs/tree.code").run Tryz.prog w = .ok (some false) w := by
 cases t with
 | leaf _ _ => kernel_rfl
 | ext _ _ => kernel_rfl
 | br _ => kernel_rfl
 | _ => simp [Nd.shown] at ht
variable {B : Nat}
theorem Qx5 (hf : Forest B S w) (hT : Tabs w) (hM : 15 <= B) (hb : S b = some t) (ht : t.shown = true) :
  Calls Tryz.prog (codeFn t) #[.pointer (some ⟨b, 0, none⟩)] w fun e w' => e = .returned (.string (textB t.code)) /\ Fr B S S w w' := by
 cases t with
 | leaf _ _ => exact Qln hf hb
 | ext p t =>
  have := hf.ok b _ hb
  rw [Nd.ok] at this
  exact Qp0 hf hT hM hb (Qgw B S t this.2.2)
 | br ks => exact Qse hf hT hM hb (Qk1 B S ks)
 | _ => simp [Nd.shown] at ht
def provL : List Nd -> List (List Nat)
 | [] => []
 | t :: ts => t.code :: (ts.map Nd.code).filter (fun c => decide (32 <= c.length))
theorem Qjk (ts : List Nd) (t : Nd) : provL (ts ++ [t]) = if provL ts = [] \/ 32 <= t.code.length then provL ts ++ [t.code] else provL ts := by
 cases ts with
 | nil => simp [provL]
 | cons s ts =>
  simp only [provL, List.cons_append, List.map_append, List.filter_append, List.map_cons, List.map_nil, List.filter_cons, List.filter_nil]
  by_cases h : 32 <= t.code.length
  ·simp [h]
  ·simp [h]
theorem Qgc (ts : List Nd) : (provL ts).length <= ts.length := by
 cases ts with
 | nil => simp [provL]
 | cons s ts =>
  have := List.length_filter_le (fun c : List Nat => decide (32 <= c.length)) (ts.map Nd.code)
  simp only [provL, List.length_cons]
  rw [List.length_map] at this
  omega
def strs (L : List (List Nat)) : List Value := L.map fun c => .string (textB c)
variable {n : Nat}
theorem OwnC.frame {C size : Nat} {S' : Wood} {w' : World} (h : OwnC w C size v n cs) (hf : Fr B S S' w w') (hn : ∀ k, v.ownBlock = some k -> S k = none) : OwnC w' C size v n cs :=
 h.keep hf.size fun k hk e => hf.other k hk (hn k e)
structure PIn (B : Nat) (S : Wood) (W1 : World) (ts : List Nd) (k : Nat) (res : Value) (wr : World) : Prop where
 fr : Fr B S S W1 wr
 own : OwnC wr W1.heap.size 1 res (provL (ts.take k)).length (strs (provL (ts.take k)))
theorem PIn.none {B : Nat} {S : Wood} {W1 : World} {ts : List Nd} {k : Nat} {res : Value} {wr : World} (h : PIn B S W1 ts k res wr) (hf : Forest B S W1) : ∀ g, res.ownBlock = some g -> S g = none := fun g hg => hf.fresh (h.own.block g hg).1
theorem PIn.frame {B : Nat} {S : Wood} {W1 : World} {ts : List Nd} {k : Nat} {res : Value} {wr w2 : World} (h : PIn B S W1 ts k res wr) (hf : Forest B S W1) (hr : Fr B S S wr w2) : PIn B S W1 ts k res w2 := ⟨h.fr.trans hr, h.own.frame hr (h.none hf)⟩
variable {K : Array Nat} {p : ByteArray}
theorem Qra {e : Nd} {r' : ByteArray} (hf : Forest B S w) (hTb : Tabs w) (hM : 15 <= B) (ht : TreeAt S w b t) (hK : K.size = 32) (hKb : Bytes K) (hp : textB (nibs K.toList) = p) (hfit : t.fits p.size) (hn : ∀ x ∈ bytesOf p, x < 16) (hps : p.size <= 64) (hT : WayTo t p l e r') (hs : ∀ h, e ≠ .stub h) (hl : l.length <= 64) (hin : ∀ x ∈ l, x.1.inner = true) :
  Calls Tryz.prog 30 #[.pointer (some ⟨b, 0, none⟩), .agg (K.toList.map encB).toArray] w fun x w' => ∃ res, x = .returned (.tuple #[res, .nilIface]) /\ Fr B S S w w' /\ OwnC w' w.heap.size 1 res (provL (l.map (·.1) ++ e.shownL)).length (strs (provL (l.map (·.1) ++ e.shownL))) := by
 obtain ⟨i0, hi, bq, bv, bx⟩ := info_parts strZ
 obtain ⟨Kc, T⟩ : ∃ Kc, (K.toList.map encB).toArray = Kc := ⟨_, rfl⟩
 obtain ⟨W0, U⟩ : ∃ W0, w.alloc (.cells Kc 45) = W0 := ⟨_, rfl⟩
 have aq : W0.rangeAt w.heap.size 0 (K.toList.map encB) := fun j u hu => by
  rw [<- U, Nat.zero_add, World.cell?_alloc_new, <- T]
  simpa using hu
 have ah : Below w.heap.size w W0 := by rw [<- U]; exact (Below.refl _ _).alloc (Nat.le_refl _) _
 have ak := Fr.of_below hf ah
 have HW := Hid.hide (Qey ak.forest (ht.frame ak) hK hKb hp hfit hn (by omega) hT hs)
 have bz : (Tryz.prog.info? 45).map (·.size) = some (K.toList.map encB).length := by rw [Qbc]; simp [hK]
 have m : Hid (Forest B S w /\ Tabs w /\ 15 <= B /\ (∀ h, e ≠ .stub h) /\ l.length <= 64 /\ (∀ x ∈ l, x.1.inner = true) /\ Below w.heap.size w W0 /\ w.heap.size < W0.heap.size) := ⟨hf, hTb, hM, hs, hl, hin, ah, by rw [<- U]; simp⟩
 have aw := Tryz.underlying45
 clear hf hTb hM ht hK hKb hp hfit hn hps hT hs hl hin ah ak
 rw [T] at HW ⊢
 go_enter Tryz.func30, Tryz.ntmps30
 go_upto_region 1 with fail
 clear U
 rw [<- T] at HW
 clear T
 go_wp2_with (first | (refine wpList_load_mid rfl 45 _ rfl w.heap.size 0 rfl (K.toList.map encB) _ aq aw rfl bz ?_))
 refine HW.out.mono ?_
 rintro x Q ⟨bf, cw, v, rfl, hF⟩
 obtain ⟨pt, mt, ct, rfl⟩ := hF.shape
 have c9 := Qh0 hF.node pt mt ct r'
 have HF := Hid.hide hF
 have cq := hF.node.shape
 have az : Hid (Below w.heap.size w Q) := m.out.2.2.2.2.2.2.1.behind' bf
 clear bf hF aq bz aw
 obtain ⟨vv, ay⟩ : ∃ vv, v = vv := ⟨_, rfl⟩
 have ba : Hid (Followed S W0.heap.size Q l e (.slice pt mt ct) vv) := by rw [<- ay]; exact HF.out
 have cf : Hid (v = vv) := ay
 clear ay
 rcases cq with rfl | ⟨Tv, av, rfl⟩
 all_goals
  go_upto_region 5 with fail
  generalize hw2 : Q.alloc _ = w2
  have ai : Below Q.heap.size Q w2 := by rw [<- hw2]; exact (Below.refl _ _).alloc (Nat.le_refl _) _
  have HN := Hid.hide (Qug (r := r') (ba.out.keep ai) m.out.2.2.2.1 (by have := m.out.2.2.2.2.1; omega) (fun x hx h => by have := m.out.2.2.2.2.2.1 x hx; rw [h] at this; cases this))
  have Y : Hid (Below w.heap.size w w2) := az.out.behind' ai
  have bn : w2.rangeAt Q.heap.size 0 [.slice pt mt ct, vv, .string r'] := by rw [<- hw2, <- cf.out]; exact Qax Q [_, _, _] _
  clear ai hw2
  go_wp2_with (first | (refine wpList_load_mid rfl 125 _ rfl Q.heap.size 0 rfl _ _ bn Tryz.underlying125 rfl Qaz ?_))
  refine HN.out.mono ?_
  rintro x W1 ⟨bg, ns, cs, rfl, f, z⟩
  generalize C : l.map (·.1) ++ e.shownL = ts at f z
  obtain ⟨pn, mn, cn, rfl⟩ := f.shape
  have cm : mn = ts.length := by
   rcases f.2 with ⟨y, e2⟩ | ⟨g, I, y, _⟩
   ·simp only [Value.slice.injEq] at y; omega
   ·simp only [Value.slice.injEq] at y; exact y.2.1
  subst cm
  have n : Below w.heap.size w W1 := Y.out.behind' bg
  have s := m.out.1.below n
  have A0 : Aside (PIn B S W1 ts 0 (.slice none 0 0) W1) := ⟨Fr.refl s, OwnC.nil _ _ _⟩
  have HY : Hid (Below w.heap.size w W1 /\ Forest B S W1 /\ Tabs W1 /\ OwnC W1 (w2.heap.size + 1) 1 (.slice pn ts.length cn) ts.length cs /\ Vals S ts cs /\ ts.length <= 65 /\ (∀ t ∈ ts, t.shown = true) /\ l.map (·.1) ++ e.shownL = ts /\ w.heap.size <= w2.heap.size) := by
   refine ⟨n, s, m.out.2.1.below n (Nat.le_trans m.out.2.2.1 m.out.1.le), f, z, ?_, fun t ht => ?_, C, Y.out.size⟩
   ·rw [<- C, List.length_append, List.length_map]
    have h1 : e.shownL.length <= 1 := by unfold Nd.shownL; split <;> simp
    have := m.out.2.2.2.2.1
    omega
   ·rw [<- C] at ht
    rcases List.mem_append.1 ht with h | h
    ·obtain ⟨q, hq, rfl⟩ := List.mem_map.1 h
     have := m.out.2.2.2.2.2.1 q hq
     cases hx : q.1 <;> rw [hx] at this <;> simp [Nd.inner] at this <;> rfl
    ·unfold Nd.shownL at h
     split at h
     ·cases h
     ·rename_i hno
      obtain rfl : t = e := by simpa using h
      cases t with
      | no => exact absurd rfl hno
      | stub g => exact absurd rfl (m.out.2.2.2.1 g)
      | _ => rfl
  clear bg f z n s C HN HF ba Y az bn c9 HW
  go_wp2
  go_loopg [24, 8] ts.length (fun gh i res wr => ∃ k, k <= ts.length /\ gh = ts.length - k /\ i = .int .i64 (k : Int) /\ PIn B S W1 ts k res wr)
  case atStart => exact ⟨0, Nat.zero_le _, rfl, rfl, A0.out⟩
  case round =>
   obtain ⟨k, hk, rfl, rfl, H⟩ := hrel
   clear A0
   obtain ⟨n, s, ag, f, z, ae, ar, C, bo⟩ := HY.out
   obtain ⟨pr, F, cr, rfl⟩ := H.own.shape
   by_cases J : k < ts.length
   ·have i1 : (k : Int) < (ts.length : Int) := by omega
    obtain ⟨g, I, eg, cj, P⟩ : ∃ g I, Value.slice pn ts.length cn = .slice (some ⟨g, 0, none⟩) ts.length I /\ g < W1.heap.size /\ W1.rangeAt g 0 cs := by
     rcases f.2 with ⟨_, e2⟩ | ⟨g, I, y, a1, a2, _, _, _, a3⟩
     ·omega
     ·exact ⟨g, I, y, a2, a3⟩
    have bl : S g = none := by
     have cu := f.block g (by rw [eg]; rfl)
     exact m.out.1.fresh (by omega)
    simp only [Value.slice.injEq] at eg
    obtain ⟨rfl, -, rfl⟩ := eg
    have am : k < cs.length := by rw [z.1]; exact J
    obtain ⟨td, au⟩ : ∃ td, ts[k] = td := ⟨_, rfl⟩
    have hv := z.2 k am J
    have d := ar _ (List.getElem_mem J)
    rw [au] at hv d
    obtain ⟨db, bj, bi⟩ := hv.full (fun h => by rw [h] at d; cases d)
    have c0 : wr.cell? ⟨g, k, none⟩ = some (.iface (ndTy td) (.pointer (some ⟨db, 0, none⟩))) := (H.fr.cell (a := ⟨g, k, none⟩) cj bl).trans (by
     have := P k cs[k] (List.getElem?_eq_getElem am)
     rw [Nat.zero_add, bj] at this
     exact this)
    have hm := QAl td d
    have ci := QA5 td d
    have cp := QA6 td d
    have HC := Hid.hide (Qx5 H.fr.forest (H.fr.tabs s ag m.out.2.2.1) m.out.2.2.1 bi d)
    have HP := Hid.hide H
    have L : Hid (k < ts.length /\ ts.length <= 65 /\ ts.take (k + 1) = ts.take k ++ [td] /\ (provL (ts.take k)).length <= 65) := ⟨J, ae, by rw [List.take_add_one, List.getElem?_eq_getElem J, au]; rfl, by have := Qgc (ts.take k); rw [List.length_take] at this; omega⟩
    have R : Hid (wrap64 ((k : Int) + 1) = ((k + 1 : Nat) : Int)) := Qbg k 1 (by omega)
    obtain ⟨cd, aj⟩ : ∃ cd, td.code = cd := ⟨_, rfl⟩
    rw [aj] at HC
    have b7 := Hid.hide aj
    obtain ⟨sc, V⟩ : ∃ sc, textB cd = sc := ⟨_, rfl⟩
    rw [V] at HC
    have ab : Hid (textB cd = sc /\ sc.size = cd.length) := ⟨V, by rw [<- V, Qaa]⟩
    have O : F = (provL (ts.take k)).length := by
     rcases H.own.2 with ⟨y, e2⟩ | ⟨g, I, y, _⟩
     ·simp only [Value.slice.injEq] at y; omega
     ·simp only [Value.slice.injEq] at y; exact y.2.1
    clear n ag f z ae ar C bo H P am hv bj bi au J aj V bl
    go_upto_region 9 with fail
    refine HC.out.mono ?_
    rintro x G ⟨rfl, bk⟩
    have D := Hid.hide (HP.out.frame s bk)
    have ce := Hid.hide s
    clear bk hm ci cp s c0 d
    by_cases c : provL (ts.take k) = [] \/ 32 <= cd.length
    ·have aa : Hid (provL (ts.take (k + 1)) = provL (ts.take k) ++ [cd]) := by
      show provL (ts.take (k + 1)) = _
      rw [L.out.2.2.1, Qjk, b7.out, if_pos c]
     have HO : Hid (∀ o, OwnC (G.alloc o) W1.heap.size 1 (.slice pr F cr) (provL (ts.take k)).length (strs (provL (ts.take k)))) := fun o => D.out.own.alloc o
     have bc : Hid (∀ t, (G.alloc (.cells #[.string sc] t)).rangeAt G.heap.size 0 [.string sc]) := fun t => Qax G [.string sc] t
     have Z : Hid (∀ o v2 X, OwnC X W1.heap.size 1 v2 ((provL (ts.take k)).length + 1) (strs (provL (ts.take k)) ++ [.string sc]) -> (G.alloc o).grownBy X (Value.ownBlock (.slice pr F cr)) -> PIn B S W1 ts (k + 1) v2 X) := fun o v2 X h1 h2 => by
      have hb : Below G.heap.size G (G.alloc o) := (Below.refl _ _).alloc (Nat.le_refl _) _
      refine ⟨(D.out.fr.behind hb).grow h2 fun j hj => ⟨(D.out.own.block j hj).1, D.out.none ce.out j hj⟩, ?_⟩
      rw [aa.out]
      have y : strs (provL (ts.take k) ++ [cd]) = strs (provL (ts.take k)) ++ [.string sc] := by unfold strs; rw [List.map_append, <- ab.out.1]; rfl
      rw [y, List.length_append]
      exact h1
     have W : Hid (W1.heap.size <= G.heap.size /\ (provL (ts.take k)).length <= 65) := ⟨D.out.fr.size, L.out.2.2.2⟩
     by_cases ao : F = 0
     ·have bm : ((F : Int) == 0) = true := by simp; omega
      clear O c ao
      go_wp2_with (at_builtin; refine Qal _ rfl _ _ 23 rfl 9 i0 (.string ⟨#[]⟩) 1 16 Tryz.underlying23 hi bq bv bx rfl (by decide) W1.heap.size (.slice pr F cr) _ _ rfl (HO.out _) G.heap.size 0 1 1 [.string sc] rfl rfl (bc.out _) (by simp [Value.oneCell']) (by have := W.out; unfold maxLen; omega) (by have := W.out; omega) (by have := W.out; simp; omega) ?_; intro v2 X E N al ap; have ac := Hid.hide (Z.out _ _ _ E N); obtain ⟨p2, m2, k2, rfl⟩ := E.shape; clear E N al ap)
      go_roundg (ts.length - (k + 1))
      case measure => have := L.out; omega
      case rel => exact ⟨k + 1, by have := L.out; omega, rfl, by rw [R.out], ac.out⟩
     ·have bm : ((F : Int) == 0) = false := by simp; omega
      have ch : (32 : Int) <= (sc.size : Int) := by
       have := ab.out.2
       rcases c with h | h
       ·rw [h] at O; exact absurd O ao
       ·omega
      clear O c ao
      go_wp2_with (at_builtin; refine Qal _ rfl _ _ 23 rfl 9 i0 (.string ⟨#[]⟩) 1 16 Tryz.underlying23 hi bq bv bx rfl (by decide) W1.heap.size (.slice pr F cr) _ _ rfl (HO.out _) G.heap.size 0 1 1 [.string sc] rfl rfl (bc.out _) (by simp [Value.oneCell']) (by have := W.out; unfold maxLen; omega) (by have := W.out; omega) (by have := W.out; simp; omega) ?_; intro v2 X E N al ap; have ac := Hid.hide (Z.out _ _ _ E N); obtain ⟨p2, m2, k2, rfl⟩ := E.shape; clear E N al ap)
      go_roundg (ts.length - (k + 1))
      case measure => have := L.out; omega
      case rel => exact ⟨k + 1, by have := L.out; omega, rfl, by rw [R.out], ac.out⟩
    ·have aa : Hid (provL (ts.take (k + 1)) = provL (ts.take k)) := by
      show provL (ts.take (k + 1)) = _
      rw [L.out.2.2.1, Qjk, b7.out, if_neg c]
     have bm : ((F : Int) == 0) = false := by
      have : F ≠ 0 := fun e => c (.inl (List.eq_nil_of_length_eq_zero (by omega)))
      simp
      omega
     have ch : (sc.size : Int) < 32 := by
      have := ab.out.2
      have : ¬ 32 <= cd.length := fun h => c (.inr h)
      omega
     clear O c
     go_wp2
     go_roundg (ts.length - (k + 1))
     case measure => have := L.out; omega
     case rel => exact ⟨k + 1, by have := L.out; omega, rfl, by rw [R.out], D.out.fr, by rw [aa.out]; exact D.out.own⟩
   ·obtain rfl : k = ts.length := by omega
    have i1 : ¬ (ts.length : Int) < (ts.length : Int) := by omega
    have HE : Hid (Fr B S S w wr /\ OwnC wr w.heap.size 1 (.slice pr F cr) (provL (l.map (·.1) ++ e.shownL)).length (strs (provL (l.map (·.1) ++ e.shownL)))) := by
     refine ⟨(Fr.of_below m.out.1 n).trans H.fr, ?_⟩
     have := H.own
     rw [List.take_length] at this
     rw [C]
     exact this.mono n.size
    clear n s ag f z ae ar C bo H
    go_wp2
    go_ret2
    exact ⟨_, rfl, HE.out.1, HE.out.2⟩
def Nd.ways : Nat -> Nd -> ByteArray -> List Nd
 | 0, t, _ => t.shownL
 | n + 1, t, r => if (t.next r).1.isNo = true then t.shownL else t :: (t.next r).1.ways n (r.extract (t.next r).2 r.size)
theorem WayTo.ways {t : Nd} {r : ByteArray} {l : List (Nd × ByteArray)} {e : Nd} {r' : ByteArray} (h : WayTo t r l e r') : ∀ n, t.fits r.size -> r.size <= n -> l.map (·.1) ++ e.shownL = t.ways n r := by
 induction h with
 | stop h =>
  intro n _ _
  cases n with
  | zero => rfl
  | succ n => rw [Nd.ways, if_pos (Nd.isNo_iff.2 h)]; rfl
 | go hn _ ih =>
  intro n a c
  obtain ⟨d, f, b⟩ := Nd.next_fits a hn
  cases n with
  | zero => omega
  | succ n =>
   rw [Nd.ways, if_neg (by rw [Qcx hn]; simp)]
   rw [List.map_cons, List.cons_append, ih n (by rw [Qa1]; exact b) (by rw [Qa1]; omega)]
theorem WayTo.inner {t : Nd} {r : ByteArray} {l : List (Nd × ByteArray)} {e : Nd} {r' : ByteArray} (h : WayTo t r l e r') : ∀ x ∈ l, x.1.inner = true := by
 induction h with
 | stop h => intro x a; cases a
 | @go t r _ _ _ hn _ ih =>
  intro x a
  rcases List.mem_cons.1 a with rfl | a
  ·cases ht : t.inner with
   | true => rfl
   | false => exact absurd (Nd.next_not ht r) hn
  ·exact ih x a
def Nd.prove (t : Nd) (p : ByteArray) : List (List Nat) := provL (t.ways 64 p)
theorem Qjl (hf : Forest B S w) (hTb : Tabs w) (hM : 15 <= B) (ht : TreeAt S w b t) (hc : t.can 64) (hK : K.size = 32) (hKb : Bytes K) {L : List (List Nat)} (hL : t.prove (textB (nibs K.toList)) = L) :
  Calls Tryz.prog 12 #[.pointer (some ⟨b, 0, none⟩), .agg (K.toList.map encB).toArray] w fun x w' => ∃ res, x = .returned (.tuple #[res, .int .i64 0]) /\ Fr B S S w w' /\ OwnC w' w.heap.size 1 res L.length (strs L) := by
 obtain ⟨p, E⟩ : ∃ p, textB (nibs K.toList) = p := ⟨_, rfl⟩
 obtain ⟨n, C, o⟩ := Qdb hK hKb
 rw [E] at n o hL
 have z : nib (bytesOf p) := by rw [n]; exact C
 have h : t.can p.size := by rw [o]; exact hc
 obtain ⟨l, e, V, k, N⟩ := Qhc p.size t p (Nat.le_refl _) h
 obtain ⟨_, H, _, _⟩ := Qkj k h
 obtain ⟨_, c⟩ := t.can_ok p.size h (by omega)
 have v : provL (l.map (·.1) ++ e.shownL) = L := by rw [k.ways 64 c (by omega)]; exact hL
 obtain ⟨Kc, d⟩ : ∃ Kc, (K.toList.map encB).toArray = Kc := ⟨_, rfl⟩
 obtain ⟨W0, f⟩ : ∃ W0, w.alloc (.cells Kc 45) = W0 := ⟨_, rfl⟩
 have q : W0.rangeAt w.heap.size 0 (K.toList.map encB) := fun j u O => by
  rw [<- f, Nat.zero_add, World.cell?_alloc_new, <- d]
  simpa using O
 have y : Below w.heap.size w W0 := by rw [<- f]; exact (Below.refl _ _).alloc (Nat.le_refl _) _
 have D : w.heap.size < W0.heap.size := by rw [<- f]; simp
 have a := Fr.of_below hf y.drew
 have r := Hid.hide (Qra a.forest (a.tabs hf hTb hM) hM (ht.frame a) hK hKb E c z (by omega) k (fun g => Qao H g) (by omega) k.inner)
 rw [v] at r
 have G : Hid (Fr B S S w W0.drew /\ Forest B S w) := ⟨a, hf⟩
 have Q : (Tryz.prog.info? 45).map (·.size) = some (K.toList.map encB).length := by rw [Qbc]; simp [hK]
 have P := Tryz.underlying45
 have s : Hid (w.heap.size < W0.heap.size /\ S w.heap.size = none) := ⟨D, hf.fresh (Nat.le_refl _)⟩
 clear hf hTb hM ht hc hK hKb hL n C o z h k N H c v E y D a
 rw [d] at r ⊢
 go_enter Tryz.func12, Tryz.ntmps12
 go_upto_region 1 with fail
 clear f
 rw [<- d] at r
 clear d
 go_region_held3 (fun w' => w'.rangeAt w.heap.size 0 (K.toList.map encB)) (first | exact q | exact J)
  (first | (go_at_call 30; refine r.out.mono ?_; rintro x F ⟨res, rfl, m, i⟩; have J : F.rangeAt w.heap.size 0 (K.toList.map encB) := Qa3 q (m.other w.heap.size s.out.1 s.out.2); have I : Hid (Fr B S S w F /\ OwnC F w.heap.size 1 res L.length (strs L)) := ⟨G.out.1.trans m, i.mono G.out.1.size⟩; obtain ⟨U, T, R, rfl⟩ := i.shape; clear m i))
 all_goals go_wp2_with (go_at_call 31; refine (Qdv _).mono ?_; rintro x W ⟨rfl, rfl⟩)
 all_goals go_ret2
 all_goals exact ⟨_, rfl, I.out⟩
theorem Qcn (s : ByteArray) : textB (bytesOf s) = s := Qbf (by rw [Qa7 (Qar s)])
def Nd.selI (t : Nd) (x : It) : It :=
 match t with
 | .no => .text 0 0 []
 | .stub h => .text 0 0 h
 | _ => if t.code.length < 32 then x else .text 0 0 (digB t.code)
def Nd.selN (t : Nd) (x : Nd) : Nd :=
 match t with
 | .no => .no
 | .stub h => .stub h
 | _ => if t.code.length < 32 then x else .stub (digB t.code)
mutual
def Nd.it : Nd -> It
 | .no => .text 0 0 []
 | .leaf p v => .list 0 0 [.text 0 0 (pathCode (bytesOf p) true), .text 0 0 (bytesOf v)]
 | .ext p t => .list 0 0 [.text 0 0 (pathCode (bytesOf p) false), t.selI t.it]
 | .br ks => .list 0 0 (kidIts ks ++ [.text 0 0 []])
 | .stub h => .text 0 0 h
def kidIts : List Nd -> List It
 | [] => []
 | x :: xs => x.selI x.it :: kidIts xs
end
mutual
def Nd.cut : Nd -> Nd
 | .no => .no
 | .leaf p v => .leaf p v
 | .ext p t => .ext p (t.selN t.cut)
 | .br ks => .br (cutKs ks)
 | .stub h => .stub h
def cutKs : List Nd -> List Nd
 | [] => []
 | x :: xs => x.selN x.cut :: cutKs xs
end
def Nd.rit (t : Nd) : It := t.selI t.it
def Nd.rcut (t : Nd) : Nd := t.selN t.cut
theorem Qjm : ∀ ks : List Nd, kidIts ks = ks.map Nd.rit
 | [] => rfl
 | x :: xs => by rw [kidIts, Qjm xs]; rfl
theorem Qmz : ∀ ks : List Nd, cutKs ks = ks.map Nd.rcut
 | [] => rfl
 | x :: xs => by rw [cutKs, Qmz xs]; rfl
theorem Qkz (ks : List Nd) : (Nd.br ks).it = .list 0 0 (ks.map Nd.rit ++ [.text 0 0 []]) := by rw [Nd.it, Qjm]
theorem Qjn (p : ByteArray) (t : Nd) : (Nd.ext p t).it = .list 0 0 [.text 0 0 (pathCode (bytesOf p) false), t.rit] := by rw [Nd.it]; rfl
theorem Qn0 (ks : List Nd) : (Nd.br ks).cut = .br (ks.map Nd.rcut) := by rw [Nd.cut, Qmz]
theorem Qi5 (p : ByteArray) (t : Nd) : (Nd.ext p t).cut = .ext p t.rcut := by rw [Nd.cut]; rfl
theorem Nd.shown_sel (h1 : t ≠ .no) (h2 : ∀ g, t ≠ .stub g) : (∀ c, t.sel c = refOf c) /\ (∀ x, t.selI x = if t.code.length < 32 then x else .text 0 0 (digB t.code)) /\ (∀ x, t.selN x = if t.code.length < 32 then x else .stub (digB t.code)) := by
 cases t with
 | no => exact absurd rfl h1
 | stub g => exact absurd rfl (h2 g)
 | _ => exact ⟨fun _ => rfl, fun _ => rfl, fun _ => rfl⟩
theorem Quh (a b : List It) : codes (a ++ b) = codes a ++ codes b := by
 induction a with
 | nil => rw [codes]; rfl
 | cons x a ih => rw [List.cons_append, codes, codes, ih, List.append_assoc]
mutual
theorem Qfv : ∀ t : Nd, t ≠ .no -> (∀ g, t ≠ .stub g) -> t.it.code = t.code
 | .no, h, _ => absurd rfl h
 | .stub g, _, h => absurd rfl (h g)
 | .leaf p v, _, _ => by
  rw [Nd.it, It.code, Nd.code, codes, codes, codes, It.code, It.code, List.append_nil]
 | .ext p t, _, _ => by
  rw [Qjn, It.code, Nd.ref_ext, codes, codes, codes, It.code, List.append_nil, Ql0 t]
 | .br ks, _, _ => by
  rw [Qkz, It.code, Nd.code, Quh, Qn1 ks, codes, codes, It.code, List.append_nil]
theorem Ql0 : ∀ t : Nd, t.rit.code = t.ref
 | .no => by unfold Nd.rit Nd.selI; rw [It.code]; rfl
 | .stub g => by unfold Nd.rit Nd.selI; rw [It.code]; rfl
 | .leaf p v => by
  have := Qfv (.leaf p v) (by simp) (by simp)
  unfold Nd.rit Nd.ref
  rw [(Nd.shown_sel (t := .leaf p v) (by simp) (by simp)).1, (Nd.shown_sel (t := .leaf p v) (by simp) (by simp)).2.1, refOf]
  split
  ·exact this
  ·rw [It.code]
 | .ext p t => by
  have := Qfv (.ext p t) (by simp) (by simp)
  unfold Nd.rit Nd.ref
  rw [(Nd.shown_sel (t := .ext p t) (by simp) (by simp)).1, (Nd.shown_sel (t := .ext p t) (by simp) (by simp)).2.1, refOf]
  split
  ·exact this
  ·rw [It.code]
 | .br ks => by
  have := Qfv (.br ks) (by simp) (by simp)
  unfold Nd.rit Nd.ref
  rw [(Nd.shown_sel (t := .br ks) (by simp) (by simp)).1, (Nd.shown_sel (t := .br ks) (by simp) (by simp)).2.1, refOf]
  split
  ·exact this
  ·rw [It.code]
theorem Qn1 : ∀ ks : List Nd, codes (ks.map Nd.rit) = refs ks
 | [] => by rw [List.map_nil, codes, refs]
 | x :: xs => by rw [List.map_cons, codes, Qbn, Ql0 x, Qn1 xs]
end
mutual
theorem Ql1 : ∀ t : Nd, t.it.bare = t.it
 | .no => by rw [Nd.it, It.bare]
 | .stub g => by rw [Nd.it, It.bare]
 | .leaf p v => by rw [Nd.it, It.bare, bares, bares, bares, It.bare, It.bare]
 | .ext p t => by rw [Qjn, It.bare, bares, bares, bares, It.bare, Qpu t]
 | .br ks => by
  rw [Qkz, It.bare, Qc4, List.map_append, <- Qc4, Qn2 ks]
  simp [It.bare]
theorem Qpu : ∀ t : Nd, t.rit.bare = t.rit
 | .no => by unfold Nd.rit Nd.selI; rw [It.bare]
 | .stub g => by unfold Nd.rit Nd.selI; rw [It.bare]
 | .leaf p v => by
  have := Ql1 (.leaf p v)
  unfold Nd.rit
  rw [(Nd.shown_sel (t := .leaf p v) (by simp) (by simp)).2.1]
  split
  ·exact this
  ·rw [It.bare]
 | .ext p t => by
  have := Ql1 (.ext p t)
  unfold Nd.rit
  rw [(Nd.shown_sel (t := .ext p t) (by simp) (by simp)).2.1]
  split
  ·exact this
  ·rw [It.bare]
 | .br ks => by
  have := Ql1 (.br ks)
  unfold Nd.rit
  rw [(Nd.shown_sel (t := .br ks) (by simp) (by simp)).2.1]
  split
  ·exact this
  ·rw [It.bare]
theorem Qn2 : ∀ ks : List Nd, bares (ks.map Nd.rit) = ks.map Nd.rit
 | [] => by rw [List.map_nil, bares]
 | x :: xs => by rw [List.map_cons, bares, Qpu x, Qn2 xs]
end
theorem ref_pos (t : Nd) : 0 < t.ref.length := by
 rw [<- Ql0 t]
 exact Qos _
theorem Qom : ∀ ks : List Nd, ks.length <= (refs ks).length
 | [] => by simp
 | x :: xs => by
  rw [Qbn, List.length_append, List.length_cons]
  have := ref_pos x
  have := Qom xs
  omega
theorem Qpv {x : Nd} : ∀ {ks : List Nd}, x ∈ ks -> x.ref.length + ks.length <= (refs ks).length + 1
 | y :: ks, h => by
  rw [Qbn, List.length_append, List.length_cons]
  rcases List.mem_cons.1 h with rfl | h
  ·have := Qom ks
   omega
  ·have := Qpv h
   have := ref_pos y
   omega
variable {ks : List Nd}
theorem Qyw (hl : ks.length = 16) : 18 <= (Nd.br ks).code.length /\ ∀ x ∈ ks, x.ref.length + 17 <= (Nd.br ks).code.length := by
 rw [Nd.code, listCode, List.length_append, List.length_append]
 have a := Qco 192 (refs ks ++ textCode []).length
 rw [List.length_append] at a
 have c : 0 < (textCode []).length := (Qb6 []).1
 refine ⟨by have := Qom ks; omega, fun x b => ?_⟩
 have := Qpv b
 omega
theorem QA7 (p : ByteArray) (t : Nd) : t.ref.length + 2 <= (Nd.ext p t).code.length := by
 rw [Nd.ref_ext, listCode, List.length_append, List.length_append]
 have a := Qco 192 (textCode (pathCode (bytesOf p) false) ++ t.ref).length
 rw [List.length_append] at a
 have b := (Qb6 (pathCode (bytesOf p) false)).1
 omega
theorem Qui (h1 : t ≠ .no) (h2 : ∀ g, t ≠ .stub g) (h : t.ref.length < 32) : t.code.length < 32 /\ t.ref = t.code := by
 have e : t.ref = refOf t.code := (Nd.shown_sel h1 h2).1 _
 rw [e] at h ⊢
 unfold refOf at h ⊢
 split
 ·rename_i h3; exact ⟨h3, rfl⟩
 ·rename_i h3
  rw [if_neg h3, Qbt (Qan _)] at h
  omega
theorem Qi6 (h1 : t ≠ .no) (h2 : ∀ g, t ≠ .stub g) (h : t.code.length < 32) : t.ref = t.code := by
 have e : t.ref = refOf t.code := (Nd.shown_sel h1 h2).1 _
 rw [e, refOf, if_pos h]
theorem Qba : ∀ (n : Nat) (x : It), fits n x -> fits (n + 1) x
 | _, .text _ _ _, _ => by cases ‹Nat› <;> exact trivial
 | 0, .list _ _ _, h => h.elim
 | n + 1, .list _ _ l, h => fun x hx => Qba n x (h x hx)
theorem Qbp (n a b : Nat) (s : List Nat) : fits n (.text a b s) := by cases n <;> exact trivial
theorem Qi7 (p v : ByteArray) : fits 1 (Nd.leaf p v).it := by
 rw [Nd.it]
 intro x a
 rcases List.mem_cons.1 a with rfl | a
 ·exact trivial
 ·rcases List.mem_cons.1 a with rfl | a
  ·exact trivial
  ·cases a
theorem Qc5 (t : Nd) (h1 : t ≠ .no) (h2 : ∀ g, t ≠ .stub g) : (t.code.length < 32 /\ t.rit = t.it /\ t.rcut = t.cut) \/ (¬ t.code.length < 32 /\ t.rit = .text 0 0 (digB t.code) /\ t.rcut = .stub (digB t.code)) := by
 obtain ⟨_, a, b⟩ := Nd.shown_sel h1 h2
 by_cases h : t.code.length < 32
 ·exact .inl ⟨h, by rw [Nd.rit, a, if_pos h], by rw [Nd.rcut, b, if_pos h]⟩
 ·exact .inr ⟨h, by rw [Nd.rit, a, if_neg h], by rw [Nd.rcut, b, if_neg h]⟩
theorem Qfb (hc : (Nd.br ks).can n) (h : (Nd.br ks).code.length < 32) : fits 2 (Nd.br ks).it := by
 obtain ⟨_, q, o, _⟩ := can_br.1 hc
 rw [Qkz]
 intro x c
 rcases List.mem_append.1 c with c | c
 ·obtain ⟨t, i, rfl⟩ := List.mem_map.1 c
  have a := Qe6 o i
  have d := (Qyw q).2 t i
  by_cases b : t = .no
  ·subst b; exact Qbp ..
  ·rcases Qc5 t b (Qao a) with ⟨a1, a2, _⟩ | ⟨a1, a2, _⟩
   ·rw [a2]
    have f := Qi6 b (Qao a) a1
    cases t with
    | no => exact absurd rfl b
    | stub g => exact absurd rfl (Qao a g)
    | leaf p v => exact Qi7 p v
    | br ks' =>
     have := (Qyw (can_br.1 a).2.1).1
     rw [f] at d
     omega
    | ext p t' =>
     have l := QA7 p t'
     obtain ⟨_, _, _, j, k⟩ := can_ext.1 a
     cases t' with
     | br ks' =>
      have r := (Qyw (can_br.1 j).2.1).1
      rw [f] at d
      by_cases e : (Nd.br ks').code.length < 32
      ·rw [Qi6 (by simp) (by simp) e] at l
       omega
      ·have : ¬ (Nd.br ks').ref.length < 32 := fun m => e (Qui (by simp) (by simp) m).1
       omega
     | _ => simp [Nd.isBr] at k
   ·rw [a2]; exact Qbp ..
 ·obtain rfl : x = .text 0 0 [] := by simpa using c
  exact Qbp ..
theorem Qpw (hc : (Nd.ext p t).can n) : fits 3 (Nd.ext p t).it := by
 obtain ⟨_, _, _, b, c⟩ := can_ext.1 hc
 rw [Qjn]
 intro x a
 rcases List.mem_cons.1 a with rfl | a
 ·exact Qbp ..
 ·obtain rfl : x = t.rit := by simpa using a
  cases t with
  | br ks =>
   rcases Qc5 (.br ks) (by simp) (by simp) with ⟨a1, a2, _⟩ | ⟨a1, a2, _⟩
   ·rw [a2]; exact Qfb b a1
   ·rw [a2]; exact Qbp ..
  | _ => simp [Nd.isBr] at c
theorem Qyx (hc : t.can n) : fits 4 t.it := by
 cases t with
 | no => rw [Nd.it]; exact Qbp ..
 | stub g => rw [Nd.it]; exact Qbp ..
 | leaf p v => exact Qba 3 _ (Qba 2 _ (Qba 1 _ (Qi7 p v)))
 | ext p t => exact Qba 3 _ (Qpw hc)
 | br ks =>
  obtain ⟨_, f, d, _⟩ := can_br.1 hc
  rw [Qkz]
  intro x c
  rcases List.mem_append.1 c with c | c
  ·obtain ⟨t, e, rfl⟩ := List.mem_map.1 c
   have a := Qe6 d e
   by_cases b : t = .no
   ·subst b; exact Qbp ..
   ·rcases Qc5 t b (Qao a) with ⟨a1, a2, _⟩ | ⟨a1, a2, _⟩
    ·rw [a2]
     cases t with
     | no => exact absurd rfl b
     | stub g => exact absurd rfl (Qao a g)
     | leaf p v => exact Qba 2 _ (Qba 1 _ (Qi7 p v))
     | br ks' => exact Qba 2 _ (Qfb a a1)
     | ext p t' => exact Qpw a
    ·rw [a2]; exact Qbp ..
  ·obtain rfl : x = .text 0 0 [] := by simpa using c
   exact Qbp ..
theorem Quj : ∀ ks : List Nd, oks ks -> (refs ks).length <= 33 * ks.length
 | [], _ => by simp [refs]
 | x :: xs, h => by
  rw [oks] at h
  rw [Qbn, List.length_append, List.length_cons]
  have := x.ref_le h.1
  have := Quj xs h.2
  omega
theorem Qx6 (hc : t.can n) (hn : n <= 64) : t.code.length <= 700 := by
 obtain ⟨a, _⟩ := t.can_ok n hc hn
 cases t with
 | no => rw [Nd.code]; simp
 | stub g => rw [Nd.code]; simp
 | leaf p v =>
  obtain ⟨e, _, _, h⟩ := can_leaf.1 hc
  rw [Nd.code]
  have b := Qca (textCode (pathCode (bytesOf p) true) ++ textCode (bytesOf v))
  have c := Qah (pathCode (bytesOf p) true)
  have d := Qah (bytesOf v)
  rw [List.length_append] at b
  rw [Qb2, bytesOf_length] at c
  rw [bytesOf_length] at d
  omega
 | ext p t =>
  obtain ⟨_, e, _, f, _⟩ := can_ext.1 hc
  rw [Nd.ref_ext]
  have b := Qca (textCode (pathCode (bytesOf p) false) ++ t.ref)
  have c := Qah (pathCode (bytesOf p) false)
  rw [Nd.ok] at a
  have d := t.ref_le a.2.1
  rw [List.length_append] at b
  rw [Qb2, bytesOf_length] at c
  omega
 | br ks =>
  rw [Nd.ok] at a
  rw [Nd.code]
  have b := Qca (refs ks ++ textCode [])
  have c := Qah []
  have d := Quj ks a.2
  rw [List.length_append] at b
  rw [a.1] at d
  simp at c
  omega
variable {y : It}
theorem Qch {s : List Nat} (h : y.bare = .text 0 0 s) : ∃ a b, y = .text a b s := by
 cases y with
 | text a b t => rw [It.bare] at h; cases h; exact ⟨a, b, rfl⟩
 | list a b l => rw [It.bare] at h; cases h
theorem Qdy {l : List It} (h : y.bare = .list 0 0 l) : ∃ a b m, y = .list a b m /\ bares m = l := by
 cases y with
 | text a b t => rw [It.bare] at h; cases h
 | list a b m => rw [It.bare] at h; cases h; exact ⟨a, b, m, rfl, rfl⟩
variable {N : Nat}
theorem Qpx {a : Nat} {m : List It} (h : (It.list a b m).good N) : b - a = (It.list a b m).bare.code.length := by
 rw [It.good] at h
 rw [Qml, It.code]
 exact h.2.2.1.symm
theorem Qn3 (hc : t.can n) (hno : t ≠ .no) (hg : y.good N) (hb : y.bare = t.rit) : y.isRef = true /\ y.emp = false := by
 rcases Qc5 t hno (Qao hc) with ⟨a1, a2, _⟩ | ⟨a1, a2, _⟩
 ·have c := Qfv t hno (Qao hc)
  have d : ∃ l, t.it = .list 0 0 l := by
   cases t with
   | no => exact absurd rfl hno
   | stub g => exact absurd rfl (Qao hc g)
   | leaf p v => exact ⟨_, by rw [Nd.it]⟩
   | ext p t => exact ⟨_, Qjn p t⟩
   | br ks => exact ⟨_, Qkz ks⟩
  obtain ⟨l, d⟩ := d
  rw [a2, d] at hb
  obtain ⟨a, b, m, rfl, e⟩ := Qdy hb
  have := Qpx hg
  rw [hb, <- d, c] at this
  exact ⟨by simp [It.isRef]; omega, rfl⟩
 ·rw [a2] at hb
  obtain ⟨a, b, rfl⟩ := Qch hb
  have := Qan t.code
  exact ⟨by simp [It.isRef, this], by simp [It.emp, this]⟩
theorem Quk (hb : y.bare = Nd.no.rit) : y.emp = true /\ y.isRef = false := by
 obtain ⟨a, b, rfl⟩ := Qch (s := []) hb
 exact ⟨by simp [It.emp], by simp [It.isRef]⟩
def KidOK (n : Nat) : Prop := ∀ (t : Nd) (dep : Nat) (y : It) (N : Nat), t.can (64 - dep) -> dep <= 64 -> t ≠ .no -> y.good N -> y.bare = t.it -> fits n t.it -> rdF n y dep = .ok t.cut
theorem Qn4 (ih : KidOK n) {dep : Nat} (hc : t.can (64 - dep)) (hd : dep <= 64) (hno : t ≠ .no) (hg : y.good N) (hb : y.bare = t.rit) (hf : fits n t.rit) : rdRef (rdF n) y dep = .ok t.rcut := by
 rcases Qc5 t hno (Qao hc) with ⟨a1, a2, a3⟩ | ⟨a1, a2, a3⟩
 ·rw [a2] at hb hf
  rw [a3]
  have h := ih t dep y N hc hd hno hg hb hf
  cases y with
  | text a b s =>
   cases n with
   | zero => rw [rdF] at h; cases h
   | succ n => rw [rdF] at h; cases h
  | list a b l => exact h
 ·rw [a2] at hb
  obtain ⟨a, b, rfl⟩ := Qch hb
  rw [a3]
  rfl
theorem Qi8 {n : Nat} (ih : KidOK n) {dep : Nat} (hd : dep <= 64) {N : Nat} : ∀ (ks : List Nd) (ys : List It), canAll ks (64 - dep) -> goods N ys -> bares ys = ks.map Nd.rit -> (∀ x ∈ ks, fits n x.rit) -> rdKids (rdF n) dep ys = .ok (ks.map Nd.rcut)
 | [], ys, _, _, hb, _ => by
  cases ys with
  | nil => rw [rdKids]; rfl
  | cons y ys => rw [bares] at hb; cases hb
 | x :: ks, ys, hc, hg, hb, hf => by
  cases ys with
  | nil => rw [bares] at hb; cases hb
  | cons y ys =>
   rw [bares, List.map_cons] at hb
   rw [goods] at hg
   rw [canAll] at hc
   obtain ⟨hb1, hb2⟩ := List.cons.inj hb
   have h2 := Qi8 ih hd ks ys hc.2 hg.2 hb2 (fun z hz => hf z (List.mem_cons_of_mem _ hz))
   by_cases hno : x = .no
   ·subst hno
    rw [rdKids, if_pos (Quk hb1).1, h2]
    rfl
   ·rw [rdKids, if_neg (by rw [(Qn3 hc.1 hno hg.1 hb1).2]; simp), Qn4 ih hc.1 hd hno hg.1 hb1 (hf x (List.mem_cons_self ..))]
    simp only
    rw [h2]
    rfl
theorem Qjo {N : Nat} {m : Nat} : ∀ (ks : List Nd) (ys : List It), canAll ks m -> goods N ys -> bares ys = ks.map Nd.rit -> (ys.filter It.isRef).length = (ks.map one).sum /\ ys.all (fun x => x.isRef || x.emp) = true
 | [], ys, _, _, hb => by
  cases ys with
  | nil => exact ⟨rfl, rfl⟩
  | cons y ys => rw [bares] at hb; cases hb
 | x :: ks, ys, hc, hg, hb => by
  cases ys with
  | nil => rw [bares] at hb; cases hb
  | cons y ys =>
   rw [bares, List.map_cons] at hb
   rw [goods] at hg
   rw [canAll] at hc
   obtain ⟨hb1, hb2⟩ := List.cons.inj hb
   obtain ⟨h2, h3⟩ := Qjo ks ys hc.2 hg.2 hb2
   by_cases hno : x = .no
   ·subst hno
    obtain ⟨e1, e2⟩ := Quk hb1
    refine ⟨?_, by rw [List.all_cons, e1, e2, h3]; rfl⟩
    rw [List.filter_cons, e2, List.map_cons, List.sum_cons, Qp8]
    simpa using h2
   ·obtain ⟨e1, e2⟩ := Qn3 hc.1 hno hg.1 hb1
    refine ⟨?_, by rw [List.all_cons, e1, h3]; rfl⟩
    rw [List.filter_cons, e1, if_pos rfl, List.length_cons, List.map_cons, List.sum_cons, Qc8 hno, h2]
    omega
theorem Qpy (ks : List Nd) : ∀ k, k <= ks.length -> cntN ks k = ((ks.take k).map one).sum
 | 0, _ => rfl
 | k + 1, h => by
  rw [Qct, Qpy ks k (by omega), List.take_add_one, List.getElem?_eq_getElem (by omega), List.getD_eq_getElem?_getD, List.getElem?_eq_getElem (by omega)]
  simp only [Option.toList_some, List.map_append, List.sum_append, List.map_cons, List.map_nil, List.sum_cons, List.sum_nil, Nat.add_zero, Option.getD_some]
theorem Qul : ∀ n, KidOK n
 | 0 => fun t dep y N hc hd hno hg hb hf => by
  exfalso
  cases t with
  | no => exact hno rfl
  | stub g => exact Qao hc g rfl
  | leaf p v => rw [Nd.it] at hf; exact hf
  | ext p t => rw [Qjn] at hf; exact hf
  | br ks => rw [Qkz] at hf; exact hf
 | n + 1 => fun t dep y N hc hd hno hg hb hf => by
  have ih := Qul n
  cases t with
  | no => exact absurd rfl hno
  | stub g => exact absurd rfl (Qao hc g)
  | leaf p v =>
   obtain ⟨h1, h2, h3, h4⟩ := can_leaf.1 hc
   rw [Nd.it] at hb
   obtain ⟨a, b, m, rfl, hm⟩ := Qdy hb
   have hml : m.length = 2 := by
    have := congrArg List.length hm
    rw [Qc4, List.length_map] at this
    exact this
   obtain ⟨u, I, rfl⟩ := Qhy hml
   rw [bares, bares, bares] at hm
   obtain ⟨s, w⟩ := List.cons.inj hm
   obtain ⟨c, _⟩ := List.cons.inj w
   obtain ⟨J, K, rfl⟩ := Qch s
   obtain ⟨L, M, rfl⟩ := Qch c
   rw [rdF, Qoj, rdPath]
   simp only [Qg0 h2, if_true]
   have q : (It.text L M (bytesOf v)).val? = true := by
    simp only [It.val?, bytesOf_length]
    rw [decide_eq_true h3, decide_eq_true h4]
    rfl
   rw [if_neg (by
    rw [q, bytesOf_length]
    rintro (h | h)
    ·omega
    ·cases h), Nd.cut, It.bytes, Qcn, Qcn]
  | ext p t =>
   obtain ⟨h1, h2, h3, h4, B⟩ := can_ext.1 hc
   rw [Qjn] at hb hf
   obtain ⟨a, b, m, rfl, hm⟩ := Qdy hb
   rw [It.good] at hg
   have hml : m.length = 2 := by
    have := congrArg List.length hm
    rw [Qc4, List.length_map] at this
    exact this
   obtain ⟨u, I, rfl⟩ := Qhy hml
   rw [bares, bares, bares] at hm
   obtain ⟨s, w⟩ := List.cons.inj hm
   obtain ⟨c, _⟩ := List.cons.inj w
   obtain ⟨J, K, rfl⟩ := Qch s
   have i := hg.2.2.2
   rw [goods, goods] at i
   have F : dep + (bytesOf p).length <= 64 := by rw [bytesOf_length]; omega
   have E : t.can (64 - (dep + (bytesOf p).length)) := by rw [bytesOf_length, show 64 - (dep + p.size) = 64 - dep - p.size by omega]; exact h4
   have l := Qn4 ih E F (Qkd B) i.2.1 c (hf _ (by simp))
   have o : I.tail17 = true := by
    cases t with
    | br ks =>
     rcases Qc5 (.br ks) (by simp) (by simp) with ⟨x1, x2, _⟩ | ⟨x1, x2, _⟩
     ·rw [x2, Qkz] at c
      obtain ⟨O, P, S, rfl, H⟩ := Qdy c
      have R := Qpx i.2.1
      rw [c, <- Qkz, Qfv _ (by simp) (by simp)] at R
      have d : S.length = 17 := by
       have := congrArg List.length H
       rw [Qc4, List.length_map, List.length_append, List.length_map, (can_br.1 h4).2.1] at this
       exact this
      simp [It.tail17, d]
      omega
     ·rw [x2] at c
      obtain ⟨O, P, rfl⟩ := Qch c
      simp [It.tail17, Qan]
    | _ => simp [Nd.isBr] at B
   rw [rdF, Qoj, rdPath]
   simp only [Qg0 h3, Bool.false_eq_true, if_false]
   rw [rdExt, if_neg (by
    rw [o, bytesOf_length]
    rintro (h | h | h)
    ·omega
    ·omega
    ·cases h), l, Qi5]
   simp only
   rw [Qcn]
  | br ks =>
   obtain ⟨h1, h2, h3, h4⟩ := can_br.1 hc
   rw [Qkz] at hb hf
   obtain ⟨a, b, m, rfl, hm⟩ := Qdy hb
   rw [It.good] at hg
   have d : m.length = 17 := by
    have := congrArg List.length hm
    rw [Qc4, List.length_map, List.length_append, List.length_map, h2] at this
    exact this
   have f : bares (m.take 16) = ks.map Nd.rit := by
    rw [Qc4] at hm ⊢
    rw [List.map_take, hm, List.take_left' (by rw [List.length_map, h2])]
   have e : bares (m.drop 16) = [.text 0 0 []] := by
    rw [Qc4] at hm ⊢
    rw [List.map_drop, hm, List.drop_left' (by rw [List.length_map, h2])]
   have j : goods N (m.take 16) := goods_iff.2 fun x r => goods_iff.1 hg.2.2.2 x (List.mem_of_mem_take r)
   have k : (m.drop 16).all It.emp = true := by
    cases hmd : m.drop 16 with
    | nil => rfl
    | cons y ys =>
     rw [hmd, bares] at e
     obtain ⟨Q, A⟩ := List.cons.inj e
     cases ys with
     | nil => simp [(Quk (y := y) Q).1]
     | cons z zs => rw [bares] at A; cases A
   obtain ⟨C, D⟩ := Qjo ks (m.take 16) h3 j f
   have G : forks m = true := by
    unfold forks
    rw [D, k, C]
    have := Qpy ks 16 (by omega)
    rw [List.take_of_length_le (by omega)] at this
    rw [<- this]
    simp [h4]
   have l := Qi8 ih (dep := dep + 1) (by omega) ks (m.take 16) (by rw [show 64 - (dep + 1) = 64 - dep - 1 by omega]; exact h3) j f (fun x r => hf _ (List.mem_append_left _ (List.mem_map_of_mem r)))
   rw [rdF, Qkt (by omega), if_pos d, rdBr, if_neg (by rw [G]; simp; omega), l, Qn0]
theorem Qyy {dep : Nat} (hc : t.can (64 - dep)) (hd : dep <= 64) (hno : t ≠ .no) : shF t.code (digB t.code) dep = .ok t.cut := by
 have f := Qx6 hc (by omega)
 have a := Qfv t hno (Qao hc)
 have c := Qyx hc
 obtain ⟨y, b, e⟩ := Qs3 (x := t.it) (Qba 5 _ (Qba 4 _ c)) (by rw [a]; omega)
 rw [a] at b
 unfold shF
 rw [if_neg (by omega), if_neg (by simp), b]
 simp only
 obtain ⟨d, _⟩ := t.can_ok _ hc (by omega)
 exact Qul 6 t dep y 2048 hc hd hno (Qi0 (t.code_byte d) b) (by rw [e, Ql1]) (Qba 5 _ (Qba 4 _ c))
theorem QA8 (h : t ≠ .no) : t.cut ≠ .no := by
 cases t with
 | no => exact absurd rfl h
 | leaf p v => rw [Nd.cut]; simp
 | ext p t => rw [Qi5]; simp
 | br ks => rw [Qn0]; simp
 | stub g => rw [Nd.cut]; simp
theorem Qyz (h : t ≠ .no) : t.rcut ≠ .no := by
 by_cases a : ∃ g, t = .stub g
 ·obtain ⟨g, rfl⟩ := a
  unfold Nd.rcut Nd.selN
  simp
 ·rcases Qc5 t h (fun g e => a ⟨g, e⟩) with ⟨_, _, e⟩ | ⟨_, _, e⟩
  ·rw [e]; exact QA8 h
  ·rw [e]; simp
theorem Ql2 (t : Nd) (r : ByteArray) : t.cut.next r = ((t.next r).1.rcut, (t.next r).2) := by
 cases t with
 | no => rw [Nd.cut]; rfl
 | leaf p v => rw [Nd.cut]; rfl
 | stub g => rw [Nd.cut]; rfl
 | ext p t =>
  rw [Qi5]
  simp only [Nd.next]
  split <;> rfl
 | br ks =>
  rw [Qn0]
  simp only [Nd.next]
  rw [List.getD_eq_getElem?_getD, List.getElem?_map, List.getD_eq_getElem?_getD]
  cases ks[(bytesOf r)[0]!]? <;> rfl
theorem Qz0 {m : Nat} (hc : t.can r.size) (hr : r.size <= 64) (hn : r.size <= n) (hm : r.size <= m) : t.ways n r = t.ways m r := by
 obtain ⟨l, e, c, b, _⟩ := Qhc r.size t r (Nat.le_refl _) hc
 obtain ⟨_, a⟩ := t.can_ok r.size hc hr
 rw [<- b.ways n a hn, b.ways m a hm]
theorem Qi9 (h : t ≠ .no) (n : Nat) (r : ByteArray) : ∃ ts, t.ways n r = t :: ts := by
 have a : t.shownL = [t] := by unfold Nd.shownL; rw [Qcx h]; rfl
 cases n with
 | zero => exact ⟨[], a⟩
 | succ n =>
  rw [Nd.ways]
  split
  ·exact ⟨[], a⟩
  ·exact ⟨_, rfl⟩
def longs (ts : List Nd) : List (List Nat) := (ts.map Nd.code).filter (fun c => decide (32 <= c.length))
theorem Qed (t : Nd) (ts : List Nd) : provL (t :: ts) = t.code :: longs ts := rfl
theorem Qz1 (hc : t.can r.size) (hn : (t.next r).1 = .no) : valAt t.cut r = t.get (bytesOf r) := by
 rcases Qo5 hc hn with h | ⟨v, rfl, h⟩
 ·rw [h]
  cases t with
  | leaf p v =>
   rw [Nd.cut]
   unfold valAt
   simp only
   by_cases e : p = r
   ·subst e
    rw [Qbe, if_pos rfl] at h
    cases h
   ·rw [if_neg e]
  | no => rw [Nd.cut]; rfl
  | stub g => rw [Nd.cut]; rfl
  | ext p t => rw [Qi5]; rfl
  | br ks => rw [Qn0]; rfl
 ·rw [h, Nd.cut]
  unfold valAt
  simp
theorem Qpz : ∀ (n : Nat) (t : Nd) (r : ByteArray), t.can r.size -> t ≠ .no -> r.size <= n -> r.size <= 64 -> nib (bytesOf r) ->
  (∃ (e : Nd) (r' : ByteArray), t.cut.walk n r = (e, r') /\ (∀ g, e ≠ .stub g) /\ longs (t.ways n r).tail = [] /\ valAt e r' = t.get (bytesOf r)) \/
  ∃ (u : Nd) (r' : ByteArray), t.cut.walk n r = (.stub (digB u.code), r') /\ longs (t.ways n r).tail = u.prove r' /\ u.can r'.size /\ u ≠ .no /\ r'.size < r.size /\ nib (bytesOf r') /\ t.get (bytesOf r) = u.get (bytesOf r')
 | n, t, r, hc, hno, hn, h64, hnb => by
  by_cases hx : (t.next r).1 = .no
  ·left
   have hcx : (t.cut.next r).1 = .no := by rw [Ql2, hx]; rfl
   refine ⟨t.cut, r, Qdx hcx, ?_, ?_, Qz1 hc hx⟩
   ·cases t with
    | stub g => exact absurd rfl (Qao hc g)
    | no => exact absurd rfl hno
    | leaf p v => rw [Nd.cut]; simp
    | ext p t => rw [Qi5]; simp
    | br ks => rw [Qn0]; simp
   ·have hs : t.shownL = [t] := by unfold Nd.shownL; rw [Qcx hno]; rfl
    cases n with
    | zero => rw [Nd.ways, hs]; rfl
    | succ n => rw [Nd.ways, if_pos (Nd.isNo_iff.2 hx), hs]; rfl
  ·obtain ⟨hin, k1, k2, k3, _, k5⟩ := Qda hc hx
   cases n with
   | zero => omega
   | succ n =>
    have hcx : (t.cut.next r).1 ≠ .no := by rw [Ql2]; exact Qyz hx
    have hsz : (r.extract (t.next r).2 r.size).size = r.size - (t.next r).2 := Qa1 _ _
    have hcu : (t.next r).1.can (r.extract (t.next r).2 r.size).size := by rw [hsz]; exact k3
    have hget : t.get (bytesOf r) = (t.next r).1.get (bytesOf (r.extract (t.next r).2 r.size)) := by
     rw [Qad]
     exact k5 _ rfl
    have d : t.ways (n + 1) r = t :: (t.next r).1.ways n (r.extract (t.next r).2 r.size) := by rw [Nd.ways, if_neg (by rw [Qcx hx]; simp)]
    have a := Qgf hnb (t.next r).2
    rw [Qku hcx, Ql2, d, hget, List.tail_cons]
    generalize r.extract (t.next r).2 r.size = r1 at *
    generalize (t.next r).1 = u at *
    simp only
    obtain ⟨f, b⟩ := Qi9 hx n r1
    rcases Qc5 u hx (Qao hcu) with ⟨a1, _, a3⟩ | ⟨a1, _, a3⟩
    ·have c : longs (u.ways n r1) = longs (u.ways n r1).tail := by
      rw [b]
      unfold longs
      rw [List.map_cons, List.filter_cons, if_neg (by simp; omega), List.tail_cons]
     rw [a3, c]
     rcases Qpz n u r1 hcu hx (by omega) (by omega) a with ⟨e, r', q1, q2, q3, q4⟩ | ⟨v, r', q1, q2, q3, q4, q5, q6, q7⟩
     ·exact .inl ⟨e, r', q1, q2, q3, q4⟩
     ·exact .inr ⟨v, r', q1, q2, q3, q4, by omega, q6, q7⟩
    ·right
     refine ⟨u, r1, ?_, ?_, hcu, hx, by omega, a, rfl⟩
     ·rw [a3]; exact Qdx rfl
     ·rw [Nd.prove, Qz0 hcu (by omega) (show r1.size <= 64 by omega) (show r1.size <= n by omega), b, Qed]
      unfold longs
      rw [List.map_cons, List.filter_cons, if_pos (by simp; omega)]
theorem Qjp : ∀ (m : Nat) (t : Nd) (r : ByteArray) (k : Nat) (X : List (List Nat)), r.size <= m -> t.can r.size -> t ≠ .no -> r.size <= 64 -> nib (bytesOf r) ->
  verL (t.prove r ++ X) (digB t.code) r k = (if X = [] then .ok (t.get (bytesOf r)) else .error (.inNode (k + (t.prove r).length) (.base 4))) /\ ∀ j, j < (t.prove r).length -> verL ((t.prove r).take j) (digB t.code) r k = .error (.inNode (k + j) (.base 2))
 | m, t, r, k, X, hm, hc, hno, h64, hnb => by
  obtain ⟨ts, hts⟩ := Qi9 hno 64 r
  have hp : t.prove r = t.code :: longs ts := by rw [Nd.prove, hts, Qed]
  have hs := Qyy (t := t) (dep := 64 - r.size) (by rw [show 64 - (64 - r.size) = r.size by omega]; exact hc) (by omega) hno
  have hst : ∀ L, verL (t.code :: L) (digB t.code) r k = verT L (t.cut.walk 64 r).1 (t.cut.walk 64 r).2 (k + 1) := fun L => Qmx _ L _ r k hs
  have h0 : verL ((t.prove r).take 0) (digB t.code) r k = .error (.inNode (k + 0) (.base 2)) := by rw [List.take_zero, verL]; rfl
  have hw := Qpz 64 t r hc hno h64 h64 hnb
  rw [hts, List.tail_cons] at hw
  rcases hw with ⟨e, r', q1, q2, q3, q4⟩ | ⟨u, r', q1, q2, q3, q4, q5, q6, q7⟩
  ·rw [hp, q3]
   refine ⟨?_, fun j hj => ?_⟩
   ·rw [List.cons_append, hst, q1, Qps q2]
    simp only [List.nil_append, List.length_cons, List.length_nil]
    split
    ·rw [q4]
    ·rfl
   ·have : j = 0 := by simp at hj; omega
    subst this
    rw [hp, q3] at h0
    exact h0
  ·cases m with
   | zero => omega
   | succ m =>
    have ih := Qjp m u r' (k + 1) X (by omega) q3 q4 (by omega) q6
    rw [hp, q2]
    refine ⟨?_, fun j hj => ?_⟩
    ·rw [List.cons_append, hst, q1]
     show verL _ _ _ _ = _
     rw [ih.1, q7]
     simp only [List.length_cons]
     split
     ·rfl
     ·rw [show k + 1 + (u.prove r').length = k + ((u.prove r').length + 1) by omega]
    ·cases j with
     | zero => rw [hp, q2] at h0; exact h0
     | succ j =>
      rw [List.take_succ_cons, hst, q1]
      show verL _ _ _ _ = _
      rw [ih.2 j (by simpa using hj), show k + 1 + j = k + (j + 1) by omega]
theorem Qx7 (p : ByteArray) : Nd.no.prove p = [] := by
 unfold Nd.prove
 rw [Nd.ways, if_pos (show (Nd.no.next p).1.isNo = true from rfl)]
 rfl
theorem Qrb (h : t ≠ .no) (p : ByteArray) : ∃ L, t.prove p = t.code :: L := by
 obtain ⟨b, a⟩ := Qi9 h 64 p
 exact ⟨_, by rw [Nd.prove, a, Qed]⟩
theorem Qz2 (hc : t.can n) (h : t ≠ .no) : t.dig = digB t.code := Nd.dig_eq ((Nd.shown_sel h (Qao hc)).1 _)
theorem Qrc (hc : t.can 64) (hp : p.size = 64) (hnb : nib (bytesOf p)) : verF t.dig p (t.prove p) = .ok (t.get (bytesOf p)) := by
 by_cases a : t = .no
 ·subst a
  rw [Qx7, verF, if_pos ⟨rfl, Nd.dig_no⟩, Qg3]
 ·obtain ⟨L, b⟩ := Qrb a p
  have h := (Qjp 64 t p 0 [] (by omega) (by rw [hp]; exact hc) a (by omega) hnb).1
  rw [List.append_nil, if_pos rfl] at h
  rw [verF, if_neg (by rw [b]; simp), Qz2 hc a, h]
end Go.Proofs.YthbgepmpdphigaaGreatDoor
