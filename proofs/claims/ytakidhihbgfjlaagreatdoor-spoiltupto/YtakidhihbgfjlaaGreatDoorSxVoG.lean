/-
  Verify whole.
-/
import Derived.Test.YtakidhihbgfjlaaGreatDoorSxVeC
import Derived.Test.YtakidhihbgfjlaaGreatDoorSxVbG
namespace Go.Proofs.YtakidhihbgfjlaaGreatDoor
open Go.RowKit
set_option maxRecDepth 100000
set_option maxHeartbeats 25600000
variable {w : World}
theorem Qiv {g : Nat} {cs : Array Value} {t : TypeId} {n : Nat} (h : w.heap[g]? = some (.cells cs t (0, 0))) (hn : cs.size = n) : w.there g 0 n := by
 intro j a
 refine ⟨?_, ?_⟩
 ·simp only [World.cell?, h, Nat.zero_add]
  rw [Array.getElem?_eq_getElem (by omega)]
  rfl
 ·simp [World.frozen?, h]
theorem Qvx (l : List ByteArray) : ∀ c ∈ l.map bytesOf, ∀ y ∈ c, y < 256 := fun c hc => by
 obtain ⟨s, _, rfl⟩ := List.mem_map.1 hc
 exact Qao s
variable {b : Nat}
theorem Qax {x0 x1 x2 x3 : Value} {t : TypeId} (h : w.heap[b]? = some (.cells #[x0, x1, x2, x3] t (0, 0))) : w.cell? ⟨b, 0, none⟩ = some x0 /\ w.cell? ⟨b, 1, none⟩ = some x1 /\ w.cell? ⟨b, 2, none⟩ = some x2 /\ w.cell? ⟨b, 3, none⟩ = some x3 /\ w.frozen? ⟨b, 0, none⟩ = false /\ w.frozen? ⟨b, 1, none⟩ = false /\ w.frozen? ⟨b, 2, none⟩ = false /\ w.frozen? ⟨b, 3, none⟩ = false := by
 refine ⟨?_, ?_, ?_, ?_, ?_, ?_, ?_, ?_⟩ <;> simp [World.cell?, World.frozen?, h]
def Vals (S : Wood) (ts : List Nd) (cs : List Value) : Prop := cs.length = ts.length /\ ∀ i (h1 : i < cs.length) (h2 : i < ts.length), ndV S cs[i] ts[i]
variable {t : Nd} {S : Wood} {cs : List Value} {v : Value}
theorem Vals.snoc {ts : List Nd} (h : Vals S ts cs) (hv : ndV S v t) : Vals S (ts ++ [t]) (cs ++ [v]) := by
 refine ⟨by simp [h.1], fun i a b => ?_⟩
 rw [List.getElem_append, List.getElem_append]
 split
 ·rename_i e
  rw [dif_pos (by rw [<- h.1]; exact e)]
  exact h.2 i e _
 ·rename_i e
  rw [dif_neg (by rw [<- h.1]; exact e)]
  simpa using hv
structure NIn (S : Wood) (w : World) (l : List (Nd × ByteArray)) (thr v : Value) (r : ByteArray) (k : Nat) (res : Value) (cs : List Value) (wr : World) : Prop where
 own : OwnC wr (w.heap.size + 1) 1 res k cs
 vals : Vals S ((l.take k).map (·.1)) cs
 below : Below w.heap.size w wr
 box : wr.heap[w.heap.size]? = some (.cells #[thr, v, .string r] 112 (0, 0))
theorem QD1 : (Tryz.prog.info? 155).map (fun i => (i.zero, i.size, i.bytes)) = some (some .nilIface, 1, 16) := by kernel_rfl
variable {l : List (Nd × ByteArray)} {thr : Value} {r : ByteArray}
theorem Qqs {wr w2 w3 : World} {k : Nat} {res v2 : Value} {x : Value} (h : NIn S w l thr v r k res cs wr) (hb : Below wr.heap.size wr w2) (hO : OwnC w3 (w.heap.size + 1) 1 v2 (k + 1) (cs ++ [x])) (hg : w2.grownBy w3 res.ownBlock) (hv : ndV S x t) : OwnC w3 (w.heap.size + 1) 1 v2 (k + 1) (cs ++ [x]) /\ Vals S ((l.take k).map (·.1) ++ [t]) (cs ++ [x]) /\ Below w.heap.size w w3 /\ w3.heap[w.heap.size]? = some (.cells #[thr, v, .string r] 112 (0, 0)) := by
 have d : w.heap.size < wr.heap.size := (Array.getElem?_eq_some_iff.1 h.box).1
 have a := h.below.behind' hb
 have f := hb.size
 have b : ∀ j, j <= w.heap.size -> some j ≠ res.ownBlock := fun j c e => by
  have := (h.own.block j e.symm).1
  omega
 refine ⟨hO, h.vals.snoc hv, ⟨hg.os.trans a.os, hg.tape.trans a.tape, hg.output.trans a.output, Nat.le_trans a.size hg.size, fun j c => (hg.block j (by omega) (b j (by omega))).trans (a.block j c)⟩, ?_⟩
 exact (hg.block _ (by omega) (b _ (Nat.le_refl _))).trans ((hb.block _ d).trans h.box)
def Nd.shownL (e : Nd) : List Nd := if e.isNo = true then [] else [e]
theorem Qvy {C : Nat} {e : Nd} (hF : Followed S C w l e thr v) (hs : ∀ h, e ≠ .stub h) (hl : l.length <= 1000) (hin : ∀ x ∈ l, x.1 ≠ .no) :
  Calls Tryz.prog 62 #[.agg #[thr, v, .string r]] w fun x w' => Below w.heap.size w w' /\ ∃ res cs, x = .returned res /\ OwnC w' (w.heap.size + 1) 1 res (l.map (·.1) ++ e.shownL).length cs /\ Vals S (l.map (·.1) ++ e.shownL) cs := by
 obtain ⟨⟨ct, s, B⟩, y⟩ := hF
 obtain ⟨i0, hi, ah, ai, aj⟩ := info_parts QD1
 obtain ⟨H, mt, d, rfl⟩ := s.shape
 have ao : mt = l.length := by
  rcases s.2 with ⟨f, K⟩ | ⟨g, z, f, _⟩
  ·simp only [Value.slice.injEq] at f; omega
  ·simp only [Value.slice.injEq] at f; exact f.2.1
 subst ao
 obtain ⟨W0, L⟩ : ∃ W0, w.alloc (.cells #[.slice H l.length d, v, .string r] 112) = W0 := ⟨_, rfl⟩
 have ac : Below w.heap.size w W0 := by rw [<- L]; exact (Below.refl _ _).alloc (Nat.le_refl _) _
 have F : W0.heap[w.heap.size]? = some (.cells #[.slice H l.length d, v, .string r] 112 (0, 0)) := by rw [<- L]; exact Array.getElem?_push_size
 have A0 : Aside (NIn S w l (.slice H l.length d) v r 0 (.slice none 0 0) [] W0) := ⟨OwnC.nil _ _ _, ⟨rfl, by simp⟩, ac, F⟩
 obtain ⟨x0, x1, x2⟩ := Qgp F
 have HX : Hid (OwnC w C 2 (.slice H l.length d) l.length ct /\ Turns S l ct /\ ndV S v e /\ (∀ h, e ≠ .stub h) /\ l.length <= 1000 /\ ∀ x ∈ l, x.1 ≠ .no) := ⟨s, B, y, hs, hl, hin⟩
 clear s B y hs hl hin ac F
 go_enter Tryz.func62, Tryz.ntmps62
 go_wp2
 clear L
 go_loopg [11, 3] l.length (fun gh i res wr => ∃ k cs, k <= l.length /\ gh = l.length - k /\ i = .int .i64 (k : Int) /\ NIn S w l (.slice H l.length d) v r k res cs wr)
 case atStart => exact ⟨0, [], Nat.zero_le _, rfl, rfl, A0.out⟩
 case round =>
  obtain ⟨k, cs, hk, rfl, rfl, a⟩ := hrel
  clear A0 x0 x1 x2
  have HN := Hq a
  obtain ⟨V, U, J, rfl⟩ := a.own.shape
  obtain ⟨s, B, y, hs, hl, hin⟩ := HX.out
  by_cases m : k < l.length
  ·have i1 : (k : Int) < (l.length : Int) := by omega
   obtain ⟨Y, X⟩ := B.at k m
   have G := hin _ (List.getElem_mem m)
   obtain ⟨g, z, eg, am, Q, n⟩ : ∃ g z, Value.slice H l.length d = .slice (some ⟨g, 0, none⟩) l.length z /\ C <= g /\ g < w.heap.size /\ w.rangeAt g 0 ct := by
    rcases s.2 with ⟨_, K⟩ | ⟨g, z, f, a1, a2, _, _, _, a3⟩
    ·omega
    ·exact ⟨g, z, f, a1, a2, a3⟩
   simp only [Value.slice.injEq] at eg
   obtain ⟨rfl, -, rfl⟩ := eg
   obtain ⟨⟨E, aa⟩, T⟩ : ∃ q, l[k] = q := ⟨_, rfl⟩
   rw [T] at Y X G
   simp only at Y X G
   obtain ⟨b, N, M⟩ := X.full G
   have al := B.length
   have c0 : wr.cell? ⟨g, k * 2, none⟩ = some (.iface (ndTy E) (.pointer (some ⟨b, 0, none⟩))) := (World.cell?_of_block (a.below.block g Q)).trans (by
    have := n (k * 2) (ct.getD (k * 2) undef) (by rw [List.getD_eq_getElem?_getD, List.getElem?_eq_getElem (by omega)]; rfl)
    rw [Nat.zero_add, N] at this
    exact this)
   have c1 : wr.cell? ⟨g, k * 2 + 1, none⟩ = some (.string aa) := (World.cell?_of_block (a.below.block g Q)).trans (by
    have := n (k * 2 + 1) (ct.getD (k * 2 + 1) undef) (by rw [List.getD_eq_getElem?_getD, List.getElem?_eq_getElem (by omega)]; rfl)
    rw [Nat.zero_add, Y] at this
    exact this)
   have ar : g < wr.heap.size := Nat.lt_of_lt_of_le Q a.below.size
   have aq : ¬ g = wr.heap.size := by omega
   have c : Hid (k < l.length /\ l.length <= 1000 /\ ndV S (.iface (ndTy E) (.pointer (some ⟨b, 0, none⟩))) E /\ l[k]? = some (E, aa)) := ⟨m, hl, by rw [<- N]; exact X, by rw [List.getElem?_eq_getElem m, T]⟩
   have HO : Hid (∀ W, Below wr.heap.size wr W -> OwnC W (w.heap.size + 1) 1 (.slice V U J) k cs) := fun W hb => a.own.below hb
   have HB : Hid (w.heap.size + 1 <= wr.heap.size) := (Array.getElem?_eq_some_iff.1 a.box).1
   have I : Hid (∀ o t, ((wr.alloc o).alloc (.cells #[.iface (ndTy E) (.pointer (some ⟨b, 0, none⟩))] t)).rangeAt (wr.heap.size + 1) 0 [.iface (ndTy E) (.pointer (some ⟨b, 0, none⟩))]) := fun o t => by
    have := Qap (wr.alloc o) [.iface (ndTy E) (.pointer (some ⟨b, 0, none⟩))] t
    simpa using this
   have ak : Hid (wrap64 ((k : Int) + 1) = ((k + 1 : Nat) : Int)) := Qeu k 1 (by omega)
   clear a s B y hs hl hin Y X G n am al M T N m
   go_wp2_with (at_builtin; refine Qah _ rfl _ _ 152 rfl 155 i0 .nilIface 1 16 Tryz.underlying152 hi ah ai aj rfl (by decide) (w.heap.size + 1) (.slice V U J) k cs rfl (HO.out _ (Qo3 _ _ _)) (wr.heap.size + 1) 0 1 1 [.iface (ndTy E) (.pointer (some ⟨b, 0, none⟩))] rfl rfl (I.out _ _) (by simp [Value.oneCell']) (by have := c.out; unfold maxLen; omega) (by have := c.out; omega) (by have := HB.out; simp; omega) ?_; intro v2 w2 j D P R; have p := Hq (Qqs HN.out (Qo3 _ _ _) j D c.out.2.2.1); obtain ⟨p2, m2, k2, rfl⟩ := j.shape; clear j D P R)
   go_roundg (l.length - (k + 1))
   case measure => have := c.out; omega
   case rel => exact ⟨k + 1, _, by have := c.out; omega, rfl, by rw [ak.out], p.out.1, by rw [List.take_add_one, c.out.2.2.2]; simp only [Option.toList_some, List.map_append, List.map_cons, List.map_nil]; exact p.out.2.1, p.out.2.2.1, p.out.2.2.2⟩
  ·obtain rfl : k = l.length := by omega
   have i1 : ¬ (l.length : Int) < (l.length : Int) := by omega
   obtain ⟨x0, x1, x2⟩ := Qgp a.box
   have u : l.take l.length = l := List.take_length
   by_cases O : e = .no
   ·subst O
    obtain rfl : v = .nilIface := y.nil rfl
    have ap := Qk7
    have p : Hid (Below w.heap.size w wr /\ OwnC wr (w.heap.size + 1) 1 (.slice V U J) (l.map (·.1) ++ Nd.no.shownL).length cs /\ Vals S (l.map (·.1) ++ Nd.no.shownL) cs) := by
     have f : l.map (·.1) ++ Nd.no.shownL = l.map (·.1) := by simp [Nd.shownL, Nd.isNo]
     have ag := a.vals
     rw [u] at ag
     rw [f, List.length_map]
     exact ⟨a.below, a.own, ag⟩
    clear a s B y hs hl hin u hk m
    go_wp2
    go_ret
    exact ⟨p.out.1, _, rfl, _, by simpa using p.out.2.1, p.out.2.2⟩
   ·obtain ⟨b, rfl, M⟩ := y.full O
    have ae : e.shown = true := by
     cases e with
     | no => exact absurd rfl O
     | stub h => exact absurd rfl (hs h)
     | _ => rfl
    have ap := Qvp e ae ⟨b, 0, none⟩
    have f : l.map (·.1) ++ e.shownL = l.map (·.1) ++ [e] := by
     unfold Nd.shownL
     rw [if_neg (fun h => O (Nd.isNo_iff.1 h))]
    have c : Hid (l.length <= 1000 /\ ndV S (.iface (ndTy e) (.pointer (some ⟨b, 0, none⟩))) e /\ l.map (·.1) ++ e.shownL = l.map (·.1) ++ [e] /\ l.take l.length = l) := ⟨hl, y, f, u⟩
    have HO : Hid (∀ W, Below wr.heap.size wr W -> OwnC W (w.heap.size + 1) 1 (.slice V U J) l.length cs) := fun W hb => a.own.below hb
    have HB : Hid (w.heap.size + 1 <= wr.heap.size) := (Array.getElem?_eq_some_iff.1 a.box).1
    have I : Hid (∀ t, (wr.alloc (.cells #[.iface (ndTy e) (.pointer (some ⟨b, 0, none⟩))] t)).rangeAt wr.heap.size 0 [.iface (ndTy e) (.pointer (some ⟨b, 0, none⟩))]) := fun t => Qap wr [.iface (ndTy e) (.pointer (some ⟨b, 0, none⟩))] t
    have Z : Hid (∀ o, Below wr.heap.size wr (wr.alloc o)) := fun o => (Below.refl _ _).alloc (Nat.le_refl _) _
    clear a s B y hs hl hin u hk m O M ae f
    go_wp2_with (at_builtin; refine Qah _ rfl _ _ 152 rfl 155 i0 .nilIface 1 16 Tryz.underlying152 hi ah ai aj rfl (by decide) (w.heap.size + 1) (.slice V U J) l.length cs rfl (HO.out _ (Z.out _)) wr.heap.size 0 1 1 [.iface (ndTy e) (.pointer (some ⟨b, 0, none⟩))] rfl rfl (I.out _) (by simp [Value.oneCell']) (by have := c.out; unfold maxLen; omega) (by have := c.out; omega) (by have := HB.out; simp; omega) ?_; intro v2 w2 j D P R; have p := Hq (Qqs HN.out (Z.out _) j D c.out.2.1); obtain ⟨p2, m2, k2, rfl⟩ := j.shape; clear j D P R)
    go_ret
    obtain ⟨y1, y2, y3, y4⟩ := p.out
    rw [c.out.2.2.2] at y2
    have K : (l.map (·.1) ++ e.shownL).length = l.length + 1 := by rw [c.out.2.2.1]; simp
    refine ⟨y3, _, rfl, cs ++ [.iface (ndTy e) (.pointer (some ⟨b, 0, none⟩))], ?_, ?_⟩
    ·have e3 : l.length + e.shownL.length = l.length + 1 := by rw [List.length_append, List.length_map] at K; exact K
     first | (rw [K]; exact y1) | (rw [e3]; exact y1)
    ·rw [c.out.2.2.1]; exact y2
def codeFn : Nd -> FuncId
 | .leaf _ _ => 139
 | .ext _ _ => 180
 | .br _ => 169
 | _ => 0
theorem QDs (t : Nd) (ht : t.shown = true) (a : Addr) (w : World) : (Go.method 386 (ndTy t) (.pointer (some a)) "twigs/tree.code").run Tryz.prog w = .ok (codeFn t, .pointer (some a)) w := by
 cases t with
 | leaf _ _ => kernel_rfl
 | ext _ _ => kernel_rfl
 | br _ => kernel_rfl
 | _ => simp [Nd.shown] at ht
theorem QD2 (t : Nd) (ht : t.shown = true) (args : Array Value) (w : World) : (callFunc (codeFn t) args).run Tryz.prog w = .ok (.enter (codeFn t) args) w := by
 cases t with
 | leaf _ _ => kernel_rfl
 | ext _ _ => kernel_rfl
 | br _ => kernel_rfl
 | _ => simp [Nd.shown] at ht
theorem QD3 (t : Nd) (ht : t.shown = true) (a : Addr) (w : World) : (nilAhead 386 (ndTy t) (.pointer (some a)) "twigs/tree.code").run Tryz.prog w = .ok (some false) w := by
 cases t with
 | leaf _ _ => kernel_rfl
 | ext _ _ => kernel_rfl
 | br _ => kernel_rfl
 | _ => simp [Nd.shown] at ht
variable {B : Nat}
theorem Qz0 (hf : Forest B S w) (hT : Tabs w) (hM : 15 <= B) (hb : S b = some t) (ht : t.shown = true) :
  Calls Tryz.prog (codeFn t) #[.pointer (some ⟨b, 0, none⟩)] w fun e w' => e = .returned (.string (textB t.code)) /\ Fr B S S w w' := by
 cases t with
 | leaf _ _ => exact Qmt hf hb
 | ext p t =>
  have := hf.ok b _ hb
  rw [Nd.ok] at this
  exact Qps hf hT hM hb (Qhk B S t this.2.2)
 | br ks => exact Qtq hf hT hM hb (Qky B S ks)
 | _ => simp [Nd.shown] at ht
def provL : List Nd -> List (List Nat)
 | [] => []
 | t :: ts => t.code :: (ts.map Nd.code).filter (fun c => decide (32 <= c.length))
theorem Qk8 (ts : List Nd) (t : Nd) : provL (ts ++ [t]) = if provL ts = [] \/ 32 <= t.code.length then provL ts ++ [t.code] else provL ts := by
 cases ts with
 | nil => simp [provL]
 | cons s ts =>
  simp only [provL, List.cons_append, List.map_append, List.filter_append, List.map_cons, List.map_nil, List.filter_cons, List.filter_nil]
  by_cases h : 32 <= t.code.length
  ·simp [h]
  ·simp [h]
theorem Qgs (ts : List Nd) : (provL ts).length <= ts.length := by
 cases ts with
 | nil => simp [provL]
 | cons s ts =>
  have := List.length_filter_le (fun c : List Nat => decide (32 <= c.length)) (ts.map Nd.code)
  simp only [provL, List.length_cons]
  rw [List.length_map] at this
  omega
def strs (L : List (List Nat)) : List Value := L.map fun c => .string (textB c)
theorem OwnC.frame {C size : Nat} {S' : Wood} {w' : World} {n : Nat} (h : OwnC w C size v n cs) (hf : Fr B S S' w w') (hn : ∀ k, v.ownBlock = some k -> S k = none) : OwnC w' C size v n cs :=
 h.keep hf.size fun k hk e => hf.other k hk (hn k e)
structure PIn (B : Nat) (S : Wood) (W1 : World) (ts : List Nd) (k : Nat) (res : Value) (wr : World) : Prop where
 fr : Fr B S S W1 wr
 own : OwnC wr W1.heap.size 1 res (provL (ts.take k)).length (strs (provL (ts.take k)))
theorem PIn.none {B : Nat} {S : Wood} {W1 : World} {ts : List Nd} {k : Nat} {res : Value} {wr : World} (h : PIn B S W1 ts k res wr) (hf : Forest B S W1) : ∀ g, res.ownBlock = some g -> S g = none := fun g hg => hf.fresh (h.own.block g hg).1
theorem PIn.frame {B : Nat} {S : Wood} {W1 : World} {ts : List Nd} {k : Nat} {res : Value} {wr w2 : World} (h : PIn B S W1 ts k res wr) (hf : Forest B S W1) (hr : Fr B S S wr w2) : PIn B S W1 ts k res w2 := ⟨h.fr.trans hr, h.own.frame hr (h.none hf)⟩
theorem Qk9 {e : Nd} {K : Array Nat} {p r' : ByteArray} (hf : Forest B S w) (hTb : Tabs w) (hM : 15 <= B) (ht : TreeAt S w b t) (hK : K.size = 32) (hKb : Bytes K) (hp : textB (nibs K.toList) = p) (hfit : t.fits p.size) (hn : ∀ x ∈ bytesOf p, x < 16) (hps : p.size <= 64) (hT : WayTo t p l e r') (hs : ∀ h, e ≠ .stub h) (hl : l.length <= 64) (hin : ∀ x ∈ l, x.1.inner = true) :
  Calls Tryz.prog 41 #[.pointer (some ⟨b, 0, none⟩), .agg (K.toList.map encB).toArray] w fun x w' => ∃ res, x = .returned (.tuple #[res, .nilIface]) /\ Fr B S S w w' /\ OwnC w' w.heap.size 1 res (provL (l.map (·.1) ++ e.shownL)).length (strs (provL (l.map (·.1) ++ e.shownL))) := by
 obtain ⟨i0, hi, bv, bx, bz⟩ := info_parts strZ
 obtain ⟨Kc, T⟩ : ∃ Kc, (K.toList.map encB).toArray = Kc := ⟨_, rfl⟩
 obtain ⟨W0, U⟩ : ∃ W0, w.alloc (.cells Kc 42) = W0 := ⟨_, rfl⟩
 have ar : W0.rangeAt w.heap.size 0 (K.toList.map encB) := fun j u hu => by
  rw [<- U, Nat.zero_add, World.cell?_alloc_new, <- T]
  simpa using hu
 have ai : Below w.heap.size w W0 := by rw [<- U]; exact (Below.refl _ _).alloc (Nat.le_refl _) _
 have al := Fr.of_below hf ai
 have HW := Hq (Ql4 al.forest (ht.frame al) hK hKb hp hfit hn (by omega) hT hs)
 have ce : (Tryz.prog.info? 42).map (·.size) = some (K.toList.map encB).length := by rw [Qb4]; simp [hK]
 have m : Hid (Forest B S w /\ Tabs w /\ 15 <= B /\ (∀ h, e ≠ .stub h) /\ l.length <= 64 /\ (∀ x ∈ l, x.1.inner = true) /\ Below w.heap.size w W0 /\ w.heap.size < W0.heap.size) := ⟨hf, hTb, hM, hs, hl, hin, ai, by rw [<- U]; simp⟩
 have ax := Tryz.underlying42
 clear hf hTb hM ht hK hKb hp hfit hn hps hT hs hl hin ai al
 rw [T] at HW ⊢
 go_enter Tryz.func41, Tryz.ntmps41
 go_upto_region 1 with fail
 clear U
 rw [<- T] at HW
 clear T
 go_wp2_with (first | (refine wpList_load_mid rfl 42 _ rfl w.heap.size 0 rfl (K.toList.map encB) _ ar ax rfl ce ?_))
 refine HW.out.mono ?_
 rintro x Q ⟨bf, cw, v, rfl, hF⟩
 obtain ⟨pt, mt, ct, rfl⟩ := hF.shape
 have cf := Ql3 hF.node pt mt ct r'
 have HF := Hq hF
 have cq := hF.node.shape
 have az : Hid (Below w.heap.size w Q) := m.out.2.2.2.2.2.2.1.behind' bf
 clear bf hF ar ce ax
 obtain ⟨vv, ay⟩ : ∃ vv, v = vv := ⟨_, rfl⟩
 have ba : Hid (Followed S W0.heap.size Q l e (.slice pt mt ct) vv) := by rw [<- ay]; exact HF.out
 have ch : Hid (v = vv) := ay
 clear ay
 rcases cq with rfl | ⟨Tv, av, rfl⟩
 all_goals
  go_upto_region 5 with fail
  generalize hw2 : Q.alloc _ = w2
  have aj : Below Q.heap.size Q w2 := by rw [<- hw2]; exact (Below.refl _ _).alloc (Nat.le_refl _) _
  have HN := Hq (Qvy (r := r') (ba.out.keep aj) m.out.2.2.2.1 (by have := m.out.2.2.2.2.1; omega) (fun x hx h => by have := m.out.2.2.2.2.2.1 x hx; rw [h] at this; cases this))
  have Y : Hid (Below w.heap.size w w2) := az.out.behind' aj
  have bn : w2.rangeAt Q.heap.size 0 [.slice pt mt ct, vv, .string r'] := by rw [<- hw2, <- ch.out]; exact Qap Q [_, _, _] _
  clear aj hw2
  go_wp2_with (first | (refine wpList_load_mid rfl 112 _ rfl Q.heap.size 0 rfl _ _ bn Tryz.underlying112 rfl Qbf ?_))
  refine HN.out.mono ?_
  rintro x W1 ⟨bg, ns, cs, rfl, f, z⟩
  generalize C : l.map (·.1) ++ e.shownL = ts at f z
  obtain ⟨pn, mn, cn, rfl⟩ := f.shape
  have cm : mn = ts.length := by
   rcases f.2 with ⟨y, e2⟩ | ⟨g, I, y, _⟩
   ·simp only [Value.slice.injEq] at y; omega
   ·simp only [Value.slice.injEq] at y; exact y.2.1
  subst cm
  have n : Below w.heap.size w W1 := Y.out.behind' bg
  have s := m.out.1.below n
  have A0 : Aside (PIn B S W1 ts 0 (.slice none 0 0) W1) := ⟨Fr.refl s, OwnC.nil _ _ _⟩
  have HY : Hid (Below w.heap.size w W1 /\ Forest B S W1 /\ Tabs W1 /\ OwnC W1 (w2.heap.size + 1) 1 (.slice pn ts.length cn) ts.length cs /\ Vals S ts cs /\ ts.length <= 65 /\ (∀ t ∈ ts, t.shown = true) /\ l.map (·.1) ++ e.shownL = ts /\ w.heap.size <= w2.heap.size) := by
   refine ⟨n, s, m.out.2.1.below n (Nat.le_trans m.out.2.2.1 m.out.1.le), f, z, ?_, fun t ht => ?_, C, Y.out.size⟩
   ·rw [<- C, List.length_append, List.length_map]
    have h1 : e.shownL.length <= 1 := by unfold Nd.shownL; split <;> simp
    have := m.out.2.2.2.2.1
    omega
   ·rw [<- C] at ht
    rcases List.mem_append.1 ht with h | h
    ·obtain ⟨q, hq, rfl⟩ := List.mem_map.1 h
     have := m.out.2.2.2.2.2.1 q hq
     cases hx : q.1 <;> rw [hx] at this <;> simp [Nd.inner] at this <;> rfl
    ·unfold Nd.shownL at h
     split at h
     ·cases h
     ·rename_i hno
      obtain rfl : t = e := by simpa using h
      cases t with
      | no => exact absurd rfl hno
      | stub g => exact absurd rfl (m.out.2.2.2.1 g)
      | _ => rfl
  clear bg f z n s C HN HF ba Y az bn cf HW
  go_wp2
  go_loopg [24, 8] ts.length (fun gh i res wr => ∃ k, k <= ts.length /\ gh = ts.length - k /\ i = .int .i64 (k : Int) /\ PIn B S W1 ts k res wr)
  case atStart => exact ⟨0, Nat.zero_le _, rfl, rfl, A0.out⟩
  case round =>
   obtain ⟨k, hk, rfl, rfl, H⟩ := hrel
   clear A0
   obtain ⟨n, s, ah, f, z, ag, au, C, bo⟩ := HY.out
   obtain ⟨pr, F, cr, rfl⟩ := H.own.shape
   by_cases J : k < ts.length
   ·have i1 : (k : Int) < (ts.length : Int) := by omega
    obtain ⟨g, I, eg, cl, P⟩ : ∃ g I, Value.slice pn ts.length cn = .slice (some ⟨g, 0, none⟩) ts.length I /\ g < W1.heap.size /\ W1.rangeAt g 0 cs := by
     rcases f.2 with ⟨_, e2⟩ | ⟨g, I, y, a1, a2, _, _, _, a3⟩
     ·omega
     ·exact ⟨g, I, y, a2, a3⟩
    have bl : S g = none := by
     have cu := f.block g (by rw [eg]; rfl)
     exact m.out.1.fresh (by omega)
    simp only [Value.slice.injEq] at eg
    obtain ⟨rfl, -, rfl⟩ := eg
    have ao : k < cs.length := by rw [z.1]; exact J
    obtain ⟨td, aw⟩ : ∃ td, ts[k] = td := ⟨_, rfl⟩
    have hv := z.2 k ao J
    have d := au _ (List.getElem_mem J)
    rw [aw] at hv d
    obtain ⟨db, bi, bh⟩ := hv.full (fun h => by rw [h] at d; cases d)
    have c0 : wr.cell? ⟨g, k, none⟩ = some (.iface (ndTy td) (.pointer (some ⟨db, 0, none⟩))) := (H.fr.cell (a := ⟨g, k, none⟩) cl bl).trans (by
     have := P k cs[k] (List.getElem?_eq_getElem ao)
     rw [Nat.zero_add, bi] at this
     exact this)
    have hm := QDs td d
    have cj := QD2 td d
    have cp := QD3 td d
    have HC := Hq (Qz0 H.fr.forest (H.fr.tabs s ah m.out.2.2.1) m.out.2.2.1 bh d)
    have HP := Hq H
    have L : Hid (k < ts.length /\ ts.length <= 65 /\ ts.take (k + 1) = ts.take k ++ [td] /\ (provL (ts.take k)).length <= 65) := ⟨J, ag, by rw [List.take_add_one, List.getElem?_eq_getElem J, aw]; rfl, by have := Qgs (ts.take k); rw [List.length_take] at this; omega⟩
    have R : Hid (wrap64 ((k : Int) + 1) = ((k + 1 : Nat) : Int)) := Qeu k 1 (by omega)
    obtain ⟨cd, ak⟩ : ∃ cd, td.code = cd := ⟨_, rfl⟩
    rw [ak] at HC
    have b7 := Hq ak
    obtain ⟨sc, V⟩ : ∃ sc, textB cd = sc := ⟨_, rfl⟩
    rw [V] at HC
    have ac : Hid (textB cd = sc /\ sc.size = cd.length) := ⟨V, by rw [<- V, Qaa]⟩
    have O : F = (provL (ts.take k)).length := by
     rcases H.own.2 with ⟨y, e2⟩ | ⟨g, I, y, _⟩
     ·simp only [Value.slice.injEq] at y; omega
     ·simp only [Value.slice.injEq] at y; exact y.2.1
    clear n ah f z ag au C bo H P ao hv bi bh aw J ak V bl
    go_upto_region 9 with fail
    refine HC.out.mono ?_
    rintro x G ⟨rfl, bj⟩
    have D := Hq (HP.out.frame s bj)
    have cg := Hq s
    clear bj hm cj cp s c0 d
    by_cases c : provL (ts.take k) = [] \/ 32 <= cd.length
    ·have aa : Hid (provL (ts.take (k + 1)) = provL (ts.take k) ++ [cd]) := by
      show provL (ts.take (k + 1)) = _
      rw [L.out.2.2.1, Qk8, b7.out, if_pos c]
     have HO : Hid (∀ o, OwnC (G.alloc o) W1.heap.size 1 (.slice pr F cr) (provL (ts.take k)).length (strs (provL (ts.take k)))) := fun o => D.out.own.alloc o
     have bc : Hid (∀ t, (G.alloc (.cells #[.string sc] t)).rangeAt G.heap.size 0 [.string sc]) := fun t => Qap G [.string sc] t
     have Z : Hid (∀ o v2 X, OwnC X W1.heap.size 1 v2 ((provL (ts.take k)).length + 1) (strs (provL (ts.take k)) ++ [.string sc]) -> (G.alloc o).grownBy X (Value.ownBlock (.slice pr F cr)) -> PIn B S W1 ts (k + 1) v2 X) := fun o v2 X h1 h2 => by
      have hb : Below G.heap.size G (G.alloc o) := (Below.refl _ _).alloc (Nat.le_refl _) _
      refine ⟨(D.out.fr.behind hb).grow h2 fun j hj => ⟨(D.out.own.block j hj).1, D.out.none cg.out j hj⟩, ?_⟩
      rw [aa.out]
      have y : strs (provL (ts.take k) ++ [cd]) = strs (provL (ts.take k)) ++ [.string sc] := by unfold strs; rw [List.map_append, <- ac.out.1]; rfl
      rw [y, List.length_append]
      exact h1
     have W : Hid (W1.heap.size <= G.heap.size /\ (provL (ts.take k)).length <= 65) := ⟨D.out.fr.size, L.out.2.2.2⟩
     by_cases ap : F = 0
     ·have bm : ((F : Int) == 0) = true := by simp; omega
      clear O c ap
      go_wp2_with (at_builtin; refine Qah _ rfl _ _ 23 rfl 9 i0 (.string ⟨#[]⟩) 1 16 Tryz.underlying23 hi bv bx bz rfl (by decide) W1.heap.size (.slice pr F cr) _ _ rfl (HO.out _) G.heap.size 0 1 1 [.string sc] rfl rfl (bc.out _) (by simp [Value.oneCell']) (by have := W.out; unfold maxLen; omega) (by have := W.out; omega) (by have := W.out; simp; omega) ?_; intro v2 X E N am aq; have ae := Hq (Z.out _ _ _ E N); obtain ⟨p2, m2, k2, rfl⟩ := E.shape; clear E N am aq)
      go_roundg (ts.length - (k + 1))
      case measure => have := L.out; omega
      case rel => exact ⟨k + 1, by have := L.out; omega, rfl, by rw [R.out], ae.out⟩
     ·have bm : ((F : Int) == 0) = false := by simp; omega
      have ci : (32 : Int) <= (sc.size : Int) := by
       have := ac.out.2
       rcases c with h | h
       ·rw [h] at O; exact absurd O ap
       ·omega
      clear O c ap
      go_wp2_with (at_builtin; refine Qah _ rfl _ _ 23 rfl 9 i0 (.string ⟨#[]⟩) 1 16 Tryz.underlying23 hi bv bx bz rfl (by decide) W1.heap.size (.slice pr F cr) _ _ rfl (HO.out _) G.heap.size 0 1 1 [.string sc] rfl rfl (bc.out _) (by simp [Value.oneCell']) (by have := W.out; unfold maxLen; omega) (by have := W.out; omega) (by have := W.out; simp; omega) ?_; intro v2 X E N am aq; have ae := Hq (Z.out _ _ _ E N); obtain ⟨p2, m2, k2, rfl⟩ := E.shape; clear E N am aq)
      go_roundg (ts.length - (k + 1))
      case measure => have := L.out; omega
      case rel => exact ⟨k + 1, by have := L.out; omega, rfl, by rw [R.out], ae.out⟩
    ·have aa : Hid (provL (ts.take (k + 1)) = provL (ts.take k)) := by
      show provL (ts.take (k + 1)) = _
      rw [L.out.2.2.1, Qk8, b7.out, if_neg c]
     have bm : ((F : Int) == 0) = false := by
      have : F ≠ 0 := fun e => c (.inl (List.eq_nil_of_length_eq_zero (by omega)))
      simp
      omega
     have ci : (sc.size : Int) < 32 := by
      have := ac.out.2
      have : ¬ 32 <= cd.length := fun h => c (.inr h)
      omega
     clear O c
     go_wp2
     go_roundg (ts.length - (k + 1))
     case measure => have := L.out; omega
     case rel => exact ⟨k + 1, by have := L.out; omega, rfl, by rw [R.out], D.out.fr, by rw [aa.out]; exact D.out.own⟩
   ·obtain rfl : k = ts.length := by omega
    have i1 : ¬ (ts.length : Int) < (ts.length : Int) := by omega
    have HE : Hid (Fr B S S w wr /\ OwnC wr w.heap.size 1 (.slice pr F cr) (provL (l.map (·.1) ++ e.shownL)).length (strs (provL (l.map (·.1) ++ e.shownL)))) := by
     refine ⟨(Fr.of_below m.out.1 n).trans H.fr, ?_⟩
     have := H.own
     rw [List.take_length] at this
     rw [C]
     exact this.mono n.size
    clear n s ah f z ag au C bo H
    go_wp2
    go_ret2
    exact ⟨_, rfl, HE.out.1, HE.out.2⟩
def Nd.ways : Nat -> Nd -> ByteArray -> List Nd
 | 0, t, _ => t.shownL
 | n + 1, t, r => if (t.next r).1.isNo = true then t.shownL else t :: (t.next r).1.ways n (r.extract (t.next r).2 r.size)
theorem WayTo.ways {t : Nd} {r : ByteArray} {l : List (Nd × ByteArray)} {e : Nd} {r' : ByteArray} (h : WayTo t r l e r') : ∀ n, t.fits r.size -> r.size <= n -> l.map (·.1) ++ e.shownL = t.ways n r := by
 induction h with
 | stop h =>
  intro n _ _
  cases n with
  | zero => rfl
  | succ n => rw [Nd.ways, if_pos (Nd.isNo_iff.2 h)]; rfl
 | go hn _ ih =>
  intro n a c
  obtain ⟨d, f, b⟩ := Nd.next_fits a hn
  cases n with
  | zero => omega
  | succ n =>
   rw [Nd.ways, if_neg (by rw [Qd3 hn]; simp)]
   rw [List.map_cons, List.cons_append, ih n (by rw [Qa6]; exact b) (by rw [Qa6]; omega)]
theorem WayTo.inner {t : Nd} {r : ByteArray} {l : List (Nd × ByteArray)} {e : Nd} {r' : ByteArray} (h : WayTo t r l e r') : ∀ x ∈ l, x.1.inner = true := by
 induction h with
 | stop h => intro x a; cases a
 | @go t r _ _ _ hn _ ih =>
  intro x a
  rcases List.mem_cons.1 a with rfl | a
  ·cases ht : t.inner with
   | true => rfl
   | false => exact absurd (Nd.next_not ht r) hn
  ·exact ih x a
def Nd.prove (t : Nd) (p : ByteArray) : List (List Nat) := provL (t.ways 64 p)
theorem Qcr (s : ByteArray) : textB (bytesOf s) = s := Qav (by rw [Qa5 (Qao s)])
def Nd.selI (t : Nd) (x : It) : It :=
 match t with
 | .no => .text 0 0 []
 | .stub h => .text 0 0 h
 | _ => if t.code.length < 32 then x else .text 0 0 (digB t.code)
def Nd.selN (t : Nd) (x : Nd) : Nd :=
 match t with
 | .no => .no
 | .stub h => .stub h
 | _ => if t.code.length < 32 then x else .stub (digB t.code)
mutual
def Nd.it : Nd -> It
 | .no => .text 0 0 []
 | .leaf p v => .list 0 0 [.text 0 0 (pathCode (bytesOf p) true), .text 0 0 (bytesOf v)]
 | .ext p t => .list 0 0 [.text 0 0 (pathCode (bytesOf p) false), t.selI t.it]
 | .br ks => .list 0 0 (kidIts ks ++ [.text 0 0 []])
 | .stub h => .text 0 0 h
def kidIts : List Nd -> List It
 | [] => []
 | x :: xs => x.selI x.it :: kidIts xs
end
mutual
def Nd.cut : Nd -> Nd
 | .no => .no
 | .leaf p v => .leaf p v
 | .ext p t => .ext p (t.selN t.cut)
 | .br ks => .br (cutKs ks)
 | .stub h => .stub h
def cutKs : List Nd -> List Nd
 | [] => []
 | x :: xs => x.selN x.cut :: cutKs xs
end
def Nd.rit (t : Nd) : It := t.selI t.it
def Nd.rcut (t : Nd) : Nd := t.selN t.cut
theorem Qka : ∀ ks : List Nd, kidIts ks = ks.map Nd.rit
 | [] => rfl
 | x :: xs => by rw [kidIts, Qka xs]; rfl
theorem Qo4 : ∀ ks : List Nd, cutKs ks = ks.map Nd.rcut
 | [] => rfl
 | x :: xs => by rw [cutKs, Qo4 xs]; rfl
theorem Qm2 (ks : List Nd) : (Nd.br ks).it = .list 0 0 (ks.map Nd.rit ++ [.text 0 0 []]) := by rw [Nd.it, Qka]
theorem Qkb (p : ByteArray) (t : Nd) : (Nd.ext p t).it = .list 0 0 [.text 0 0 (pathCode (bytesOf p) false), t.rit] := by rw [Nd.it]; rfl
theorem Qkc (ks : List Nd) : (Nd.br ks).cut = .br (ks.map Nd.rcut) := by rw [Nd.cut, Qo4]
theorem Qg9 (p : ByteArray) (t : Nd) : (Nd.ext p t).cut = .ext p t.rcut := by rw [Nd.cut]; rfl
theorem Nd.shown_sel (h1 : t ≠ .no) (h2 : ∀ g, t ≠ .stub g) : (∀ c, t.sel c = refOf c) /\ (∀ x, t.selI x = if t.code.length < 32 then x else .text 0 0 (digB t.code)) /\ (∀ x, t.selN x = if t.code.length < 32 then x else .stub (digB t.code)) := by
 cases t with
 | no => exact absurd rfl h1
 | stub g => exact absurd rfl (h2 g)
 | _ => exact ⟨fun _ => rfl, fun _ => rfl, fun _ => rfl⟩
theorem Qvz (a b : List It) : codes (a ++ b) = codes a ++ codes b := by
 induction a with
 | nil => rw [codes]; rfl
 | cons x a ih => rw [List.cons_append, codes, codes, ih, List.append_assoc]
mutual
theorem Qga : ∀ t : Nd, t ≠ .no -> (∀ g, t ≠ .stub g) -> t.it.code = t.code
 | .no, h, _ => absurd rfl h
 | .stub g, _, h => absurd rfl (h g)
 | .leaf p v, _, _ => by
  rw [Nd.it, It.code, Nd.code, codes, codes, codes, It.code, It.code, List.append_nil]
 | .ext p t, _, _ => by
  rw [Qkb, It.code, Nd.ref_ext, codes, codes, codes, It.code, List.append_nil, Qgz t]
 | .br ks, _, _ => by
  rw [Qm2, It.code, Nd.code, Qvz, Qo5 ks, codes, codes, It.code, List.append_nil]
theorem Qgz : ∀ t : Nd, t.rit.code = t.ref
 | .no => by unfold Nd.rit Nd.selI; rw [It.code]; rfl
 | .stub g => by unfold Nd.rit Nd.selI; rw [It.code]; rfl
 | .leaf p v => by
  have := Qga (.leaf p v) (by simp) (by simp)
  unfold Nd.rit Nd.ref
  rw [(Nd.shown_sel (t := .leaf p v) (by simp) (by simp)).1, (Nd.shown_sel (t := .leaf p v) (by simp) (by simp)).2.1, refOf]
  split
  ·exact this
  ·rw [It.code]
 | .ext p t => by
  have := Qga (.ext p t) (by simp) (by simp)
  unfold Nd.rit Nd.ref
  rw [(Nd.shown_sel (t := .ext p t) (by simp) (by simp)).1, (Nd.shown_sel (t := .ext p t) (by simp) (by simp)).2.1, refOf]
  split
  ·exact this
  ·rw [It.code]
 | .br ks => by
  have := Qga (.br ks) (by simp) (by simp)
  unfold Nd.rit Nd.ref
  rw [(Nd.shown_sel (t := .br ks) (by simp) (by simp)).1, (Nd.shown_sel (t := .br ks) (by simp) (by simp)).2.1, refOf]
  split
  ·exact this
  ·rw [It.code]
theorem Qo5 : ∀ ks : List Nd, codes (ks.map Nd.rit) = refs ks
 | [] => by rw [List.map_nil, codes, refs]
 | x :: xs => by rw [List.map_cons, codes, Qbh, Qgz x, Qo5 xs]
end
mutual
theorem Qm3 : ∀ t : Nd, t.it.bare = t.it
 | .no => by rw [Nd.it, It.bare]
 | .stub g => by rw [Nd.it, It.bare]
 | .leaf p v => by rw [Nd.it, It.bare, bares, bares, bares, It.bare, It.bare]
 | .ext p t => by rw [Qkb, It.bare, bares, bares, bares, It.bare, Qqt t]
 | .br ks => by
  rw [Qm2, It.bare, Qc5, List.map_append, <- Qc5, Qo6 ks]
  simp [It.bare]
theorem Qqt : ∀ t : Nd, t.rit.bare = t.rit
 | .no => by unfold Nd.rit Nd.selI; rw [It.bare]
 | .stub g => by unfold Nd.rit Nd.selI; rw [It.bare]
 | .leaf p v => by
  have := Qm3 (.leaf p v)
  unfold Nd.rit
  rw [(Nd.shown_sel (t := .leaf p v) (by simp) (by simp)).2.1]
  split
  ·exact this
  ·rw [It.bare]
 | .ext p t => by
  have := Qm3 (.ext p t)
  unfold Nd.rit
  rw [(Nd.shown_sel (t := .ext p t) (by simp) (by simp)).2.1]
  split
  ·exact this
  ·rw [It.bare]
 | .br ks => by
  have := Qm3 (.br ks)
  unfold Nd.rit
  rw [(Nd.shown_sel (t := .br ks) (by simp) (by simp)).2.1]
  split
  ·exact this
  ·rw [It.bare]
theorem Qo6 : ∀ ks : List Nd, bares (ks.map Nd.rit) = ks.map Nd.rit
 | [] => by rw [List.map_nil, bares]
 | x :: xs => by rw [List.map_cons, bares, Qqt x, Qo6 xs]
end
theorem ref_pos (t : Nd) : 0 < t.ref.length := by
 rw [<- Qgz t]
 exact Qpi _
theorem Qpd : ∀ ks : List Nd, ks.length <= (refs ks).length
 | [] => by simp
 | x :: xs => by
  rw [Qbh, List.length_append, List.length_cons]
  have := ref_pos x
  have := Qpd xs
  omega
theorem Qqu {x : Nd} : ∀ {ks : List Nd}, x ∈ ks -> x.ref.length + ks.length <= (refs ks).length + 1
 | y :: ks, h => by
  rw [Qbh, List.length_append, List.length_cons]
  rcases List.mem_cons.1 h with rfl | h
  ·have := Qpd ks
   omega
  ·have := Qqu h
   have := ref_pos y
   omega
theorem QB5 {ks : List Nd} (hl : ks.length = 16) : 18 <= (Nd.br ks).code.length /\ ∀ x ∈ ks, x.ref.length + 17 <= (Nd.br ks).code.length := by
 rw [Nd.code, listCode, List.length_append, List.length_append]
 have a := Qcs 192 (refs ks ++ textCode []).length
 rw [List.length_append] at a
 have c : 0 < (textCode []).length := (Qb9 []).1
 refine ⟨by have := Qpd ks; omega, fun x b => ?_⟩
 have := Qqu b
 omega
theorem QD4 (p : ByteArray) (t : Nd) : t.ref.length + 2 <= (Nd.ext p t).code.length := by
 rw [Nd.ref_ext, listCode, List.length_append, List.length_append]
 have a := Qcs 192 (textCode (pathCode (bytesOf p) false) ++ t.ref).length
 rw [List.length_append] at a
 have b := (Qb9 (pathCode (bytesOf p) false)).1
 omega
theorem Qw0 (h1 : t ≠ .no) (h2 : ∀ g, t ≠ .stub g) (h : t.ref.length < 32) : t.code.length < 32 /\ t.ref = t.code := by
 have e : t.ref = refOf t.code := (Nd.shown_sel h1 h2).1 _
 rw [e] at h ⊢
 unfold refOf at h ⊢
 split
 ·rename_i h3; exact ⟨h3, rfl⟩
 ·rename_i h3
  rw [if_neg h3, Qbu (Qak _)] at h
  omega
theorem Qiw (h1 : t ≠ .no) (h2 : ∀ g, t ≠ .stub g) (h : t.code.length < 32) : t.ref = t.code := by
 have e : t.ref = refOf t.code := (Nd.shown_sel h1 h2).1 _
 rw [e, refOf, if_pos h]
theorem Qb5 : ∀ (n : Nat) (x : It), fits n x -> fits (n + 1) x
 | _, .text _ _ _, _ => by cases ‹Nat› <;> exact trivial
 | 0, .list _ _ _, h => h.elim
 | n + 1, .list _ _ l, h => fun x hx => Qb5 n x (h x hx)
theorem Qbb (n a b : Nat) (s : List Nat) : fits n (.text a b s) := by cases n <;> exact trivial
theorem Qix (p v : ByteArray) : fits 1 (Nd.leaf p v).it := by
 rw [Nd.it]
 intro x a
 rcases List.mem_cons.1 a with rfl | a
 ·exact trivial
 ·rcases List.mem_cons.1 a with rfl | a
  ·exact trivial
  ·cases a
theorem Qe2 (t : Nd) (h1 : t ≠ .no) (h2 : ∀ g, t ≠ .stub g) : (t.code.length < 32 /\ t.rit = t.it /\ t.rcut = t.cut) \/ (¬ t.code.length < 32 /\ t.rit = .text 0 0 (digB t.code) /\ t.rcut = .stub (digB t.code)) := by
 obtain ⟨_, a, b⟩ := Nd.shown_sel h1 h2
 by_cases h : t.code.length < 32
 ·exact .inl ⟨h, by rw [Nd.rit, a, if_pos h], by rw [Nd.rcut, b, if_pos h]⟩
 ·exact .inr ⟨h, by rw [Nd.rit, a, if_neg h], by rw [Nd.rcut, b, if_neg h]⟩
theorem Qw1 : ∀ ks : List Nd, oks ks -> (refs ks).length <= 33 * ks.length
 | [], _ => by simp [refs]
 | x :: xs, h => by
  rw [oks] at h
  rw [Qbh, List.length_append, List.length_cons]
  have := x.ref_le h.1
  have := Qw1 xs h.2
  omega
variable {y : It}
theorem Qc6 {s : List Nat} (h : y.bare = .text 0 0 s) : ∃ a b, y = .text a b s := by
 cases y with
 | text a b t => rw [It.bare] at h; cases h; exact ⟨a, b, rfl⟩
 | list a b l => rw [It.bare] at h; cases h
theorem Qe3 {l : List It} (h : y.bare = .list 0 0 l) : ∃ a b m, y = .list a b m /\ bares m = l := by
 cases y with
 | text a b t => rw [It.bare] at h; cases h
 | list a b m => rw [It.bare] at h; cases h; exact ⟨a, b, m, rfl, rfl⟩
theorem Qqv {N a : Nat} {m : List It} (h : (It.list a b m).good N) : b - a = (It.list a b m).bare.code.length := by
 rw [It.good] at h
 rw [Qnx, It.code]
 exact h.2.2.1.symm
theorem Qw2 (hb : y.bare = Nd.no.rit) : y.emp = true /\ y.isRef = false := by
 obtain ⟨a, b, rfl⟩ := Qc6 (s := []) hb
 exact ⟨by simp [It.emp], by simp [It.isRef]⟩
theorem Qqw (ks : List Nd) : ∀ k, k <= ks.length -> cntN ks k = ((ks.take k).map one).sum
 | 0, _ => rfl
 | k + 1, h => by
  rw [Qcy, Qqw ks k (by omega), List.take_add_one, List.getElem?_eq_getElem (by omega), List.getD_eq_getElem?_getD, List.getElem?_eq_getElem (by omega)]
  simp only [Option.toList_some, List.map_append, List.sum_append, List.map_cons, List.map_nil, List.sum_cons, List.sum_nil, Nat.add_zero, Option.getD_some]
theorem QD5 (h : t ≠ .no) : t.cut ≠ .no := by
 cases t with
 | no => exact absurd rfl h
 | leaf p v => rw [Nd.cut]; simp
 | ext p t => rw [Qg9]; simp
 | br ks => rw [Qkc]; simp
 | stub g => rw [Nd.cut]; simp
theorem QB6 (h : t ≠ .no) : t.rcut ≠ .no := by
 by_cases a : ∃ g, t = .stub g
 ·obtain ⟨g, rfl⟩ := a
  unfold Nd.rcut Nd.selN
  simp
 ·rcases Qe2 t h (fun g e => a ⟨g, e⟩) with ⟨_, _, e⟩ | ⟨_, _, e⟩
  ·rw [e]; exact QD5 h
  ·rw [e]; simp
theorem Qm4 (t : Nd) (r : ByteArray) : t.cut.next r = ((t.next r).1.rcut, (t.next r).2) := by
 cases t with
 | no => rw [Nd.cut]; rfl
 | leaf p v => rw [Nd.cut]; rfl
 | stub g => rw [Nd.cut]; rfl
 | ext p t =>
  rw [Qg9]
  simp only [Nd.next]
  split <;> rfl
 | br ks =>
  rw [Qkc]
  simp only [Nd.next]
  rw [List.getD_eq_getElem?_getD, List.getElem?_map, List.getD_eq_getElem?_getD]
  cases ks[(bytesOf r)[0]!]? <;> rfl
theorem Qiy (h : t ≠ .no) (n : Nat) (r : ByteArray) : ∃ ts, t.ways n r = t :: ts := by
 have a : t.shownL = [t] := by unfold Nd.shownL; rw [Qd3 h]; rfl
 cases n with
 | zero => exact ⟨[], a⟩
 | succ n =>
  rw [Nd.ways]
  split
  ·exact ⟨[], a⟩
  ·exact ⟨_, rfl⟩
def longs (ts : List Nd) : List (List Nat) := (ts.map Nd.code).filter (fun c => decide (32 <= c.length))
theorem Qei (t : Nd) (ts : List Nd) : provL (t :: ts) = t.code :: longs ts := rfl
theorem Qz1 (p : ByteArray) : Nd.no.prove p = [] := by
 unfold Nd.prove
 rw [Nd.ways, if_pos (show (Nd.no.next p).1.isNo = true from rfl)]
 rfl
theorem Qs5 (h : t ≠ .no) (p : ByteArray) : ∃ L, t.prove p = t.code :: L := by
 obtain ⟨b, a⟩ := Qiy h 64 p
 exact ⟨_, by rw [Nd.prove, a, Qei]⟩
end Go.Proofs.YtakidhihbgfjlaaGreatDoor
