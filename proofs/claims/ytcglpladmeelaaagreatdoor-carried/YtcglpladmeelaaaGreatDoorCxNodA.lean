/-
  Nodes: the code of a leaf, an extension, a branch; the reference to a node (reference, work, referenceBy).
  A call through an interface: the method's function is entered.
  Nodes: the code of an extension and of a branch; the reference to a node, worked out once (work, reference).
  Nodes: the reference to a node is worked out once (work); the four kinds' reference; so it is given of any node.
  Nodes: the reference to any node; the digest of a node; the root.
  Nodes: the digest of a node; the root of a tree.
  Trees: a tree's cell; its root.
-/
import Derived.Test.YtcglpladmeelaaaGreatDoorCxNdA
import Derived.Test.YtcglpladmeelaaaGreatDoorCxAccH
import Derived.Test.YtcglpladmeelaaaGreatDoorCxBase
namespace Go.Proofs.YtcglpladmeelaaaGreatDoor
open Go.RowKit
set_option maxRecDepth 100000
set_option maxHeartbeats 25600000
theorem Fr.grow {B : Nat} {S S' : Wood} {w w1 w2 : World} {o : Option Nat} (h : Fr B S S' w w1) (g : w1.grownBy w2 o) (ho : ∀ k, o = some k -> w.heap.size <= k /\ S' k = none) : Fr B S S' w w2 := by
 have i := g.size
 refine ⟨g.os.trans h.os, g.tape.trans h.tape, g.output.trans h.output, Nat.le_trans h.size g.size, fun k a f => ?_, h.forest.keep g.size fun k t a => ?_, h.sub, h.new, fun b t c j d => (World.cell?_of_block (g.block b (h.forest.lt (h.sub b t c)) fun e => ?_)).trans (h.kids b t c j d)⟩
 ·have := h.size
  refine (g.block k (by omega) fun e => ?_).trans (h.other k a f)
  have := (ho k e.symm).1
  omega
 ·refine g.block k (h.forest.lt a) fun e => ?_
  rw [(ho k e.symm).2] at a
  cases a
 ·have := h.sub b t c
  rw [(ho b e.symm).2] at this
  cases this
theorem Own.frame {B C : Nat} {S S' : Wood} {w w' : World} {v : Value} {l : List Nat} (h : Own w C v l) (hf : Fr B S S' w w') (hn : ∀ k, C <= k -> S k = none) : Own w' C v l :=
 h.keep hf.size fun k hk hv => hf.other k hk (hn k (h.block k hv).1)
theorem NdAt.cell {S : Wood} {w : World} {b : Nat} {t : Nd} (h : NdAt S w b t) : ∃ g r, heldOK t g /\ NdRest S t r /\ w.cell? ⟨b, 0, none⟩ = some (.string g) /\ w.rangeAt b 1 r /\ (∀ j, w.frozen? ⟨b, j, none⟩ = false) /\ w.heap[b]? = some (.cells (.string g :: r).toArray (ndObj t) (0, 0)) := by
 obtain ⟨g, r, c, d, a⟩ := h
 refine ⟨g, r, c, d, ?_, fun j v e => ?_, fun j => ?_, a⟩
 ·simp [World.cell?, a]
 ·simp [World.cell?, a, Nat.add_comm 1 j, e]
 ·simp [World.frozen?, a]
theorem refby_any (l : List Nat) (hl : l.length = 32) (hb : ∀ x ∈ l, x < 256) (w : World) :
  Calls Tryz.prog 81 #[.agg (l.map encB).toArray] w fun e w' => e = .returned (.string (textB (textCode l))) /\ Below w.heap.size w w' := by
 obtain ⟨A, b⟩ : ∃ A, (l.map encB).toArray = A := ⟨_, rfl⟩
 have d : (w.alloc (.cells A 38)).rangeAt w.heap.size 0 (l.map encB) := fun j v h => by
  rw [Nat.zero_add, World.cell?_alloc_new, <- b]
  simpa using h
 rw [b]
 have i := run_range_text (P := Tryz.prog) (w.alloc (.cells A 38)) 76 9 5 Tryz.underlying76 Tryz.underlying5 Tryz.underlying9 d 32 32 hl.symm
 have c : Hid (l.length = 32 /\ ∀ x ∈ l, x < 256) := ⟨hl, hb⟩
 clear b d hl hb
 go_enter Tryz.func81, Tryz.ntmps81
 go_wp2_with fail
 refine (text_any (B := w.heap.size) (l := []) (textB l) _ (Own.nil _ _) (by simp) (by rw [textB_size, c.out.1]; omega) (by simp)).mono ?_
 rintro e f ⟨o, rfl, a⟩
 rw [bytesOf_textB c.out.2, List.nil_append] at a
 obtain ⟨m, k, rfl⟩ := a.own.shape'
 have n := run_own_text (P := Tryz.prog) f 76 9 5 Tryz.underlying76 Tryz.underlying5 Tryz.underlying9 a.own
 have g : Aside (Below w.heap.size w f) := a.below (Own.nil _ _) ((Below.refl _ _).alloc (Nat.le_refl _) _) (by simp)
 clear a i
 go_wp2
 go_ret
 exact ⟨rfl, g.out⟩
theorem leaf_code {B : Nat} {S : Wood} {w : World} {b : Nat} {p v : ByteArray} (hf : Forest B S w) (hb : S b = some (.leaf p v)) :
  Calls Tryz.prog 128 #[.pointer (some ⟨b, 0, none⟩)] w fun e w' => e = .returned (.string (textB (Nd.leaf p v).code)) /\ Fr B S S w w' := by
 obtain ⟨g, r, _, s, F, t, _, _⟩ := (hf.node b _ hb).cell
 have s : r = [.string p, .string v] := s
 subst s
 have M : w.cell? ⟨b, 1, none⟩ = some (.string p) := t 0 _ rfl
 have G : w.cell? ⟨b, 2, none⟩ = some (.string v) := t 1 _ rfl
 have z := hf.lt hb
 have i := hf.ok b _ hb
 rw [Nd.ok] at i
 have a : Hid (nibOK p /\ v.size <= 1024) := i
 have E := Hid.hide hf
 obtain ⟨C, q⟩ : ∃ C, (Nd.leaf p v).code = C := ⟨_, rfl⟩
 obtain ⟨L, j⟩ : ∃ L, textCode (pathCode (bytesOf p) true) ++ textCode (bytesOf v) = L := ⟨_, rfl⟩
 have D : Hid (listCode L = C) := by rw [<- q, Nd.code, j]; exact rfl
 have y : Hid (textCode (pathCode (bytesOf p) true) ++ textCode (bytesOf v) = L /\ L.length <= 2000) := by
  refine ⟨j, ?_⟩
  have := textCode_length (pathCode (bytesOf p) true); rw [pathCode_length, bytesOf_length] at this; have := a.out.1.1; have := textCode_length (bytesOf v); have := bytesOf_length v; have := a.out.2
  rw [<- j, List.length_append]
  omega
 rw [q]
 clear hf hb t i F q j
 go_enter Tryz.func128, Tryz.ntmps128
 go_wp2_with fail
 refine (code_any p true _ (by have := a.out.1.1; omega) a.out.1.2).mono ?_
 rintro e H ⟨rfl, o⟩
 have k := Hid.hide o
 clear o
 go_wp2_with fail
 refine (text_any (B := w.heap.size) (l := []) (textB (pathCode (bytesOf p) true)) H (Own.nil _ _) k.out.size (by rw [textB_size, pathCode_length, bytesOf_length]; have := a.out.1.1; omega) (by simp)).mono ?_
 rintro e I ⟨X, rfl, c⟩
 rw [bytesOf_textB (pathCode_byte true a.out.1.2), List.nil_append] at c
 have h := Hid.hide (acc_step k.out (Own.nil _ _) c)
 obtain ⟨T, O, rfl⟩ := c.own.shape'
 have n := Hid.hide c.own
 have N := (h.out.cell (p := ⟨b, 2, none⟩) z).trans G
 clear c
 go_wp2_with fail
 refine (text_any (B := w.heap.size) v I n.out h.out.size (by have := a.out.2; omega) (by have := textCode_length (pathCode (bytesOf p) true); rw [pathCode_length, bytesOf_length] at this; have := a.out.1.1; omega)).mono ?_
 rintro e J ⟨Y, rfl, d⟩
 rw [y.out.1] at d
 have m := Hid.hide (acc_step h.out n.out d)
 obtain ⟨U, Q, rfl⟩ := d.own.shape'
 have x := Hid.hide d.own
 clear d
 go_wp2_with fail
 refine (list_any (B := w.heap.size) (v := .slice none 0 0) (l := []) J (Own.nil _ _) x.out (by simp [Value.ownBlock]) m.out.size (by have := y.out.2; omega) (by simp)).mono ?_
 rintro e K ⟨Z, rfl, f⟩
 rw [List.nil_append, D.out] at f
 have u := Hid.hide (acc_step m.out (Own.nil _ _) f)
 obtain ⟨V, R, rfl⟩ := f.own.shape'
 have W := run_own_text (P := Tryz.prog) K 76 9 5 Tryz.underlying76 Tryz.underlying5 Tryz.underlying9 f.own
 clear f
 go_wp2
 go_ret
 exact ⟨rfl, Fr.of_below E.out u.out⟩
def refFn : Nd -> FuncId
 | .no => 0
 | .leaf _ _ => 132
 | .ext _ _ => 181
 | .br _ => 169
 | .stub _ => 148
theorem mRef (t : Nd) (ht : t ≠ .no) (a : Addr) (w : World) : (Go.method 384 (ndTy t) (.pointer (some a)) "twigs/tree.reference").run Tryz.prog w = .ok (refFn t, .pointer (some a)) w := by
 cases t with
 | no => exact absurd rfl ht
 | leaf _ _ => kernel_rfl
 | ext _ _ => kernel_rfl
 | br _ => kernel_rfl
 | stub _ => kernel_rfl
theorem enRef (t : Nd) (ht : t ≠ .no) (args : Array Value) (w : World) : (callFunc (refFn t) args).run Tryz.prog w = .ok (.enter (refFn t) args) w := by
 cases t with
 | no => exact absurd rfl ht
 | leaf _ _ => kernel_rfl
 | ext _ _ => kernel_rfl
 | br _ => kernel_rfl
 | stub _ => kernel_rfl
def RefC (B : Nat) (S : Wood) (t : Nd) : Prop := ∀ (W : World) (b : Nat), Forest B S W -> Tabs W -> 15 <= B -> S b = some t -> Calls Tryz.prog (refFn t) #[.pointer (some ⟨b, 0, none⟩)] W fun e w' => e = .returned (.string (textB t.ref)) /\ Fr B S S W w'
theorem Fr.tabs {B : Nat} {S S' : Wood} {w w' : World} (h : Fr B S S' w w') (hf : Forest B S w) (hT : Tabs w) (hM : 15 <= B) : Tabs w' :=
 hT.of_blocks ((h.below hf).block 13 (by omega)) ((h.below hf).block 14 (by omega))
theorem ext_code {B : Nat} {S : Wood} {w : World} {b : Nat} {p : ByteArray} {t : Nd} (hf : Forest B S w) (hT : Tabs w) (hM : 15 <= B) (hb : S b = some (.ext p t)) (hR : RefC B S t) :
  Calls Tryz.prog 175 #[.pointer (some ⟨b, 0, none⟩)] w fun e w' => e = .returned (.string (textB (Nd.ext p t).code)) /\ Fr B S S w w' := by
 obtain ⟨i0, hi, Y, Z, aa⟩ := info_parts infoU8
 obtain ⟨g, r, _, J, c0, N, _, _⟩ := (hf.node b _ hb).cell
 obtain ⟨v, J, K⟩ : ∃ v, r = [.string p, v] /\ ndV S v t := J
 subst J
 have c1 : w.cell? ⟨b, 1, none⟩ = some (.string p) := N 0 _ rfl
 have c2 : w.cell? ⟨b, 2, none⟩ = some v := N 1 _ rfl
 have V := hf.lt hb
 have i := hf.ok b _ hb
 rw [Nd.ok] at i
 rcases K with ⟨K, _⟩ | ⟨hne, c, rfl, hc⟩
 ·exact absurd K i.2.2
 have o : Hid (nibOK p) := i.1
 have G : Hid (t.ok) := i.2.1
 have m := Hid.hide hf
 have HR : Hid (∀ W, Forest B S W -> Tabs W -> Calls Tryz.prog (refFn t) #[.pointer (some ⟨c, 0, none⟩)] W fun e w' => e = .returned (.string (textB t.ref)) /\ Fr B S S W w') := fun W h1 h2 => hR W c h1 h2 hM hc
 have U : Hid (Tabs w) := hT
 have hm := mRef t hne
 have X := enRef t hne
 have T : Hid (15 <= B) := hM
 obtain ⟨C, I⟩ : ∃ C, (Nd.ext p t).code = C := ⟨_, rfl⟩
 obtain ⟨P1, j⟩ : ∃ P1, textCode (pathCode (bytesOf p) false) = P1 := ⟨_, rfl⟩
 obtain ⟨L, s⟩ : ∃ L, P1 ++ t.ref = L := ⟨_, rfl⟩
 have F : Hid (textCode (pathCode (bytesOf p) false) = P1 /\ P1.length <= 100) := by
  refine ⟨j, ?_⟩
  have := textCode_length (pathCode (bytesOf p) false); rw [pathCode_length, bytesOf_length] at this; have := o.out.1
  rw [<- j]
  omega
 have E : Hid (listCode L = C /\ P1 ++ t.ref = L /\ L.length <= 200) := by
  refine ⟨by rw [<- I, Nd.ref_ext, j, s], s, ?_⟩
  have := t.ref_le G.out
  have := F.out.2
  rw [<- s, List.length_append]
  omega
 rw [I]
 clear hf hb N i c0 I s j hR hM hT hc
 go_enter Tryz.func175, Tryz.ntmps175
 go_wp2_with fail
 refine (code_any p false _ (by have := o.out.1; omega) o.out.2).mono ?_
 rintro e w1 ⟨rfl, D⟩
 have x := Hid.hide D
 clear D
 go_wp2_with fail
 refine (text_any (B := w.heap.size) (l := []) (textB (pathCode (bytesOf p) false)) w1 (Own.nil _ _) x.out.size (by rw [textB_size, pathCode_length, bytesOf_length]; have := o.out.1; omega) (by simp)).mono ?_
 rintro e w2 ⟨v2, rfl, d⟩
 rw [bytesOf_textB (pathCode_byte false o.out.2), List.nil_append, F.out.1] at d
 have a := Hid.hide (acc_step x.out (Own.nil _ _) d)
 obtain ⟨p2, k2, rfl⟩ := d.own.shape'
 have Q := Hid.hide d.own
 have d2 := (a.out.cell (p := ⟨b, 2, none⟩) V).trans c2
 clear d
 have H : Hid (Tabs w2) := U.out.of_blocks (a.out.block _ (by have := T.out; have := m.out.le; omega)) (a.out.block _ (by have := T.out; have := m.out.le; omega))
 go_wp2_with fail
 refine (HR.out _ (m.out.below a.out) H.out).mono ?_
 rintro e w3 ⟨rfl, q⟩
 have y : Hid (Fr B S S w w3) := (Fr.of_below m.out a.out).trans q
 have n : Hid (Own w3 w.heap.size (.slice p2 P1.length k2) P1) := Q.out.frame q fun k u => m.out.fresh u
 clear q
 go_wp2_with (at_builtin; refine wpList_append_str8 _ rfl _ _ 76 9 rfl 5 i0 Tryz.underlying76 Tryz.underlying9 hi Y Z aa w.heap.size _ P1 rfl n.out (textB t.ref) rfl ?d1 y.out.size ?_)
 case d1 => rw [textB_size]; have := F.out.2; have := t.ref_le G.out; omega
 intro v4 w4 f
 rw [bytesOf_textB (t.ref_byte G.out), E.out.2.1] at f
 have z : Hid (Fr B S S w w4) := y.out.grow f.grown fun k u => ⟨(n.out.block k u).1, m.out.fresh (n.out.block k u).1⟩
 obtain ⟨p4, k4, rfl⟩ := f.own.shape'
 have R := Hid.hide f.own
 clear f hm X
 go_wp2_with fail
 refine (list_any (B := w.heap.size) (v := .slice none 0 0) (l := []) w4 (Own.nil _ _) R.out (by simp [Value.ownBlock]) z.out.size (by have := E.out.2.2; omega) (by simp)).mono ?_
 rintro e w5 ⟨v5, rfl, h⟩
 rw [List.nil_append, E.out.1] at h
 have O : Hid (Fr B S S w w5) := z.out.grow h.grown (by simp [Value.ownBlock])
 obtain ⟨p5, k5, rfl⟩ := h.own.shape'
 have q5 := run_own_text (P := Tryz.prog) w5 76 9 5 Tryz.underlying76 Tryz.underlying5 Tryz.underlying9 h.own
 clear h
 go_wp2
 go_ret
 exact ⟨rfl, O.out⟩
theorem sizeN (w : World) : (sizeOf 61).run Tryz.prog w = .ok 1 w := by kernel_rfl
theorem run_index16 (r : List Value) (k : Nat) (hk : k < r.length) (h16 : r.length = 16) (w : World) : (Instr.index 231 (.agg r.toArray) (.int .i64 (k : Int))).run Tryz.prog w = .ok r[k] w := by
 have a : k < 16 := by omega
 have b := sizeN w
 have c : r[k]? = some r[k] := by simp [hk]
 simp [Instr.index, asIntOf, run_underlying Tryz.underlying231, a, part, b, c, go_sem]
theorem br_code {B : Nat} {S : Wood} {w : World} {b : Nat} {ks : List Nd} (hf : Forest B S w) (hT : Tabs w) (hM : 15 <= B) (hb : S b = some (.br ks)) (hR : ∀ x ∈ ks, x ≠ .no -> RefC B S x) :
  Calls Tryz.prog 164 #[.pointer (some ⟨b, 0, none⟩)] w fun e w' => e = .returned (.string (textB (Nd.br ks).code)) /\ Fr B S S w w' := by
 obtain ⟨i0, hi, aj, ak, al⟩ := info_parts infoU8
 obtain ⟨g, r, _, hr, I, rg, _, _⟩ := (hf.node b _ hb).cell
 obtain ⟨z, Y⟩ : r.length = 16 /\ ∀ i (h1 : i < r.length) (h2 : i < ks.length), ndV S r[i] ks[i] := hr
 have F := hf.ok b _ hb
 rw [Nd.ok] at F
 have ai : (Tryz.prog.info? 231).map (·.size) = some r.length := by rw [z]; kernel_rfl
 obtain ⟨C, hC⟩ : ∃ C, (Nd.br ks).code = C := ⟨_, rfl⟩
 have HC : Hid (listCode (refs ks ++ textCode []) = C) := by rw [<- hC, Nd.code]; exact rfl
 rw [hC]
 have s : Hid (ks.length = 16 /\ oks ks /\ r.length = 16) := ⟨F.1, F.2, z⟩
 have HV : Hid (∀ i (h1 : i < r.length) (h2 : i < ks.length), ndV S r[i] ks[i]) := Y
 have HR := Hid.hide hR
 have G := Hid.hide hf
 have ag : Hid (Tabs w) := hT
 have HM : Hid (15 <= B) := hM
 clear hf hT hM hb hR z Y F I hC
 go_enter Tryz.func164, Tryz.ntmps164
 go_wp2_with (refine wpList_load_mid rfl 231 _ rfl b 1 rfl r _ rg Tryz.underlying231 rfl ai ?_)
 go_loopg [3, 10] 16 (fun gh v i wr => ∃ k, k <= 16 /\ gh = 16 - k /\ i = .int .i64 (k : Int) /\ Own wr w.heap.size v (refs (ks.take k)) /\ Fr B S S w wr)
 case atStart => exact ⟨0, Nat.zero_le _, rfl, rfl, by rw [List.take_zero, refs]; exact Own.nil _ _, Fr.refl G.out⟩
 case round =>
  obtain ⟨k, hk, rfl, rfl, U, hF⟩ := hrel
  have h := Hid.hide hF
  obtain ⟨R, E⟩ : ∃ R, refs (ks.take k) = R := ⟨_, rfl⟩
  rw [E] at U
  have p : Hid (refs (ks.take k) = R /\ R.length <= 33 * 16) := by
   refine ⟨E, ?_⟩
   have h1 : oks (ks.take k) := oks_of fun x D => oks_mem s.out.2.1 (List.mem_of_mem_take D)
   have h2 := refs_le _ h1
   rw [List.length_take, E] at h2
   have := s.out.1
   omega
  obtain ⟨p0, I, rfl⟩ := U.shape'
  have y := Hid.hide U
  clear U hF E
  by_cases ao : k < 16
  ·have am : (k : Int) < 16 := by omega
   have X : k < r.length := by have := s.out.2.2; omega
   have K : k < ks.length := by have := s.out.1; omega
   have hv := HV.out k X K
   have q0 := fun w => run_index16 r k X s.out.2.2 w
   have D := List.getElem_mem K
   have N : refs (ks.take (k + 1)) = R ++ ks[k].ref := by
    rw [List.take_add_one, refs_append, p.out.1, List.getElem?_eq_getElem K, Option.toList, refs_cons, refs, List.append_nil]
   have O := oks_mem s.out.2.1 D
   obtain ⟨t, ht⟩ : ∃ t, ks[k] = t := ⟨_, rfl⟩
   rw [ht] at hv D N O
   obtain ⟨u, hu⟩ : ∃ u, r[k] = u := ⟨_, rfl⟩
   rw [hu] at hv
   simp only [hu] at q0
   have Q : Hid (refs (ks.take (k + 1)) = R ++ t.ref /\ t.ok) := ⟨N, O⟩
   clear N O ht hu
   rcases hv with ⟨rfl, rfl⟩ | ⟨hne, c, rfl, hc⟩
   ·clear D
    go_wp2_with fail
    refine (text_any (B := w.heap.size) (l := R) ⟨#[]⟩ wr y.out h.out.size (by show 0 <= _; omega) (by have := p.out.2; omega)).mono ?_
    rintro e q ⟨v1, rfl, n⟩
    have d : Grew wr q w.heap.size (.slice p0 R.length I) v1 (refs (ks.take (k + 1))) := by rw [Q.out.1]; exact n
    have f : Hid (Fr B S S w q) := h.out.grow n.grown fun j o => ⟨(y.out.block j o).1, G.out.fresh (y.out.block j o).1⟩
    have m := Hid.hide d.own
    clear n d
    go_wp2
    go_roundg (16 - (k + 1))
    case measure => omega
    case rel => exact ⟨k + 1, by omega, rfl, by simp, m.out, f.out⟩
   ·have hm := mRef t hne
    have ah := enRef t hne
    have ac := Hid.hide (HR.out t D hne)
    have ae : Hid (Tabs wr) := h.out.tabs G.out ag.out HM.out
    clear D
    go_wp2_with fail
    refine (ac.out wr c h.out.forest ae.out HM.out hc).mono ?_
    rintro e q ⟨rfl, J⟩
    have f : Hid (Fr B S S w q) := h.out.trans J
    have m : Hid (Own q w.heap.size (.slice p0 R.length I) R) := y.out.frame J fun j o => G.out.fresh o
    clear J
    go_wp2_with (at_builtin; refine wpList_append_str8 _ rfl _ _ 76 9 rfl 5 i0 Tryz.underlying76 Tryz.underlying9 hi aj ak al w.heap.size _ R rfl m.out (textB t.ref) rfl ?d1 f.out.size ?_)
    case d1 => rw [textB_size]; have := p.out.2; have := t.ref_le Q.out.2; omega
    intro v2 V a
    rw [bytesOf_textB (t.ref_byte Q.out.2), <- Q.out.1] at a
    have H : Hid (Fr B S S w V) := f.out.grow a.grown fun j o => ⟨(m.out.block j o).1, G.out.fresh (m.out.block j o).1⟩
    have ab := Hid.hide a.own
    clear a hm ah
    go_wp2
    go_roundg (16 - (k + 1))
    case measure => omega
    case rel => exact ⟨k + 1, by omega, rfl, by simp, ab.out, H.out⟩
  ·have aa : k = 16 := by omega
   subst aa
   have W : refs ks = R := by
    rw [<- p.out.1, List.take_of_length_le (by have := s.out.1; omega)]
   obtain ⟨L, T⟩ : ∃ L, R ++ textCode [] = L := ⟨_, rfl⟩
   have Z : Hid (listCode L = C /\ R ++ textCode [] = L /\ L.length <= 600) := by
    refine ⟨by rw [<- T, <- W]; exact HC.out, T, ?_⟩
    have := textCode_length []
    have := p.out.2
    rw [<- T, List.length_append]
    simp at *
    omega
   clear W T
   go_wp2_with fail
   refine (text_any (B := w.heap.size) (l := R) ⟨#[]⟩ wr y.out h.out.size (by show 0 <= _; omega) (by have := p.out.2; omega)).mono ?_
   rintro e q ⟨v1, rfl, n⟩
   have d : Grew wr q w.heap.size (.slice p0 R.length I) v1 L := by rw [<- Z.out.2.1]; exact n
   have f : Hid (Fr B S S w q) := h.out.grow n.grown fun j o => ⟨(y.out.block j o).1, G.out.fresh (y.out.block j o).1⟩
   obtain ⟨p1, c1, rfl⟩ := d.own.shape'
   have m := Hid.hide d.own
   clear n d
   go_wp2_with fail
   refine (list_any (B := w.heap.size) (v := .slice none 0 0) (l := []) q (Own.nil _ _) m.out (by simp [Value.ownBlock]) f.out.size (by have := Z.out.2.2; omega) (by simp)).mono ?_
   rintro e V ⟨v2, rfl, a⟩
   rw [List.nil_append, Z.out.1] at a
   have H : Hid (Fr B S S w V) := f.out.grow a.grown (by simp [Value.ownBlock])
   obtain ⟨p2, c2, rfl⟩ := a.own.shape'
   have q5 := run_own_text (P := Tryz.prog) V 76 9 5 Tryz.underlying76 Tryz.underlying5 Tryz.underlying9 a.own
   clear a
   go_wp2
   go_ret
   exact ⟨rfl, H.out⟩
theorem Fr.held2 {B : Nat} {S : Wood} {w Y : World} (hf : Forest B S w) {b : Nat} {t : Nd} (hb : S b = some t) (u : Value) (hY : Below w.heap.size (w.setCell ⟨b, 0, none⟩ u) Y) {h : ByteArray} (hh : heldOK t h) : Fr B S S w (Y.setCell ⟨b, 0, none⟩ (.string h)) := by
 have n : (w.setCell ⟨b, 0, none⟩ u).heap.size = w.heap.size := by simp
 have f := hY.size
 rw [n] at f
 have c : ∀ k, k < w.heap.size -> k ≠ b -> (Y.setCell ⟨b, 0, none⟩ (.string h)).heap[k]? = w.heap[k]? := fun k a d =>
  (Below.heap_setCell _ _ _ _ d).trans ((hY.block k a).trans (Below.heap_setCell _ _ _ _ d))
 refine ⟨hY.os, hY.tape, hY.output, by simpa using f, fun k a d => c k a fun e => ?_, ⟨fun k v a => ?_, hf.ok, hf.low, by have := hf.le; simp; omega⟩, fun _ _ h => h, fun _ _ h => h, fun k v a j s => ?_⟩
 ·rw [e, hb] at d
  cases d
 ·obtain ⟨g, r, o, l, m⟩ := hf.node k v a
  by_cases e : k = b
  ·subst e
   obtain rfl : t = v := Option.some.inj (hb.symm.trans a)
   have q := hf.lt hb
   exact ⟨h, r, hh, l, heap_set0 ((hY.block k q).trans (heap_set0 m))⟩
  ·exact ⟨g, r, o, l, (c k (hf.lt a) e).trans m⟩
 ·have i : (⟨k, j, none⟩ : Addr) ≠ ⟨b, 0, none⟩ := fun e => by have := congrArg Addr.off e; simp at this; omega
  exact (World.cell?_setCell_other _ _ _ _ (Ne.symm i)).trans ((hY.cell (p := ⟨k, j, none⟩) (hf.lt a)).trans (World.cell?_setCell_other _ _ _ _ (Ne.symm i)))
theorem work_any {B : Nat} {S : Wood} {w : World} {b : Nat} {t : Nd} (hf : Forest B S w) (hT : Tabs w) (hM : 15 <= B) (hb : S b = some t) (ht : t.ref = refOf t.code) (F : FuncId)
  (hF : ∀ args w, (callFunc F args).run Tryz.prog w = .ok (.enter F args) w) (hc : Calls Tryz.prog F #[.pointer (some ⟨b, 0, none⟩)] w fun e w' => e = .returned (.string (textB t.code)) /\ Fr B S S w w') :
  Calls Tryz.prog 138 #[.pointer (some ⟨b, 0, none⟩), .func (.func F) #[.pointer (some ⟨b, 0, none⟩)] #[]] w fun e w' => e = .returned (.string (textB t.ref)) /\ Fr B S S w w' := by
 obtain ⟨g, r, L, hr, X, rg, R, _⟩ := (hf.node b _ hb).cell
 have aa := t.code_byte (hf.ok b t hb)
 have E := t.ref_pos
 have Z := R 0
 have J := Hid.hide hf
 have Q : Hid (Tabs w) := hT
 have P : Hid (15 <= B) := hM
 have U := hf.lt hb
 have m := Hid.hide hb
 obtain ⟨s, n⟩ : ∃ s, textB t.code = s := ⟨_, rfl⟩
 obtain ⟨z, l⟩ : ∃ z, textB t.ref = z := ⟨_, rfl⟩
 have a : Hid (textB t.ref = z /\ textB t.code = s /\ s.size = t.code.length /\ t.ref = refOf t.code) := ⟨l, n, by rw [<- n, textB_size], ht⟩
 have V : 0 < z.size := by rw [<- l, textB_size]; exact E
 rw [n] at hc
 rw [l]
 unfold heldOK at L
 rw [l] at L
 clear hf hT hM hb ht n l hr rg R E
 rcases L with rfl | ⟨rfl, -⟩
 ·have ab := some_text g V
  clear hc hF
  go_enter Tryz.func138, Tryz.ntmps138
  go_wp2
  go_ret
  exact ⟨rfl, Fr.refl J.out⟩
 ·have O := Hid.hide hc
  clear hc
  go_enter Tryz.func138, Tryz.ntmps138
  go_wp2_with fail
  refine O.out.mono ?_
  rintro e f ⟨rfl, h⟩
  obtain ⟨g1, r1, _, _, d0, _, q, _⟩ := (h.forest.node b _ m.out).cell
  have Y := q 0
  have c := Hid.hide h
  have u : b < f.heap.size := Nat.lt_of_lt_of_le U h.size
  clear h q hF O X Z
  by_cases C : s.size < 32
  ·have hi : (s.size : Int) < 32 := by omega
   have I : heldOK t s := by
    left
    rw [<- a.out.2.1, a.out.2.2.2, refOf, if_pos (by have := a.out.2.2.1; omega)]
   have G : s = z := by
    rw [<- a.out.1, <- a.out.2.1, a.out.2.2.2, refOf, if_pos (by have := a.out.2.2.1; omega)]
   have d : Hid (heldOK t s /\ s = z) := ⟨I, G⟩
   clear I C G
   go_wp2
   go_ret
   exact ⟨congrArg (fun x => Ending.returned (.string x)) d.out.2, c.out.trans (Fr.held c.out.forest m.out d.out.1)⟩
  ·have hi : (32 : Int) <= (s.size : Int) := by omega
   have H : textB (textCode (digF s).toList) = z := by
    rw [<- a.out.1, a.out.2.2.2, refOf, if_neg (by have := a.out.2.2.1; omega), digB, a.out.2.1]
   have T : heldOK t z := .inl a.out.1.symm
   have d : Hid (heldOK t z /\ textB (textCode (digF s).toList) = z /\ (digF s).toList.length = 32 /\ ∀ x ∈ (digF s).toList, x < 256) := ⟨T, H, by unfold digF; rw [Array.length_toList]; exact sumF_size _, digF_lt s⟩
   obtain ⟨D, K⟩ : ∃ D, (digF s).toList = D := ⟨_, rfl⟩
   rw [K] at d
   have W := Hid.hide K
   have j : Hid (Tabs (f.setCell ⟨b, 0, none⟩ (.string s)) /\ 15 <= (f.setCell ⟨b, 0, none⟩ (.string s)).heap.size) := by
    have h1 := c.out.tabs J.out Q.out P.out
    have h2 : B <= b := J.out.low b t m.out
    have h3 := P.out
    exact ⟨h1.of_blocks (Below.heap_setCell _ _ _ _ (by show 13 ≠ b; omega)) (Below.heap_setCell _ _ _ _ (by show 14 ≠ b; omega)), by simp; omega⟩
   clear C H T K
   go_wp2_with fail
   refine (of_any s _ j.out.1 j.out.2).mono ?_
   rintro e w2 ⟨rfl, v⟩
   rw [W.out]
   have k : Below f.heap.size (f.setCell ⟨b, 0, none⟩ (.string s)) w2 := v.mono (by simp)
   have o := Hid.hide k
   clear v k j
   go_wp2_with fail
   refine (refby_any D d.out.2.2.1 d.out.2.2.2 w2).mono ?_
   rintro e N ⟨rfl, y⟩
   rw [d.out.2.1]
   have i : Hid (Below f.heap.size (f.setCell ⟨b, 0, none⟩ (.string s)) N) := o.out.trans (y.mono (by have := o.out.size; simpa using this))
   have e0 : N.cell? ⟨b, 0, none⟩ = some (.string s) := (i.out.cell (p := ⟨b, 0, none⟩) u).trans (by go_simp)
   have e1 : N.frozen? ⟨b, 0, none⟩ = false := (i.out.frozen (p := ⟨b, 0, none⟩) u).trans (by rw [World.frozen?_setCell]; exact Y)
   clear y
   go_wp2
   go_ret
   exact ⟨rfl, c.out.trans (Fr.held2 c.out.forest m.out _ i.out d.out.1)⟩
theorem callLeaf (args : Array Value) (w : World) : (callFunc 128 args).run Tryz.prog w = .ok (.enter 128 args) w := by kernel_rfl
theorem callExt (args : Array Value) (w : World) : (callFunc 175 args).run Tryz.prog w = .ok (.enter 175 args) w := by kernel_rfl
theorem callBr (args : Array Value) (w : World) : (callFunc 164 args).run Tryz.prog w = .ok (.enter 164 args) w := by kernel_rfl
theorem makeF (n : FuncId) (v : Value) (w : World) : (Instr.makeFunc (.func n) #[v] #[]).run Tryz.prog w = .ok (.func (.func n) #[v] #[]) w := by rfl
theorem leaf_ref {B : Nat} {S : Wood} {w : World} {b : Nat} {p v : ByteArray} (hf : Forest B S w) (hT : Tabs w) (hM : 15 <= B) (hb : S b = some (.leaf p v)) :
  Calls Tryz.prog 132 #[.pointer (some ⟨b, 0, none⟩)] w fun e w' => e = .returned (.string (textB (Nd.leaf p v).ref)) /\ Fr B S S w w' := by
 have d := Hid.hide (work_any hf hT hM hb rfl _ callLeaf (leaf_code hf hb))
 obtain ⟨R, f⟩ : ∃ R, textB (Nd.leaf p v).ref = R := ⟨_, rfl⟩
 rw [f] at d ⊢
 have g := makeF 128
 clear hf hT hM hb f
 go_enter Tryz.func132, Tryz.ntmps132
 go_wp2_with fail
 refine d.out.mono ?_
 rintro e h ⟨rfl, a⟩
 have c := Hid.hide a
 clear a
 go_wp2
 go_ret
 exact ⟨rfl, c.out⟩
theorem ext_ref {B : Nat} {S : Wood} {w : World} {b : Nat} {p : ByteArray} {t : Nd} (hf : Forest B S w) (hT : Tabs w) (hM : 15 <= B) (hb : S b = some (.ext p t)) (hR : RefC B S t) :
  Calls Tryz.prog 181 #[.pointer (some ⟨b, 0, none⟩)] w fun e w' => e = .returned (.string (textB (Nd.ext p t).ref)) /\ Fr B S S w w' := by
 have d := Hid.hide (work_any hf hT hM hb rfl _ callExt (ext_code hf hT hM hb hR))
 obtain ⟨R, hR⟩ : ∃ R, textB (Nd.ext p t).ref = R := ⟨_, rfl⟩
 rw [hR] at d ⊢
 have f := makeF 175
 clear hf hT hM hb hR
 go_enter Tryz.func181, Tryz.ntmps181
 go_wp2_with fail
 refine d.out.mono ?_
 rintro e g ⟨rfl, a⟩
 have c := Hid.hide a
 clear a
 go_wp2
 go_ret
 exact ⟨rfl, c.out⟩
theorem br_ref {B : Nat} {S : Wood} {w : World} {b : Nat} {ks : List Nd} (hf : Forest B S w) (hT : Tabs w) (hM : 15 <= B) (hb : S b = some (.br ks)) (hR : ∀ x ∈ ks, x ≠ .no -> RefC B S x) :
  Calls Tryz.prog 169 #[.pointer (some ⟨b, 0, none⟩)] w fun e w' => e = .returned (.string (textB (Nd.br ks).ref)) /\ Fr B S S w w' := by
 have d := Hid.hide (work_any hf hT hM hb rfl _ callBr (br_code hf hT hM hb hR))
 obtain ⟨R, hR⟩ : ∃ R, textB (Nd.br ks).ref = R := ⟨_, rfl⟩
 rw [hR] at d ⊢
 have f := makeF 164
 clear hf hT hM hb hR
 go_enter Tryz.func169, Tryz.ntmps169
 go_wp2_with fail
 refine d.out.mono ?_
 rintro e g ⟨rfl, a⟩
 have c := Hid.hide a
 clear a
 go_wp2
 go_ret
 exact ⟨rfl, c.out⟩
theorem stub_ref {B : Nat} {S : Wood} {w : World} {b : Nat} {h : List Nat} (hf : Forest B S w) (hb : S b = some (.stub h)) :
  Calls Tryz.prog 148 #[.pointer (some ⟨b, 0, none⟩)] w fun e w' => e = .returned (.string (textB (Nd.stub h).ref)) /\ Fr B S S w w' := by
 obtain ⟨g, r, a, _, f, _, _, _⟩ := (hf.node b _ hb).cell
 have d := Hid.hide hf
 obtain ⟨R, c⟩ : ∃ R, textB (Nd.stub h).ref = R := ⟨_, rfl⟩
 unfold heldOK at a
 rw [c] at a ⊢
 obtain rfl : g = R := by
  rcases a with h1 | ⟨_, h1⟩
  ·exact h1
  ·exact absurd rfl (h1 h)
 clear hf hb c a
 go_enter Tryz.func148, Tryz.ntmps148
 go_wp2
 go_ret
 exact ⟨rfl, Fr.refl d.out⟩
mutual
theorem ref_any (B : Nat) (S : Wood) : ∀ t : Nd, t ≠ .no -> RefC B S t
 | .no, h => absurd rfl h
 | .leaf p v, _ => fun _ _ hf hT hM hb => leaf_ref hf hT hM hb
 | .ext p t, _ => fun _ b hf hT hM hb => by
  have hok := hf.ok b _ hb
  rw [Nd.ok] at hok
  exact ext_ref hf hT hM hb (ref_any B S t hok.2.2)
 | .br ks, _ => fun _ _ hf hT hM hb => br_ref hf hT hM hb (refs_any B S ks)
 | .stub h, _ => fun _ _ hf _ _ hb => stub_ref hf hb
theorem refs_any (B : Nat) (S : Wood) : ∀ ks : List Nd, ∀ x ∈ ks, x ≠ .no -> RefC B S x
 | [], _, h, _ => by cases h
 | t :: ks, x, h, hn => by
  rcases List.mem_cons.1 h with e | h
  ·exact e ▸ ref_any B S t (e ▸ hn)
  ·exact refs_any B S ks x h hn
end
def Nd.dig (t : Nd) : List Nat := if t.ref.length < 32 then digB t.ref else t.ref.drop 1
theorem textCode_big {l : List Nat} (h : l.length = 32) : textCode l = 160 :: l := by
 unfold textCode headB
 simp [h]
theorem ref33 (c : List Nat) (h : ¬ (refOf c).length < 32) : (refOf c).length = 33 := by
 unfold refOf at h ⊢
 by_cases a : c.length < 32
 ·rw [if_pos a] at h; omega
 ·rw [if_neg a, textCode32 (digB_length c)]
theorem Nd.ref_33 (t : Nd) (ho : t.ok) (h : ¬ t.ref.length < 32) : t.ref.length = 33 := by
 cases t with
 | no => exact absurd (by show (textCode []).length < 32; have := textCode_length []; simp at this; omega) h
 | stub g => rw [Nd.ok] at ho; exact textCode32 ho.1
 | leaf _ _ => exact ref33 _ h
 | ext _ _ => exact ref33 _ h
 | br _ => exact ref33 _ h
theorem Nd.dig_length (t : Nd) (ho : t.ok) : t.dig.length = 32 := by
 unfold Nd.dig
 split
 ·exact digB_length _
 ·rename_i h
  rw [List.length_drop, t.ref_33 ho h]
theorem heap_setCells' (w : World) (b o : Nat) (cs : List Value) (k : Nat) (h : k ≠ b) : (World.setCells w b o cs).heap[k]? = w.heap[k]? := heap_setCells _ _ _ _ _ h
theorem Fr.setCells {B : Nat} {S S' : Wood} {w w1 : World} (h : Fr B S S' w w1) (b o : Nat) (cs : List Value) (hb : w.heap.size <= b) (hn : S' b = none) : Fr B S S' w (World.setCells w1 b o cs) := by
 refine h.grow (o := some b) ⟨?_, ?_, ?_, Nat.le_of_eq (size_setCells b cs o w1).1.symm, fun k a c => heap_setCells' _ _ _ _ _ fun e => c (by rw [e])⟩ fun k a => by cases a; exact ⟨hb, hn⟩
 ·exact (size_setCells b cs o w1).2.1
 ·exact (size_setCells b cs o w1).2.2.1
 ·exact (size_setCells b cs o w1).2.2.2
theorem run_arrayH (a : Addr) (cap : Nat) (w : World) : (Instr.arrayAt 38 (.slice (some a) 32 cap)).run Tryz.prog w = .ok (.pointer (some a)) w := by
 simp [Instr.arrayAt, run_underlying Tryz.underlying38, go_sem]
theorem bytes_row (w : World) (s : ByteArray) : (Lib.bytesWorld w 5 s).rangeAt w.heap.size 0 ((bytesOf s).map encB) := fun j v hv => by
 rw [Nat.zero_add]
 have hj : j < s.size := by
  have := (List.getElem?_eq_some_iff.1 hv).1
  simpa [bytesOf] using this
 rw [Lib.bytesWorld_cell w 5 s j hj, <- hv]
 simp [bytesOf, encB, List.getD, hj]
theorem digNode_any {B : Nat} {S : Wood} {w : World} {c : Nat} {t : Nd} (hf : Forest B S w) (hT : Tabs w) (hM : 15 <= B) (hc : S c = some t) (hne : t ≠ .no) :
  Calls Tryz.prog 40 #[.iface (ndTy t) (.pointer (some ⟨c, 0, none⟩))] w fun e w' => e = .returned (.agg (t.dig.map encB).toArray) /\ Fr B S S w w' := by
 have r := hf.ok c t hc
 have hm := mRef t hne
 have ac := enRef t hne
 have u := Hid.hide hf
 have HT := Hid.hide hT
 have X := Hid.hide hM
 obtain ⟨R, y⟩ : ∃ R, textB t.ref = R := ⟨_, rfl⟩
 have C : R.size = t.ref.length := by rw [<- y, textB_size]
 have HR : Hid (∀ W, Forest B S W -> Tabs W -> Calls Tryz.prog (refFn t) #[.pointer (some ⟨c, 0, none⟩)] W fun e w' => e = .returned (.string R) /\ Fr B S S W w') := fun W h1 h2 => by
  have := ref_any B S t hne W c h1 h2 hM hc
  rw [y] at this
  exact this
 obtain ⟨D, Y⟩ : ∃ D : Array Nat, t.dig.toArray = D := ⟨_, rfl⟩
 have n : t.dig = D.toList := by rw [<- Y]
 have N : D.size = 32 := by rw [<- Y]; simpa using t.dig_length r
 rw [n]
 have O : bytesOf R = t.ref := by rw [<- y, bytesOf_textB (t.ref_byte r)]
 have x : Hid (D.size = 32 /\ (t.ref.length < 32 -> (digF R).toList = D.toList) /\ (¬ t.ref.length < 32 -> R.size = 33 /\ bytesOf (R.extract 1 R.size) = D.toList)) := by
  refine ⟨N, fun h => ?_, fun h => ⟨by rw [C, t.ref_33 r h], ?_⟩⟩
  ·rw [<- n, Nd.dig, if_pos h, digB, y]
  ·rw [bytesOf_rest, O, <- n, Nd.dig, if_neg h]
 have L : Hid (R.size = t.ref.length) := C
 clear r hf hT hM hc y C Y n N O
 go_enter Tryz.func40, Tryz.ntmps40
 go_wp2_with fail
 generalize hw0 : (w.alloc (.cells _ 38)) = w0
 have g : Below w.heap.size w w0 := by rw [<- hw0]; exact (Below.refl _ _).alloc (Nat.le_refl _) _
 have T : w0.there w.heap.size 0 32 := by rw [<- hw0]; exact there_new _ _ _ _ rfl
 have I : w.heap.size < w0.heap.size := by rw [<- hw0]; simp
 have E : Tabs w0 := HT.out.below g (by have := X.out; have := u.out.le; omega)
 clear hw0
 refine (HR.out w0 (u.out.below g) E).mono ?_
 rintro e a ⟨rfl, i⟩
 have H : S w.heap.size = none := u.out.fresh (Nat.le_refl _)
 have U : a.there w.heap.size 0 32 := there_block T (i.other _ I H)
 have Q : w.heap.size < a.heap.size := Nat.lt_of_lt_of_le I i.size
 have b : Hid (Fr B S S w a /\ a.there w.heap.size 0 32 /\ Tabs a /\ S w.heap.size = none) := ⟨(Fr.of_below u.out g).trans i, U, i.tabs (u.out.below g) E X.out, H⟩
 clear i hm ac E g T I H U
 by_cases q : t.ref.length < 32
 ·have hi : (R.size : Int) < 32 := by have := L.out; omega
  have aa := Hid.hide (x.out.2.1 q)
  clear q
  go_wp2_with fail
  refine (of_any R a b.out.2.2.1 (by have := X.out; have := u.out.le; omega)).mono ?_
  rintro e K ⟨rfl, F⟩
  rw [aa.out]
  obtain ⟨s, J, m, d⟩ := hash_cells x.out.1 (there_block b.out.2.1 (F.block _ Q))
  have j := all_oneCell_toArray (oneCell_enc D .u8)
  have f : Hid (Fr B S S w K /\ K.there w.heap.size 0 (D.toList.map encB).length) := ⟨b.out.1.behind F, d⟩
  clear F d
  go_wp2_with (refine wpList_store_mid rfl 38 _ _ rfl w.heap.size 0 (D.toList.map encB).toArray rfl rfl m J j ?_)
  refine bodyPost_ret (v := .agg (D.toList.map encB).toArray) (results_cell1 Tryz.results40 _ _ _ w.heap.size 0 rfl (run_loadVar_mid _ _ _ 38 _ _ (World.rangeAt_setCells_same _ _ _ _ f.out.2) Tryz.underlying38 rfl s)) rfl ⟨rfl, ?_⟩
  exact f.out.1.setCells _ _ _ (Nat.le_refl _) b.out.2.2.2
 ·have hi : (32 : Int) <= (R.size : Int) := by have := L.out; omega
  obtain ⟨ab, o⟩ := x.out.2.2 q
  have ae : (1 : Int) <= (R.size : Int) := by omega
  obtain ⟨z, hz⟩ : ∃ z, R.extract 1 R.size = z := ⟨_, rfl⟩
  rw [hz] at o
  have V : z.size = 32 := by rw [<- bytesOf_length, o]; simpa using x.out.1
  have Z := Lib.run_convert_string_bytes (P := Tryz.prog) a 9 76 5 z Tryz.underlying9 Tryz.underlying76 Tryz.underlying5
  rw [V] at Z
  obtain ⟨cap, G⟩ : ∃ cap, grownCap a 32 0 5 = cap := ⟨_, rfl⟩
  rw [G] at Z
  have qa := fun W => run_arrayH ⟨a.heap.size, 0, none⟩ cap W
  have l := bytes_row a z
  rw [o] at l
  have p : Below a.heap.size a (Lib.bytesWorld a 5 z) := ⟨rfl, rfl, rfl, by rw [Lib.bytesWorld_size]; omega, fun k hk => Lib.bytesWorld_at_old a 5 z k hk⟩
  generalize Lib.bytesWorld a 5 z = K at Z l p
  obtain ⟨s, J, m, d⟩ := hash_cells x.out.1 (there_block b.out.2.1 (p.block _ Q))
  have j := all_oneCell_toArray (oneCell_enc D .u8)
  have f : Hid (Fr B S S w K /\ K.there w.heap.size 0 (D.toList.map encB).length) := ⟨b.out.1.behind p, d⟩
  clear q o G p d V ab
  go_wp2_with (first | (refine wpList_load_mid rfl 38 _ rfl a.heap.size 0 rfl (D.toList.map encB) _ l Tryz.underlying38 rfl s ?_) | (refine wpList_store_mid rfl 38 _ _ rfl w.heap.size 0 (D.toList.map encB).toArray rfl rfl m J j ?_))
  refine bodyPost_ret (v := .agg (D.toList.map encB).toArray) (results_cell1 Tryz.results40 _ _ _ w.heap.size 0 rfl (run_loadVar_mid _ _ _ 38 _ _ (World.rangeAt_setCells_same _ _ _ _ f.out.2) Tryz.underlying38 rfl s)) rfl ⟨rfl, ?_⟩
  exact f.out.1.setCells _ _ _ (Nat.le_refl _) b.out.2.2.2
def TreeAt (S : Wood) (w : World) (b : Nat) (t : Nd) : Prop := S b = none /\ ∃ v, ndV S v t /\ w.heap[b]? = some (.cells #[v] 65 (0, 0))
theorem TreeAt.lt {S : Wood} {w : World} {b : Nat} {t : Nd} (h : TreeAt S w b t) : b < w.heap.size := by
 obtain ⟨_, v, _, h⟩ := h
 exact (Array.getElem?_eq_some_iff.1 h).1
theorem TreeAt.cell {S : Wood} {w : World} {b : Nat} {t : Nd} (h : TreeAt S w b t) : ∃ v, ndV S v t /\ w.cell? ⟨b, 0, none⟩ = some v /\ w.frozen? ⟨b, 0, none⟩ = false := by
 obtain ⟨_, v, a, h⟩ := h
 exact ⟨v, a, by simp [World.cell?, h], by simp [World.frozen?, h]⟩
theorem TreeAt.frame {B : Nat} {S S' : Wood} {w w' : World} {b : Nat} {t : Nd} (h : TreeAt S w b t) (hf : Fr B S S' w w') : TreeAt S' w' b t := by
 have c := h.lt
 obtain ⟨a, v, d, h⟩ := h
 exact ⟨hf.new b c a, v, d.sub hf.sub, (hf.other b c a).trans h⟩
theorem empty_any (w : World) : Calls Tryz.prog 39 #[] w fun e w' => e = .returned (.string (textB (textCode []))) /\ Below w.heap.size w w' := by
 obtain ⟨C, b⟩ : ∃ C, textCode [] = C := ⟨_, rfl⟩
 have f := Hid.hide b
 rw [b]
 clear b
 go_enter Tryz.func39, Tryz.ntmps39
 go_wp2_with fail
 refine (text_any (B := w.heap.size) (l := []) ⟨#[]⟩ w (Own.nil _ _) (Nat.le_refl _) (by show 0 <= _; omega) (by simp)).mono ?_
 rintro e c ⟨j, rfl, a⟩
 rw [List.nil_append, show bytesOf ⟨#[]⟩ = [] from rfl, f.out] at a
 obtain ⟨h, g, rfl⟩ := a.own.shape'
 have d : Hid (Below w.heap.size w c) := acc_step (Below.refl _ _) (Own.nil _ _) a
 have i := run_own_text (P := Tryz.prog) c 76 9 5 Tryz.underlying76 Tryz.underlying5 Tryz.underlying9 a.own
 clear a
 go_wp2
 go_ret
 exact ⟨rfl, d.out⟩
theorem Nd.dig_no : Nd.dig .no = digB (textCode []) := by
 unfold Nd.dig
 exact if_pos (by show (textCode []).length < 32; have := textCode_length []; simp at this; omega)
theorem troot_any {B : Nat} {S : Wood} {w : World} {b : Nat} {t : Nd} (hf : Forest B S w) (hT : Tabs w) (hM : 15 <= B) (ht : TreeAt S w b t) :
  Calls Tryz.prog 24 #[.pointer (some ⟨b, 0, none⟩)] w fun e w' => e = .returned (.agg (t.dig.map encB).toArray) /\ Fr B S S w w' := by
 have L := ht.lt
 obtain ⟨v, H, N, -⟩ := ht.cell
 have j := Hid.hide hf
 have K := Hid.hide hT
 have F := Hid.hide hM
 have C : t.dig.length = 32 := by
  rcases H with ⟨rfl, _⟩ | ⟨_, c, _, hc⟩
  ·rw [Nd.dig_no]; exact digB_length _
  ·exact t.dig_length (hf.ok c t hc)
 obtain ⟨D, G⟩ : ∃ D : Array Nat, t.dig.toArray = D := ⟨_, rfl⟩
 have n : t.dig = D.toList := by rw [<- G]
 have u : Hid (D.size = 32 /\ t.dig = D.toList) := ⟨by rw [<- G]; simpa using C, n⟩
 rw [n]
 have E : ∀ w0, Below w.heap.size w w0 -> Tabs w0 := fun w0 a => K.out.below a (by have := F.out; have := j.out.le; omega)
 have x := Hid.hide E
 clear hf hT hM ht G n C E
 rcases H with ⟨rfl, rfl⟩ | ⟨hne, c, rfl, hc⟩
 ·go_enter Tryz.func24, Tryz.ntmps24
  go_wp2_with fail
  generalize hw0 : (w.alloc (.cells _ 38)) = w0
  have a : Below w.heap.size w w0 := by rw [<- hw0]; exact (Below.refl _ _).alloc (Nat.le_refl _) _
  have i : w0.there w.heap.size 0 32 := by rw [<- hw0]; exact there_new _ _ _ _ rfl
  have g : w.heap.size < w0.heap.size := by rw [<- hw0]; simp
  clear hw0
  refine (empty_any w0).mono ?_
  rintro e w1 ⟨rfl, m⟩
  have y : Below w.heap.size w w1 := Below.behind a m
  have h : Hid (Below w.heap.size w w1 /\ w1.there w.heap.size 0 32 /\ w.heap.size < w1.heap.size) := ⟨y, there_block i (m.block _ g), Nat.lt_of_lt_of_le g m.size⟩
  clear a i g m y
  go_wp2_with fail
  refine (of_any (textB (textCode [])) w1 (x.out w1 h.out.1) (by have := F.out; have := j.out.le; have := h.out.2.2; omega)).mono ?_
  rintro e I ⟨rfl, o⟩
  have z : (digF (textB (textCode []))).toList = D.toList := by rw [<- u.out.2, Nd.dig_no]; rfl
  rw [z]
  obtain ⟨r, s, l, d⟩ := hash_cells u.out.1 (there_block h.out.2.1 (o.block _ h.out.2.2))
  have k := all_oneCell_toArray (oneCell_enc D .u8)
  have f : Hid (Below w.heap.size w I /\ I.there w.heap.size 0 (D.toList.map encB).length) := ⟨Below.behind h.out.1 o, d⟩
  clear o d z
  go_wp2_with (refine wpList_store_mid rfl 38 _ _ rfl w.heap.size 0 (D.toList.map encB).toArray rfl rfl l s k ?_)
  refine bodyPost_ret (v := .agg (D.toList.map encB).toArray) (results_cell1 Tryz.results24 _ _ _ w.heap.size 0 rfl (run_loadVar_mid _ _ _ 38 _ _ (World.rangeAt_setCells_same _ _ _ _ f.out.2) Tryz.underlying38 rfl r)) rfl ⟨rfl, ?_⟩
  exact (Fr.of_below j.out f.out.1).setCells _ _ _ (Nat.le_refl _) (j.out.fresh (Nat.le_refl _))
 ·have J := Hid.hide hc
  clear hc
  go_enter Tryz.func24, Tryz.ntmps24
  go_wp2_with fail
  generalize hw0 : (w.alloc (.cells _ 38)) = w0
  have a : Below w.heap.size w w0 := by rw [<- hw0]; exact (Below.refl _ _).alloc (Nat.le_refl _) _
  have i : w0.there w.heap.size 0 32 := by rw [<- hw0]; exact there_new _ _ _ _ rfl
  have g : w.heap.size < w0.heap.size := by rw [<- hw0]; simp
  clear hw0
  refine (digNode_any (j.out.below a) (x.out w0 a) F.out J.out hne).mono ?_
  rintro e w1 ⟨rfl, p⟩
  rw [u.out.2]
  have q : S w.heap.size = none := j.out.fresh (Nat.le_refl _)
  obtain ⟨r, s, l, d⟩ := hash_cells u.out.1 (there_block i (p.other _ g q))
  have k := all_oneCell_toArray (oneCell_enc D .u8)
  have f : Hid (Fr B S S w w1 /\ w1.there w.heap.size 0 (D.toList.map encB).length /\ S w.heap.size = none) := ⟨(Fr.of_below j.out a).trans p, d, q⟩
  clear p d a i g q
  go_wp2_with (refine wpList_store_mid rfl 38 _ _ rfl w.heap.size 0 (D.toList.map encB).toArray rfl rfl l s k ?_)
  refine bodyPost_ret (v := .agg (D.toList.map encB).toArray) (results_cell1 Tryz.results24 _ _ _ w.heap.size 0 rfl (run_loadVar_mid _ _ _ 38 _ _ (World.rangeAt_setCells_same _ _ _ _ f.out.2.1) Tryz.underlying38 rfl r)) rfl ⟨rfl, ?_⟩
  exact f.out.1.setCells _ _ _ (Nat.le_refl _) f.out.2.2
theorem xroot_any {B : Nat} {S : Wood} {w : World} {b : Nat} {t : Nd} (hf : Forest B S w) (hT : Tabs w) (hM : 15 <= B) (ht : TreeAt S w b t) :
  Calls Tryz.prog 8 #[.pointer (some ⟨b, 0, none⟩)] w fun e w' => e = .returned (.agg (t.dig.map encB).toArray) /\ Fr B S S w w' := by
 have k : t.dig.length = 32 := by
  obtain ⟨v, z, _⟩ := ht.cell
  rcases z with ⟨rfl, _⟩ | ⟨_, c, _, hc⟩
  ·rw [Nd.dig_no]; exact digB_length _
  ·exact t.dig_length (hf.ok c t hc)
 obtain ⟨D, n⟩ : ∃ D : Array Nat, t.dig.toArray = D := ⟨_, rfl⟩
 have f : t.dig = D.toList := by rw [<- n]
 have j : D.size = 32 := by rw [<- n]; simpa using k
 have y : Hid (D.size = 32) := j
 have x : Hid (∀ w0, Below w.heap.size w w0 -> Calls Tryz.prog 24 #[.pointer (some ⟨b, 0, none⟩)] w0 fun e w' => e = .returned (.agg (D.toList.map encB).toArray) /\ Fr B S S w0 w') := fun w0 a => by
  rw [<- f]
  exact troot_any (hf.below a) (hT.below a (by have := hf.le; omega)) hM (ht.frame (Fr.of_below hf a))
 rw [f]
 have q := Hid.hide hf
 have C := ht.lt
 clear hf hT hM ht n f k j
 go_enter Tryz.func8, Tryz.ntmps8
 go_wp2_with fail
 generalize hw0 : (w.alloc (.cells _ 38)) = w0
 have a : Below w.heap.size w w0 := by rw [<- hw0]; exact (Below.refl _ _).alloc (Nat.le_refl _) _
 have m : w0.there w.heap.size 0 32 := by rw [<- hw0]; exact there_new _ _ _ _ rfl
 have l : w.heap.size < w0.heap.size := by rw [<- hw0]; simp
 clear hw0
 refine (x.out w0 a).mono ?_
 rintro e u ⟨rfl, g⟩
 have h : S w.heap.size = none := q.out.fresh (Nat.le_refl _)
 obtain ⟨r, s, p, i⟩ := hash_cells y.out (there_block m (g.other _ l h))
 have o := all_oneCell_toArray (oneCell_enc D .u8)
 have d : Hid (Fr B S S w u /\ u.there w.heap.size 0 (D.toList.map encB).length /\ S w.heap.size = none) := ⟨(Fr.of_below q.out a).trans g, i, h⟩
 clear g i a m l h
 go_wp2_with (refine wpList_store_mid rfl 38 _ _ rfl w.heap.size 0 (D.toList.map encB).toArray rfl rfl p s o ?_)
 refine bodyPost_ret (v := .agg (D.toList.map encB).toArray) (results_cell1 Tryz.results8 _ _ _ w.heap.size 0 rfl (run_loadVar_mid _ _ _ 38 _ _ (World.rangeAt_setCells_same _ _ _ _ d.out.2.1) Tryz.underlying38 rfl r)) rfl ⟨rfl, ?_⟩
 exact d.out.1.setCells _ _ _ (Nat.le_refl _) d.out.2.2
end Go.Proofs.YtcglpladmeelaaaGreatDoor
