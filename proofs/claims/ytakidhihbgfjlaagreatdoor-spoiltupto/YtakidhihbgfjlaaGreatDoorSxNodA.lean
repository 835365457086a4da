/-
  Nodes: the code of a leaf, an extension, a branch; the reference to a node (reference, work, referenceBy).
-/
import Derived.Test.YtakidhihbgfjlaaGreatDoorSxNdA
import Derived.Test.YtakidhihbgfjlaaGreatDoorSxAccH
import Derived.Test.YtakidhihbgfjlaaGreatDoorSxBase
namespace Go.Proofs.YtakidhihbgfjlaaGreatDoor
open Go.RowKit
set_option maxRecDepth 100000
set_option maxHeartbeats 25600000
variable {B : Nat} {S S' : Wood} {w : World}
theorem Fr.grow {w1 w2 : World} {o : Option Nat} (h : Fr B S S' w w1) (g : w1.grownBy w2 o) (ho : ∀ k, o = some k -> w.heap.size <= k /\ S' k = none) : Fr B S S' w w2 := by
 have i := g.size
 refine ⟨g.os.trans h.os, g.tape.trans h.tape, g.output.trans h.output, Nat.le_trans h.size g.size, fun k a f => ?_, h.forest.keep g.size fun k t a => ?_, h.sub, h.new, fun b t c j d => (World.cell?_of_block (g.block b (h.forest.lt (h.sub b t c)) fun e => ?_)).trans (h.kids b t c j d)⟩
 ·have := h.size
  refine (g.block k (by omega) fun e => ?_).trans (h.other k a f)
  have := (ho k e.symm).1
  omega
 ·refine g.block k (h.forest.lt a) fun e => ?_
  rw [(ho k e.symm).2] at a
  cases a
 ·have := h.sub b t c
  rw [(ho b e.symm).2] at this
  cases this
variable {w' : World} {l : List Nat}
theorem Own.frame {C : Nat} {v : Value} (h : Own w C v l) (hf : Fr B S S' w w') (hn : ∀ k, C <= k -> S k = none) : Own w' C v l :=
 h.keep hf.size fun k hk hv => hf.other k hk (hn k (h.block k hv).1)
theorem NdAt.cell {S : Wood} {w : World} {b : Nat} {t : Nd} (h : NdAt S w b t) : ∃ g r, heldOK t g /\ NdRest S t r /\ w.cell? ⟨b, 0, none⟩ = some (.string g) /\ w.rangeAt b 1 r /\ (∀ j, w.frozen? ⟨b, j, none⟩ = false) /\ w.heap[b]? = some (.cells (.string g :: r).toArray (ndObj t) (0, 0)) := by
 obtain ⟨g, r, c, d, a⟩ := h
 refine ⟨g, r, c, d, ?_, fun j v e => ?_, fun j => ?_, a⟩
 ·simp [World.cell?, a]
 ·simp [World.cell?, a, Nat.add_comm 1 j, e]
 ·simp [World.frozen?, a]
theorem Qms (l : List Nat) (hl : l.length = 32) (hb : ∀ x ∈ l, x < 256) (w : World) :
  Calls Tryz.prog 86 #[.agg (l.map encB).toArray] w fun e w' => e = .returned (.string (textB (textCode l))) /\ Below w.heap.size w w' := by
 obtain ⟨A, b⟩ : ∃ A, (l.map encB).toArray = A := ⟨_, rfl⟩
 have d : (w.alloc (.cells A 37)).rangeAt w.heap.size 0 (l.map encB) := fun j v h => by
  rw [Nat.zero_add, World.cell?_alloc_new, <- b]
  simpa using h
 rw [b]
 have i := Qek (P := Tryz.prog) (w.alloc (.cells A 37)) 41 9 5 Tryz.underlying41 Tryz.underlying5 Tryz.underlying9 d 32 32 hl.symm
 have c : Hid (l.length = 32 /\ ∀ x ∈ l, x < 256) := ⟨hl, hb⟩
 clear b d hl hb
 go_enter Tryz.func86, Tryz.ntmps86
 go_wp2_with fail
 refine (Qdd (B := w.heap.size) (l := []) (textB l) _ (Own.nil _ _) (by simp) (by rw [Qaa, c.out.1]; omega) (by simp)).mono ?_
 rintro e f ⟨o, rfl, a⟩
 rw [Qa5 c.out.2, List.nil_append] at a
 obtain ⟨m, k, rfl⟩ := a.own.shape'
 have n := Qag (P := Tryz.prog) f 41 9 5 Tryz.underlying41 Tryz.underlying5 Tryz.underlying9 a.own
 have g : Aside (Below w.heap.size w f) := a.below (Own.nil _ _) ((Below.refl _ _).alloc (Nat.le_refl _) _) (by simp)
 clear a i
 go_wp2
 go_ret
 exact ⟨rfl, g.out⟩
variable {b : Nat} {p v : ByteArray}
theorem Qmt (hf : Forest B S w) (hb : S b = some (.leaf p v)) :
  Calls Tryz.prog 139 #[.pointer (some ⟨b, 0, none⟩)] w fun e w' => e = .returned (.string (textB (Nd.leaf p v).code)) /\ Fr B S S w w' := by
 obtain ⟨g, r, _, s, F, t, _, _⟩ := (hf.node b _ hb).cell
 have s : r = [.string p, .string v] := s
 subst s
 have M : w.cell? ⟨b, 1, none⟩ = some (.string p) := t 0 _ rfl
 have G : w.cell? ⟨b, 2, none⟩ = some (.string v) := t 1 _ rfl
 have z := hf.lt hb
 have i := hf.ok b _ hb
 rw [Nd.ok] at i
 have a : Hid (nibOK p /\ v.size <= 1024) := i
 have E := Hq hf
 obtain ⟨C, q⟩ : ∃ C, (Nd.leaf p v).code = C := ⟨_, rfl⟩
 obtain ⟨L, j⟩ : ∃ L, textCode (pathCode (bytesOf p) true) ++ textCode (bytesOf v) = L := ⟨_, rfl⟩
 have D : Hid (listCode L = C) := by rw [<- q, Nd.code, j]; exact rfl
 have y : Hid (textCode (pathCode (bytesOf p) true) ++ textCode (bytesOf v) = L /\ L.length <= 2000) := by
  refine ⟨j, ?_⟩
  have := Qae (pathCode (bytesOf p) true); rw [Qaw, bytesOf_length] at this; have := a.out.1.1; have := Qae (bytesOf v); have := bytesOf_length v; have := a.out.2
  rw [<- j, List.length_append]
  omega
 rw [q]
 clear hf hb t i F q j
 go_enter Tryz.func139, Tryz.ntmps139
 go_wp2_with fail
 refine (Qpr p true _ (by have := a.out.1.1; omega) a.out.1.2).mono ?_
 rintro e H ⟨rfl, o⟩
 have k := Hq o
 clear o
 go_wp2_with fail
 refine (Qdd (B := w.heap.size) (l := []) (textB (pathCode (bytesOf p) true)) H (Own.nil _ _) k.out.size (by rw [Qaa, Qaw, bytesOf_length]; have := a.out.1.1; omega) (by simp)).mono ?_
 rintro e I ⟨X, rfl, c⟩
 rw [Qa5 (Qca true a.out.1.2), List.nil_append] at c
 have h := Hq (Qf1 k.out (Own.nil _ _) c)
 obtain ⟨T, O, rfl⟩ := c.own.shape'
 have n := Hq c.own
 have N := (h.out.cell (p := ⟨b, 2, none⟩) z).trans G
 clear c
 go_wp2_with fail
 refine (Qdd (B := w.heap.size) v I n.out h.out.size (by have := a.out.2; omega) (by have := Qae (pathCode (bytesOf p) true); rw [Qaw, bytesOf_length] at this; have := a.out.1.1; omega)).mono ?_
 rintro e J ⟨Y, rfl, d⟩
 rw [y.out.1] at d
 have m := Hq (Qf1 h.out n.out d)
 obtain ⟨U, Q, rfl⟩ := d.own.shape'
 have x := Hq d.own
 clear d
 go_wp2_with fail
 refine (Qkw (B := w.heap.size) (v := .slice none 0 0) (l := []) J (Own.nil _ _) x.out (by simp [Value.ownBlock]) m.out.size (by have := y.out.2; omega) (by simp)).mono ?_
 rintro e K ⟨Z, rfl, f⟩
 rw [List.nil_append, D.out] at f
 have u := Hq (Qf1 m.out (Own.nil _ _) f)
 obtain ⟨V, R, rfl⟩ := f.own.shape'
 have W := Qag (P := Tryz.prog) K 41 9 5 Tryz.underlying41 Tryz.underlying5 Tryz.underlying9 f.own
 clear f
 go_wp2
 go_ret
 exact ⟨rfl, Fr.of_below E.out u.out⟩
def refFn : Nd -> FuncId
 | .no => 0
 | .leaf _ _ => 143
 | .ext _ _ => 186
 | .br _ => 174
 | .stub _ => 137
theorem mRef (t : Nd) (ht : t ≠ .no) (a : Addr) (w : World) : (Go.method 386 (ndTy t) (.pointer (some a)) "twigs/tree.reference").run Tryz.prog w = .ok (refFn t, .pointer (some a)) w := by
 cases t with
 | no => exact absurd rfl ht
 | leaf _ _ => kernel_rfl
 | ext _ _ => kernel_rfl
 | br _ => kernel_rfl
 | stub _ => kernel_rfl
theorem Qx6 (t : Nd) (ht : t ≠ .no) (args : Array Value) (w : World) : (callFunc (refFn t) args).run Tryz.prog w = .ok (.enter (refFn t) args) w := by
 cases t with
 | no => exact absurd rfl ht
 | leaf _ _ => kernel_rfl
 | ext _ _ => kernel_rfl
 | br _ => kernel_rfl
 | stub _ => kernel_rfl
def RefC (B : Nat) (S : Wood) (t : Nd) : Prop := ∀ (W : World) (b : Nat), Forest B S W -> Tabs W -> 15 <= B -> S b = some t -> Calls Tryz.prog (refFn t) #[.pointer (some ⟨b, 0, none⟩)] W fun e w' => e = .returned (.string (textB t.ref)) /\ Fr B S S W w'
theorem Fr.tabs (h : Fr B S S' w w') (hf : Forest B S w) (hT : Tabs w) (hM : 15 <= B) : Tabs w' :=
 hT.of_blocks ((h.below hf).block 13 (by omega)) ((h.below hf).block 14 (by omega))
variable {t : Nd}
theorem Qps (hf : Forest B S w) (hT : Tabs w) (hM : 15 <= B) (hb : S b = some (.ext p t)) (hR : RefC B S t) :
  Calls Tryz.prog 180 #[.pointer (some ⟨b, 0, none⟩)] w fun e w' => e = .returned (.string (textB (Nd.ext p t).code)) /\ Fr B S S w w' := by
 obtain ⟨i0, hi, Y, Z, aa⟩ := info_parts Qc8
 obtain ⟨g, r, _, J, c0, N, _, _⟩ := (hf.node b _ hb).cell
 obtain ⟨v, J, K⟩ : ∃ v, r = [.string p, v] /\ ndV S v t := J
 subst J
 have c1 : w.cell? ⟨b, 1, none⟩ = some (.string p) := N 0 _ rfl
 have c2 : w.cell? ⟨b, 2, none⟩ = some v := N 1 _ rfl
 have V := hf.lt hb
 have i := hf.ok b _ hb
 rw [Nd.ok] at i
 rcases K with ⟨K, _⟩ | ⟨hne, c, rfl, hc⟩
 ·exact absurd K i.2.2
 have o : Hid (nibOK p) := i.1
 have G : Hid (t.ok) := i.2.1
 have m := Hq hf
 have HR : Hid (∀ W, Forest B S W -> Tabs W -> Calls Tryz.prog (refFn t) #[.pointer (some ⟨c, 0, none⟩)] W fun e w' => e = .returned (.string (textB t.ref)) /\ Fr B S S W w') := fun W h1 h2 => hR W c h1 h2 hM hc
 have U : Hid (Tabs w) := hT
 have hm := mRef t hne
 have X := Qx6 t hne
 have T : Hid (15 <= B) := hM
 obtain ⟨C, I⟩ : ∃ C, (Nd.ext p t).code = C := ⟨_, rfl⟩
 obtain ⟨P1, j⟩ : ∃ P1, textCode (pathCode (bytesOf p) false) = P1 := ⟨_, rfl⟩
 obtain ⟨L, s⟩ : ∃ L, P1 ++ t.ref = L := ⟨_, rfl⟩
 have F : Hid (textCode (pathCode (bytesOf p) false) = P1 /\ P1.length <= 100) := by
  refine ⟨j, ?_⟩
  have := Qae (pathCode (bytesOf p) false); rw [Qaw, bytesOf_length] at this; have := o.out.1
  rw [<- j]
  omega
 have E : Hid (listCode L = C /\ P1 ++ t.ref = L /\ L.length <= 200) := by
  refine ⟨by rw [<- I, Nd.ref_ext, j, s], s, ?_⟩
  have := t.ref_le G.out
  have := F.out.2
  rw [<- s, List.length_append]
  omega
 rw [I]
 clear hf hb N i c0 I s j hR hM hT hc
 go_enter Tryz.func180, Tryz.ntmps180
 go_wp2_with fail
 refine (Qpr p false _ (by have := o.out.1; omega) o.out.2).mono ?_
 rintro e w1 ⟨rfl, D⟩
 have x := Hq D
 clear D
 go_wp2_with fail
 refine (Qdd (B := w.heap.size) (l := []) (textB (pathCode (bytesOf p) false)) w1 (Own.nil _ _) x.out.size (by rw [Qaa, Qaw, bytesOf_length]; have := o.out.1; omega) (by simp)).mono ?_
 rintro e w2 ⟨v2, rfl, d⟩
 rw [Qa5 (Qca false o.out.2), List.nil_append, F.out.1] at d
 have a := Hq (Qf1 x.out (Own.nil _ _) d)
 obtain ⟨p2, k2, rfl⟩ := d.own.shape'
 have Q := Hq d.own
 have d2 := (a.out.cell (p := ⟨b, 2, none⟩) V).trans c2
 clear d
 have H : Hid (Tabs w2) := U.out.of_blocks (a.out.block _ (by have := T.out; have := m.out.le; omega)) (a.out.block _ (by have := T.out; have := m.out.le; omega))
 go_wp2_with fail
 refine (HR.out _ (m.out.below a.out) H.out).mono ?_
 rintro e w3 ⟨rfl, q⟩
 have y : Hid (Fr B S S w w3) := (Fr.of_below m.out a.out).trans q
 have n : Hid (Own w3 w.heap.size (.slice p2 P1.length k2) P1) := Q.out.frame q fun k u => m.out.fresh u
 clear q
 go_wp2_with (at_builtin; refine Qaq _ rfl _ _ 41 9 rfl 5 i0 Tryz.underlying41 Tryz.underlying9 hi Y Z aa w.heap.size _ P1 rfl n.out (textB t.ref) rfl ?d1 y.out.size ?_)
 case d1 => rw [Qaa]; have := F.out.2; have := t.ref_le G.out; omega
 intro v4 w4 f
 rw [Qa5 (t.ref_byte G.out), E.out.2.1] at f
 have z : Hid (Fr B S S w w4) := y.out.grow f.grown fun k u => ⟨(n.out.block k u).1, m.out.fresh (n.out.block k u).1⟩
 obtain ⟨p4, k4, rfl⟩ := f.own.shape'
 have R := Hq f.own
 clear f hm X
 go_wp2_with fail
 refine (Qkw (B := w.heap.size) (v := .slice none 0 0) (l := []) w4 (Own.nil _ _) R.out (by simp [Value.ownBlock]) z.out.size (by have := E.out.2.2; omega) (by simp)).mono ?_
 rintro e w5 ⟨v5, rfl, h⟩
 rw [List.nil_append, E.out.1] at h
 have O : Hid (Fr B S S w w5) := z.out.grow h.grown (by simp [Value.ownBlock])
 obtain ⟨p5, k5, rfl⟩ := h.own.shape'
 have q5 := Qag (P := Tryz.prog) w5 41 9 5 Tryz.underlying41 Tryz.underlying5 Tryz.underlying9 h.own
 clear h
 go_wp2
 go_ret
 exact ⟨rfl, O.out⟩
theorem QDi (w : World) : (sizeOf 56).run Tryz.prog w = .ok 1 w := by kernel_rfl
theorem Qde (r : List Value) (k : Nat) (hk : k < r.length) (h16 : r.length = 16) (w : World) : (Instr.index 233 (.agg r.toArray) (.int .i64 (k : Int))).run Tryz.prog w = .ok r[k] w := by
 have a : k < 16 := by omega
 have b := QDi w
 have c : r[k]? = some r[k] := by simp [hk]
 simp [Instr.index, asIntOf, run_underlying Tryz.underlying233, a, part, b, c, go_sem]
variable {ks : List Nd}
theorem Qtq (hf : Forest B S w) (hT : Tabs w) (hM : 15 <= B) (hb : S b = some (.br ks)) (hR : ∀ x ∈ ks, x ≠ .no -> RefC B S x) :
  Calls Tryz.prog 169 #[.pointer (some ⟨b, 0, none⟩)] w fun e w' => e = .returned (.string (textB (Nd.br ks).code)) /\ Fr B S S w w' := by
 obtain ⟨i0, hi, ak, al, am⟩ := info_parts Qc8
 obtain ⟨g, r, _, hr, I, rg, _, _⟩ := (hf.node b _ hb).cell
 obtain ⟨z, Y⟩ : r.length = 16 /\ ∀ i (h1 : i < r.length) (h2 : i < ks.length), ndV S r[i] ks[i] := hr
 have F := hf.ok b _ hb
 rw [Nd.ok] at F
 have aj : (Tryz.prog.info? 233).map (·.size) = some r.length := by rw [z]; kernel_rfl
 obtain ⟨C, hC⟩ : ∃ C, (Nd.br ks).code = C := ⟨_, rfl⟩
 have HC : Hid (listCode (refs ks ++ textCode []) = C) := by rw [<- hC, Nd.code]; exact rfl
 rw [hC]
 have s : Hid (ks.length = 16 /\ oks ks /\ r.length = 16) := ⟨F.1, F.2, z⟩
 have HV : Hid (∀ i (h1 : i < r.length) (h2 : i < ks.length), ndV S r[i] ks[i]) := Y
 have HR := Hq hR
 have G := Hq hf
 have ah : Hid (Tabs w) := hT
 have HM : Hid (15 <= B) := hM
 clear hf hT hM hb hR z Y F I hC
 go_enter Tryz.func169, Tryz.ntmps169
 go_wp2_with (refine wpList_load_mid rfl 233 _ rfl b 1 rfl r _ rg Tryz.underlying233 rfl aj ?_)
 go_loopg [3, 10] 16 (fun gh v i wr => ∃ k, k <= 16 /\ gh = 16 - k /\ i = .int .i64 (k : Int) /\ Own wr w.heap.size v (refs (ks.take k)) /\ Fr B S S w wr)
 case atStart => exact ⟨0, Nat.zero_le _, rfl, rfl, by rw [List.take_zero, refs]; exact Own.nil _ _, Fr.refl G.out⟩
 case round =>
  obtain ⟨k, hk, rfl, rfl, U, hF⟩ := hrel
  have h := Hq hF
  obtain ⟨R, E⟩ : ∃ R, refs (ks.take k) = R := ⟨_, rfl⟩
  rw [E] at U
  have p : Hid (refs (ks.take k) = R /\ R.length <= 33 * 16) := by
   refine ⟨E, ?_⟩
   have h1 : oks (ks.take k) := Qmp fun x D => Qhd s.out.2.1 (List.mem_of_mem_take D)
   have h2 := Qto _ h1
   rw [List.length_take, E] at h2
   have := s.out.1
   omega
  obtain ⟨p0, I, rfl⟩ := U.shape'
  have y := Hq U
  clear U hF E
  by_cases ap : k < 16
  ·have ao : (k : Int) < 16 := by omega
   have X : k < r.length := by have := s.out.2.2; omega
   have K : k < ks.length := by have := s.out.1; omega
   have hv := HV.out k X K
   have q0 := fun w => Qde r k X s.out.2.2 w
   have D := List.getElem_mem K
   have N : refs (ks.take (k + 1)) = R ++ ks[k].ref := by
    rw [List.take_add_one, Qop, p.out.1, List.getElem?_eq_getElem K, Option.toList, Qbh, refs, List.append_nil]
   have O := Qhd s.out.2.1 D
   obtain ⟨t, ht⟩ : ∃ t, ks[k] = t := ⟨_, rfl⟩
   rw [ht] at hv D N O
   obtain ⟨u, hu⟩ : ∃ u, r[k] = u := ⟨_, rfl⟩
   rw [hu] at hv
   simp only [hu] at q0
   have Q : Hid (refs (ks.take (k + 1)) = R ++ t.ref /\ t.ok) := ⟨N, O⟩
   clear N O ht hu
   rcases hv with ⟨rfl, rfl⟩ | ⟨hne, c, rfl, hc⟩
   ·clear D
    go_wp2_with fail
    refine (Qdd (B := w.heap.size) (l := R) ⟨#[]⟩ wr y.out h.out.size (by show 0 <= _; omega) (by have := p.out.2; omega)).mono ?_
    rintro e q ⟨v1, rfl, n⟩
    have d : Grew wr q w.heap.size (.slice p0 R.length I) v1 (refs (ks.take (k + 1))) := by rw [Q.out.1]; exact n
    have f : Hid (Fr B S S w q) := h.out.grow n.grown fun j o => ⟨(y.out.block j o).1, G.out.fresh (y.out.block j o).1⟩
    have m := Hq d.own
    clear n d
    go_wp2
    go_roundg (16 - (k + 1))
    case measure => omega
    case rel => exact ⟨k + 1, by omega, rfl, by simp, m.out, f.out⟩
   ·have hm := mRef t hne
    have ai := Qx6 t hne
    have ae := Hq (HR.out t D hne)
    have ag : Hid (Tabs wr) := h.out.tabs G.out ah.out HM.out
    clear D
    go_wp2_with fail
    refine (ae.out wr c h.out.forest ag.out HM.out hc).mono ?_
    rintro e q ⟨rfl, J⟩
    have f : Hid (Fr B S S w q) := h.out.trans J
    have m : Hid (Own q w.heap.size (.slice p0 R.length I) R) := y.out.frame J fun j o => G.out.fresh o
    clear J
    go_wp2_with (at_builtin; refine Qaq _ rfl _ _ 41 9 rfl 5 i0 Tryz.underlying41 Tryz.underlying9 hi ak al am w.heap.size _ R rfl m.out (textB t.ref) rfl ?d1 f.out.size ?_)
    case d1 => rw [Qaa]; have := p.out.2; have := t.ref_le Q.out.2; omega
    intro v2 V a
    rw [Qa5 (t.ref_byte Q.out.2), <- Q.out.1] at a
    have H : Hid (Fr B S S w V) := f.out.grow a.grown fun j o => ⟨(m.out.block j o).1, G.out.fresh (m.out.block j o).1⟩
    have ac := Hq a.own
    clear a hm ai
    go_wp2
    go_roundg (16 - (k + 1))
    case measure => omega
    case rel => exact ⟨k + 1, by omega, rfl, by simp, ac.out, H.out⟩
  ·have aa : k = 16 := by omega
   subst aa
   have W : refs ks = R := by
    rw [<- p.out.1, List.take_of_length_le (by have := s.out.1; omega)]
   obtain ⟨L, T⟩ : ∃ L, R ++ textCode [] = L := ⟨_, rfl⟩
   have Z : Hid (listCode L = C /\ R ++ textCode [] = L /\ L.length <= 600) := by
    refine ⟨by rw [<- T, <- W]; exact HC.out, T, ?_⟩
    have := Qae []
    have := p.out.2
    rw [<- T, List.length_append]
    simp at *
    omega
   clear W T
   go_wp2_with fail
   refine (Qdd (B := w.heap.size) (l := R) ⟨#[]⟩ wr y.out h.out.size (by show 0 <= _; omega) (by have := p.out.2; omega)).mono ?_
   rintro e q ⟨v1, rfl, n⟩
   have d : Grew wr q w.heap.size (.slice p0 R.length I) v1 L := by rw [<- Z.out.2.1]; exact n
   have f : Hid (Fr B S S w q) := h.out.grow n.grown fun j o => ⟨(y.out.block j o).1, G.out.fresh (y.out.block j o).1⟩
   obtain ⟨p1, c1, rfl⟩ := d.own.shape'
   have m := Hq d.own
   clear n d
   go_wp2_with fail
   refine (Qkw (B := w.heap.size) (v := .slice none 0 0) (l := []) q (Own.nil _ _) m.out (by simp [Value.ownBlock]) f.out.size (by have := Z.out.2.2; omega) (by simp)).mono ?_
   rintro e V ⟨v2, rfl, a⟩
   rw [List.nil_append, Z.out.1] at a
   have H : Hid (Fr B S S w V) := f.out.grow a.grown (by simp [Value.ownBlock])
   obtain ⟨p2, c2, rfl⟩ := a.own.shape'
   have q5 := Qag (P := Tryz.prog) V 41 9 5 Tryz.underlying41 Tryz.underlying5 Tryz.underlying9 a.own
   clear a
   go_wp2
   go_ret
   exact ⟨rfl, H.out⟩
theorem Fr.held2 {Y : World} (hf : Forest B S w) (hb : S b = some t) (u : Value) (hY : Below w.heap.size (w.setCell ⟨b, 0, none⟩ u) Y) {h : ByteArray} (hh : heldOK t h) : Fr B S S w (Y.setCell ⟨b, 0, none⟩ (.string h)) := by
 have n : (w.setCell ⟨b, 0, none⟩ u).heap.size = w.heap.size := by simp
 have f := hY.size
 rw [n] at f
 have c : ∀ k, k < w.heap.size -> k ≠ b -> (Y.setCell ⟨b, 0, none⟩ (.string h)).heap[k]? = w.heap[k]? := fun k a d =>
  (Below.heap_setCell _ _ _ _ d).trans ((hY.block k a).trans (Below.heap_setCell _ _ _ _ d))
 refine ⟨hY.os, hY.tape, hY.output, by simpa using f, fun k a d => c k a fun e => ?_, ⟨fun k v a => ?_, hf.ok, hf.low, by have := hf.le; simp; omega⟩, fun _ _ h => h, fun _ _ h => h, fun k v a j s => ?_⟩
 ·rw [e, hb] at d
  cases d
 ·obtain ⟨g, r, o, l, m⟩ := hf.node k v a
  by_cases e : k = b
  ·subst e
   obtain rfl : t = v := Option.some.inj (hb.symm.trans a)
   have q := hf.lt hb
   exact ⟨h, r, hh, l, Qhf ((hY.block k q).trans (Qhf m))⟩
  ·exact ⟨g, r, o, l, (c k (hf.lt a) e).trans m⟩
 ·have i : (⟨k, j, none⟩ : Addr) ≠ ⟨b, 0, none⟩ := fun e => by have := congrArg Addr.off e; simp at this; omega
  exact (World.cell?_setCell_other _ _ _ _ (Ne.symm i)).trans ((hY.cell (p := ⟨k, j, none⟩) (hf.lt a)).trans (World.cell?_setCell_other _ _ _ _ (Ne.symm i)))
theorem Qkx (hf : Forest B S w) (hT : Tabs w) (hM : 15 <= B) (hb : S b = some t) (ht : t.ref = refOf t.code) (F : FuncId)
  (hF : ∀ args w, (callFunc F args).run Tryz.prog w = .ok (.enter F args) w) (hc : Calls Tryz.prog F #[.pointer (some ⟨b, 0, none⟩)] w fun e w' => e = .returned (.string (textB t.code)) /\ Fr B S S w w') :
  Calls Tryz.prog 151 #[.pointer (some ⟨b, 0, none⟩), .func (.func F) #[.pointer (some ⟨b, 0, none⟩)] #[]] w fun e w' => e = .returned (.string (textB t.ref)) /\ Fr B S S w w' := by
 obtain ⟨g, r, L, hr, X, rg, R, _⟩ := (hf.node b _ hb).cell
 have aa := t.code_byte (hf.ok b t hb)
 have E := t.ref_pos
 have Z := R 0
 have J := Hq hf
 have Q : Hid (Tabs w) := hT
 have P : Hid (15 <= B) := hM
 have U := hf.lt hb
 have m := Hq hb
 obtain ⟨s, n⟩ : ∃ s, textB t.code = s := ⟨_, rfl⟩
 obtain ⟨z, l⟩ : ∃ z, textB t.ref = z := ⟨_, rfl⟩
 have a : Hid (textB t.ref = z /\ textB t.code = s /\ s.size = t.code.length /\ t.ref = refOf t.code) := ⟨l, n, by rw [<- n, Qaa], ht⟩
 have V : 0 < z.size := by rw [<- l, Qaa]; exact E
 rw [n] at hc
 rw [l]
 unfold heldOK at L
 rw [l] at L
 clear hf hT hM hb ht n l hr rg R E
 rcases L with rfl | ⟨rfl, -⟩
 ·have ac := Qcu g V
  clear hc hF
  go_enter Tryz.func151, Tryz.ntmps151
  go_wp2
  go_ret
  exact ⟨rfl, Fr.refl J.out⟩
 ·have O := Hq hc
  clear hc
  go_enter Tryz.func151, Tryz.ntmps151
  go_wp2_with fail
  refine O.out.mono ?_
  rintro e f ⟨rfl, h⟩
  obtain ⟨g1, r1, _, _, d0, _, q, _⟩ := (h.forest.node b _ m.out).cell
  have Y := q 0
  have c := Hq h
  have u : b < f.heap.size := Nat.lt_of_lt_of_le U h.size
  clear h q hF O X Z
  by_cases C : s.size < 32
  ·have hi : (s.size : Int) < 32 := by omega
   have I : heldOK t s := by
    left
    rw [<- a.out.2.1, a.out.2.2.2, refOf, if_pos (by have := a.out.2.2.1; omega)]
   have G : s = z := by
    rw [<- a.out.1, <- a.out.2.1, a.out.2.2.2, refOf, if_pos (by have := a.out.2.2.1; omega)]
   have d : Hid (heldOK t s /\ s = z) := ⟨I, G⟩
   clear I C G
   go_wp2
   go_ret
   exact ⟨congrArg (fun x => Ending.returned (.string x)) d.out.2, c.out.trans (Fr.held c.out.forest m.out d.out.1)⟩
  ·have hi : (32 : Int) <= (s.size : Int) := by omega
   have H : textB (textCode (digF s).toList) = z := by
    rw [<- a.out.1, a.out.2.2.2, refOf, if_neg (by have := a.out.2.2.1; omega), digB, a.out.2.1]
   have T : heldOK t z := .inl a.out.1.symm
   have d : Hid (heldOK t z /\ textB (textCode (digF s).toList) = z /\ (digF s).toList.length = 32 /\ ∀ x ∈ (digF s).toList, x < 256) := ⟨T, H, by unfold digF; rw [Array.length_toList]; exact Qd4 _, Qku s⟩
   obtain ⟨D, K⟩ : ∃ D, (digF s).toList = D := ⟨_, rfl⟩
   rw [K] at d
   have W := Hq K
   have j : Hid (Tabs (f.setCell ⟨b, 0, none⟩ (.string s)) /\ 15 <= (f.setCell ⟨b, 0, none⟩ (.string s)).heap.size) := by
    have h1 := c.out.tabs J.out Q.out P.out
    have h2 : B <= b := J.out.low b t m.out
    have h3 := P.out
    exact ⟨h1.of_blocks (Below.heap_setCell _ _ _ _ (by show 13 ≠ b; omega)) (Below.heap_setCell _ _ _ _ (by show 14 ≠ b; omega)), by simp; omega⟩
   clear C H T K
   go_wp2_with fail
   refine (Qkf s _ j.out.1 j.out.2).mono ?_
   rintro e w2 ⟨rfl, v⟩
   rw [W.out]
   have k : Below f.heap.size (f.setCell ⟨b, 0, none⟩ (.string s)) w2 := v.mono (by simp)
   have o := Hq k
   clear v k j
   go_wp2_with fail
   refine (Qms D d.out.2.2.1 d.out.2.2.2 w2).mono ?_
   rintro e N ⟨rfl, y⟩
   rw [d.out.2.1]
   have i : Hid (Below f.heap.size (f.setCell ⟨b, 0, none⟩ (.string s)) N) := o.out.trans (y.mono (by have := o.out.size; simpa using this))
   have e0 : N.cell? ⟨b, 0, none⟩ = some (.string s) := (i.out.cell (p := ⟨b, 0, none⟩) u).trans (by go_simp)
   have e1 : N.frozen? ⟨b, 0, none⟩ = false := (i.out.frozen (p := ⟨b, 0, none⟩) u).trans (by rw [World.frozen?_setCell]; exact Y)
   clear y
   go_wp2
   go_ret
   exact ⟨rfl, c.out.trans (Fr.held2 c.out.forest m.out _ i.out d.out.1)⟩
theorem Qx7 (args : Array Value) (w : World) : (callFunc 139 args).run Tryz.prog w = .ok (.enter 139 args) w := by kernel_rfl
theorem QA6 (args : Array Value) (w : World) : (callFunc 180 args).run Tryz.prog w = .ok (.enter 180 args) w := by kernel_rfl
theorem QC8 (args : Array Value) (w : World) : (callFunc 169 args).run Tryz.prog w = .ok (.enter 169 args) w := by kernel_rfl
theorem QA7 (n : FuncId) (v : Value) (w : World) : (Instr.makeFunc (.func n) #[v] #[]).run Tryz.prog w = .ok (.func (.func n) #[v] #[]) w := by rfl
theorem Qx8 (hf : Forest B S w) (hT : Tabs w) (hM : 15 <= B) (hb : S b = some (.leaf p v)) :
  Calls Tryz.prog 143 #[.pointer (some ⟨b, 0, none⟩)] w fun e w' => e = .returned (.string (textB (Nd.leaf p v).ref)) /\ Fr B S S w w' := by
 have d := Hq (Qkx hf hT hM hb rfl _ Qx7 (Qmt hf hb))
 obtain ⟨R, f⟩ : ∃ R, textB (Nd.leaf p v).ref = R := ⟨_, rfl⟩
 rw [f] at d ⊢
 have g := QA7 139
 clear hf hT hM hb f
 go_enter Tryz.func143, Tryz.ntmps143
 go_wp2_with fail
 refine d.out.mono ?_
 rintro e h ⟨rfl, a⟩
 have c := Hq a
 clear a
 go_wp2
 go_ret
 exact ⟨rfl, c.out⟩
theorem QA8 (hf : Forest B S w) (hT : Tabs w) (hM : 15 <= B) (hb : S b = some (.ext p t)) (hR : RefC B S t) :
  Calls Tryz.prog 186 #[.pointer (some ⟨b, 0, none⟩)] w fun e w' => e = .returned (.string (textB (Nd.ext p t).ref)) /\ Fr B S S w w' := by
 have d := Hq (Qkx hf hT hM hb rfl _ QA6 (Qps hf hT hM hb hR))
 obtain ⟨R, hR⟩ : ∃ R, textB (Nd.ext p t).ref = R := ⟨_, rfl⟩
 rw [hR] at d ⊢
 have f := QA7 180
 clear hf hT hM hb hR
 go_enter Tryz.func186, Tryz.ntmps186
 go_wp2_with fail
 refine d.out.mono ?_
 rintro e g ⟨rfl, a⟩
 have c := Hq a
 clear a
 go_wp2
 go_ret
 exact ⟨rfl, c.out⟩
theorem QC9 (hf : Forest B S w) (hT : Tabs w) (hM : 15 <= B) (hb : S b = some (.br ks)) (hR : ∀ x ∈ ks, x ≠ .no -> RefC B S x) :
  Calls Tryz.prog 174 #[.pointer (some ⟨b, 0, none⟩)] w fun e w' => e = .returned (.string (textB (Nd.br ks).ref)) /\ Fr B S S w w' := by
 have d := Hq (Qkx hf hT hM hb rfl _ QC8 (Qtq hf hT hM hb hR))
 obtain ⟨R, hR⟩ : ∃ R, textB (Nd.br ks).ref = R := ⟨_, rfl⟩
 rw [hR] at d ⊢
 have f := QA7 169
 clear hf hT hM hb hR
 go_enter Tryz.func174, Tryz.ntmps174
 go_wp2_with fail
 refine d.out.mono ?_
 rintro e g ⟨rfl, a⟩
 have c := Hq a
 clear a
 go_wp2
 go_ret
 exact ⟨rfl, c.out⟩
theorem Qx9 {h : List Nat} (hf : Forest B S w) (hb : S b = some (.stub h)) :
  Calls Tryz.prog 137 #[.pointer (some ⟨b, 0, none⟩)] w fun e w' => e = .returned (.string (textB (Nd.stub h).ref)) /\ Fr B S S w w' := by
 obtain ⟨g, r, a, _, f, _, _, _⟩ := (hf.node b _ hb).cell
 have d := Hq hf
 obtain ⟨R, c⟩ : ∃ R, textB (Nd.stub h).ref = R := ⟨_, rfl⟩
 unfold heldOK at a
 rw [c] at a ⊢
 obtain rfl : g = R := by
  rcases a with h1 | ⟨_, h1⟩
  ·exact h1
  ·exact absurd rfl (h1 h)
 clear hf hb c a
 go_enter Tryz.func137, Tryz.ntmps137
 go_wp2
 go_ret
 exact ⟨rfl, Fr.refl d.out⟩
mutual
theorem Qhk (B : Nat) (S : Wood) : ∀ t : Nd, t ≠ .no -> RefC B S t
 | .no, h => absurd rfl h
 | .leaf p v, _ => fun _ _ hf hT hM hb => Qx8 hf hT hM hb
 | .ext p t, _ => fun _ b hf hT hM hb => by
  have hok := hf.ok b _ hb
  rw [Nd.ok] at hok
  exact QA8 hf hT hM hb (Qhk B S t hok.2.2)
 | .br ks, _ => fun _ _ hf hT hM hb => QC9 hf hT hM hb (Qky B S ks)
 | .stub h, _ => fun _ _ hf _ _ hb => Qx9 hf hb
theorem Qky (B : Nat) (S : Wood) : ∀ ks : List Nd, ∀ x ∈ ks, x ≠ .no -> RefC B S x
 | [], _, h, _ => by cases h
 | t :: ks, x, h, hn => by
  rcases List.mem_cons.1 h with e | h
  ·exact e ▸ Qhk B S t (e ▸ hn)
  ·exact Qky B S ks x h hn
end
def Nd.dig (t : Nd) : List Nat := if t.ref.length < 32 then digB t.ref else t.ref.drop 1
theorem Qc1 (h : l.length = 32) : textCode l = 160 :: l := by
 unfold textCode headB
 simp [h]
theorem Qtr (c : List Nat) : (if (refOf c).length < 32 then digB (refOf c) else (refOf c).drop 1) = digB c := by
 by_cases h : c.length < 32
 ·have e : refOf c = c := by unfold refOf; rw [if_pos h]
  rw [e, if_pos h]
 ·have e : refOf c = textCode (digB c) := by unfold refOf; rw [if_neg h]
  rw [e, Qbu (Qak c), if_neg (by omega), Qc1 (Qak c)]
  rfl
theorem Nd.dig_eq (h : t.ref = refOf t.code) : t.dig = digB t.code := by
 unfold Nd.dig
 rw [h]
 exact Qtr _
theorem QA9 (c : List Nat) (h : ¬ (refOf c).length < 32) : (refOf c).length = 33 := by
 unfold refOf at h ⊢
 by_cases a : c.length < 32
 ·rw [if_pos a] at h; omega
 ·rw [if_neg a, Qbu (Qak c)]
theorem Nd.ref_33 (t : Nd) (ho : t.ok) (h : ¬ t.ref.length < 32) : t.ref.length = 33 := by
 cases t with
 | no => exact absurd (by show (textCode []).length < 32; have := Qae []; simp at this; omega) h
 | stub g => rw [Nd.ok] at ho; exact Qbu ho.1
 | leaf _ _ => exact QA9 _ h
 | ext _ _ => exact QA9 _ h
 | br _ => exact QA9 _ h
theorem Nd.dig_length (t : Nd) (ho : t.ok) : t.dig.length = 32 := by
 unfold Nd.dig
 split
 ·exact Qak _
 ·rename_i h
  rw [List.length_drop, t.ref_33 ho h]
theorem Qj7 (w : World) (b o : Nat) (cs : List Value) (k : Nat) (h : k ≠ b) : (World.setCells w b o cs).heap[k]? = w.heap[k]? := Qa8 _ _ _ _ _ h
theorem Fr.setCells {B : Nat} {S S' : Wood} {w w1 : World} (h : Fr B S S' w w1) (b o : Nat) (cs : List Value) (hb : w.heap.size <= b) (hn : S' b = none) : Fr B S S' w (World.setCells w1 b o cs) := by
 refine h.grow (o := some b) ⟨?_, ?_, ?_, Nat.le_of_eq (Qa9 b cs o w1).1.symm, fun k a c => Qj7 _ _ _ _ _ fun e => c (by rw [e])⟩ fun k a => by cases a; exact ⟨hb, hn⟩
 ·exact (Qa9 b cs o w1).2.1
 ·exact (Qa9 b cs o w1).2.2.1
 ·exact (Qa9 b cs o w1).2.2.2
theorem Qjl (a : Addr) (cap : Nat) (w : World) : (Instr.arrayAt 37 (.slice (some a) 32 cap)).run Tryz.prog w = .ok (.pointer (some a)) w := by
 simp [Instr.arrayAt, run_underlying Tryz.underlying37, go_sem]
theorem Qmu (w : World) (s : ByteArray) : (Lib.bytesWorld w 5 s).rangeAt w.heap.size 0 ((bytesOf s).map encB) := fun j v hv => by
 rw [Nat.zero_add]
 have hj : j < s.size := by
  have := (List.getElem?_eq_some_iff.1 hv).1
  simpa [bytesOf] using this
 rw [Lib.bytesWorld_cell w 5 s j hj, <- hv]
 simp [bytesOf, encB, List.getD, hj]
theorem Qdf {c : Nat} (hf : Forest B S w) (hT : Tabs w) (hM : 15 <= B) (hc : S c = some t) (hne : t ≠ .no) :
  Calls Tryz.prog 39 #[.iface (ndTy t) (.pointer (some ⟨c, 0, none⟩))] w fun e w' => e = .returned (.agg (t.dig.map encB).toArray) /\ Fr B S S w w' := by
 have r := hf.ok c t hc
 have hm := mRef t hne
 have ae := Qx6 t hne
 have u := Hq hf
 have HT := Hq hT
 have X := Hq hM
 obtain ⟨R, y⟩ : ∃ R, textB t.ref = R := ⟨_, rfl⟩
 have C : R.size = t.ref.length := by rw [<- y, Qaa]
 have HR : Hid (∀ W, Forest B S W -> Tabs W -> Calls Tryz.prog (refFn t) #[.pointer (some ⟨c, 0, none⟩)] W fun e w' => e = .returned (.string R) /\ Fr B S S W w') := fun W h1 h2 => by
  have := Qhk B S t hne W c h1 h2 hM hc
  rw [y] at this
  exact this
 obtain ⟨D, Y⟩ : ∃ D : Array Nat, t.dig.toArray = D := ⟨_, rfl⟩
 have n : t.dig = D.toList := by rw [<- Y]
 have N : D.size = 32 := by rw [<- Y]; simpa using t.dig_length r
 rw [n]
 have O : bytesOf R = t.ref := by rw [<- y, Qa5 (t.ref_byte r)]
 have x : Hid (D.size = 32 /\ (t.ref.length < 32 -> (digF R).toList = D.toList) /\ (¬ t.ref.length < 32 -> R.size = 33 /\ bytesOf (R.extract 1 R.size) = D.toList)) := by
  refine ⟨N, fun h => ?_, fun h => ⟨by rw [C, t.ref_33 r h], ?_⟩⟩
  ·rw [<- n, Nd.dig, if_pos h, digB, y]
  ·rw [Qaz, O, <- n, Nd.dig, if_neg h]
 have L : Hid (R.size = t.ref.length) := C
 clear r hf hT hM hc y C Y n N O
 go_enter Tryz.func39, Tryz.ntmps39
 go_wp2_with fail
 generalize hw0 : (w.alloc (.cells _ 37)) = w0
 have g : Below w.heap.size w w0 := by rw [<- hw0]; exact (Below.refl _ _).alloc (Nat.le_refl _) _
 have T : w0.there w.heap.size 0 32 := by rw [<- hw0]; exact Qac _ _ _ _ rfl
 have I : w.heap.size < w0.heap.size := by rw [<- hw0]; simp
 have E : Tabs w0 := HT.out.below g (by have := X.out; have := u.out.le; omega)
 clear hw0
 refine (HR.out w0 (u.out.below g) E).mono ?_
 rintro e a ⟨rfl, i⟩
 have H : S w.heap.size = none := u.out.fresh (Nat.le_refl _)
 have U : a.there w.heap.size 0 32 := Qad T (i.other _ I H)
 have Q : w.heap.size < a.heap.size := Nat.lt_of_lt_of_le I i.size
 have b : Hid (Fr B S S w a /\ a.there w.heap.size 0 32 /\ Tabs a /\ S w.heap.size = none) := ⟨(Fr.of_below u.out g).trans i, U, i.tabs (u.out.below g) E X.out, H⟩
 clear i hm ae E g T I H U
 by_cases q : t.ref.length < 32
 ·have hi : (R.size : Int) < 32 := by have := L.out; omega
  have aa := Hq (x.out.2.1 q)
  clear q
  go_wp2_with fail
  refine (Qkf R a b.out.2.2.1 (by have := X.out; have := u.out.le; omega)).mono ?_
  rintro e K ⟨rfl, F⟩
  rw [aa.out]
  obtain ⟨s, J, m, d⟩ := Qb7 x.out.1 (Qad b.out.2.1 (F.block _ Q))
  have j := all_oneCell_toArray (Qaf D .u8)
  have f : Hid (Fr B S S w K /\ K.there w.heap.size 0 (D.toList.map encB).length) := ⟨b.out.1.behind F, d⟩
  clear F d
  go_wp2_with (refine wpList_store_mid rfl 37 _ _ rfl w.heap.size 0 (D.toList.map encB).toArray rfl rfl m J j ?_)
  refine bodyPost_ret (v := .agg (D.toList.map encB).toArray) (Qaj Tryz.results39 _ _ _ w.heap.size 0 rfl (run_loadVar_mid _ _ _ 37 _ _ (World.rangeAt_setCells_same _ _ _ _ f.out.2) Tryz.underlying37 rfl s)) rfl ⟨rfl, ?_⟩
  exact f.out.1.setCells _ _ _ (Nat.le_refl _) b.out.2.2.2
 ·have hi : (32 : Int) <= (R.size : Int) := by have := L.out; omega
  obtain ⟨ac, o⟩ := x.out.2.2 q
  have ag : (1 : Int) <= (R.size : Int) := by omega
  obtain ⟨z, hz⟩ : ∃ z, R.extract 1 R.size = z := ⟨_, rfl⟩
  rw [hz] at o
  have V : z.size = 32 := by rw [<- bytesOf_length, o]; simpa using x.out.1
  have Z := Lib.run_convert_string_bytes (P := Tryz.prog) a 9 41 5 z Tryz.underlying9 Tryz.underlying41 Tryz.underlying5
  rw [V] at Z
  obtain ⟨cap, G⟩ : ∃ cap, grownCap a 32 0 5 = cap := ⟨_, rfl⟩
  rw [G] at Z
  have qa := fun W => Qjl ⟨a.heap.size, 0, none⟩ cap W
  have l := Qmu a z
  rw [o] at l
  have p : Below a.heap.size a (Lib.bytesWorld a 5 z) := ⟨rfl, rfl, rfl, by rw [Lib.bytesWorld_size]; omega, fun k hk => Lib.bytesWorld_at_old a 5 z k hk⟩
  generalize Lib.bytesWorld a 5 z = K at Z l p
  obtain ⟨s, J, m, d⟩ := Qb7 x.out.1 (Qad b.out.2.1 (p.block _ Q))
  have j := all_oneCell_toArray (Qaf D .u8)
  have f : Hid (Fr B S S w K /\ K.there w.heap.size 0 (D.toList.map encB).length) := ⟨b.out.1.behind p, d⟩
  clear q o G p d V ac
  go_wp2_with (first | (refine wpList_load_mid rfl 37 _ rfl a.heap.size 0 rfl (D.toList.map encB) _ l Tryz.underlying37 rfl s ?_) | (refine wpList_store_mid rfl 37 _ _ rfl w.heap.size 0 (D.toList.map encB).toArray rfl rfl m J j ?_))
  refine bodyPost_ret (v := .agg (D.toList.map encB).toArray) (Qaj Tryz.results39 _ _ _ w.heap.size 0 rfl (run_loadVar_mid _ _ _ 37 _ _ (World.rangeAt_setCells_same _ _ _ _ f.out.2) Tryz.underlying37 rfl s)) rfl ⟨rfl, ?_⟩
  exact f.out.1.setCells _ _ _ (Nat.le_refl _) b.out.2.2.2
def TreeAt (S : Wood) (w : World) (b : Nat) (t : Nd) : Prop := S b = none /\ ∃ v, ndV S v t /\ w.heap[b]? = some (.cells #[v] 60 (0, 0))
theorem TreeAt.lt (h : TreeAt S w b t) : b < w.heap.size := by
 obtain ⟨_, v, _, h⟩ := h
 exact (Array.getElem?_eq_some_iff.1 h).1
theorem TreeAt.cell {S : Wood} {w : World} {b : Nat} {t : Nd} (h : TreeAt S w b t) : ∃ v, ndV S v t /\ w.cell? ⟨b, 0, none⟩ = some v /\ w.frozen? ⟨b, 0, none⟩ = false := by
 obtain ⟨_, v, a, h⟩ := h
 exact ⟨v, a, by simp [World.cell?, h], by simp [World.frozen?, h]⟩
theorem TreeAt.frame (h : TreeAt S w b t) (hf : Fr B S S' w w') : TreeAt S' w' b t := by
 have c := h.lt
 obtain ⟨a, v, d, h⟩ := h
 exact ⟨hf.new b c a, v, d.sub hf.sub, (hf.other b c a).trans h⟩
theorem Qhl (w : World) : Calls Tryz.prog 38 #[] w fun e w' => e = .returned (.string (textB (textCode []))) /\ Below w.heap.size w w' := by
 obtain ⟨C, b⟩ : ∃ C, textCode [] = C := ⟨_, rfl⟩
 have f := Hq b
 rw [b]
 clear b
 go_enter Tryz.func38, Tryz.ntmps38
 go_wp2_with fail
 refine (Qdd (B := w.heap.size) (l := []) ⟨#[]⟩ w (Own.nil _ _) (Nat.le_refl _) (by show 0 <= _; omega) (by simp)).mono ?_
 rintro e c ⟨j, rfl, a⟩
 rw [List.nil_append, show bytesOf ⟨#[]⟩ = [] from rfl, f.out] at a
 obtain ⟨h, g, rfl⟩ := a.own.shape'
 have d : Hid (Below w.heap.size w c) := Qf1 (Below.refl _ _) (Own.nil _ _) a
 have i := Qag (P := Tryz.prog) c 41 9 5 Tryz.underlying41 Tryz.underlying5 Tryz.underlying9 a.own
 clear a
 go_wp2
 go_ret
 exact ⟨rfl, d.out⟩
theorem Nd.dig_no : Nd.dig .no = digB (textCode []) := by
 unfold Nd.dig
 exact if_pos (by show (textCode []).length < 32; have := Qae []; simp at this; omega)
theorem Qts (hf : Forest B S w) (hT : Tabs w) (hM : 15 <= B) (ht : TreeAt S w b t) :
  Calls Tryz.prog 22 #[.pointer (some ⟨b, 0, none⟩)] w fun e w' => e = .returned (.agg (t.dig.map encB).toArray) /\ Fr B S S w w' := by
 have L := ht.lt
 obtain ⟨v, H, N, -⟩ := ht.cell
 have j := Hq hf
 have K := Hq hT
 have F := Hq hM
 have C : t.dig.length = 32 := by
  rcases H with ⟨rfl, _⟩ | ⟨_, c, _, hc⟩
  ·rw [Nd.dig_no]; exact Qak _
  ·exact t.dig_length (hf.ok c t hc)
 obtain ⟨D, G⟩ : ∃ D : Array Nat, t.dig.toArray = D := ⟨_, rfl⟩
 have n : t.dig = D.toList := by rw [<- G]
 have u : Hid (D.size = 32 /\ t.dig = D.toList) := ⟨by rw [<- G]; simpa using C, n⟩
 rw [n]
 have E : ∀ w0, Below w.heap.size w w0 -> Tabs w0 := fun w0 a => K.out.below a (by have := F.out; have := j.out.le; omega)
 have x := Hq E
 clear hf hT hM ht G n C E
 rcases H with ⟨rfl, rfl⟩ | ⟨hne, c, rfl, hc⟩
 ·go_enter Tryz.func22, Tryz.ntmps22
  go_wp2_with fail
  generalize hw0 : (w.alloc (.cells _ 37)) = w0
  have a : Below w.heap.size w w0 := by rw [<- hw0]; exact (Below.refl _ _).alloc (Nat.le_refl _) _
  have i : w0.there w.heap.size 0 32 := by rw [<- hw0]; exact Qac _ _ _ _ rfl
  have g : w.heap.size < w0.heap.size := by rw [<- hw0]; simp
  clear hw0
  refine (Qhl w0).mono ?_
  rintro e w1 ⟨rfl, m⟩
  have y : Below w.heap.size w w1 := Below.behind a m
  have h : Hid (Below w.heap.size w w1 /\ w1.there w.heap.size 0 32 /\ w.heap.size < w1.heap.size) := ⟨y, Qad i (m.block _ g), Nat.lt_of_lt_of_le g m.size⟩
  clear a i g m y
  go_wp2_with fail
  refine (Qkf (textB (textCode [])) w1 (x.out w1 h.out.1) (by have := F.out; have := j.out.le; have := h.out.2.2; omega)).mono ?_
  rintro e I ⟨rfl, o⟩
  have z : (digF (textB (textCode []))).toList = D.toList := by rw [<- u.out.2, Nd.dig_no]; rfl
  rw [z]
  obtain ⟨r, s, l, d⟩ := Qb7 u.out.1 (Qad h.out.2.1 (o.block _ h.out.2.2))
  have k := all_oneCell_toArray (Qaf D .u8)
  have f : Hid (Below w.heap.size w I /\ I.there w.heap.size 0 (D.toList.map encB).length) := ⟨Below.behind h.out.1 o, d⟩
  clear o d z
  go_wp2_with (refine wpList_store_mid rfl 37 _ _ rfl w.heap.size 0 (D.toList.map encB).toArray rfl rfl l s k ?_)
  refine bodyPost_ret (v := .agg (D.toList.map encB).toArray) (Qaj Tryz.results22 _ _ _ w.heap.size 0 rfl (run_loadVar_mid _ _ _ 37 _ _ (World.rangeAt_setCells_same _ _ _ _ f.out.2) Tryz.underlying37 rfl r)) rfl ⟨rfl, ?_⟩
  exact (Fr.of_below j.out f.out.1).setCells _ _ _ (Nat.le_refl _) (j.out.fresh (Nat.le_refl _))
 ·have J := Hq hc
  clear hc
  go_enter Tryz.func22, Tryz.ntmps22
  go_wp2_with fail
  generalize hw0 : (w.alloc (.cells _ 37)) = w0
  have a : Below w.heap.size w w0 := by rw [<- hw0]; exact (Below.refl _ _).alloc (Nat.le_refl _) _
  have i : w0.there w.heap.size 0 32 := by rw [<- hw0]; exact Qac _ _ _ _ rfl
  have g : w.heap.size < w0.heap.size := by rw [<- hw0]; simp
  clear hw0
  refine (Qdf (j.out.below a) (x.out w0 a) F.out J.out hne).mono ?_
  rintro e w1 ⟨rfl, p⟩
  rw [u.out.2]
  have q : S w.heap.size = none := j.out.fresh (Nat.le_refl _)
  obtain ⟨r, s, l, d⟩ := Qb7 u.out.1 (Qad i (p.other _ g q))
  have k := all_oneCell_toArray (Qaf D .u8)
  have f : Hid (Fr B S S w w1 /\ w1.there w.heap.size 0 (D.toList.map encB).length /\ S w.heap.size = none) := ⟨(Fr.of_below j.out a).trans p, d, q⟩
  clear p d a i g q
  go_wp2_with (refine wpList_store_mid rfl 37 _ _ rfl w.heap.size 0 (D.toList.map encB).toArray rfl rfl l s k ?_)
  refine bodyPost_ret (v := .agg (D.toList.map encB).toArray) (Qaj Tryz.results22 _ _ _ w.heap.size 0 rfl (run_loadVar_mid _ _ _ 37 _ _ (World.rangeAt_setCells_same _ _ _ _ f.out.2.1) Tryz.underlying37 rfl r)) rfl ⟨rfl, ?_⟩
  exact f.out.1.setCells _ _ _ (Nat.le_refl _) f.out.2.2
theorem Qf7 (hf : Forest B S w) (hT : Tabs w) (hM : 15 <= B) (ht : TreeAt S w b t) :
  Calls Tryz.prog 8 #[.pointer (some ⟨b, 0, none⟩)] w fun e w' => e = .returned (.agg (t.dig.map encB).toArray) /\ Fr B S S w w' := by
 have k : t.dig.length = 32 := by
  obtain ⟨v, z, _⟩ := ht.cell
  rcases z with ⟨rfl, _⟩ | ⟨_, c, _, hc⟩
  ·rw [Nd.dig_no]; exact Qak _
  ·exact t.dig_length (hf.ok c t hc)
 obtain ⟨D, n⟩ : ∃ D : Array Nat, t.dig.toArray = D := ⟨_, rfl⟩
 have f : t.dig = D.toList := by rw [<- n]
 have j : D.size = 32 := by rw [<- n]; simpa using k
 have y : Hid (D.size = 32) := j
 have x : Hid (∀ w0, Below w.heap.size w w0 -> Calls Tryz.prog 22 #[.pointer (some ⟨b, 0, none⟩)] w0 fun e w' => e = .returned (.agg (D.toList.map encB).toArray) /\ Fr B S S w0 w') := fun w0 a => by
  rw [<- f]
  exact Qts (hf.below a) (hT.below a (by have := hf.le; omega)) hM (ht.frame (Fr.of_below hf a))
 rw [f]
 have q := Hq hf
 have C := ht.lt
 clear hf hT hM ht n f k j
 go_enter Tryz.func8, Tryz.ntmps8
 go_wp2_with fail
 generalize hw0 : (w.alloc (.cells _ 37)) = w0
 have a : Below w.heap.size w w0 := by rw [<- hw0]; exact (Below.refl _ _).alloc (Nat.le_refl _) _
 have m : w0.there w.heap.size 0 32 := by rw [<- hw0]; exact Qac _ _ _ _ rfl
 have l : w.heap.size < w0.heap.size := by rw [<- hw0]; simp
 clear hw0
 refine (x.out w0 a).mono ?_
 rintro e u ⟨rfl, g⟩
 have h : S w.heap.size = none := q.out.fresh (Nat.le_refl _)
 obtain ⟨r, s, p, i⟩ := Qb7 y.out (Qad m (g.other _ l h))
 have o := all_oneCell_toArray (Qaf D .u8)
 have d : Hid (Fr B S S w u /\ u.there w.heap.size 0 (D.toList.map encB).length /\ S w.heap.size = none) := ⟨(Fr.of_below q.out a).trans g, i, h⟩
 clear g i a m l h
 go_wp2_with (refine wpList_store_mid rfl 37 _ _ rfl w.heap.size 0 (D.toList.map encB).toArray rfl rfl p s o ?_)
 refine bodyPost_ret (v := .agg (D.toList.map encB).toArray) (Qaj Tryz.results8 _ _ _ w.heap.size 0 rfl (run_loadVar_mid _ _ _ 37 _ _ (World.rangeAt_setCells_same _ _ _ _ d.out.2.1) Tryz.underlying37 rfl r)) rfl ⟨rfl, ?_⟩
 exact d.out.1.setCells _ _ _ (Nat.le_refl _) d.out.2.2
end Go.Proofs.YtakidhihbgfjlaaGreatDoor
