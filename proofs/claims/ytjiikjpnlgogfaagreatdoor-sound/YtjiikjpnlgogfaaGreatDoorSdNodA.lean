/-
  Nodes: the code of a leaf, an extension, a branch; the reference to a node (reference, work, referenceBy).
  A call through an interface: the method's function is entered.
  Nodes: the code of an extension and of a branch; the reference to a node, worked out once (work, reference).
  Nodes: the reference to a node is worked out once (work); the four kinds' reference; so it is given of any node.
  Nodes: the reference to any node; the digest of a node; the root.
  Nodes: the digest of a node; the root of a tree.
  Trees: a tree's cell; its root.
-/
import Derived.Test.YtjiikjpnlgogfaaGreatDoorSdNdA
import Derived.Test.YtjiikjpnlgogfaaGreatDoorSdAccH
import Derived.Test.YtjiikjpnlgogfaaGreatDoorSdBase
namespace Go.Proofs.YtjiikjpnlgogfaaGreatDoor
open Go.RowKit
theorem Fr.grow {B : Nat} {S S' : Wood} {w w1 w2 : World} {o : Option Nat} (h : Fr B S S' w w1) (g : w1.grownBy w2 o) (ho : ∀ k, o = some k → w.heap.size ≤ k ∧ S' k = none) : Fr B S S' w w2 := by
 have hs := g.size
 refine ⟨g.os.trans h.os, g.tape.trans h.tape, g.output.trans h.output, Nat.le_trans h.size g.size, fun k hk hn => ?_, h.forest.keep g.size fun k t hk => ?_, h.sub, h.new, fun b t hb j hj => (World.cell?_of_block (g.block b (h.forest.lt (h.sub b t hb)) fun e => ?_)).trans (h.kids b t hb j hj)⟩
 ·have := h.size
  refine (g.block k (by omega) fun e => ?_).trans (h.other k hk hn)
  have := (ho k e.symm).1
  omega
 ·refine g.block k (h.forest.lt hk) fun e => ?_
  rw [(ho k e.symm).2] at hk
  cases hk
 ·have := h.sub b t hb
  rw [(ho b e.symm).2] at this
  cases this
theorem Own.frame {B C : Nat} {S S' : Wood} {w w' : World} {v : Value} {l : List Nat} (h : Own w C v l) (hf : Fr B S S' w w') (hn : ∀ k, C ≤ k → S k = none) : Own w' C v l :=
 h.keep hf.size fun k hk hv => hf.other k hk (hn k (h.block k hv).1)
theorem NdAt.cell {S : Wood} {w : World} {b : Nat} {t : Nd} (h : NdAt S w b t) : ∃ g r, heldOK t g ∧ NdRest S t r ∧ w.cell? ⟨b, 0, none⟩ = some (.string g) ∧ w.rangeAt b 1 r ∧ (∀ j, w.frozen? ⟨b, j, none⟩ = false) ∧ w.heap[b]? = some (.cells (.string g :: r).toArray (ndObj t) (0, 0)) := by
 obtain ⟨g, r, h1, h2, h3⟩ := h
 refine ⟨g, r, h1, h2, ?_, fun j v hv => ?_, fun j => ?_, h3⟩
 ·simp [World.cell?, h3]
 ·simp [World.cell?, h3, Nat.add_comm 1 j, hv]
 ·simp [World.frozen?, h3]
set_option maxRecDepth 100000 in
set_option maxHeartbeats 1600000 in
theorem refby_any (l : List Nat) (hl : l.length = 32) (hb : ∀ x ∈ l, x < 256) (w : World) :
  Calls Tryz.prog 153 #[.agg (l.map encB).toArray] w fun e w' => e = .returned (.string (textB (textCode l))) ∧ Below w.heap.size w w' := by
 obtain ⟨A, hA⟩ : ∃ A, (l.map encB).toArray = A := ⟨_, rfl⟩
 have hr : (w.alloc (.cells A 34)).rangeAt w.heap.size 0 (l.map encB) := fun j v hv => by
  rw [Nat.zero_add, World.cell?_alloc_new, ← hA]
  simpa using hv
 rw [hA]
 have q2 := run_range_text (P := Tryz.prog) (w.alloc (.cells A 34)) 111 9 5 Tryz.underlying111 Tryz.underlying5 Tryz.underlying9 hr 32 32 hl.symm
 have HL : Hid (l.length = 32 ∧ ∀ x ∈ l, x < 256) := ⟨hl, hb⟩
 clear hA hr hl hb
 go_enter Tryz.func153, Tryz.ntmps153
 go_wp2_with fail
 refine (text_any (B := w.heap.size) (l := []) (textB l) _ (Own.nil _ _) (by simp) (by rw [textB_size, HL.out.1]; omega) (by simp)).mono ?_
 rintro e w1 ⟨v1, rfl, hg1⟩
 rw [bytesOf_textB HL.out.2, List.nil_append] at hg1
 obtain ⟨p1, k1, rfl⟩ := hg1.own.shape'
 have q3 := run_own_text (P := Tryz.prog) w1 111 9 5 Tryz.underlying111 Tryz.underlying5 Tryz.underlying9 hg1.own
 have A1 : Aside (Below w.heap.size w w1) := hg1.below (Own.nil _ _) ((Below.refl _ _).alloc (Nat.le_refl _) _) (by simp)
 clear hg1 q2
 go_wp2
 go_ret
 exact ⟨rfl, A1.out⟩
set_option maxRecDepth 100000 in
set_option maxHeartbeats 1600000 in
theorem leaf_code {B : Nat} {S : Wood} {w : World} {b : Nat} {p v : ByteArray} (hf : Forest B S w) (hb : S b = some (.leaf p v)) :
  Calls Tryz.prog 289 #[.pointer (some ⟨b, 0, none⟩)] w fun e w' => e = .returned (.string (textB (Nd.leaf p v).code)) ∧ Fr B S S w w' := by
 obtain ⟨g, r, _, hr, c0, rg, _, _⟩ := (hf.node b _ hb).cell
 have hr : r = [.string p, .string v] := hr
 subst hr
 have c1 : w.cell? ⟨b, 1, none⟩ = some (.string p) := rg 0 _ rfl
 have c2 : w.cell? ⟨b, 2, none⟩ = some (.string v) := rg 1 _ rfl
 have hbl := hf.lt hb
 have hok := hf.ok b _ hb
 rw [Nd.ok] at hok
 have HN : Hid (nibOK p ∧ v.size ≤ 1024) := hok
 have HF := Hid.hide hf
 obtain ⟨C, hC⟩ : ∃ C, (Nd.leaf p v).code = C := ⟨_, rfl⟩
 obtain ⟨L, hL⟩ : ∃ L, textCode (pathCode (bytesOf p) true) ++ textCode (bytesOf v) = L := ⟨_, rfl⟩
 have HC : Hid (listCode L = C) := by rw [← hC, Nd.code, hL]; exact rfl
 have HL : Hid (textCode (pathCode (bytesOf p) true) ++ textCode (bytesOf v) = L ∧ L.length ≤ 2000) := by
  refine ⟨hL, ?_⟩
  have := textCode_length (pathCode (bytesOf p) true); rw [pathCode_length, bytesOf_length] at this; have := HN.out.1.1; have := textCode_length (bytesOf v); have := bytesOf_length v; have := HN.out.2
  rw [← hL, List.length_append]
  omega
 rw [hC]
 clear hf hb rg hok c0 hC hL
 go_enter Tryz.func289, Tryz.ntmps289
 go_wp2_with fail
 refine (code_any p true _ (by have := HN.out.1.1; omega) HN.out.1.2).mono ?_
 rintro e w1 ⟨rfl, hb1⟩
 have HB1 := Hid.hide hb1
 clear hb1
 go_wp2_with fail
 refine (text_any (B := w.heap.size) (l := []) (textB (pathCode (bytesOf p) true)) w1 (Own.nil _ _) HB1.out.size (by rw [textB_size, pathCode_length, bytesOf_length]; have := HN.out.1.1; omega) (by simp)).mono ?_
 rintro e w2 ⟨v2, rfl, hg2⟩
 rw [bytesOf_textB (pathCode_byte true HN.out.1.2), List.nil_append] at hg2
 have HB2 := Hid.hide (acc_step HB1.out (Own.nil _ _) hg2)
 obtain ⟨p2, k2, rfl⟩ := hg2.own.shape'
 have HG2 := Hid.hide hg2.own
 have d2 := (HB2.out.cell (p := ⟨b, 2, none⟩) hbl).trans c2
 clear hg2
 go_wp2_with fail
 refine (text_any (B := w.heap.size) v w2 HG2.out HB2.out.size (by have := HN.out.2; omega) (by have := textCode_length (pathCode (bytesOf p) true); rw [pathCode_length, bytesOf_length] at this; have := HN.out.1.1; omega)).mono ?_
 rintro e w3 ⟨v3, rfl, hg3⟩
 rw [HL.out.1] at hg3
 have HB3 := Hid.hide (acc_step HB2.out HG2.out hg3)
 obtain ⟨p3, k3, rfl⟩ := hg3.own.shape'
 have HG3 := Hid.hide hg3.own
 clear hg3
 go_wp2_with fail
 refine (list_any (B := w.heap.size) (v := .slice none 0 0) (l := []) w3 (Own.nil _ _) HG3.out (by simp [Value.ownBlock]) HB3.out.size (by have := HL.out.2; omega) (by simp)).mono ?_
 rintro e w4 ⟨v4, rfl, hg4⟩
 rw [List.nil_append, HC.out] at hg4
 have HB4 := Hid.hide (acc_step HB3.out (Own.nil _ _) hg4)
 obtain ⟨p4, k4, rfl⟩ := hg4.own.shape'
 have q4 := run_own_text (P := Tryz.prog) w4 111 9 5 Tryz.underlying111 Tryz.underlying5 Tryz.underlying9 hg4.own
 clear hg4
 go_wp2
 go_ret
 exact ⟨rfl, Fr.of_below HF.out HB4.out⟩
end Go.Proofs.YtjiikjpnlgogfaaGreatDoor
namespace Go.Proofs.YtjiikjpnlgogfaaGreatDoor
open Go.RowKit
end Go.Proofs.YtjiikjpnlgogfaaGreatDoor
namespace Go.Proofs.YtjiikjpnlgogfaaGreatDoor
open Go.RowKit
def refFn : Nd → FuncId
 | .no => 0
 | .leaf _ _ => 293
 | .ext _ _ => 345
 | .br _ => 334
 | .stub _ => 303
theorem mRef (t : Nd) (ht : t ≠ .no) (a : Addr) (w : World) : (Go.method 563 (ndTy t) (.pointer (some a)) "twigs/tree.reference").run Tryz.prog w = .ok (refFn t, .pointer (some a)) w := by
 cases t with
 | no => exact absurd rfl ht
 | leaf _ _ => kernel_rfl
 | ext _ _ => kernel_rfl
 | br _ => kernel_rfl
 | stub _ => kernel_rfl
theorem enRef (t : Nd) (ht : t ≠ .no) (args : Array Value) (w : World) : (callFunc (refFn t) args).run Tryz.prog w = .ok (.enter (refFn t) args) w := by
 cases t with
 | no => exact absurd rfl ht
 | leaf _ _ => kernel_rfl
 | ext _ _ => kernel_rfl
 | br _ => kernel_rfl
 | stub _ => kernel_rfl
def RefC (B : Nat) (S : Wood) (t : Nd) : Prop := ∀ (W : World) (b : Nat), Forest B S W → Tabs W → 16 ≤ B → S b = some t → Calls Tryz.prog (refFn t) #[.pointer (some ⟨b, 0, none⟩)] W fun e w' => e = .returned (.string (textB t.ref)) ∧ Fr B S S W w'
theorem Fr.tabs {B : Nat} {S S' : Wood} {w w' : World} (h : Fr B S S' w w') (hf : Forest B S w) (hT : Tabs w) (hM : 16 ≤ B) : Tabs w' :=
 hT.of_blocks ((h.below hf).block 13 (by omega)) ((h.below hf).block 15 (by omega))
set_option maxRecDepth 100000 in
set_option maxHeartbeats 1600000 in
theorem ext_code {B : Nat} {S : Wood} {w : World} {b : Nat} {p : ByteArray} {t : Nd} (hf : Forest B S w) (hT : Tabs w) (hM : 16 ≤ B) (hb : S b = some (.ext p t)) (hR : RefC B S t) :
  Calls Tryz.prog 339 #[.pointer (some ⟨b, 0, none⟩)] w fun e w' => e = .returned (.string (textB (Nd.ext p t).code)) ∧ Fr B S S w w' := by
 obtain ⟨i0, hi, hz0, hz1, hz2⟩ := info_parts infoU8
 obtain ⟨g, r, _, hr, c0, rg, _, _⟩ := (hf.node b _ hb).cell
 obtain ⟨v, hr, hv⟩ : ∃ v, r = [.string p, v] ∧ ndV S v t := hr
 subst hr
 have c1 : w.cell? ⟨b, 1, none⟩ = some (.string p) := rg 0 _ rfl
 have c2 : w.cell? ⟨b, 2, none⟩ = some v := rg 1 _ rfl
 have hbl := hf.lt hb
 have hok := hf.ok b _ hb
 rw [Nd.ok] at hok
 rcases hv with ⟨hv, _⟩ | ⟨hne, c, rfl, hc⟩
 ·exact absurd hv hok.2.2
 have HN : Hid (nibOK p) := hok.1
 have HT : Hid (t.ok) := hok.2.1
 have HF := Hid.hide hf
 have HR : Hid (∀ W, Forest B S W → Tabs W → Calls Tryz.prog (refFn t) #[.pointer (some ⟨c, 0, none⟩)] W fun e w' => e = .returned (.string (textB t.ref)) ∧ Fr B S S W w') := fun W h1 h2 => hR W c h1 h2 hM hc
 have HTb : Hid (Tabs w) := hT
 have hm := mRef t hne
 have hfn := enRef t hne
 have HM : Hid (16 ≤ B) := hM
 obtain ⟨C, hC⟩ : ∃ C, (Nd.ext p t).code = C := ⟨_, rfl⟩
 obtain ⟨P1, hP1⟩ : ∃ P1, textCode (pathCode (bytesOf p) false) = P1 := ⟨_, rfl⟩
 obtain ⟨L, hL⟩ : ∃ L, P1 ++ t.ref = L := ⟨_, rfl⟩
 have HP : Hid (textCode (pathCode (bytesOf p) false) = P1 ∧ P1.length ≤ 100) := by
  refine ⟨hP1, ?_⟩
  have := textCode_length (pathCode (bytesOf p) false); rw [pathCode_length, bytesOf_length] at this; have := HN.out.1
  rw [← hP1]
  omega
 have HC : Hid (listCode L = C ∧ P1 ++ t.ref = L ∧ L.length ≤ 200) := by
  refine ⟨by rw [← hC, Nd.ref_ext, hP1, hL], hL, ?_⟩
  have := t.ref_le HT.out
  have := HP.out.2
  rw [← hL, List.length_append]
  omega
 rw [hC]
 clear hf hb rg hok c0 hC hL hP1 hR hM hT hc
 go_enter Tryz.func339, Tryz.ntmps339
 go_wp2_with fail
 refine (code_any p false _ (by have := HN.out.1; omega) HN.out.2).mono ?_
 rintro e w1 ⟨rfl, hb1⟩
 have HB1 := Hid.hide hb1
 clear hb1
 go_wp2_with fail
 refine (text_any (B := w.heap.size) (l := []) (textB (pathCode (bytesOf p) false)) w1 (Own.nil _ _) HB1.out.size (by rw [textB_size, pathCode_length, bytesOf_length]; have := HN.out.1; omega) (by simp)).mono ?_
 rintro e w2 ⟨v2, rfl, hg2⟩
 rw [bytesOf_textB (pathCode_byte false HN.out.2), List.nil_append, HP.out.1] at hg2
 have HB2 := Hid.hide (acc_step HB1.out (Own.nil _ _) hg2)
 obtain ⟨p2, k2, rfl⟩ := hg2.own.shape'
 have HG2 := Hid.hide hg2.own
 have d2 := (HB2.out.cell (p := ⟨b, 2, none⟩) hbl).trans c2
 clear hg2
 have HTb2 : Hid (Tabs w2) := HTb.out.of_blocks (HB2.out.block _ (by have := HM.out; have := HF.out.le; omega)) (HB2.out.block _ (by have := HM.out; have := HF.out.le; omega))
 go_wp2_with fail
 refine (HR.out _ (HF.out.below HB2.out) HTb2.out).mono ?_
 rintro e w3 ⟨rfl, hf3⟩
 have HF3 : Hid (Fr B S S w w3) := (Fr.of_below HF.out HB2.out).trans hf3
 have HG3 : Hid (Own w3 w.heap.size (.slice p2 P1.length k2) P1) := HG2.out.frame hf3 fun k hk => HF.out.fresh hk
 clear hf3
 go_wp2_with (at_builtin; refine wpList_append_str8 _ rfl _ _ 111 9 rfl 5 i0 Tryz.underlying111 Tryz.underlying9 hi hz0 hz1 hz2 w.heap.size _ P1 rfl HG3.out (textB t.ref) rfl ?d1 HF3.out.size ?_)
 case d1 => rw [textB_size]; have := HP.out.2; have := t.ref_le HT.out; omega
 intro v4 w4 hg4
 rw [bytesOf_textB (t.ref_byte HT.out), HC.out.2.1] at hg4
 have HF4 : Hid (Fr B S S w w4) := HF3.out.grow hg4.grown fun k hk => ⟨(HG3.out.block k hk).1, HF.out.fresh (HG3.out.block k hk).1⟩
 obtain ⟨p4, k4, rfl⟩ := hg4.own.shape'
 have HG4 := Hid.hide hg4.own
 clear hg4 hm hfn
 go_wp2_with fail
 refine (list_any (B := w.heap.size) (v := .slice none 0 0) (l := []) w4 (Own.nil _ _) HG4.out (by simp [Value.ownBlock]) HF4.out.size (by have := HC.out.2.2; omega) (by simp)).mono ?_
 rintro e w5 ⟨v5, rfl, hg5⟩
 rw [List.nil_append, HC.out.1] at hg5
 have HF5 : Hid (Fr B S S w w5) := HF4.out.grow hg5.grown (by simp [Value.ownBlock])
 obtain ⟨p5, k5, rfl⟩ := hg5.own.shape'
 have q5 := run_own_text (P := Tryz.prog) w5 111 9 5 Tryz.underlying111 Tryz.underlying5 Tryz.underlying9 hg5.own
 clear hg5
 go_wp2
 go_ret
 exact ⟨rfl, HF5.out⟩
theorem sizeN (w : World) : (sizeOf 106).run Tryz.prog w = .ok 1 w := by kernel_rfl
theorem run_index16 (r : List Value) (k : Nat) (hk : k < r.length) (h16 : r.length = 16) (w : World) : (Instr.index 395 (.agg r.toArray) (.int .i64 (k : Int))).run Tryz.prog w = .ok r[k] w := by
 have h1 : k < 16 := by omega
 have h3 := sizeN w
 have h4 : r[k]? = some r[k] := by simp [hk]
 simp [Instr.index, asIntOf, run_underlying Tryz.underlying395, h1, part, h3, h4, go_sem]
set_option maxRecDepth 100000 in
set_option maxHeartbeats 1600000 in
theorem br_code {B : Nat} {S : Wood} {w : World} {b : Nat} {ks : List Nd} (hf : Forest B S w) (hT : Tabs w) (hM : 16 ≤ B) (hb : S b = some (.br ks)) (hR : ∀ x ∈ ks, x ≠ .no → RefC B S x) :
  Calls Tryz.prog 329 #[.pointer (some ⟨b, 0, none⟩)] w fun e w' => e = .returned (.string (textB (Nd.br ks).code)) ∧ Fr B S S w w' := by
 obtain ⟨i0, hi, hz0, hz1, hz2⟩ := info_parts infoU8
 obtain ⟨g, r, _, hr, c0, rg, _, _⟩ := (hf.node b _ hb).cell
 obtain ⟨hr16, hrv⟩ : r.length = 16 ∧ ∀ i (h1 : i < r.length) (h2 : i < ks.length), ndV S r[i] ks[i] := hr
 have hok := hf.ok b _ hb
 rw [Nd.ok] at hok
 have hsz : (Tryz.prog.info? 395).map (·.size) = some r.length := by rw [hr16]; kernel_rfl
 obtain ⟨C, hC⟩ : ∃ C, (Nd.br ks).code = C := ⟨_, rfl⟩
 have HC : Hid (listCode (refs ks ++ textCode []) = C) := by rw [← hC, Nd.code]; exact rfl
 rw [hC]
 have HK : Hid (ks.length = 16 ∧ oks ks ∧ r.length = 16) := ⟨hok.1, hok.2, hr16⟩
 have HV : Hid (∀ i (h1 : i < r.length) (h2 : i < ks.length), ndV S r[i] ks[i]) := hrv
 have HR := Hid.hide hR
 have HF := Hid.hide hf
 have HTb : Hid (Tabs w) := hT
 have HM : Hid (16 ≤ B) := hM
 clear hf hT hM hb hR hr16 hrv hok c0 hC
 go_enter Tryz.func329, Tryz.ntmps329
 go_wp2_with (refine wpList_load_mid rfl 395 _ rfl b 1 rfl r _ rg Tryz.underlying395 rfl hsz ?_)
 go_loopg [3, 10] 16 (fun gh v i wr => ∃ k, k ≤ 16 ∧ gh = 16 - k ∧ i = .int .i64 (k : Int) ∧ Own wr w.heap.size v (refs (ks.take k)) ∧ Fr B S S w wr)
 case atStart => exact ⟨0, Nat.zero_le _, rfl, rfl, by rw [List.take_zero, refs]; exact Own.nil _ _, Fr.refl HF.out⟩
 case round =>
  obtain ⟨k, hk, rfl, rfl, hO, hF⟩ := hrel
  have HFr := Hid.hide hF
  obtain ⟨R, hRk⟩ : ∃ R, refs (ks.take k) = R := ⟨_, rfl⟩
  rw [hRk] at hO
  have HRl : Hid (refs (ks.take k) = R ∧ R.length ≤ 33 * 16) := by
   refine ⟨hRk, ?_⟩
   have h1 : oks (ks.take k) := oks_of fun x hx => oks_mem HK.out.2.1 (List.mem_of_mem_take hx)
   have h2 := refs_le _ h1
   rw [List.length_take, hRk] at h2
   have := HK.out.1
   omega
  obtain ⟨p0, c0, rfl⟩ := hO.shape'
  have HO := Hid.hide hO
  clear hO hF hRk
  by_cases hlt : k < 16
  ·have hki : (k : Int) < 16 := by omega
   have hkr : k < r.length := by have := HK.out.2.2; omega
   have hkk : k < ks.length := by have := HK.out.1; omega
   have hv := HV.out k hkr hkk
   have q0 := fun w => run_index16 r k hkr HK.out.2.2 w
   have hx := List.getElem_mem hkk
   have hns : refs (ks.take (k + 1)) = R ++ ks[k].ref := by
    rw [List.take_add_one, refs_append, HRl.out.1, List.getElem?_eq_getElem hkk, Option.toList, refs_cons, refs, List.append_nil]
   have hxo := oks_mem HK.out.2.1 hx
   obtain ⟨t, ht⟩ : ∃ t, ks[k] = t := ⟨_, rfl⟩
   rw [ht] at hv hx hns hxo
   obtain ⟨u, hu⟩ : ∃ u, r[k] = u := ⟨_, rfl⟩
   rw [hu] at hv
   simp only [hu] at q0
   have HN : Hid (refs (ks.take (k + 1)) = R ++ t.ref ∧ t.ok) := ⟨hns, hxo⟩
   clear hns hxo ht hu
   rcases hv with ⟨rfl, rfl⟩ | ⟨hne, c, rfl, hc⟩
   ·clear hx
    go_wp2_with fail
    refine (text_any (B := w.heap.size) (l := R) ⟨#[]⟩ wr HO.out HFr.out.size (by show 0 ≤ _; omega) (by have := HRl.out.2; omega)).mono ?_
    rintro e w1 ⟨v1, rfl, hg1⟩
    have hg1' : Grew wr w1 w.heap.size (.slice p0 R.length c0) v1 (refs (ks.take (k + 1))) := by rw [HN.out.1]; exact hg1
    have HF1 : Hid (Fr B S S w w1) := HFr.out.grow hg1.grown fun j hj => ⟨(HO.out.block j hj).1, HF.out.fresh (HO.out.block j hj).1⟩
    have HO1 := Hid.hide hg1'.own
    clear hg1 hg1'
    go_wp2
    go_roundg (16 - (k + 1))
    case measure => omega
    case rel => exact ⟨k + 1, by omega, rfl, by simp, HO1.out, HF1.out⟩
   ·have hm := mRef t hne
    have hfn := enRef t hne
    have HR1 := Hid.hide (HR.out t hx hne)
    have HT1 : Hid (Tabs wr) := HFr.out.tabs HF.out HTb.out HM.out
    clear hx
    go_wp2_with fail
    refine (HR1.out wr c HFr.out.forest HT1.out HM.out hc).mono ?_
    rintro e w1 ⟨rfl, hf1⟩
    have HF1 : Hid (Fr B S S w w1) := HFr.out.trans hf1
    have HO1 : Hid (Own w1 w.heap.size (.slice p0 R.length c0) R) := HO.out.frame hf1 fun j hj => HF.out.fresh hj
    clear hf1
    go_wp2_with (at_builtin; refine wpList_append_str8 _ rfl _ _ 111 9 rfl 5 i0 Tryz.underlying111 Tryz.underlying9 hi hz0 hz1 hz2 w.heap.size _ R rfl HO1.out (textB t.ref) rfl ?d1 HF1.out.size ?_)
    case d1 => rw [textB_size]; have := HRl.out.2; have := t.ref_le HN.out.2; omega
    intro v2 w2 hg2
    rw [bytesOf_textB (t.ref_byte HN.out.2), ← HN.out.1] at hg2
    have HF2 : Hid (Fr B S S w w2) := HF1.out.grow hg2.grown fun j hj => ⟨(HO1.out.block j hj).1, HF.out.fresh (HO1.out.block j hj).1⟩
    have HO2 := Hid.hide hg2.own
    clear hg2 hm hfn
    go_wp2
    go_roundg (16 - (k + 1))
    case measure => omega
    case rel => exact ⟨k + 1, by omega, rfl, by simp, HO2.out, HF2.out⟩
  ·have hk16 : k = 16 := by omega
   subst hk16
   have hRR : refs ks = R := by
    rw [← HRl.out.1, List.take_of_length_le (by have := HK.out.1; omega)]
   obtain ⟨L, hL⟩ : ∃ L, R ++ textCode [] = L := ⟨_, rfl⟩
   have HL : Hid (listCode L = C ∧ R ++ textCode [] = L ∧ L.length ≤ 600) := by
    refine ⟨by rw [← hL, ← hRR]; exact HC.out, hL, ?_⟩
    have := textCode_length []
    have := HRl.out.2
    rw [← hL, List.length_append]
    simp at *
    omega
   clear hRR hL
   go_wp2_with fail
   refine (text_any (B := w.heap.size) (l := R) ⟨#[]⟩ wr HO.out HFr.out.size (by show 0 ≤ _; omega) (by have := HRl.out.2; omega)).mono ?_
   rintro e w1 ⟨v1, rfl, hg1⟩
   have hg1' : Grew wr w1 w.heap.size (.slice p0 R.length c0) v1 L := by rw [← HL.out.2.1]; exact hg1
   have HF1 : Hid (Fr B S S w w1) := HFr.out.grow hg1.grown fun j hj => ⟨(HO.out.block j hj).1, HF.out.fresh (HO.out.block j hj).1⟩
   obtain ⟨p1, c1, rfl⟩ := hg1'.own.shape'
   have HO1 := Hid.hide hg1'.own
   clear hg1 hg1'
   go_wp2_with fail
   refine (list_any (B := w.heap.size) (v := .slice none 0 0) (l := []) w1 (Own.nil _ _) HO1.out (by simp [Value.ownBlock]) HF1.out.size (by have := HL.out.2.2; omega) (by simp)).mono ?_
   rintro e w2 ⟨v2, rfl, hg2⟩
   rw [List.nil_append, HL.out.1] at hg2
   have HF2 : Hid (Fr B S S w w2) := HF1.out.grow hg2.grown (by simp [Value.ownBlock])
   obtain ⟨p2, c2, rfl⟩ := hg2.own.shape'
   have q5 := run_own_text (P := Tryz.prog) w2 111 9 5 Tryz.underlying111 Tryz.underlying5 Tryz.underlying9 hg2.own
   clear hg2
   go_wp2
   go_ret
   exact ⟨rfl, HF2.out⟩
end Go.Proofs.YtjiikjpnlgogfaaGreatDoor
namespace Go.Proofs.YtjiikjpnlgogfaaGreatDoor
open Go.RowKit
theorem Fr.held2 {B : Nat} {S : Wood} {w Y : World} (hf : Forest B S w) {b : Nat} {t : Nd} (hb : S b = some t) (u : Value) (hY : Below w.heap.size (w.setCell ⟨b, 0, none⟩ u) Y) {h : ByteArray} (hh : heldOK t h) : Fr B S S w (Y.setCell ⟨b, 0, none⟩ (.string h)) := by
 have hsz : (w.setCell ⟨b, 0, none⟩ u).heap.size = w.heap.size := by simp
 have hYs := hY.size
 rw [hsz] at hYs
 have hblk : ∀ k, k < w.heap.size → k ≠ b → (Y.setCell ⟨b, 0, none⟩ (.string h)).heap[k]? = w.heap[k]? := fun k hk hn =>
  (Below.heap_setCell _ _ _ _ hn).trans ((hY.block k hk).trans (Below.heap_setCell _ _ _ _ hn))
 refine ⟨hY.os, hY.tape, hY.output, by simpa using hYs, fun k hk hn => hblk k hk fun e => ?_, ⟨fun k v hk => ?_, hf.ok, hf.low, by have := hf.le; simp; omega⟩, fun _ _ h => h, fun _ _ h => h, fun k v hk j hj => ?_⟩
 ·rw [e, hb] at hn
  cases hn
 ·obtain ⟨g, r, h1, h2, h3⟩ := hf.node k v hk
  by_cases e : k = b
  ·subst e
   obtain rfl : t = v := Option.some.inj (hb.symm.trans hk)
   have hl := hf.lt hb
   exact ⟨h, r, hh, h2, heap_set0 ((hY.block k hl).trans (heap_set0 h3))⟩
  ·exact ⟨g, r, h1, h2, (hblk k (hf.lt hk) e).trans h3⟩
 ·have hne : (⟨k, j, none⟩ : Addr) ≠ ⟨b, 0, none⟩ := fun e => by have := congrArg Addr.off e; simp at this; omega
  exact (World.cell?_setCell_other _ _ _ _ (Ne.symm hne)).trans ((hY.cell (p := ⟨k, j, none⟩) (hf.lt hk)).trans (World.cell?_setCell_other _ _ _ _ (Ne.symm hne)))
set_option maxRecDepth 100000 in
set_option maxHeartbeats 1600000 in
theorem work_any {B : Nat} {S : Wood} {w : World} {b : Nat} {t : Nd} (hf : Forest B S w) (hT : Tabs w) (hM : 16 ≤ B) (hb : S b = some t) (ht : t.ref = refOf t.code) (F : FuncId)
  (hF : ∀ args w, (callFunc F args).run Tryz.prog w = .ok (.enter F args) w) (hc : Calls Tryz.prog F #[.pointer (some ⟨b, 0, none⟩)] w fun e w' => e = .returned (.string (textB t.code)) ∧ Fr B S S w w') :
  Calls Tryz.prog 299 #[.pointer (some ⟨b, 0, none⟩), .func (.func F) #[.pointer (some ⟨b, 0, none⟩)] #[]] w fun e w' => e = .returned (.string (textB t.ref)) ∧ Fr B S S w w' := by
 obtain ⟨g, r, hg, hr, c0, rg, fz, _⟩ := (hf.node b _ hb).cell
 have hcb := t.code_byte (hf.ok b t hb)
 have hrp := t.ref_pos
 have f0 := fz 0
 have HF := Hid.hide hf
 have HTb : Hid (Tabs w) := hT
 have HM : Hid (16 ≤ B) := hM
 have hbl := hf.lt hb
 have HB := Hid.hide hb
 obtain ⟨s, hs⟩ : ∃ s, textB t.code = s := ⟨_, rfl⟩
 obtain ⟨z, hz⟩ : ∃ z, textB t.ref = z := ⟨_, rfl⟩
 have HZ : Hid (textB t.ref = z ∧ textB t.code = s ∧ s.size = t.code.length ∧ t.ref = refOf t.code) := ⟨hz, hs, by rw [← hs, textB_size], ht⟩
 have hzp : 0 < z.size := by rw [← hz, textB_size]; exact hrp
 rw [hs] at hc
 rw [hz]
 unfold heldOK at hg
 rw [hz] at hg
 clear hf hT hM hb ht hs hz hr rg fz hrp
 rcases hg with rfl | ⟨rfl, -⟩
 ·have hne := some_text g hzp
  clear hc hF
  go_enter Tryz.func299, Tryz.ntmps299
  go_wp2
  go_ret
  exact ⟨rfl, Fr.refl HF.out⟩
 ·have HC := Hid.hide hc
  clear hc
  go_enter Tryz.func299, Tryz.ntmps299
  go_wp2_with fail
  refine HC.out.mono ?_
  rintro e w1 ⟨rfl, hf1⟩
  obtain ⟨g1, r1, _, _, d0, _, fz1, _⟩ := (hf1.forest.node b _ HB.out).cell
  have d1 := fz1 0
  have HF1 := Hid.hide hf1
  have hb1 : b < w1.heap.size := Nat.lt_of_lt_of_le hbl hf1.size
  clear hf1 fz1 hF HC c0 f0
  by_cases hlt : s.size < 32
  ·have hi : (s.size : Int) < 32 := by omega
   have hzs : heldOK t s := by
    left
    rw [← HZ.out.2.1, HZ.out.2.2.2, refOf, if_pos (by have := HZ.out.2.2.1; omega)]
   have hse : s = z := by
    rw [← HZ.out.1, ← HZ.out.2.1, HZ.out.2.2.2, refOf, if_pos (by have := HZ.out.2.2.1; omega)]
   have HS : Hid (heldOK t s ∧ s = z) := ⟨hzs, hse⟩
   clear hzs hlt hse
   go_wp2
   go_ret
   exact ⟨congrArg (fun x => Ending.returned (.string x)) HS.out.2, HF1.out.trans (Fr.held HF1.out.forest HB.out HS.out.1)⟩
  ·have hi : (32 : Int) ≤ (s.size : Int) := by omega
   have hzr : textB (textCode (digF s).toList) = z := by
    rw [← HZ.out.1, HZ.out.2.2.2, refOf, if_neg (by have := HZ.out.2.2.1; omega), digB, HZ.out.2.1]
   have hS : heldOK t z := .inl HZ.out.1.symm
   have HS : Hid (heldOK t z ∧ textB (textCode (digF s).toList) = z ∧ (digF s).toList.length = 32 ∧ ∀ x ∈ (digF s).toList, x < 256) := ⟨hS, hzr, by unfold digF; rw [Array.length_toList]; exact sumF_size _, digF_lt s⟩
   obtain ⟨D, hD⟩ : ∃ D, (digF s).toList = D := ⟨_, rfl⟩
   rw [hD] at HS
   have HD := Hid.hide hD
   have HT1 : Hid (Tabs (w1.setCell ⟨b, 0, none⟩ (.string s)) ∧ 16 ≤ (w1.setCell ⟨b, 0, none⟩ (.string s)).heap.size) := by
    have h1 := HF1.out.tabs HF.out HTb.out HM.out
    have h2 : B ≤ b := HF.out.low b t HB.out
    have h3 := HM.out
    exact ⟨h1.of_blocks (Below.heap_setCell _ _ _ _ (by show 13 ≠ b; omega)) (Below.heap_setCell _ _ _ _ (by show 15 ≠ b; omega)), by simp; omega⟩
   clear hlt hzr hS hD
   go_wp2_with fail
   refine (of_any s _ HT1.out.1 HT1.out.2).mono ?_
   rintro e w2 ⟨rfl, hb2⟩
   rw [HD.out]
   have hb2' : Below w1.heap.size (w1.setCell ⟨b, 0, none⟩ (.string s)) w2 := hb2.mono (by simp)
   have HB2 := Hid.hide hb2'
   clear hb2 hb2' HT1
   go_wp2_with fail
   refine (refby_any D HS.out.2.2.1 HS.out.2.2.2 w2).mono ?_
   rintro e w3 ⟨rfl, hb3⟩
   rw [HS.out.2.1]
   have HB3 : Hid (Below w1.heap.size (w1.setCell ⟨b, 0, none⟩ (.string s)) w3) := HB2.out.trans (hb3.mono (by have := HB2.out.size; simpa using this))
   have e0 : w3.cell? ⟨b, 0, none⟩ = some (.string s) := (HB3.out.cell (p := ⟨b, 0, none⟩) hb1).trans (by go_simp)
   have e1 : w3.frozen? ⟨b, 0, none⟩ = false := (HB3.out.frozen (p := ⟨b, 0, none⟩) hb1).trans (by rw [World.frozen?_setCell]; exact d1)
   clear hb3
   go_wp2
   go_ret
   exact ⟨rfl, HF1.out.trans (Fr.held2 HF1.out.forest HB.out _ HB3.out HS.out.1)⟩
end Go.Proofs.YtjiikjpnlgogfaaGreatDoor
namespace Go.Proofs.YtjiikjpnlgogfaaGreatDoor
open Go.RowKit
theorem callLeaf (args : Array Value) (w : World) : (callFunc 289 args).run Tryz.prog w = .ok (.enter 289 args) w := by kernel_rfl
theorem callExt (args : Array Value) (w : World) : (callFunc 339 args).run Tryz.prog w = .ok (.enter 339 args) w := by kernel_rfl
theorem callBr (args : Array Value) (w : World) : (callFunc 329 args).run Tryz.prog w = .ok (.enter 329 args) w := by kernel_rfl
theorem makeF (n : FuncId) (v : Value) (w : World) : (Instr.makeFunc (.func n) #[v] #[]).run Tryz.prog w = .ok (.func (.func n) #[v] #[]) w := by rfl
set_option maxRecDepth 100000 in
set_option maxHeartbeats 1600000 in
theorem leaf_ref {B : Nat} {S : Wood} {w : World} {b : Nat} {p v : ByteArray} (hf : Forest B S w) (hT : Tabs w) (hM : 16 ≤ B) (hb : S b = some (.leaf p v)) :
  Calls Tryz.prog 293 #[.pointer (some ⟨b, 0, none⟩)] w fun e w' => e = .returned (.string (textB (Nd.leaf p v).ref)) ∧ Fr B S S w w' := by
 have HW := Hid.hide (work_any hf hT hM hb rfl _ callLeaf (leaf_code hf hb))
 obtain ⟨R, hR⟩ : ∃ R, textB (Nd.leaf p v).ref = R := ⟨_, rfl⟩
 rw [hR] at HW ⊢
 have hmf := makeF 289
 clear hf hT hM hb hR
 go_enter Tryz.func293, Tryz.ntmps293
 go_wp2_with fail
 refine HW.out.mono ?_
 rintro e w1 ⟨rfl, hf1⟩
 have HF1 := Hid.hide hf1
 clear hf1
 go_wp2
 go_ret
 exact ⟨rfl, HF1.out⟩
set_option maxRecDepth 100000 in
set_option maxHeartbeats 1600000 in
theorem ext_ref {B : Nat} {S : Wood} {w : World} {b : Nat} {p : ByteArray} {t : Nd} (hf : Forest B S w) (hT : Tabs w) (hM : 16 ≤ B) (hb : S b = some (.ext p t)) (hR : RefC B S t) :
  Calls Tryz.prog 345 #[.pointer (some ⟨b, 0, none⟩)] w fun e w' => e = .returned (.string (textB (Nd.ext p t).ref)) ∧ Fr B S S w w' := by
 have HW := Hid.hide (work_any hf hT hM hb rfl _ callExt (ext_code hf hT hM hb hR))
 obtain ⟨R, hR⟩ : ∃ R, textB (Nd.ext p t).ref = R := ⟨_, rfl⟩
 rw [hR] at HW ⊢
 have hmf := makeF 339
 clear hf hT hM hb hR
 go_enter Tryz.func345, Tryz.ntmps345
 go_wp2_with fail
 refine HW.out.mono ?_
 rintro e w1 ⟨rfl, hf1⟩
 have HF1 := Hid.hide hf1
 clear hf1
 go_wp2
 go_ret
 exact ⟨rfl, HF1.out⟩
set_option maxRecDepth 100000 in
set_option maxHeartbeats 1600000 in
theorem br_ref {B : Nat} {S : Wood} {w : World} {b : Nat} {ks : List Nd} (hf : Forest B S w) (hT : Tabs w) (hM : 16 ≤ B) (hb : S b = some (.br ks)) (hR : ∀ x ∈ ks, x ≠ .no → RefC B S x) :
  Calls Tryz.prog 334 #[.pointer (some ⟨b, 0, none⟩)] w fun e w' => e = .returned (.string (textB (Nd.br ks).ref)) ∧ Fr B S S w w' := by
 have HW := Hid.hide (work_any hf hT hM hb rfl _ callBr (br_code hf hT hM hb hR))
 obtain ⟨R, hR⟩ : ∃ R, textB (Nd.br ks).ref = R := ⟨_, rfl⟩
 rw [hR] at HW ⊢
 have hmf := makeF 329
 clear hf hT hM hb hR
 go_enter Tryz.func334, Tryz.ntmps334
 go_wp2_with fail
 refine HW.out.mono ?_
 rintro e w1 ⟨rfl, hf1⟩
 have HF1 := Hid.hide hf1
 clear hf1
 go_wp2
 go_ret
 exact ⟨rfl, HF1.out⟩
set_option maxRecDepth 100000 in
set_option maxHeartbeats 1600000 in
theorem stub_ref {B : Nat} {S : Wood} {w : World} {b : Nat} {h : List Nat} (hf : Forest B S w) (hb : S b = some (.stub h)) :
  Calls Tryz.prog 303 #[.pointer (some ⟨b, 0, none⟩)] w fun e w' => e = .returned (.string (textB (Nd.stub h).ref)) ∧ Fr B S S w w' := by
 obtain ⟨g, r, hg, _, c0, _, _, _⟩ := (hf.node b _ hb).cell
 have HF := Hid.hide hf
 obtain ⟨R, hR⟩ : ∃ R, textB (Nd.stub h).ref = R := ⟨_, rfl⟩
 unfold heldOK at hg
 rw [hR] at hg ⊢
 obtain rfl : g = R := by
  rcases hg with h1 | ⟨_, h1⟩
  ·exact h1
  ·exact absurd rfl (h1 h)
 clear hf hb hR hg
 go_enter Tryz.func303, Tryz.ntmps303
 go_wp2
 go_ret
 exact ⟨rfl, Fr.refl HF.out⟩
mutual
theorem ref_any (B : Nat) (S : Wood) : ∀ t : Nd, t ≠ .no → RefC B S t
 | .no, h => absurd rfl h
 | .leaf p v, _ => fun _ _ hf hT hM hb => leaf_ref hf hT hM hb
 | .ext p t, _ => fun _ b hf hT hM hb => by
  have hok := hf.ok b _ hb
  rw [Nd.ok] at hok
  exact ext_ref hf hT hM hb (ref_any B S t hok.2.2)
 | .br ks, _ => fun _ _ hf hT hM hb => br_ref hf hT hM hb (refs_any B S ks)
 | .stub h, _ => fun _ _ hf _ _ hb => stub_ref hf hb
theorem refs_any (B : Nat) (S : Wood) : ∀ ks : List Nd, ∀ x ∈ ks, x ≠ .no → RefC B S x
 | [], _, h, _ => by cases h
 | t :: ks, x, h, hn => by
  rcases List.mem_cons.1 h with e | h
  ·exact e ▸ ref_any B S t (e ▸ hn)
  ·exact refs_any B S ks x h hn
end
end Go.Proofs.YtjiikjpnlgogfaaGreatDoor
namespace Go.Proofs.YtjiikjpnlgogfaaGreatDoor
open Go.RowKit
def Nd.dig (t : Nd) : List Nat := if t.ref.length < 32 then digB t.ref else t.ref.drop 1
theorem textCode_big {l : List Nat} (h : l.length = 32) : textCode l = 160 :: l := by
 unfold textCode headB
 simp [h]
theorem refOf_dig (c : List Nat) : (if (refOf c).length < 32 then digB (refOf c) else (refOf c).drop 1) = digB c := by
 by_cases h : c.length < 32
 ·have e : refOf c = c := by unfold refOf; rw [if_pos h]
  rw [e, if_pos h]
 ·have e : refOf c = textCode (digB c) := by unfold refOf; rw [if_neg h]
  rw [e, textCode32 (digB_length c), if_neg (by omega), textCode_big (digB_length c)]
  rfl
theorem Nd.dig_eq {t : Nd} (h : t.ref = refOf t.code) : t.dig = digB t.code := by
 unfold Nd.dig
 rw [h]
 exact refOf_dig _
theorem ref33 (c : List Nat) (h : ¬ (refOf c).length < 32) : (refOf c).length = 33 := by
 unfold refOf at h ⊢
 by_cases hc : c.length < 32
 ·rw [if_pos hc] at h; omega
 ·rw [if_neg hc, textCode32 (digB_length c)]
theorem Nd.ref_33 (t : Nd) (ho : t.ok) (h : ¬ t.ref.length < 32) : t.ref.length = 33 := by
 cases t with
 | no => exact absurd (by show (textCode []).length < 32; have := textCode_length []; simp at this; omega) h
 | stub g => rw [Nd.ok] at ho; exact textCode32 ho.1
 | leaf _ _ => exact ref33 _ h
 | ext _ _ => exact ref33 _ h
 | br _ => exact ref33 _ h
theorem Nd.dig_length (t : Nd) (ho : t.ok) : t.dig.length = 32 := by
 unfold Nd.dig
 split
 ·exact digB_length _
 ·rename_i h
  rw [List.length_drop, t.ref_33 ho h]
theorem heap_setCells' (w : World) (b o : Nat) (cs : List Value) (k : Nat) (h : k ≠ b) : (World.setCells w b o cs).heap[k]? = w.heap[k]? := heap_setCells _ _ _ _ _ h
theorem Fr.setCells {B : Nat} {S S' : Wood} {w w1 : World} (h : Fr B S S' w w1) (b o : Nat) (cs : List Value) (hb : w.heap.size ≤ b) (hn : S' b = none) : Fr B S S' w (World.setCells w1 b o cs) := by
 refine h.grow (o := some b) ⟨?_, ?_, ?_, Nat.le_of_eq (size_setCells b cs o w1).1.symm, fun k hk hne => heap_setCells' _ _ _ _ _ fun e => hne (by rw [e])⟩ fun k hk => by cases hk; exact ⟨hb, hn⟩
 ·exact (size_setCells b cs o w1).2.1
 ·exact (size_setCells b cs o w1).2.2.1
 ·exact (size_setCells b cs o w1).2.2.2
theorem run_arrayH (a : Addr) (cap : Nat) (w : World) : (Instr.arrayAt 34 (.slice (some a) 32 cap)).run Tryz.prog w = .ok (.pointer (some a)) w := by
 simp [Instr.arrayAt, run_underlying Tryz.underlying34, go_sem]
theorem bytes_row (w : World) (s : ByteArray) : (Lib.bytesWorld w 5 s).rangeAt w.heap.size 0 ((bytesOf s).map encB) := fun j v hv => by
 rw [Nat.zero_add]
 have hj : j < s.size := by
  have := (List.getElem?_eq_some_iff.1 hv).1
  simpa [bytesOf] using this
 rw [Lib.bytesWorld_cell w 5 s j hj, ← hv]
 simp [bytesOf, encB, List.getD, hj]
set_option maxRecDepth 100000 in
set_option maxHeartbeats 1600000 in
theorem digNode_any {B : Nat} {S : Wood} {w : World} {c : Nat} {t : Nd} (hf : Forest B S w) (hT : Tabs w) (hM : 16 ≤ B) (hc : S c = some t) (hne : t ≠ .no) :
  Calls Tryz.prog 78 #[.iface (ndTy t) (.pointer (some ⟨c, 0, none⟩))] w fun e w' => e = .returned (.agg (t.dig.map encB).toArray) ∧ Fr B S S w w' := by
 have hok := hf.ok c t hc
 have hm := mRef t hne
 have hfn := enRef t hne
 have HF := Hid.hide hf
 have HT := Hid.hide hT
 have HM := Hid.hide hM
 obtain ⟨R, hR⟩ : ∃ R, textB t.ref = R := ⟨_, rfl⟩
 have hRs : R.size = t.ref.length := by rw [← hR, textB_size]
 have HR : Hid (∀ W, Forest B S W → Tabs W → Calls Tryz.prog (refFn t) #[.pointer (some ⟨c, 0, none⟩)] W fun e w' => e = .returned (.string R) ∧ Fr B S S W w') := fun W h1 h2 => by
  have := ref_any B S t hne W c h1 h2 hM hc
  rw [hR] at this
  exact this
 obtain ⟨D, hD⟩ : ∃ D : Array Nat, t.dig.toArray = D := ⟨_, rfl⟩
 have hDl : t.dig = D.toList := by rw [← hD]
 have hDs : D.size = 32 := by rw [← hD]; simpa using t.dig_length hok
 rw [hDl]
 have hbR : bytesOf R = t.ref := by rw [← hR, bytesOf_textB (t.ref_byte hok)]
 have HD : Hid (D.size = 32 ∧ (t.ref.length < 32 → (digF R).toList = D.toList) ∧ (¬ t.ref.length < 32 → R.size = 33 ∧ bytesOf (R.extract 1 R.size) = D.toList)) := by
  refine ⟨hDs, fun h => ?_, fun h => ⟨by rw [hRs, t.ref_33 hok h], ?_⟩⟩
  ·rw [← hDl, Nd.dig, if_pos h, digB, hR]
  ·rw [bytesOf_rest, hbR, ← hDl, Nd.dig, if_neg h]
 have HRs : Hid (R.size = t.ref.length) := hRs
 clear hok hf hT hM hc hR hRs hD hDl hDs hbR
 go_enter Tryz.func78, Tryz.ntmps78
 go_wp2_with fail
 generalize hw0 : (w.alloc (.cells _ 34)) = w0
 have hb0 : Below w.heap.size w w0 := by rw [← hw0]; exact (Below.refl _ _).alloc (Nat.le_refl _) _
 have ht0 : w0.there w.heap.size 0 32 := by rw [← hw0]; exact there_new _ _ _ _ rfl
 have hs0 : w.heap.size < w0.heap.size := by rw [← hw0]; simp
 have hT0 : Tabs w0 := HT.out.below hb0 (by have := HM.out; have := HF.out.le; omega)
 clear hw0
 refine (HR.out w0 (HF.out.below hb0) hT0).mono ?_
 rintro e w1 ⟨rfl, hf1⟩
 have hn0 : S w.heap.size = none := HF.out.fresh (Nat.le_refl _)
 have ht1 : w1.there w.heap.size 0 32 := there_block ht0 (hf1.other _ hs0 hn0)
 have hs1 : w.heap.size < w1.heap.size := Nat.lt_of_lt_of_le hs0 hf1.size
 have HF1 : Hid (Fr B S S w w1 ∧ w1.there w.heap.size 0 32 ∧ Tabs w1 ∧ S w.heap.size = none) := ⟨(Fr.of_below HF.out hb0).trans hf1, ht1, hf1.tabs (HF.out.below hb0) hT0 HM.out, hn0⟩
 clear hf1 hm hfn hT0 hb0 ht0 hs0 hn0 ht1
 by_cases hlt : t.ref.length < 32
 ·have hi : (R.size : Int) < 32 := by have := HRs.out; omega
  have HDD := Hid.hide (HD.out.2.1 hlt)
  clear hlt
  go_wp2_with fail
  refine (of_any R w1 HF1.out.2.2.1 (by have := HM.out; have := HF.out.le; omega)).mono ?_
  rintro e w2 ⟨rfl, hb2⟩
  rw [HDD.out]
  obtain ⟨hz1, hz2, hth', hth2⟩ := hash_cells HD.out.1 (there_block HF1.out.2.1 (hb2.block _ hs1))
  have hone := all_oneCell_toArray (oneCell_enc D .u8)
  have HF2 : Hid (Fr B S S w w2 ∧ w2.there w.heap.size 0 (D.toList.map encB).length) := ⟨HF1.out.1.behind hb2, hth2⟩
  clear hb2 hth2
  go_wp2_with (refine wpList_store_mid rfl 34 _ _ rfl w.heap.size 0 (D.toList.map encB).toArray rfl rfl hth' hz2 hone ?_)
  refine bodyPost_ret (v := .agg (D.toList.map encB).toArray) (results_cell1 Tryz.results78 _ _ _ w.heap.size 0 rfl (run_loadVar_mid _ _ _ 34 _ _ (World.rangeAt_setCells_same _ _ _ _ HF2.out.2) Tryz.underlying34 rfl hz1)) rfl ⟨rfl, ?_⟩
  exact HF2.out.1.setCells _ _ _ (Nat.le_refl _) HF1.out.2.2.2
 ·have hi : (32 : Int) ≤ (R.size : Int) := by have := HRs.out; omega
  obtain ⟨h33, hbD⟩ := HD.out.2.2 hlt
  have hi1 : (1 : Int) ≤ (R.size : Int) := by omega
  obtain ⟨z, hz⟩ : ∃ z, R.extract 1 R.size = z := ⟨_, rfl⟩
  rw [hz] at hbD
  have hzs : z.size = 32 := by rw [← bytesOf_length, hbD]; simpa using HD.out.1
  have qc := Lib.run_convert_string_bytes (P := Tryz.prog) w1 9 111 5 z Tryz.underlying9 Tryz.underlying111 Tryz.underlying5
  rw [hzs] at qc
  obtain ⟨cap, hcap⟩ : ∃ cap, grownCap w1 32 0 5 = cap := ⟨_, rfl⟩
  rw [hcap] at qc
  have qa := fun W => run_arrayH ⟨w1.heap.size, 0, none⟩ cap W
  have hrow := bytes_row w1 z
  rw [hbD] at hrow
  have hbw : Below w1.heap.size w1 (Lib.bytesWorld w1 5 z) := ⟨rfl, rfl, rfl, by rw [Lib.bytesWorld_size]; omega, fun k hk => Lib.bytesWorld_at_old w1 5 z k hk⟩
  generalize Lib.bytesWorld w1 5 z = w2 at qc hrow hbw
  obtain ⟨hz1, hz2, hth', hth2⟩ := hash_cells HD.out.1 (there_block HF1.out.2.1 (hbw.block _ hs1))
  have hone := all_oneCell_toArray (oneCell_enc D .u8)
  have HF2 : Hid (Fr B S S w w2 ∧ w2.there w.heap.size 0 (D.toList.map encB).length) := ⟨HF1.out.1.behind hbw, hth2⟩
  clear hlt hbD hcap hbw hth2 hzs h33
  go_wp2_with (first | (refine wpList_load_mid rfl 34 _ rfl w1.heap.size 0 rfl (D.toList.map encB) _ hrow Tryz.underlying34 rfl hz1 ?_) | (refine wpList_store_mid rfl 34 _ _ rfl w.heap.size 0 (D.toList.map encB).toArray rfl rfl hth' hz2 hone ?_))
  refine bodyPost_ret (v := .agg (D.toList.map encB).toArray) (results_cell1 Tryz.results78 _ _ _ w.heap.size 0 rfl (run_loadVar_mid _ _ _ 34 _ _ (World.rangeAt_setCells_same _ _ _ _ HF2.out.2) Tryz.underlying34 rfl hz1)) rfl ⟨rfl, ?_⟩
  exact HF2.out.1.setCells _ _ _ (Nat.le_refl _) HF1.out.2.2.2
end Go.Proofs.YtjiikjpnlgogfaaGreatDoor
namespace Go.Proofs.YtjiikjpnlgogfaaGreatDoor
open Go.RowKit
def TreeAt (S : Wood) (w : World) (b : Nat) (t : Nd) : Prop := S b = none ∧ ∃ v, ndV S v t ∧ w.heap[b]? = some (.cells #[v] 110 (0, 0))
theorem TreeAt.lt {S : Wood} {w : World} {b : Nat} {t : Nd} (h : TreeAt S w b t) : b < w.heap.size := by
 obtain ⟨_, v, _, h⟩ := h
 exact (Array.getElem?_eq_some_iff.1 h).1
theorem TreeAt.cell {S : Wood} {w : World} {b : Nat} {t : Nd} (h : TreeAt S w b t) : ∃ v, ndV S v t ∧ w.cell? ⟨b, 0, none⟩ = some v ∧ w.frozen? ⟨b, 0, none⟩ = false := by
 obtain ⟨_, v, hv, h⟩ := h
 exact ⟨v, hv, by simp [World.cell?, h], by simp [World.frozen?, h]⟩
theorem TreeAt.frame {B : Nat} {S S' : Wood} {w w' : World} {b : Nat} {t : Nd} (h : TreeAt S w b t) (hf : Fr B S S' w w') : TreeAt S' w' b t := by
 have hl := h.lt
 obtain ⟨h1, v, hv, h⟩ := h
 exact ⟨hf.new b hl h1, v, hv.sub hf.sub, (hf.other b hl h1).trans h⟩
set_option maxRecDepth 100000 in
set_option maxHeartbeats 1600000 in
theorem empty_any (w : World) : Calls Tryz.prog 77 #[] w fun e w' => e = .returned (.string (textB (textCode []))) ∧ Below w.heap.size w w' := by
 obtain ⟨C, hC⟩ : ∃ C, textCode [] = C := ⟨_, rfl⟩
 have HC := Hid.hide hC
 rw [hC]
 clear hC
 go_enter Tryz.func77, Tryz.ntmps77
 go_wp2_with fail
 refine (text_any (B := w.heap.size) (l := []) ⟨#[]⟩ w (Own.nil _ _) (Nat.le_refl _) (by show 0 ≤ _; omega) (by simp)).mono ?_
 rintro e w1 ⟨v1, rfl, hg1⟩
 rw [List.nil_append, show bytesOf ⟨#[]⟩ = [] from rfl, HC.out] at hg1
 obtain ⟨p1, c1, rfl⟩ := hg1.own.shape'
 have HB : Hid (Below w.heap.size w w1) := acc_step (Below.refl _ _) (Own.nil _ _) hg1
 have q5 := run_own_text (P := Tryz.prog) w1 111 9 5 Tryz.underlying111 Tryz.underlying5 Tryz.underlying9 hg1.own
 clear hg1
 go_wp2
 go_ret
 exact ⟨rfl, HB.out⟩
theorem Nd.dig_no : Nd.dig .no = digB (textCode []) := by
 unfold Nd.dig
 exact if_pos (by show (textCode []).length < 32; have := textCode_length []; simp at this; omega)
set_option maxRecDepth 100000 in
set_option maxHeartbeats 1600000 in
theorem troot_any {B : Nat} {S : Wood} {w : World} {b : Nat} {t : Nd} (hf : Forest B S w) (hT : Tabs w) (hM : 16 ≤ B) (ht : TreeAt S w b t) :
  Calls Tryz.prog 47 #[.pointer (some ⟨b, 0, none⟩)] w fun e w' => e = .returned (.agg (t.dig.map encB).toArray) ∧ Fr B S S w w' := by
 have hbl := ht.lt
 obtain ⟨v, hv, c0, -⟩ := ht.cell
 have HF := Hid.hide hf
 have HT := Hid.hide hT
 have HM := Hid.hide hM
 have hDs : t.dig.length = 32 := by
  rcases hv with ⟨rfl, _⟩ | ⟨_, c, _, hc⟩
  ·rw [Nd.dig_no]; exact digB_length _
  ·exact t.dig_length (hf.ok c t hc)
 obtain ⟨D, hD⟩ : ∃ D : Array Nat, t.dig.toArray = D := ⟨_, rfl⟩
 have hDl : t.dig = D.toList := by rw [← hD]
 have HD : Hid (D.size = 32 ∧ t.dig = D.toList) := ⟨by rw [← hD]; simpa using hDs, hDl⟩
 rw [hDl]
 have hT0 : ∀ w0, Below w.heap.size w w0 → Tabs w0 := fun w0 hb0 => HT.out.below hb0 (by have := HM.out; have := HF.out.le; omega)
 have HT0 := Hid.hide hT0
 clear hf hT hM ht hD hDl hDs hT0
 rcases hv with ⟨rfl, rfl⟩ | ⟨hne, c, rfl, hc⟩
 ·go_enter Tryz.func47, Tryz.ntmps47
  go_wp2_with fail
  generalize hw0 : (w.alloc (.cells _ 34)) = w0
  have hb0 : Below w.heap.size w w0 := by rw [← hw0]; exact (Below.refl _ _).alloc (Nat.le_refl _) _
  have ht0 : w0.there w.heap.size 0 32 := by rw [← hw0]; exact there_new _ _ _ _ rfl
  have hs0 : w.heap.size < w0.heap.size := by rw [← hw0]; simp
  clear hw0
  refine (empty_any w0).mono ?_
  rintro e w1 ⟨rfl, hb1⟩
  have hB1 : Below w.heap.size w w1 := Below.behind hb0 hb1
  have HF1 : Hid (Below w.heap.size w w1 ∧ w1.there w.heap.size 0 32 ∧ w.heap.size < w1.heap.size) := ⟨hB1, there_block ht0 (hb1.block _ hs0), Nat.lt_of_lt_of_le hs0 hb1.size⟩
  clear hb0 ht0 hs0 hb1 hB1
  go_wp2_with fail
  refine (of_any (textB (textCode [])) w1 (HT0.out w1 HF1.out.1) (by have := HM.out; have := HF.out.le; have := HF1.out.2.2; omega)).mono ?_
  rintro e w2 ⟨rfl, hb2⟩
  have hDD : (digF (textB (textCode []))).toList = D.toList := by rw [← HD.out.2, Nd.dig_no]; rfl
  rw [hDD]
  obtain ⟨hz1, hz2, hth', hth2⟩ := hash_cells HD.out.1 (there_block HF1.out.2.1 (hb2.block _ HF1.out.2.2))
  have hone := all_oneCell_toArray (oneCell_enc D .u8)
  have HF2 : Hid (Below w.heap.size w w2 ∧ w2.there w.heap.size 0 (D.toList.map encB).length) := ⟨Below.behind HF1.out.1 hb2, hth2⟩
  clear hb2 hth2 hDD
  go_wp2_with (refine wpList_store_mid rfl 34 _ _ rfl w.heap.size 0 (D.toList.map encB).toArray rfl rfl hth' hz2 hone ?_)
  refine bodyPost_ret (v := .agg (D.toList.map encB).toArray) (results_cell1 Tryz.results47 _ _ _ w.heap.size 0 rfl (run_loadVar_mid _ _ _ 34 _ _ (World.rangeAt_setCells_same _ _ _ _ HF2.out.2) Tryz.underlying34 rfl hz1)) rfl ⟨rfl, ?_⟩
  exact (Fr.of_below HF.out HF2.out.1).setCells _ _ _ (Nat.le_refl _) (HF.out.fresh (Nat.le_refl _))
 ·have HC := Hid.hide hc
  clear hc
  go_enter Tryz.func47, Tryz.ntmps47
  go_wp2_with fail
  generalize hw0 : (w.alloc (.cells _ 34)) = w0
  have hb0 : Below w.heap.size w w0 := by rw [← hw0]; exact (Below.refl _ _).alloc (Nat.le_refl _) _
  have ht0 : w0.there w.heap.size 0 32 := by rw [← hw0]; exact there_new _ _ _ _ rfl
  have hs0 : w.heap.size < w0.heap.size := by rw [← hw0]; simp
  clear hw0
  refine (digNode_any (HF.out.below hb0) (HT0.out w0 hb0) HM.out HC.out hne).mono ?_
  rintro e w1 ⟨rfl, hf1⟩
  rw [HD.out.2]
  have hn0 : S w.heap.size = none := HF.out.fresh (Nat.le_refl _)
  obtain ⟨hz1, hz2, hth', hth2⟩ := hash_cells HD.out.1 (there_block ht0 (hf1.other _ hs0 hn0))
  have hone := all_oneCell_toArray (oneCell_enc D .u8)
  have HF2 : Hid (Fr B S S w w1 ∧ w1.there w.heap.size 0 (D.toList.map encB).length ∧ S w.heap.size = none) := ⟨(Fr.of_below HF.out hb0).trans hf1, hth2, hn0⟩
  clear hf1 hth2 hb0 ht0 hs0 hn0
  go_wp2_with (refine wpList_store_mid rfl 34 _ _ rfl w.heap.size 0 (D.toList.map encB).toArray rfl rfl hth' hz2 hone ?_)
  refine bodyPost_ret (v := .agg (D.toList.map encB).toArray) (results_cell1 Tryz.results47 _ _ _ w.heap.size 0 rfl (run_loadVar_mid _ _ _ 34 _ _ (World.rangeAt_setCells_same _ _ _ _ HF2.out.2.1) Tryz.underlying34 rfl hz1)) rfl ⟨rfl, ?_⟩
  exact HF2.out.1.setCells _ _ _ (Nat.le_refl _) HF2.out.2.2
set_option maxRecDepth 100000 in
set_option maxHeartbeats 1600000 in
theorem xroot_any {B : Nat} {S : Wood} {w : World} {b : Nat} {t : Nd} (hf : Forest B S w) (hT : Tabs w) (hM : 16 ≤ B) (ht : TreeAt S w b t) :
  Calls Tryz.prog 16 #[.pointer (some ⟨b, 0, none⟩)] w fun e w' => e = .returned (.agg (t.dig.map encB).toArray) ∧ Fr B S S w w' := by
 have hDs : t.dig.length = 32 := by
  obtain ⟨v, hv, _⟩ := ht.cell
  rcases hv with ⟨rfl, _⟩ | ⟨_, c, _, hc⟩
  ·rw [Nd.dig_no]; exact digB_length _
  ·exact t.dig_length (hf.ok c t hc)
 obtain ⟨D, hD⟩ : ∃ D : Array Nat, t.dig.toArray = D := ⟨_, rfl⟩
 have hDl : t.dig = D.toList := by rw [← hD]
 have hDD : D.size = 32 := by rw [← hD]; simpa using hDs
 have HD : Hid (D.size = 32) := hDD
 have HC : Hid (∀ w0, Below w.heap.size w w0 → Calls Tryz.prog 47 #[.pointer (some ⟨b, 0, none⟩)] w0 fun e w' => e = .returned (.agg (D.toList.map encB).toArray) ∧ Fr B S S w0 w') := fun w0 hb0 => by
  rw [← hDl]
  exact troot_any (hf.below hb0) (hT.below hb0 (by have := hf.le; omega)) hM (ht.frame (Fr.of_below hf hb0))
 rw [hDl]
 have HF := Hid.hide hf
 have hbl := ht.lt
 clear hf hT hM ht hD hDl hDs hDD
 go_enter Tryz.func16, Tryz.ntmps16
 go_wp2_with fail
 generalize hw0 : (w.alloc (.cells _ 34)) = w0
 have hb0 : Below w.heap.size w w0 := by rw [← hw0]; exact (Below.refl _ _).alloc (Nat.le_refl _) _
 have ht0 : w0.there w.heap.size 0 32 := by rw [← hw0]; exact there_new _ _ _ _ rfl
 have hs0 : w.heap.size < w0.heap.size := by rw [← hw0]; simp
 clear hw0
 refine (HC.out w0 hb0).mono ?_
 rintro e w1 ⟨rfl, hf1⟩
 have hn0 : S w.heap.size = none := HF.out.fresh (Nat.le_refl _)
 obtain ⟨hz1, hz2, hth', hth2⟩ := hash_cells HD.out (there_block ht0 (hf1.other _ hs0 hn0))
 have hone := all_oneCell_toArray (oneCell_enc D .u8)
 have HF2 : Hid (Fr B S S w w1 ∧ w1.there w.heap.size 0 (D.toList.map encB).length ∧ S w.heap.size = none) := ⟨(Fr.of_below HF.out hb0).trans hf1, hth2, hn0⟩
 clear hf1 hth2 hb0 ht0 hs0 hn0
 go_wp2_with (refine wpList_store_mid rfl 34 _ _ rfl w.heap.size 0 (D.toList.map encB).toArray rfl rfl hth' hz2 hone ?_)
 refine bodyPost_ret (v := .agg (D.toList.map encB).toArray) (results_cell1 Tryz.results16 _ _ _ w.heap.size 0 rfl (run_loadVar_mid _ _ _ 34 _ _ (World.rangeAt_setCells_same _ _ _ _ HF2.out.2.1) Tryz.underlying34 rfl hz1)) rfl ⟨rfl, ?_⟩
 exact HF2.out.1.setCells _ _ _ (Nat.le_refl _) HF2.out.2.2
end Go.Proofs.YtjiikjpnlgogfaaGreatDoor
