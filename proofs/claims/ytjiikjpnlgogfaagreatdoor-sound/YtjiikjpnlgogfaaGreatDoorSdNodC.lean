/-
  Nodes are made: fork, under, a branch's put.
  Nodes are made: a leaf's put, an extension's put.
  Nodes are made: an extension's put; put of any node that is shown; with.
-/
import Derived.Test.YtjiikjpnlgogfaaGreatDoorSdNodB
namespace Go.Proofs.YtjiikjpnlgogfaaGreatDoor
open Go.RowKit
def none16 : List Nd := List.replicate 16 .no
theorem none16_ok : oks none16 := oks_of fun x hx => by rw [List.eq_of_mem_replicate hx, Nd.ok]; trivial
theorem kids_none (S : Wood) : Kids S (List.replicate 16 .nilIface) none16 := by
 refine ⟨by simp, by simp [none16], fun i h1 h2 => ?_⟩
 rw [List.getElem_replicate]
 exact .inl ⟨List.eq_of_mem_replicate (List.getElem_mem h2), rfl⟩
theorem oks_set {ks : List Nd} (h : oks ks) (n : Nat) {t : Nd} (ht : t.ok) : oks (ks.set n t) := oks_of fun x hx => by
 rcases List.mem_or_eq_of_mem_set hx with h1 | h1
 ·exact oks_mem h h1
 ·rw [h1]; exact ht
theorem br_ok {ks : List Nd} (h : oks ks) (hl : ks.length = 16) (n : Nat) {t : Nd} (ht : t.ok) : (Nd.br (ks.set n t)).ok := by
 rw [Nd.ok]
 exact ⟨by simp [hl], oks_set h n ht⟩
set_option maxRecDepth 100000 in
set_option maxHeartbeats 1600000 in
theorem fork_any {B : Nat} {S : Wood} {w : World} {n : Nat} {v : Value} {t : Nd} (hf : Forest B S w) (hn : n < 16) (hv : ndV S v t) (hok : t.ok) :
  Calls Tryz.prog 296 #[.int .u8 (n : Int), v] w fun e w' => ∃ c, e = .returned (.pointer (some ⟨c, 0, none⟩)) ∧ w.heap.size ≤ c ∧ Fr B S (S.put c (.br (none16.set n t))) w w' := by
 have hb0 : Below w.heap.size w (w.alloc (.cells z17.toArray 397)) := (Below.refl _ _).alloc (Nat.le_refl _) _
 have hrg : (w.alloc (.cells z17.toArray 397)).rangeAt w.heap.size 1 (List.replicate 16 .nilIface) := fun j u hu => by
  rw [World.cell?_alloc_new]
  have hz : z17 = .string ⟨#[]⟩ :: List.replicate 16 .nilIface := rfl
  rw [hz, List.getElem?_toArray, Nat.add_comm 1 j, List.getElem?_cons_succ]
  exact hu
 have HW := Hid.hide (with_any (hf.below hb0) hrg (kids_none S) hn hv (br_ok none16_ok rfl n hok))
 simp only [z17] at HW hb0
 have HF : Hid (Fr B S S w _) := Fr.of_below hf hb0
 clear hf hn hv hok hb0 hrg
 go_enter Tryz.func296, Tryz.ntmps296
 go_wp2_with fail
 refine HW.out.mono ?_
 rintro e w1 ⟨c, rfl, hc, hf1⟩
 have H1 : Hid (w.heap.size ≤ c ∧ Fr B S (S.put c (.br (none16.set n t))) w w1) := ⟨Nat.le_trans (by simp) hc, HF.out.trans hf1⟩
 clear hc hf1
 go_wp2
 go_ret
 exact ⟨c, rfl, H1.out⟩
def underN (p : ByteArray) (t : Nd) : Nd := if p.size = 0 then t else .ext p t
theorem size_zero {p : ByteArray} (h : p.size = 0) : p = ⟨#[]⟩ := by
 cases p with
 | mk d => congr; exact Array.eq_empty_of_size_eq_zero h
def Made' (B : Nat) (S : Wood) (w : World) (t : Nd) (e : Ending) (w' : World) : Prop := ∃ v S', e = .returned v ∧ ndV S' v t ∧ Fr B S S' w w'
set_option maxRecDepth 100000 in
set_option maxHeartbeats 1600000 in
theorem under_any {B : Nat} {S : Wood} {w : World} {p : ByteArray} {v : Value} {t : Nd} (hf : Forest B S w) (hv : ndV S v t) (hne : t ≠ .no) (hp : nibOK p) (hok : t.ok) :
  Calls Tryz.prog 297 #[.string p, v] w (Made' B S w (underN p t)) := by
 obtain ⟨d, rfl, hd⟩ := hv.full hne
 by_cases h : p.size = 0
 ·have e1 := size_zero h
  subst e1
  have HF := Hid.hide hf
  have HV := Hid.hide hv
  rw [underN, if_pos h]
  clear hf hv hd hok h hp
  go_enter Tryz.func297, Tryz.ntmps297
  go_wp2
  go_ret
  exact ⟨_, S, rfl, HV.out, Fr.refl HF.out⟩
 ·have hsome := some_text p (by omega)
  have ht : (Nd.ext p t).ok := by rw [Nd.ok]; exact ⟨hp, hok, hne⟩
  have HE : Hid (Fr B S (S.put w.heap.size (.ext p t)) w (w.alloc (.cells #[.string ⟨#[]⟩, .string p, .iface (ndTy t) (.pointer (some ⟨d, 0, none⟩))] 411))) := Fr.alloc hf (t := .ext p t) (h := ⟨#[]⟩) (r := [.string p, .iface (ndTy t) (.pointer (some ⟨d, 0, none⟩))]) (heldOK.empty (by simp)) ⟨_, rfl, hv⟩ ht
  rw [underN, if_neg h]
  clear hf hv hd hok h hp ht
  go_enter Tryz.func297, Tryz.ntmps297
  go_wp2
  go_ret
  exact ⟨_, _, rfl, .inr ⟨by simp, w.heap.size, rfl, Wood.put_same _ _ _⟩, HE.out⟩
theorem Fr.leaf {B : Nat} {S : Wood} {w : World} (hf : Forest B S w) {p v : ByteArray} (hp : nibOK p) (hv : v.size ≤ 1024) : Fr B S (S.put w.heap.size (.leaf p v)) w (w.alloc (.cells #[.string ⟨#[]⟩, .string p, .string v] 245)) :=
 Fr.alloc hf (t := .leaf p v) (h := ⟨#[]⟩) (r := [.string p, .string v]) (heldOK.empty (by simp)) rfl (by rw [Nd.ok]; exact ⟨hp, hv⟩)
theorem Kids.sub {S S' : Wood} (hs : ∀ b t, S b = some t → S' b = some t) {r : List Value} {ks : List Nd} (h : Kids S r ks) : Kids S' r ks := ⟨h.1, h.2.1, fun i a b => (h.2.2 i a b).sub hs⟩
theorem kids_of {B : Nat} {S : Wood} {w : World} {b : Nat} {ks : List Nd} (hf : Forest B S w) (hb : S b = some (.br ks)) : ∃ r, Kids S r ks ∧ w.rangeAt b 1 r := by
 obtain ⟨g, rr, _, hr, _, rg, _, _⟩ := (hf.node b _ hb).cell
 have hok := hf.ok b _ hb
 rw [Nd.ok] at hok
 exact ⟨rr, ⟨hr.1, hok.1, hr.2⟩, rg⟩
theorem rangeAt_block {w w' : World} {b o : Nat} {r : List Value} (h : w.rangeAt b o r) (hb : w'.heap[b]? = w.heap[b]?) : w'.rangeAt b o r := fun j u hu => (World.cell?_of_block hb).trans (h j u hu)
set_option maxRecDepth 100000 in
set_option maxHeartbeats 1600000 in
theorem bput_any {B : Nat} {S : Wood} {w : World} {b n : Nat} {ks : List Nd} {r u : ByteArray} (hf : Forest B S w) (hb : S b = some (.br ks)) (hr : 0 < r.size) (hn : (bytesOf r)[0]! = n) (hn16 : n < 16) (hr1 : nibOK (r.extract 1 r.size)) (hu : u.size ≤ 1024) :
  Calls Tryz.prog 298 #[.pointer (some ⟨b, 0, none⟩), .string r, .string u] w (Made' B S w (.br (ks.set n (.leaf (r.extract 1 r.size) u)))) := by
 have hc : (r[0]'hr).toNat = n := by rw [← hn]; exact byte_at r 0 hr
 have i0 : (0 : Int) < (r.size : Int) := by omega
 have i1 : (1 : Int) ≤ (r.size : Int) := by omega
 obtain ⟨x, hx⟩ : ∃ x, r.extract 1 r.size = x := ⟨_, rfl⟩
 rw [hx] at hr1 ⊢
 have hok := hf.ok b _ hb
 rw [Nd.ok] at hok
 have hbl := hf.lt hb
 obtain ⟨rr, hk, rg⟩ := kids_of hf hb
 have hfd : Forest B S w.drew := hf.keep (Nat.le_refl _) fun _ _ _ => rfl
 have hfr := Fr.leaf hfd hr1 hu
 obtain ⟨S1, hS1⟩ : ∃ S1, S.put w.drew.heap.size (.leaf x u) = S1 := ⟨_, rfl⟩
 rw [hS1] at hfr
 have hv1 : ndV S1 (.iface 183 (.pointer (some ⟨w.heap.size, 0, none⟩))) (.leaf x u) := .inr ⟨by simp, w.heap.size, rfl, by rw [← hS1]; exact Wood.put_same _ _ _⟩
 have HW := Hid.hide (with_any hfr.forest (rangeAt_block rg (Below.heap_alloc w.drew _ _ hbl)) (hk.sub hfr.sub) hn16 hv1 (br_ok hok.2 hok.1 n (by rw [Nd.ok]; exact ⟨hr1, hu⟩)))
 have HF : Hid (Fr B S S1 w (w.drew.alloc (.cells #[.string ⟨#[]⟩, .string x, .string u] 245))) := (Fr.of_below hf (Below.drew (Below.refl _ _))).trans hfr
 clear hf hb hn hn16 hr1 hu hok hk rg hfd hfr hS1 hv1 hbl
 go_enter Tryz.func298, Tryz.ntmps298
 go_upto_region 1 with fail
 go_region_with (go_at_call 300; refine HW.out.mono ?_; rintro e w1 ⟨c, rfl, hc, hf1⟩; have HE : Hid (Fr B S (S1.put c (.br (ks.set n (.leaf x u)))) w w1) := HF.out.trans hf1; clear hc hf1)
 all_goals go_wp2
 all_goals go_ret
 all_goals exact ⟨_, _, rfl, .inr ⟨by simp, c, rfl, Wood.put_same _ _ _⟩, HE.out⟩
end Go.Proofs.YtjiikjpnlgogfaaGreatDoor
namespace Go.Proofs.YtjiikjpnlgogfaaGreatDoor
open Go.RowKit
def parted (x : Nat) (t : Nd) (y : Nat) (r u : ByteArray) : Nd := .br ((none16.set x t).set y (.leaf (r.extract 1 r.size) u))
def Nd.putAt : Nd → ByteArray → ByteArray → Nd
 | .leaf p v, r, u =>
  let n := comm (bytesOf p) (bytesOf r)
  if n = r.size then .leaf r u else underN (r.extract 0 n) (parted ((bytesOf p)[n]!) (.leaf (p.extract (n + 1) p.size) v) ((bytesOf (r.extract n r.size))[0]!) (r.extract n r.size) u)
 | .ext p t, r, u =>
  let n := comm (bytesOf p) (bytesOf r)
  underN (r.extract 0 n) (parted ((bytesOf p)[n]!) (underN (p.extract (n + 1) p.size) t) ((bytesOf (r.extract n r.size))[0]!) (r.extract n r.size) u)
 | .br ks, r, u => .br (ks.set ((bytesOf r)[0]!) (.leaf (r.extract 1 r.size) u))
 | _, r, u => .leaf r u
theorem nibOK.tail {p : ByteArray} (h : nibOK p) (n : Nat) : nibOK (p.extract n p.size) := ⟨by rw [extract_size]; have := h.1; omega, nib_tail h.2 n⟩
theorem nibOK.head {p : ByteArray} (h : nibOK p) (n : Nat) : nibOK (p.extract 0 n) := by
 refine ⟨?_, nib_head h.2 n⟩
 rw [← bytesOf_length, bytesOf_head, List.length_take, bytesOf_length]
 have := h.1
 omega
theorem nibOK.at {p : ByteArray} (h : nibOK p) {n : Nat} (hn : n < p.size) : (bytesOf p)[n]! < 16 := by
 have : n < (bytesOf p).length := by rw [bytesOf_length]; exact hn
 rw [getElem!_pos (bytesOf p) n this]
 exact h.2 _ (List.getElem_mem _)
theorem Made'.ok {B : Nat} {S : Wood} {w : World} {v : Value} {t : Nd} (hf : Forest B S w) (hv : ndV S v t) (hn : t ≠ .no) : t.ok := by
 obtain ⟨b, _, hb⟩ := hv.full hn
 exact hf.ok b t hb
theorem leaf_cells {B : Nat} {S : Wood} {w : World} {b : Nat} {p v : ByteArray} (hf : Forest B S w) (hb : S b = some (.leaf p v)) : w.cell? ⟨b, 1, none⟩ = some (.string p) ∧ w.cell? ⟨b, 2, none⟩ = some (.string v) := by
 obtain ⟨g, rr, _, hrr, _, rg, _, _⟩ := (hf.node b _ hb).cell
 have hrr : rr = [.string p, .string v] := hrr
 subst hrr
 exact ⟨rg 0 _ rfl, rg 1 _ rfl⟩
theorem ext_cells {B : Nat} {S : Wood} {w : World} {b : Nat} {p : ByteArray} {t : Nd} (hf : Forest B S w) (hb : S b = some (.ext p t)) : ∃ v, w.cell? ⟨b, 1, none⟩ = some (.string p) ∧ w.cell? ⟨b, 2, none⟩ = some v ∧ ndV S v t := by
 obtain ⟨g, rr, _, hrr, _, rg, _, _⟩ := (hf.node b _ hb).cell
 obtain ⟨v, hr, hv⟩ : ∃ v, rr = [.string p, v] ∧ ndV S v t := hrr
 subst hr
 exact ⟨v, rg 0 _ rfl, rg 1 _ rfl, hv⟩
set_option maxRecDepth 100000 in
set_option maxHeartbeats 1600000 in
theorem lput_any {B : Nat} {S : Wood} {w : World} {b : Nat} {p v r u : ByteArray} (hf : Forest B S w) (hb : S b = some (.leaf p v)) (hpr : p.size = r.size) (hr : nibOK r) (hu : u.size ≤ 1024) :
  Calls Tryz.prog 292 #[.pointer (some ⟨b, 0, none⟩), .string r, .string u] w (Made' B S w ((Nd.leaf p v).putAt r u)) := by
 obtain ⟨g, rr, _, hrr, c0, rg, _, _⟩ := (hf.node b _ hb).cell
 have hrr : rr = [.string p, .string v] := hrr
 subst hrr
 have c1 : w.cell? ⟨b, 1, none⟩ = some (.string p) := rg 0 _ rfl
 have c2 : w.cell? ⟨b, 2, none⟩ = some (.string v) := rg 1 _ rfl
 have hbl := hf.lt hb
 have hok := hf.ok b _ hb
 rw [Nd.ok] at hok
 have HC := Hid.hide (common_any p r w (by have := hok.1.1; omega))
 rw [Nd.putAt]
 have hcl := comm_le (bytesOf p) (bytesOf r)
 rw [bytesOf_length, bytesOf_length] at hcl
 obtain ⟨n, hN⟩ : ∃ n, comm (bytesOf p) (bytesOf r) = n := ⟨_, rfl⟩
 rw [hN] at HC hcl ⊢
 have HF := Hid.hide hf
 have HB := Hid.hide hb
 have HO : Hid (nibOK p ∧ v.size ≤ 1024 ∧ nibOK r ∧ u.size ≤ 1024 ∧ p.size = r.size ∧ r.size ≤ 64) := ⟨hok.1, hok.2, hr, hu, hpr, hr.1⟩
 clear hf hb rg hok c0 hN
 by_cases hn : n = r.size
 ·rw [if_pos hn]
  subst hn
  clear hcl hr hu hpr
  go_enter Tryz.func292, Tryz.ntmps292
  go_wp2_with fail
  refine HC.out.mono ?_
  rintro e w1 ⟨rfl, hb1⟩
  have HE : Hid (Fr B S (S.put w1.heap.size (.leaf r u)) w (w1.alloc (.cells #[.string ⟨#[]⟩, .string r, .string u] 245))) := (Fr.of_below HF.out hb1).trans (Fr.leaf (HF.out.below hb1) HO.out.2.2.1 HO.out.2.2.2.1)
  clear hb1
  go_wp2
  go_ret
  exact ⟨_, _, rfl, .inr ⟨by simp, w1.heap.size, rfl, Wood.put_same _ _ _⟩, HE.out⟩
 ·rw [if_neg hn]
  have hnr : n < r.size := by omega
  have hnp : n < p.size := by omega
  obtain ⟨x, hx⟩ : ∃ x, (bytesOf p)[n]! = x := ⟨_, rfl⟩
  have hx16 : x < 16 := by rw [← hx]; exact HO.out.1.at hnp
  have hcs : (p[n]'hnp).toNat = x := by rw [← hx]; exact byte_at p n hnp
  obtain ⟨p1, hp1⟩ : ∃ p1, p.extract (n + 1) p.size = p1 := ⟨_, rfl⟩
  obtain ⟨r0, hr0⟩ : ∃ r0, r.extract 0 n = r0 := ⟨_, rfl⟩
  obtain ⟨r1, hr1⟩ : ∃ r1, r.extract n r.size = r1 := ⟨_, rfl⟩
  obtain ⟨y, hy⟩ : ∃ y, (bytesOf r1)[0]! = y := ⟨_, rfl⟩
  rw [hx, hp1, hr0, hr1, hy]
  have hr1s : r1.size = r.size - n := by rw [← hr1, extract_size]
  have hr1n : nibOK r1 := by rw [← hr1]; exact hr.tail n
  have HP : Hid (nibOK p1 ∧ nibOK r0 ∧ nibOK r1 ∧ nibOK (r1.extract 1 r1.size) ∧ 0 < r1.size ∧ (bytesOf r1)[0]! = y ∧ y < 16 ∧ x < 16) := ⟨by rw [← hp1]; exact HO.out.1.tail _, by rw [← hr0]; exact hr.head n, hr1n, hr1n.tail 1, by omega, hy, by rw [← hy]; exact hr1n.at (by omega), hx16⟩
  have i1 : (n : Int) < (p.size : Int) := by omega
  have i2 : (n : Int) < (r.size : Int) := by omega
  have i3 : (n : Int) ≤ (r.size : Int) := by omega
  have i4 : (n : Int) + 1 ≤ (p.size : Int) := by omega
  have i5 : (0 : Int) ≤ (n : Int) + 1 := by omega
  have i6 : (0 : Int) ≤ (n : Int) := by omega
  have k1 : IntKind.i64.wrap ((n : Int) + 1) = (n : Int) + 1 := wrap_fits _ (by have := HO.out; omega) (by have := HO.out; omega)
  have k2 : ((n : Int) + 1).toNat = n + 1 := by omega
  have hne : ((n : Int) == (r.size : Int)) = false := by simp; omega
  have hlt : ¬ n = r.size := hn
  clear hn hcl hr hu hpr hx hy hr1s hr1n hx16
  go_enter Tryz.func292, Tryz.ntmps292
  go_upto_region 4 with (go_at_call 295; refine HC.out.mono ?_; rintro e w1 ⟨rfl, hb1⟩; have HB1 := Hid.hide hb1; have d1 := (hb1.cell (p := ⟨b, 1, none⟩) hbl).trans c1; have d2 := (hb1.cell (p := ⟨b, 2, none⟩) hbl).trans c2; clear hb1)
  have hbl1 : b < w1.heap.size := Nat.lt_of_lt_of_le hbl HB1.out.size
  have hfd : Forest B S w1.drew := (HF.out.below HB1.out).keep (Nat.le_refl _) fun _ _ _ => rfl
  have hfr := Fr.leaf hfd HP.out.1 HO.out.2.1
  obtain ⟨S1, hS1⟩ : ∃ S1, S.put w1.drew.heap.size (.leaf p1 v) = S1 := ⟨_, rfl⟩
  rw [hS1] at hfr
  have hv1 : ndV S1 (.iface 183 (.pointer (some ⟨w1.heap.size, 0, none⟩))) (.leaf p1 v) := .inr ⟨by simp, w1.heap.size, rfl, by rw [← hS1]; exact Wood.put_same _ _ _⟩
  have HK := Hid.hide (fork_any hfr.forest HP.out.2.2.2.2.2.2.2 hv1 (by rw [Nd.ok]; exact ⟨HP.out.1, HO.out.2.1⟩))
  have HFr : Hid (Fr B S S1 w (w1.drew.alloc (.cells #[.string ⟨#[]⟩, .string p1, .string v] 245))) := ((Fr.of_below HF.out HB1.out).trans (Fr.of_below (HF.out.below HB1.out) (Below.drew (Below.refl _ _)))).trans hfr
  clear hfd hfr hS1 hv1
  go_region_held3 (fun w' => w'.cell? ⟨b, 1, none⟩ = some (.string p) ∧ w'.cell? ⟨b, 2, none⟩ = some (.string v)) (first | exact ⟨d1, d2⟩ | exact ⟨(World.cell?_alloc_past _ _ _ hbl1).trans d1, (World.cell?_alloc_past _ _ _ hbl1).trans d2⟩ | exact ⟨e1, e2⟩)
   (first | (go_at_call 296; refine HK.out.mono ?_; rintro e w2 ⟨c, rfl, hc, hf2⟩; have HF2 : Hid (Fr B S (S1.put c (.br (none16.set x (.leaf p1 v)))) w w2) := HFr.out.trans hf2; obtain ⟨e1, e2⟩ := leaf_cells HF2.out.forest (HF2.out.sub b _ HB.out); clear hc hf2))
  all_goals clear d1 d2 e1 e2 HK hcs i1 i4 i5 k1 k2 hp1
  all_goals go_wp2
  all_goals
   have hpt : S1.put c (.br (none16.set x (.leaf p1 v))) c = some (.br (none16.set x (.leaf p1 v))) := Wood.put_same _ _ _
   generalize S1.put c (.br (none16.set x (.leaf p1 v))) = S2 at HF2 hpt
   have HBp : Hid (Calls Tryz.prog 298 #[.pointer (some ⟨c, 0, none⟩), .string r1, .string u] w2.drew (Made' B S2 w2.drew (parted x (.leaf p1 v) y r1 u))) := bput_any (HF2.out.forest.keep (Nat.le_refl _) fun _ _ _ => rfl) hpt HP.out.2.2.2.2.1 HP.out.2.2.2.2.2.1 HP.out.2.2.2.2.2.2.1 HP.out.2.2.2.1 HO.out.2.2.2.1
   have HFd : Hid (Fr B S S2 w w2.drew) := HF2.out.behind (Below.drew (Below.refl _ _))
   clear hpt
   go_region_with (first | (go_at_call 298; refine HBp.out.mono ?_; rintro e w3 ⟨v3, S3, rfl, hv3, hf3⟩; have HF3 : Hid (Fr B S S3 w w3) := HFd.out.trans hf3; have hU := under_any (p := r0) hf3.forest hv3 (by simp [parted]) HP.out.2.1 (Made'.ok hf3.forest hv3 (by simp [parted])); obtain ⟨d3, rfl, -⟩ := hv3.full (by simp [parted]); have HU := Hid.hide hU; clear hv3 hf3 hU) | (go_at_call 297; refine HU.out.mono ?_; rintro e w4 ⟨v4, S4, rfl, hv4, hf4⟩; have HE : Hid (ndV S4 v4 (underN r0 (parted x (.leaf p1 v) y r1 u)) ∧ Fr B S S4 w w4) := ⟨hv4, HF3.out.trans hf4⟩; clear hv4 hf4))
   all_goals go_wp2
   all_goals go_ret
   all_goals exact ⟨_, _, rfl, HE.out⟩
end Go.Proofs.YtjiikjpnlgogfaaGreatDoor
namespace Go.Proofs.YtjiikjpnlgogfaaGreatDoor
open Go.RowKit
theorem not_begins {p r : ByteArray} (h : ¬ begins p r) : comm (bytesOf p) (bytesOf r) < p.size := by
 have h1 := comm_le (bytesOf p) (bytesOf r)
 have h2 := comm_take (bytesOf p) (bytesOf r)
 rw [bytesOf_length, bytesOf_length] at h1
 rcases Nat.lt_or_ge (comm (bytesOf p) (bytesOf r)) p.size with h3 | h3
 ·exact h3
 ·exfalso
  apply h
  unfold begins
  have e : comm (bytesOf p) (bytesOf r) = p.size := by omega
  rw [e] at h2
  rw [← h2, List.take_of_length_le (by rw [bytesOf_length]; exact Nat.le_refl _)]
theorem ext_keep {B : Nat} {S S' : Wood} {w w' : World} {b : Nat} {p : ByteArray} {t : Nd} {v : Value} (h : Fr B S S' w w') (hb : S b = some (.ext p t)) (c1 : w.cell? ⟨b, 1, none⟩ = some (.string p)) (c2 : w.cell? ⟨b, 2, none⟩ = some v) : w'.cell? ⟨b, 1, none⟩ = some (.string p) ∧ w'.cell? ⟨b, 2, none⟩ = some v := by
 exact ⟨(h.kids b _ hb 1 (by omega)).trans c1, (h.kids b _ hb 2 (by omega)).trans c2⟩
set_option maxRecDepth 100000 in
set_option maxHeartbeats 1600000 in
theorem eput_any {B : Nat} {S : Wood} {w : World} {b : Nat} {p r u : ByteArray} {t : Nd} (hf : Forest B S w) (hb : S b = some (.ext p t)) (hpr : p.size < r.size) (hnb : ¬ begins p r) (hr : nibOK r) (hu : u.size ≤ 1024) :
  Calls Tryz.prog 344 #[.pointer (some ⟨b, 0, none⟩), .string r, .string u] w (Made' B S w ((Nd.ext p t).putAt r u)) := by
 obtain ⟨tv, c1, c2, htv⟩ := ext_cells hf hb
 have hbl := hf.lt hb
 have hok := hf.ok b _ hb
 rw [Nd.ok] at hok
 have HC := Hid.hide (common_any p r w (by have := hok.1.1; omega))
 rw [Nd.putAt]
 have hnp := not_begins hnb
 obtain ⟨n, hN⟩ : ∃ n, comm (bytesOf p) (bytesOf r) = n := ⟨_, rfl⟩
 rw [hN] at HC hnp ⊢
 have HF := Hid.hide hf
 have HB := Hid.hide hb
 have HO : Hid (nibOK p ∧ t.ok ∧ t ≠ .no ∧ nibOK r ∧ u.size ≤ 1024 ∧ p.size < r.size ∧ r.size ≤ 64) := ⟨hok.1, hok.2.1, hok.2.2, hr, hu, hpr, hr.1⟩
 have HV := Hid.hide htv
 obtain ⟨td, htd, -⟩ := htv.full hok.2.2
 subst htd
 have hnr : n < r.size := by omega
 obtain ⟨x, hx⟩ : ∃ x, (bytesOf p)[n]! = x := ⟨_, rfl⟩
 have hx16 : x < 16 := by rw [← hx]; exact HO.out.1.at hnp
 have hcs : (p[n]'hnp).toNat = x := by rw [← hx]; exact byte_at p n hnp
 obtain ⟨p1, hp1⟩ : ∃ p1, p.extract (n + 1) p.size = p1 := ⟨_, rfl⟩
 obtain ⟨r0, hr0⟩ : ∃ r0, r.extract 0 n = r0 := ⟨_, rfl⟩
 obtain ⟨r1, hr1⟩ : ∃ r1, r.extract n r.size = r1 := ⟨_, rfl⟩
 obtain ⟨y, hy⟩ : ∃ y, (bytesOf r1)[0]! = y := ⟨_, rfl⟩
 rw [hx, hp1, hr0, hr1, hy]
 have hr1s : r1.size = r.size - n := by rw [← hr1, extract_size]
 have hr1n : nibOK r1 := by rw [← hr1]; exact hr.tail n
 have HP : Hid (nibOK p1 ∧ nibOK r0 ∧ nibOK r1 ∧ nibOK (r1.extract 1 r1.size) ∧ 0 < r1.size ∧ (bytesOf r1)[0]! = y ∧ y < 16 ∧ x < 16) := ⟨by rw [← hp1]; exact HO.out.1.tail _, by rw [← hr0]; exact hr.head n, hr1n, hr1n.tail 1, by omega, hy, by rw [← hy]; exact hr1n.at (by omega), hx16⟩
 have i1 : (n : Int) < (p.size : Int) := by omega
 have i2 : (n : Int) < (r.size : Int) := by omega
 have i3 : (n : Int) ≤ (r.size : Int) := by omega
 have i4 : (n : Int) + 1 ≤ (p.size : Int) := by omega
 have i5 : (0 : Int) ≤ (n : Int) + 1 := by omega
 have i6 : (0 : Int) ≤ (n : Int) := by omega
 have k1 : IntKind.i64.wrap ((n : Int) + 1) = (n : Int) + 1 := wrap_fits _ (by have := HO.out; omega) (by have := HO.out; omega)
 have k2 : ((n : Int) + 1).toNat = n + 1 := by omega
 obtain ⟨t1, ht1⟩ : ∃ t1, underN p1 t = t1 := ⟨_, rfl⟩
 rw [ht1]
 have ht1n : t1 ≠ .no := by
  rw [← ht1]
  unfold underN
  split
  ·exact hok.2.2
  ·simp
 have HT1 : Hid (underN p1 t = t1 ∧ t1 ≠ .no) := ⟨ht1, ht1n⟩
 clear hf hb hok hN hr hu hpr hx hy hr1s hr1n hx16 hnb htv ht1 ht1n
 go_enter Tryz.func344, Tryz.ntmps344
 go_upto_region 2 with (go_at_call 295; refine HC.out.mono ?_; rintro e w1 ⟨rfl, hb1⟩; have HB1 := Hid.hide hb1; have d1 := (hb1.cell (p := ⟨b, 1, none⟩) hbl).trans c1; have d2 := (hb1.cell (p := ⟨b, 2, none⟩) hbl).trans c2; clear hb1)
 have HFd : Hid (Fr B S S w w1.drew) := (Fr.of_below HF.out HB1.out).behind (Below.drew (Below.refl _ _))
 have HU := Hid.hide (under_any (p := p1) HFd.out.forest HV.out HO.out.2.2.1 HP.out.1 HO.out.2.1)
 rw [HT1.out.1] at HU
 go_region_held3 (fun w' => w'.cell? ⟨b, 1, none⟩ = some (.string p) ∧ w'.cell? ⟨b, 2, none⟩ = some (.iface (ndTy t) (.pointer (some ⟨td, 0, none⟩)))) (first | exact ⟨d1, d2⟩ | exact ⟨e1, e2⟩ | exact ⟨f1, f2⟩)
  (first | (go_at_call 297; refine HU.out.mono ?_; rintro e w2 ⟨v2, S2, rfl, hv2, hf2⟩; have HF2 : Hid (Fr B S S2 w w2) := HFd.out.trans hf2; obtain ⟨e1, e2⟩ := ext_keep (HFd.out.trans hf2) HB.out c1 c2; obtain ⟨d3, rfl, -⟩ := hv2.full HT1.out.2; have HK := Hid.hide (fork_any HF2.out.forest HP.out.2.2.2.2.2.2.2 hv2 (Made'.ok hf2.forest hv2 HT1.out.2)); clear hv2 hf2) | (go_at_call 296; refine HK.out.mono ?_; rintro e w3 ⟨c, rfl, hc, hf3⟩; have HF3 : Hid (Fr B S (S2.put c (.br (none16.set x t1))) w w3) := HF2.out.trans hf3; obtain ⟨f1, f2⟩ := ext_keep (HF2.out.trans hf3) HB.out c1 c2; clear hc hf3))
 all_goals clear d1 d2 e1 e2 f1 f2 HK HU hcs i1 i4 i5 k1 k2 hp1
 all_goals go_wp2
 all_goals
  have hpt : S2.put c (.br (none16.set x t1)) c = some (.br (none16.set x t1)) := Wood.put_same _ _ _
  generalize S2.put c (.br (none16.set x t1)) = S3 at HF3 hpt
  have HBp : Hid (Calls Tryz.prog 298 #[.pointer (some ⟨c, 0, none⟩), .string r1, .string u] w3.drew (Made' B S3 w3.drew (parted x t1 y r1 u))) := bput_any (HF3.out.forest.keep (Nat.le_refl _) fun _ _ _ => rfl) hpt HP.out.2.2.2.2.1 HP.out.2.2.2.2.2.1 HP.out.2.2.2.2.2.2.1 HP.out.2.2.2.1 HO.out.2.2.2.2.1
  have HFe : Hid (Fr B S S3 w w3.drew) := HF3.out.behind (Below.drew (Below.refl _ _))
  clear hpt
  go_region_with (first | (go_at_call 298; refine HBp.out.mono ?_; rintro e w4 ⟨v4, S4, rfl, hv4, hf4⟩; have HF4 : Hid (Fr B S S4 w w4) := HFe.out.trans hf4; have hU := under_any (p := r0) hf4.forest hv4 (by simp [parted]) HP.out.2.1 (Made'.ok hf4.forest hv4 (by simp [parted])); obtain ⟨d4, rfl, -⟩ := hv4.full (by simp [parted]); have HU := Hid.hide hU; clear hv4 hf4 hU) | (go_at_call 297; refine HU.out.mono ?_; rintro e w5 ⟨v5, S5, rfl, hv5, hf5⟩; have HE : Hid (ndV S5 v5 (underN r0 (parted x t1 y r1 u)) ∧ Fr B S S5 w w5) := ⟨hv5, HF4.out.trans hf5⟩; clear hv5 hf5))
  all_goals go_wp2
  all_goals go_ret
  all_goals exact ⟨_, _, rfl, HE.out⟩
end Go.Proofs.YtjiikjpnlgogfaaGreatDoor
