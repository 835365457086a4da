/-
  Nodes with nibbles ahead (behind).
  Branches that are left with one node alone; leading.
  The node that has another one, or none, where nibbles lead (leading).
  A range over a function that hands on so many things, each in its turn.
  A list from its last element to its first (slices.Backward).
  The tree with another node, or none, where a way ends (ending).
  The tree with another node, or none, where a way ends (ending): the walk.
-/
import Derived.Test.YtjiikjpnlgogfaaGreatDoorSdNodC
import Derived.Test.YtjiikjpnlgogfaaGreatDoorSdText
import Derived.RangeFuncNested
import Derived.RangeFuncBound
import Derived.RangeFuncCalls
import Derived.RangeFuncLeaves
import Derived.Shelf.Abstract
import Derived.Shelf.RegionOpen
import Derived.OwnWalkIn
import Derived.TacticsInMore
import Derived.LoopNIn
import Derived.LoopIn
namespace Go.Proofs.YtjiikjpnlgogfaaGreatDoor
open Go.RowKit
def behindN (q : ByteArray) : Nd → Nd
 | .leaf p v => .leaf (q ++ p) v
 | .ext p t => .ext (q ++ p) t
 | .br ks => underN q (.br ks)
 | t => t
def behindFn : Nd → FuncId
 | .no => 0
 | .leaf _ _ => 288
 | .ext _ _ => 338
 | .br _ => 328
 | .stub _ => 301
theorem mBehind (t : Nd) (ht : t ≠ .no) (a : Addr) (w : World) : (Go.method 563 (ndTy t) (.pointer (some a)) "twigs/tree.behind").run Tryz.prog w = .ok (behindFn t, .pointer (some a)) w := by
 cases t with
 | no => exact absurd rfl ht
 | leaf _ _ => kernel_rfl
 | ext _ _ => kernel_rfl
 | br _ => kernel_rfl
 | stub _ => kernel_rfl
theorem enBehind (t : Nd) (ht : t ≠ .no) (args : Array Value) (w : World) : (callFunc (behindFn t) args).run Tryz.prog w = .ok (.enter (behindFn t) args) w := by
 cases t with
 | no => exact absurd rfl ht
 | leaf _ _ => kernel_rfl
 | ext _ _ => kernel_rfl
 | br _ => kernel_rfl
 | stub _ => kernel_rfl
def Made2 (B : Nat) (S : Wood) (w : World) (t : Nd) (e : Ending) (w' : World) : Prop := ∃ v S', e = .returned (.tuple #[v, .nilIface]) ∧ ndV S' v t ∧ Fr B S S' w w'
theorem size_append (a b : ByteArray) : (a ++ b).size = a.size + b.size := by
 rw [← bytesOf_length, bytesOf_append, List.length_append, bytesOf_length, bytesOf_length]
set_option maxRecDepth 100000 in
set_option maxHeartbeats 1600000 in
theorem lbehind_any {B : Nat} {S : Wood} {w : World} {b : Nat} {p v q : ByteArray} (hf : Forest B S w) (hb : S b = some (.leaf p v)) (hq : nibOK (q ++ p)) :
  Calls Tryz.prog 288 #[.pointer (some ⟨b, 0, none⟩), .string q] w (Made2 B S w (.leaf (q ++ p) v)) := by
 obtain ⟨c1, c2⟩ := leaf_cells hf hb
 have hok := hf.ok b _ hb
 rw [Nd.ok] at hok
 have hbl := hf.lt hb
 have hadd := fun W => run_string_add_sum (P := Tryz.prog) W q p (by have := hq.1; rw [size_append] at this; omega)
 obtain ⟨x, hx⟩ : ∃ x, q ++ p = x := ⟨_, rfl⟩
 rw [hx] at hq hadd ⊢
 have hfd : Forest B S w.drew := hf.keep (Nat.le_refl _) fun _ _ _ => rfl
 have HE : Hid (Fr B S (S.put w.heap.size (.leaf x v)) w (w.drew.alloc (.cells #[.string ⟨#[]⟩, .string x, .string v] 245))) := (Fr.of_below hf (Below.drew (Below.refl _ _))).trans (Fr.leaf hfd hq hok.2)
 clear hf hb hok hq hx hfd
 go_enter Tryz.func288, Tryz.ntmps288
 go_upto_region 1 with fail
 go_region_held3 (fun w' => w'.cell? ⟨b, 1, none⟩ = some (.string p) ∧ w'.cell? ⟨b, 2, none⟩ = some (.string v)) (first | exact ⟨c1, c2⟩ | exact ⟨(World.cell?_alloc_past _ _ _ hbl).trans c1, (World.cell?_alloc_past _ _ _ hbl).trans c2⟩) (fail)
 all_goals go_wp2
 all_goals go_ret2
 all_goals exact ⟨_, _, rfl, .inr ⟨by simp, w.heap.size, rfl, Wood.put_same _ _ _⟩, HE.out⟩
set_option maxRecDepth 100000 in
set_option maxHeartbeats 1600000 in
theorem ebehind_any {B : Nat} {S : Wood} {w : World} {b : Nat} {p q : ByteArray} {t : Nd} (hf : Forest B S w) (hb : S b = some (.ext p t)) (hq : nibOK (q ++ p)) :
  Calls Tryz.prog 338 #[.pointer (some ⟨b, 0, none⟩), .string q] w (Made2 B S w (.ext (q ++ p) t)) := by
 obtain ⟨tv, c1, c2, htv⟩ := ext_cells hf hb
 have hok := hf.ok b _ hb
 rw [Nd.ok] at hok
 obtain ⟨d, rfl, -⟩ := htv.full hok.2.2
 have hbl := hf.lt hb
 have hadd := fun W => run_string_add_sum (P := Tryz.prog) W q p (by have := hq.1; rw [size_append] at this; omega)
 obtain ⟨x, hx⟩ : ∃ x, q ++ p = x := ⟨_, rfl⟩
 rw [hx] at hq hadd ⊢
 have hfd : Forest B S w.drew := hf.keep (Nat.le_refl _) fun _ _ _ => rfl
 have HE : Hid (Fr B S (S.put w.heap.size (.ext x t)) w (w.drew.alloc (.cells #[.string ⟨#[]⟩, .string x, .iface (ndTy t) (.pointer (some ⟨d, 0, none⟩))] 411))) := (Fr.of_below hf (Below.drew (Below.refl _ _))).trans (Fr.alloc hfd (t := .ext x t) (h := ⟨#[]⟩) (r := [.string x, .iface (ndTy t) (.pointer (some ⟨d, 0, none⟩))]) (heldOK.empty (by simp)) ⟨_, rfl, htv⟩ (by rw [Nd.ok]; exact ⟨hq, hok.2⟩))
 clear hf hb hok hq hx htv hfd
 go_enter Tryz.func338, Tryz.ntmps338
 go_upto_region 1 with fail
 go_region_held3 (fun w' => w'.cell? ⟨b, 1, none⟩ = some (.string p) ∧ w'.cell? ⟨b, 2, none⟩ = some (.iface (ndTy t) (.pointer (some ⟨d, 0, none⟩)))) (first | exact ⟨c1, c2⟩ | exact ⟨(World.cell?_alloc_past _ _ _ hbl).trans c1, (World.cell?_alloc_past _ _ _ hbl).trans c2⟩) (fail)
 all_goals go_wp2
 all_goals go_ret2
 all_goals exact ⟨_, _, rfl, .inr ⟨by simp, w.heap.size, rfl, Wood.put_same _ _ _⟩, HE.out⟩
set_option maxRecDepth 100000 in
set_option maxHeartbeats 1600000 in
theorem bbehind_any {B : Nat} {S : Wood} {w : World} {b : Nat} {q : ByteArray} {ks : List Nd} (hf : Forest B S w) (hb : S b = some (.br ks)) (hq : nibOK q) :
  Calls Tryz.prog 328 #[.pointer (some ⟨b, 0, none⟩), .string q] w (Made2 B S w (underN q (.br ks))) := by
 have HU := Hid.hide (under_any (p := q) (v := .iface 399 (.pointer (some ⟨b, 0, none⟩))) hf (.inr ⟨by simp, b, rfl, hb⟩) (by simp) hq (hf.ok b _ hb))
 clear hf hb hq
 go_enter Tryz.func328, Tryz.ntmps328
 go_wp2_with fail
 refine HU.out.mono ?_
 rintro e w1 ⟨v1, S1, rfl, hv1, hf1⟩
 have HE : Hid (ndV S1 v1 (underN q (.br ks)) ∧ Fr B S S1 w w1) := ⟨hv1, hf1⟩
 clear hv1 hf1
 go_wp2
 go_ret2
 exact ⟨_, _, rfl, HE.out⟩
def Nd.room (q : ByteArray) : Nd → Prop
 | .leaf p _ => nibOK (q ++ p)
 | .ext p _ => nibOK (q ++ p)
 | .br _ => nibOK q
 | _ => False
theorem behind_any {B : Nat} {S : Wood} {w : World} {b : Nat} {q : ByteArray} {t : Nd} (hf : Forest B S w) (hb : S b = some t) (hq : t.room q) :
  Calls Tryz.prog (behindFn t) #[.pointer (some ⟨b, 0, none⟩), .string q] w (Made2 B S w (behindN q t)) := by
 cases t with
 | no => exact hq.elim
 | leaf p v => exact lbehind_any hf hb hq
 | ext p t => exact ebehind_any hf hb hq
 | br ks => exact bbehind_any hf hb hq
 | stub h => exact hq.elim
end Go.Proofs.YtjiikjpnlgogfaaGreatDoor
namespace Go.Proofs.YtjiikjpnlgogfaaGreatDoor
open Go.RowKit
def Nd.isNo : Nd → Bool
 | .no => true
 | _ => false
theorem Nd.isNo_iff {t : Nd} : t.isNo = true ↔ t = .no := by cases t <;> simp [Nd.isNo]
def cntN (ks : List Nd) : Nat → Nat
 | 0 => 0
 | k + 1 => cntN ks k + (if (ks.getD k .no).isNo then 0 else 1)
def lastN (ks : List Nd) : Nat → Nat
 | 0 => 0
 | k + 1 => if (ks.getD k .no).isNo then lastN ks k else k
theorem cntN_le (ks : List Nd) : ∀ k, cntN ks k ≤ k
 | 0 => Nat.le_refl _
 | k + 1 => by
  have := cntN_le ks k
  rw [cntN]
  split <;> omega
theorem lastN_le (ks : List Nd) : ∀ k, lastN ks k ≤ k
 | 0 => Nat.le_refl _
 | k + 1 => by
  have := lastN_le ks k
  rw [lastN]
  split <;> omega
theorem lastN_lt (ks : List Nd) : ∀ k, 0 < k → lastN ks k < k
 | 0, h => absurd h (Nat.lt_irrefl _)
 | k + 1, _ => by
  have := lastN_le ks k
  rw [lastN]
  split <;> omega
theorem lastN_some (ks : List Nd) : ∀ k, 0 < cntN ks k → (ks.getD (lastN ks k) .no).isNo = false
 | 0, h => by simp [cntN] at h
 | k + 1, h => by
  rw [cntN] at h
  rw [lastN]
  by_cases hk : (ks.getD k .no).isNo = true
  ·rw [if_pos hk] at h ⊢
   exact lastN_some ks k (by omega)
  ·rw [if_neg hk]
   simpa using hk
theorem wrap8 {c : Nat} (h : c < 256) : IntKind.u8.wrap (c : Int) = (c : Int) := by
 simp only [IntKind.wrap, IntKind.bits, IntKind.signed]
 simp
 omega
set_option maxRecDepth 100000 in
set_option maxHeartbeats 1600000 in
theorem alone_any {S : Wood} {w : World} {b : Nat} {r : List Value} {ks : List Nd} (rg : w.rangeAt b 1 r) (hk : Kids S r ks) :
  Calls Tryz.prog 335 #[.pointer (some ⟨b, 0, none⟩)] w fun e w' => e = .returned (.tuple #[.int .u8 (lastN ks 16 : Nat), .bool (decide (cntN ks 16 = 1))]) ∧ w' = w := by
 have hsz : (Tryz.prog.info? 395).map (·.size) = some r.length := by rw [hk.1]; kernel_rfl
 have HK := Hid.hide hk
 obtain ⟨C, hC⟩ : ∃ C, cntN ks 16 = C := ⟨_, rfl⟩
 obtain ⟨M, hM⟩ : ∃ M, lastN ks 16 = M := ⟨_, rfl⟩
 obtain ⟨bd, hbd⟩ : ∃ bd, decide (C = 1) = bd := ⟨_, rfl⟩
 have HC : Hid (cntN ks 16 = C ∧ lastN ks 16 = M ∧ M < 16 ∧ decide (C = 1) = bd) := ⟨hC, hM, by rw [← hM]; exact lastN_lt ks 16 (by omega), hbd⟩
 rw [hC, hM, hbd]
 clear hk hC hM hbd
 go_enter Tryz.func335, Tryz.ntmps335
 go_wp2_with (refine wpList_load_mid rfl 395 _ rfl b 1 rfl r _ rg Tryz.underlying395 rfl hsz ?_)
 go_loopg [4, 5, 12] 16 (fun gh c m i wr => ∃ k, k ≤ 16 ∧ gh = 16 - k ∧ i = .int .i64 (k : Int) ∧ c = .int .i64 (cntN ks k : Nat) ∧ m = .int .i64 (lastN ks k : Nat) ∧ wr = w)
 case atStart => exact ⟨0, Nat.zero_le _, rfl, rfl, rfl, rfl, rfl⟩
 case round =>
  obtain ⟨k, hk, rfl, rfl, rfl, rfl, rfl⟩ := hrel
  by_cases hlt : k < 16
  ·have hki : (k : Int) < 16 := by omega
   have hkr : k < r.length := by have := HK.out.1; omega
   have hkk : k < ks.length := by have := HK.out.2.1; omega
   have hv := HK.out.2.2 k hkr hkk
   have q0 := fun w => run_index16 r k hkr HK.out.1 w
   obtain ⟨u, hu⟩ : ∃ u, r[k] = u := ⟨_, rfl⟩
   rw [hu] at hv
   simp only [hu] at q0
   have hg : ks.getD k .no = ks[k] := by rw [List.getD_eq_getElem?_getD, List.getElem?_eq_getElem hkk]; rfl
   have hc1 := cntN_le ks k
   have hm1 := lastN_le ks k
   obtain ⟨c, hc⟩ : ∃ c, cntN ks k = c := ⟨_, rfl⟩
   obtain ⟨m, hm⟩ : ∃ m, lastN ks k = m := ⟨_, rfl⟩
   have e1 : cntN ks (k + 1) = c + (if ks[k].isNo then 0 else 1) := by rw [cntN, hg, hc]
   have e2 : lastN ks (k + 1) = if ks[k].isNo then m else k := by rw [lastN, hg, hm]
   rw [hc] at hc1 ⊢
   rw [hm] at hm1 ⊢
   rcases hv with ⟨hn, rfl⟩ | ⟨hne, d, rfl, hd⟩
   ·have HE : Hid (cntN ks (k + 1) = c ∧ lastN ks (k + 1) = m) := by rw [e1, e2, hn]; exact ⟨rfl, rfl⟩
    clear e1 e2 hc hm hg hu hn
    go_wp2
    go_roundg (16 - (k + 1))
    case measure => omega
    case rel => exact ⟨k + 1, by omega, rfl, by simp, by rw [HE.out.1], by rw [HE.out.2], rfl⟩
   ·have hno : ks[k].isNo = false := by
     cases h : ks[k].isNo with
     | false => rfl
     | true => exact absurd (Nd.isNo_iff.1 h) hne
    have HE : Hid (cntN ks (k + 1) = c + 1 ∧ lastN ks (k + 1) = k ∧ c ≤ 16) := by rw [e1, e2, hno]; exact ⟨rfl, rfl, by omega⟩
    clear e1 e2 hc hm hg hu hno hd hne
    go_wp2
    go_roundg (16 - (k + 1))
    case measure => omega
    case rel => exact ⟨k + 1, by omega, rfl, by simp, by rw [HE.out.1]; simp, by rw [HE.out.2.1], rfl⟩
  ·obtain rfl : k = 16 := by omega
   rw [HC.out.1, HC.out.2.1]
   have hM := HC.out.2.2.1
   have hwr : IntKind.u8.wrap (M : Int) = (M : Int) := wrap8 (by omega)
   have hd : ((C : Int) == 1) = bd := by
    rw [← HC.out.2.2.2]
    by_cases h1 : C = 1
    ·simp [h1]
    ·rw [decide_eq_false h1]; simp; omega
   clear hlt
   go_wp2
   go_ret2
   exact ⟨rfl, rfl⟩
end Go.Proofs.YtjiikjpnlgogfaaGreatDoor
namespace Go.Proofs.YtjiikjpnlgogfaaGreatDoor
open Go.RowKit
def brLead (ks : List Nd) : Nd := if cntN ks 16 = 1 then behindN (textB [lastN ks 16]) (ks.getD (lastN ks 16) .no) else .br ks
def Nd.lead : Nd → ByteArray → Nd → Nd
 | .br ks, q, t => brLead (ks.set ((bytesOf q)[0]!) t)
 | .ext _ _, q, t => behindN q t
 | _, _, t => t
def Nd.leads : Nd → ByteArray → Nd → Prop
 | .br ks, q, t => 0 < q.size ∧ (bytesOf q)[0]! < 16 ∧ t.ok ∧ (cntN (ks.set ((bytesOf q)[0]!) t) 16 = 1 → ((ks.set ((bytesOf q)[0]!) t).getD (lastN (ks.set ((bytesOf q)[0]!) t) 16) .no).room (textB [lastN (ks.set ((bytesOf q)[0]!) t) 16]))
 | .ext _ _, q, t => t ≠ .no ∧ t.room q
 | _, _, _ => False
def leadFn : Nd → FuncId
 | .ext _ _ => 341
 | .br _ => 331
 | _ => 0
theorem mLead (t : Nd) (ht : t.inner = true) (a : Addr) (w : World) : (Go.method 563 (ndTy t) (.pointer (some a)) "twigs/tree.leading").run Tryz.prog w = .ok (leadFn t, .pointer (some a)) w := by
 cases t with
 | ext _ _ => kernel_rfl
 | br _ => kernel_rfl
 | _ => simp [Nd.inner] at ht
theorem enLead (t : Nd) (ht : t.inner = true) (args : Array Value) (w : World) : (callFunc (leadFn t) args).run Tryz.prog w = .ok (.enter (leadFn t) args) w := by
 cases t with
 | ext _ _ => kernel_rfl
 | br _ => kernel_rfl
 | _ => simp [Nd.inner] at ht
set_option maxRecDepth 100000 in
set_option maxHeartbeats 1600000 in
theorem elead_any {B : Nat} {S : Wood} {w : World} {b : Nat} {q : ByteArray} {v : Value} {t : Nd} (hf : Forest B S w) (hv : ndV S v t) (hne : t ≠ .no) (hq : t.room q) :
  Calls Tryz.prog 341 #[.pointer (some ⟨b, 0, none⟩), .string q, v] w (Made2 B S w (behindN q t)) := by
 obtain ⟨d, rfl, hd⟩ := hv.full hne
 have HB := Hid.hide (behind_any hf hd hq)
 have hm := mBehind t hne
 have hfn := enBehind t hne
 clear hf hv hd hq
 go_enter Tryz.func341, Tryz.ntmps341
 go_wp2_with fail
 refine HB.out.mono ?_
 rintro e w1 ⟨v1, S1, rfl, hv1, hf1⟩
 have HE : Hid (ndV S1 v1 (behindN q t) ∧ Fr B S S1 w w1) := ⟨hv1, hf1⟩
 clear hv1 hf1 hm hfn
 go_wp2
 go_ret2
 exact ⟨_, _, rfl, HE.out⟩
set_option maxRecDepth 100000 in
set_option maxHeartbeats 1600000 in
theorem blead_any {B : Nat} {S : Wood} {w : World} {b : Nat} {q : ByteArray} {v : Value} {t : Nd} {ks : List Nd} (hf : Forest B S w) (hb : S b = some (.br ks)) (hv : ndV S v t) (hl : (Nd.br ks).leads q t) :
  Calls Tryz.prog 331 #[.pointer (some ⟨b, 0, none⟩), .string q, v] w (Made2 B S w ((Nd.br ks).lead q t)) := by
 obtain ⟨hq0, hq16, hto, hroom⟩ := hl
 rw [Nd.lead]
 obtain ⟨n, hn⟩ : ∃ n, (bytesOf q)[0]! = n := ⟨_, rfl⟩
 rw [hn] at hq16 hroom ⊢
 have hc : (q[0]'hq0).toNat = n := by rw [← hn]; exact byte_at q 0 hq0
 have i0 : (0 : Int) < (q.size : Int) := by omega
 have hok := hf.ok b _ hb
 rw [Nd.ok] at hok
 obtain ⟨rr, hk, rg⟩ := kids_of hf hb
 have hbo := br_ok hok.2 hok.1 n hto
 have HW := Hid.hide (with_any hf rg hk hq16 hv hbo)
 obtain ⟨ks1, hks⟩ : ∃ ks1, ks.set n t = ks1 := ⟨_, rfl⟩
 rw [hks] at hroom HW hbo ⊢
 have HO := Hid.hide hbo
 clear hf hb hv hn hok hk rg hks hbo hto hq16
 by_cases h1 : cntN ks1 16 = 1
 ·have hrm := hroom h1
  have hsome := lastN_some ks1 16 (by omega)
  rw [brLead, if_pos h1]
  have hM := lastN_lt ks1 16 (by omega)
  have hA := fun (S' : Wood) (w' : World) (b' : Nat) (r' : List Value) (h : w'.rangeAt b' 1 r') (k : Kids S' r' ks1) => alone_any h k
  rw [decide_eq_true h1] at hA
  obtain ⟨m, hm⟩ : ∃ m, lastN ks1 16 = m := ⟨_, rfl⟩
  rw [hm] at hrm hsome hM hA ⊢
  obtain ⟨x, hx⟩ : ∃ x, ks1.getD m .no = x := ⟨_, rfl⟩
  rw [hx] at hrm hsome ⊢
  obtain ⟨tm, htm⟩ : ∃ tm, textB [m] = tm := ⟨_, rfl⟩
  rw [htm] at hrm ⊢
  have HTm := Hid.hide htm
  have hxn : x ≠ .no := fun e => by rw [e] at hsome; simp [Nd.isNo] at hsome
  have hmt := mBehind x hxn
  have hfn := enBehind x hxn
  have HX : Hid (x.room tm ∧ ks1.getD m .no = x) := ⟨hrm, hx⟩
  have HA := Hid.hide hA
  have i1 : (m : Int) < 16 := by omega
  clear hroom h1 hm hrm hsome hA hx htm
  go_enter Tryz.func331, Tryz.ntmps331
  go_upto_region 4 with (first | (go_at_call 300; refine HW.out.mono ?_; rintro e w1 ⟨c, rfl, hcl, hf1⟩; obtain ⟨r1, hk1, rg1⟩ := kids_of hf1.forest (Wood.put_same S c (.br ks1)); have HF1 := Hid.hide hf1; have HA1 := Hid.hide (HA.out _ w1 c r1 rg1 hk1); have HK1 : Hid (Kids (S.put c (.br ks1)) r1 ks1 ∧ w1.rangeAt c 1 r1 ∧ c < w1.heap.size) := ⟨hk1, rg1, hf1.forest.lt (Wood.put_same S c (.br ks1))⟩; clear hcl hf1 hk1 rg1) | (go_at_call 335; refine HA1.out.mono ?_; rintro e w2 ⟨rfl, rfl⟩))
  have hmr : m < r1.length := by have := HK1.out.1.1; omega
  have hmk : m < ks1.length := by have := HK1.out.1.2.1; omega
  have hvx := HK1.out.1.2.2 m hmr hmk
  have hxe : ks1[m] = x := by rw [← HX.out.2, List.getD_eq_getElem?_getD, List.getElem?_eq_getElem hmk]; rfl
  rw [hxe] at hvx
  obtain ⟨d, hd, hdS⟩ := hvx.full hxn
  have c1 : w2.cell? ⟨c, 1 + m, none⟩ = some (.iface (ndTy x) (.pointer (some ⟨d, 0, none⟩))) := by rw [← hd]; exact HK1.out.2.1 m _ (by simp [hmr])
  have hcl := HK1.out.2.2
  have hcv : (convert 111 9 (.slice (some ⟨w2.heap.size, 0, none⟩) 1 1)).run Tryz.prog (w2.alloc (.cells #[.int .u8 (m : Int)] 5)).drew = .ok (.string tm) (w2.alloc (.cells #[.int .u8 (m : Int)] 5)).drew := by rw [← HTm.out]; exact run_own_text _ 111 9 5 Tryz.underlying111 Tryz.underlying5 Tryz.underlying9 (Own.ofCells w2 5 [m] (by unfold maxLen; simp))
  have HB : Hid (∀ o, Calls Tryz.prog (behindFn x) #[.pointer (some ⟨d, 0, none⟩), .string tm] (w2.drew.alloc o) (Made2 B (S.put c (.br ks1)) (w2.drew.alloc o) (behindN tm x))) := fun o => behind_any ((HF1.out.forest.keep (w' := w2.drew) (Nat.le_refl _) fun _ _ _ => rfl).below ((Below.refl _ _).alloc (Nat.le_refl _) o)) hdS HX.out.1
  have HFa : Hid (∀ o, Fr B S (S.put c (.br ks1)) w (w2.drew.alloc o)) := fun o => HF1.out.behind ((Below.drew (Below.refl _ _)).alloc (Nat.le_refl _) o)
  clear hmr hmk hvx hxe hd hdS HA HA1 HW
  go_region_with (refine (HB.out _).mono ?_; rintro e w3 ⟨v3, S3, rfl, hv3, hf3⟩; have HE : Hid (ndV S3 v3 (behindN tm x) ∧ Fr B S S3 w w3) := ⟨hv3, (HFa.out _).trans hf3⟩; clear hv3 hf3)
  all_goals go_wp2
  all_goals go_ret2
  all_goals refine ⟨v3, S3, rfl, ?_⟩
  all_goals exact HE.out
 ·rw [brLead, if_neg h1]
  have hA := fun (S' : Wood) (w' : World) (b' : Nat) (r' : List Value) (h : w'.rangeAt b' 1 r') (k : Kids S' r' ks1) => alone_any h k
  rw [decide_eq_false h1] at hA
  have HA := Hid.hide hA
  clear hroom h1 hA
  go_enter Tryz.func331, Tryz.ntmps331
  go_wp2_with (first | (go_at_call 300; refine HW.out.mono ?_; rintro e w1 ⟨c, rfl, hcl, hf1⟩; obtain ⟨r1, hk1, rg1⟩ := kids_of hf1.forest (Wood.put_same S c (.br ks1)); have HF1 := Hid.hide hf1; have HA1 := Hid.hide (HA.out _ w1 c r1 rg1 hk1); clear hcl hf1 hk1 rg1) | (go_at_call 335; refine HA1.out.mono ?_; rintro e w2 ⟨rfl, rfl⟩))
  go_ret2
  exact ⟨_, _, rfl, .inr ⟨by simp, c, rfl, Wood.put_same _ _ _⟩, HF1.out⟩
theorem lead_any {B : Nat} {S : Wood} {w : World} {b : Nat} {q : ByteArray} {v : Value} {t u : Nd} (hf : Forest B S w) (hb : S b = some t) (hv : ndV S v u) (hl : t.leads q u) :
  Calls Tryz.prog (leadFn t) #[.pointer (some ⟨b, 0, none⟩), .string q, v] w (Made2 B S w (t.lead q u)) := by
 cases t with
 | ext p t => exact elead_any hf hv hl.1 hl.2
 | br ks => exact blead_any hf hb hv hl
 | _ => exact hl.elim
end Go.Proofs.YtjiikjpnlgogfaaGreatDoor
namespace Go.Proofs.YtjiikjpnlgogfaaGreatDoor
open Go.RowKit
def BkSame (s : Nat) (X Y : World) : Prop := Y.heap[s]? = X.heap[s]? ∧ Y.heap[s + 1]? = X.heap[s + 1]?
theorem wp_range {P : Program} {n : Nat} {g : Operand} {ps : Array Tmp} {assign body : Code} {Q : Exit → Act → World → Prop} {a : Act} {w : World} {gf : Nat} {lb : Array Value}
  (hg : a.eval g = .func (.func gf) #[] lb) (eg : ∀ args w, (callFunc gf args).run P w = .ok (.enter gf args) w)
  (N : Nat) (encs : Nat → Array Value) (hps : ∀ k, (encs k).size = ps.size) (I : Nat → World → Prop)
  (h0 : ∀ o1 o2 : Obj, I 0 ((w.alloc o1).alloc o2)) (hp : ∀ k W o, I k W → I k (W.putObj (w.heap.size + 1) o))
  (hseq : ∀ (l : Nat) (J : Nat → World → Prop), (∀ k W, J k W → I k W) → (∀ k W, k < N → J k W → YieldAt Fence.wide (n - 1 - 1) P l (encs k) W fun e W' => e = .returned (.bool true) ∧ J (k + 1) W') → ∀ W, J 0 W → CallsIn Fence.wide (n - 1) P gf (#[.func (.yield l) #[] #[]] ++ lb) W fun e W' => (∃ v, e = .returned v) ∧ J N W')
  (hround : ∀ k W, k < N → I k W → w.heap.size + 1 < W.heap.size → assign.wpIn (Fence.wide.inRound (w.heap.size + 1)) (n - 1 - 1) P (Exit.then (fun a1 W1 => BkSame w.heap.size W W1 ∧ I k W1 ∧ ∀ o, body.wpIn (Fence.wide.inRound (w.heap.size + 1)) (n - 1 - 1) P (fun e _ W3 => e = .normal ∧ BkSame w.heap.size (W1.putObj (w.heap.size + 1) o) W3 ∧ I (k + 1) W3) a1 (W1.putObj (w.heap.size + 1) o)) (fun _ _ _ => False)) { tmps := (ps.zip (encs k)).foldl (fun t (p, v) => t.setIfInBounds p v) a.tmps, defers := [] } W)
  (hdone : ∀ W, I N W → W.heap[w.heap.size]? = some (.deferred (some [])) → Q .normal { a with defers := { target := .collected w.heap.size, args := #[] } :: a.defers } W) :
  (Code.rangeFunc g ps assign body).wpIn Fence.wide n P Q a w := by
 refine wpIn_rangeFunc fun fn hfn => ?_
 have hen := run_enterLoop_outer (P := P) (w := w) fn a.tmps ps assign body
 obtain ⟨rc, hrc⟩ : ∃ rc : Loop, { state := .ready, pending := none, fn, tmps := a.tmps, params := ps, assign, body, defers := w.heap.size } = rc := ⟨_, rfl⟩
 have hst : rc.state = .ready := by rw [← hrc]
 have hfr : rc.fn = fn ∧ rc.tmps = a.tmps ∧ rc.params = ps ∧ rc.assign = assign ∧ rc.body = body := by rw [← hrc]; exact ⟨rfl, rfl, rfl, rfl, rfl⟩
 have hpe : rc.pending = none := by rw [← hrc]
 have hback : ({ { rc with state := .busy } with state := .ready, pending := none } : Loop) = rc := by rw [← hrc]
 rw [hrc] at hen
 have hJ0 := h0 (.deferred (some [])) (.loop rc)
 have hl1 : ((w.alloc (.deferred (some []))).alloc (.loop rc)).heap[w.heap.size + 1]? = some (.loop rc) := by
  have := World.alloc_heap_new (w.alloc (.deferred (some []))) (.loop rc)
  rwa [World.size_alloc] at this
 have hd1 : ((w.alloc (.deferred (some []))).alloc (.loop rc)).heap[w.heap.size]? = some (.deferred (some [])) := (Below.heap_alloc _ _ _ (by simp)).trans (World.alloc_heap_new w _)
 clear hrc
 generalize hW1 : (w.alloc (.deferred (some []))).alloc (.loop rc) = W1 at hen hJ0 hl1 hd1
 clear hW1
 refine ⟨w.heap.size + 1, [{ target := .collected w.heap.size, args := #[] }], W1, { target := .fn (.func gf) lb, args := #[.func (.yield (w.heap.size + 1)) #[] #[]] }, W1, gf, #[.func (.yield (w.heap.size + 1)) #[] #[]] ++ lb, W1, hen, ?_, fun _ _ => trivial, ?_, fun h => by simp [Fence.wide] at h, ?_⟩
 ·simp only [resolve, hg]
  simp [go_sem]
 ·simp [invoke, eg]
 ·refine (hseq (w.heap.size + 1) (fun k W => I k W ∧ W.heap[w.heap.size + 1]? = some (.loop rc) ∧ W.heap[w.heap.size]? = some (.deferred (some []))) (fun _ _ h => h.1) ?_ _ ⟨hJ0, hl1, hd1⟩).mono ?_
  ·rintro k W hk ⟨hi, hl, hd⟩
   have hlt : w.heap.size + 1 < W.heap.size := (Array.getElem?_eq_some_iff.1 hl).1
   have hy := run_yield (P := P) (args := encs k) hl (by rw [hfr.2.2.1]; exact hps k)
   rw [hfr.1, hfr.2.1, hfr.2.2.1, hfr.2.2.2.1, hfr.2.2.2.2] at hy
   refine ⟨fn, _, assign, body, hy, roundIn_of_wpIn hfn (wpIn_mono (hround k W hk hi hlt) ?_)⟩
   rintro e a1 W1 he
   cases e with
   | normal =>
    obtain ⟨hb, hi1, hbody⟩ := he
    have hl2 := hb.2.trans hl
    have hd2 := hb.1.trans hd
    refine ⟨_, run_beginRound hl2 hst, wpIn_mono (hbody _) ?_⟩
    rintro e a3 W3 ⟨rfl, hb3, hi3⟩
    have hlt2 : w.heap.size + 1 < W1.heap.size := (Array.getElem?_eq_some_iff.1 hl2).1
    have hl3 : W3.heap[w.heap.size + 1]? = some (.loop { rc with state := .busy }) := hb3.2.trans (World.putObj_heap_same hlt2)
    have hd3 : W3.heap[w.heap.size]? = some (.deferred (some [])) := hb3.1.trans ((World.putObj_heap_other (by omega)).trans hd2)
    refine ⟨_, _, run_endRound none hl3, rfl, hp _ _ _ hi3, ?_, (World.putObj_heap_other (by omega)).trans hd3⟩
    rw [World.putObj_heap_same (Array.getElem?_eq_some_iff.1 hl3).1]
    exact congrArg (fun x => some (Obj.loop x)) hback
   | _ => exact he.elim
  ·rintro e W ⟨⟨v, rfl⟩, hi, hl, hd⟩
   refine ⟨none, _, by rw [← hpe]; exact run_endLoop hl (by rw [hst]; simp), ?_⟩
   exact hdone _ (hp _ _ _ hi) ((World.putObj_heap_other (by omega)).trans hd)
end Go.Proofs.YtjiikjpnlgogfaaGreatDoor
namespace Go.Proofs.YtjiikjpnlgogfaaGreatDoor
open Go.RowKit Go.Shelf
attribute [local go_sem] Oper.semAt_some
def backAt (N : Nat) (cs : List Value) (k : Nat) : Array Value := #[.int .i64 ((N - 1 - k : Nat) : Int), .agg #[cs.getD ((N - 1 - k) * 2) undef, cs.getD ((N - 1 - k) * 2 + 1) undef]]
set_option maxRecDepth 100000 in
set_option maxHeartbeats 1600000 in
theorem back_any {n : Nat} (l bs N : Nat) (thr : Value) (cs : List Value) (J : Nat → World → Prop) (hN : N ≤ 1000)
  (hJ : ∀ k W, J k W → W.cell? ⟨bs, 0, none⟩ = some thr ∧ ((thr = .slice none 0 0 ∧ N = 0) ∨ ∃ g cap, thr = .slice (some ⟨g, 0, none⟩) N cap ∧ ∀ j, j < N → W.cell? ⟨g, j * 2, none⟩ = some (cs.getD (j * 2) undef) ∧ W.cell? ⟨g, j * 2 + 1, none⟩ = some (cs.getD (j * 2 + 1) undef)))
  (hY : ∀ k W, k < N → J k W → YieldAt Fence.wide (n - 1) Tryz.prog l (backAt N cs k) W fun e W' => e = .returned (.bool true) ∧ J (k + 1) W') (W : World) (h0 : J 0 W) :
  CallsIn Fence.wide n Tryz.prog 223 #[.func (.yield l) #[] #[], .pointer (some ⟨bs, 0, none⟩)] W fun e W' => (∃ v, e = .returned v) ∧ J N W' := by
 obtain ⟨hc, ht⟩ := hJ 0 W h0
 obtain ⟨p, cap, hthr⟩ : ∃ p cap, thr = .slice p N cap := by
  rcases ht with ⟨rfl, rfl⟩ | ⟨g, cap, rfl, _⟩
  ·exact ⟨none, 0, rfl⟩
  ·exact ⟨_, cap, rfl⟩
 rw [hthr] at hc
 have HJ := Hid.hide hJ
 have HY := Hid.hide hY
 have H0 := Hid.hide h0
 have HN := Hid.hide hN
 have k0 : IntKind.i64.wrap ((N : Int) - 1) = (N : Int) - 1 := wrap_fits _ (by omega) (by omega)
 clear hJ hY h0 ht hN
 refine callsIn_of_wp Tryz.func223 rfl trivial ?_ rfl
 simp only [Tryz.ntmps223, List.size_toArray, List.length_cons, List.length_nil, Nat.reduceAdd, Nat.reduceSub, Array.replicate_succ, Array.replicate_zero, List.push_toArray, List.append_toArray, List.nil_append, List.cons_append]
 gi_wp2
 gi_loopw [3] (fun i wr => ∃ k, k ≤ N ∧ i = .int .i64 ((N : Int) - 1 - (k : Int)) ∧ J k wr) (fun i _ => match i with | .int _ x => (x + 1).toNat | _ => 0)
 case atStart => exact ⟨0, Nat.zero_le _, by simp, H0.out⟩
 case round =>
  obtain ⟨k, hk, rfl, hJk⟩ := hrel
  by_cases hlt : k < N
  ·obtain ⟨j, hj⟩ : ∃ j, N - 1 - k = j := ⟨_, rfl⟩
   have hjN : j < N := by omega
   have e0 : (N : Int) - 1 - (k : Int) = (j : Int) := by omega
   obtain ⟨hc1, ht1⟩ := HJ.out k wr hJk
   rw [hthr] at hc1
   obtain ⟨g, cap', hg, hcells⟩ : ∃ g cap', thr = .slice (some ⟨g, 0, none⟩) N cap' ∧ ∀ j, j < N → wr.cell? ⟨g, j * 2, none⟩ = some (cs.getD (j * 2) undef) ∧ wr.cell? ⟨g, j * 2 + 1, none⟩ = some (cs.getD (j * 2 + 1) undef) := by
    rcases ht1 with ⟨_, h⟩ | h
    ·omega
    ·exact h
   rw [hthr] at hg
   obtain ⟨rfl, rfl⟩ : p = some ⟨g, 0, none⟩ ∧ cap = cap' := by
    simp only [Value.slice.injEq] at hg
    exact ⟨hg.1, hg.2.2⟩
   obtain ⟨d0, d1⟩ := hcells j hjN
   obtain ⟨fn, tmps, assign, body, hy, hR⟩ := HY.out k wr hlt hJk
   unfold backAt at hy
   rw [hj] at hy
   obtain ⟨u0, hu0⟩ : ∃ u, cs.getD (j * 2) undef = u := ⟨_, rfl⟩
   obtain ⟨u1, hu1⟩ : ∃ u, cs.getD (j * 2 + 1) undef = u := ⟨_, rfl⟩
   rw [hu0, hu1] at hy
   rw [hu0] at d0
   rw [hu1] at d1
   rw [e0]
   have i1 : (j : Int) < (N : Int) := by omega
   have i0 : (0 : Int) ≤ (j : Int) := by omega
   have k1 : IntKind.i64.wrap ((j : Int) - 1) = (j : Int) - 1 := wrap_fits _ (by have := HN.out; omega) (by have := HN.out; omega)
   have HE : Hid ((N : Int) - 1 - ((k + 1 : Nat) : Int) = (j : Int) - 1 ∧ k < N) := ⟨by omega, hlt⟩
   clear hc hcells ht1 hg hthr hu0 hu1 hJk e0 hj
   gi_wp2
   refine ⟨fun h => by simp [Fence.wide] at h, hR.mono ?_⟩
   rintro e W3 ⟨rfl, hj3⟩
   have HJ3 := Hid.hide hj3
   clear hj3 hR hy
   gi_wp2
   refine ⟨⟨k + 1, HE.out.2, by rw [HE.out.1], HJ3.out⟩, ?_⟩
   show ((j : Int) - 1 + 1).toNat < ((j : Int) + 1).toNat
   omega
  ·obtain rfl : k = N := by omega
   have e0 : (k : Int) - 1 - (k : Int) = -1 := by omega
   rw [e0]
   have HE := Hid.hide hJk
   clear hJk
   gi_wp2
   go_end0
   exact ⟨⟨_, rfl⟩, HE.out⟩
set_option maxRecDepth 100000 in
set_option maxHeartbeats 1600000 in
theorem backward_any (p : Option Addr) (m c : Nat) (w : World) : Calls Tryz.prog 201 #[.slice p m c] w fun e w' => e = .returned (.func (.func 223) #[] #[.pointer (some ⟨w.heap.size, 0, none⟩)]) ∧ w' = w.alloc (.cells #[.slice p m c] 163) := by
 go_enter Tryz.func201, Tryz.ntmps201
 go_wp2
 go_ret
 exact ⟨rfl, rfl⟩
end Go.Proofs.YtjiikjpnlgogfaaGreatDoor
namespace Go.Proofs.YtjiikjpnlgogfaaGreatDoor
open Go.RowKit Go.Shelf
attribute [local go_sem] Oper.semAt_some
def endN : List (Nd × ByteArray) → Nd → Nd
 | [], t => t
 | x :: l, t => x.1.lead x.2 (endN l t)
def endOK : List (Nd × ByteArray) → Nd → Prop
 | [], _ => True
 | x :: l, t => x.1.leads x.2 (endN l t) ∧ endOK l t
theorem endN_drop (l : List (Nd × ByteArray)) (t : Nd) {j : Nat} (h : j < l.length) : endN (l.drop j) t = l[j].1.lead l[j].2 (endN (l.drop (j + 1)) t) := by
 rw [List.drop_eq_getElem_cons h, endN]
theorem endOK_drop {t : Nd} : ∀ {l : List (Nd × ByteArray)}, endOK l t → ∀ j (h : j < l.length), l[j].1.leads l[j].2 (endN (l.drop (j + 1)) t)
 | [], _, j, h => by simp at h
 | x :: l, hx, 0, _ => hx.1
 | x :: l, hx, j + 1, h => endOK_drop hx.2 j (by simpa using h)
theorem Turns.at {S : Wood} : ∀ {l : List (Nd × ByteArray)} {cs : List Value}, Turns S l cs → ∀ j (h : j < l.length), cs.getD (j * 2 + 1) undef = .string l[j].2 ∧ ndV S (cs.getD (j * 2) undef) l[j].1
 | [], _, _, j, h => by simp at h
 | x :: l, cs, ht, 0, _ => by
  obtain ⟨v, cs', rfl, h1, _⟩ := ht
  exact ⟨rfl, h1⟩
 | x :: l, cs, ht, j + 1, h => by
  obtain ⟨v, cs', rfl, _, h2⟩ := ht
  have := h2.at j (by simpa using h)
  rw [show (j + 1) * 2 = j * 2 + 1 + 1 by omega]
  exact this
theorem Fr.setCell {B : Nat} {S S' : Wood} {w w1 : World} (h : Fr B S S' w w1) (a : Addr) (v : Value) (hb : w.heap.size ≤ a.block) (hn : S' a.block = none) : Fr B S S' w (w1.setCell a v) :=
 h.grow (o := some a.block) ⟨rfl, rfl, rfl, by simp, fun k _ hne => Below.heap_setCell _ _ _ _ fun e => hne (by rw [e])⟩ fun k hk => by cases hk; exact ⟨hb, hn⟩
theorem Fr.putObj {B : Nat} {S S' : Wood} {w w1 : World} (h : Fr B S S' w w1) (j : Nat) (o : Obj) (hb : w.heap.size ≤ j) (hn : S' j = none) : Fr B S S' w (w1.putObj j o) :=
 h.grow (grownBy_putObj' w1 j o) fun k hk => by cases hk; exact ⟨hb, hn⟩
def EndI (B : Nat) (S : Wood) (w : World) (l : List (Nd × ByteArray)) (t : Nd) (thr : Value) (k : Nat) (W : World) : Prop :=
 ∃ S' u, Fr B S S' w W ∧ ndV S' u (endN (l.drop (l.length - k)) t) ∧ (∀ j, w.heap.size ≤ j → j < w.heap.size + 7 → S' j = none) ∧ w.heap.size + 6 < W.heap.size ∧
  W.heap[w.heap.size + 1]? = some (.cells #[u] 106 (0, 0)) ∧ W.heap[w.heap.size + 2]? = some (.cells #[.nilIface] 106 (0, 0)) ∧ W.heap[w.heap.size + 3]? = some (.cells #[.nilIface] 114 (0, 0)) ∧ W.heap[w.heap.size + 4]? = some (.cells #[thr] 163 (0, 0))
theorem EndI.put {B : Nat} {S : Wood} {w : World} {l : List (Nd × ByteArray)} {t : Nd} {thr : Value} {k : Nat} {W : World} (h : EndI B S w l t thr k W) (j : Nat) (hj : j = w.heap.size + 6) (o : Obj) : EndI B S w l t thr k (W.putObj j o) := by
 obtain ⟨S', u, h1, h2, h3, h4, h5, h6, h7, h8⟩ := h
 subst hj
 exact ⟨S', u, h1.putObj _ o (by omega) (h3 _ (by omega) (by omega)), h2, h3, by simpa using h4, (World.putObj_heap_other (by omega)).trans h5, (World.putObj_heap_other (by omega)).trans h6, (World.putObj_heap_other (by omega)).trans h7, (World.putObj_heap_other (by omega)).trans h8⟩
theorem EndI.alloc {B : Nat} {S : Wood} {w : World} {l : List (Nd × ByteArray)} {t : Nd} {thr : Value} {k : Nat} {W : World} (h : EndI B S w l t thr k W) (o : Obj) : EndI B S w l t thr k (W.alloc o) := by
 obtain ⟨S', u, h1, h2, h3, h4, h5, h6, h7, h8⟩ := h
 exact ⟨S', u, h1.behind ((Below.refl _ _).alloc (Nat.le_refl _) _), h2, h3, by simp; omega, (Below.heap_alloc _ _ _ (by omega)).trans h5, (Below.heap_alloc _ _ _ (by omega)).trans h6, (Below.heap_alloc _ _ _ (by omega)).trans h7, (Below.heap_alloc _ _ _ (by omega)).trans h8⟩
theorem EndI.start {B : Nat} {S : Wood} {w wL : World} {l : List (Nd × ByteArray)} {t : Nd} {thr u : Value} (hf : Forest B S w) (hu : ndV S u t) (hb : Below w.heap.size w wL) (hs : wL.heap.size = w.heap.size + 5) (h1 : wL.heap[w.heap.size + 1]? = some (.cells #[u] 106 (0, 0))) (h2 : wL.heap[w.heap.size + 2]? = some (.cells #[.nilIface] 106 (0, 0))) (h3 : wL.heap[w.heap.size + 3]? = some (.cells #[.nilIface] 114 (0, 0))) (h4 : wL.heap[w.heap.size + 4]? = some (.cells #[thr] 163 (0, 0))) (o1 o2 : Obj) : EndI B S w l t thr 0 ((wL.alloc o1).alloc o2) := by
 have hk : ∀ k, k < w.heap.size + 5 → ((wL.alloc o1).alloc o2).heap[k]? = wL.heap[k]? := fun k h => (Below.heap_alloc _ _ _ (by simp; omega)).trans (Below.heap_alloc _ _ _ (by omega))
 refine ⟨S, u, Fr.of_below hf ((hb.alloc hb.size _).alloc (Nat.le_trans hb.size (by simp)) _), ?_, fun j h _ => hf.fresh h, by simp; omega, (hk _ (by omega)).trans h1, (hk _ (by omega)).trans h2, (hk _ (by omega)).trans h3, (hk _ (by omega)).trans h4⟩
 rw [Nat.sub_zero, List.drop_of_length_le (Nat.le_refl _)]
 exact hu
end Go.Proofs.YtjiikjpnlgogfaaGreatDoor
namespace Go.Proofs.YtjiikjpnlgogfaaGreatDoor
open Go.RowKit Go.Shelf
attribute [local go_sem] Oper.semAt_some
theorem calls_in {n : Nat} {l : Nat} {f : FuncId} {args : Array Value} {w : World} {R : Ending → World → Prop} (h : Calls Tryz.prog f args w R) : CallsIn (Fence.wide.inRound l) n Tryz.prog f args w R := CallsIn.inRound l (callsIn_wide.2 h)
theorem heap_cell1 {w : World} {b : Nat} {v : Value} {t : TypeId} (h : w.heap[b]? = some (.cells #[v] t (0, 0))) : w.cell? ⟨b, 0, none⟩ = some v ∧ w.frozen? ⟨b, 0, none⟩ = false := by
 exact ⟨by simp [World.cell?, h], by simp [World.frozen?, h]⟩
theorem leads_inner {t u : Nd} {q : ByteArray} (h : t.leads q u) : t.inner = true := by
 cases t with
 | ext _ _ => rfl
 | br _ => rfl
 | _ => exact h.elim
theorem inner_no {t : Nd} (h : t.inner = true) : t ≠ .no := fun e => by rw [e] at h; simp [Nd.inner] at h
theorem end_row {w W : World} {C : Nat} {thr : Value} {N : Nat} {cs : List Value} (h : OwnC w C 2 thr N cs) (hk : ∀ g, thr.ownBlock = some g → W.heap[g]? = w.heap[g]?) : (thr = .slice none 0 0 ∧ N = 0) ∨ ∃ g cap, thr = .slice (some ⟨g, 0, none⟩) N cap ∧ ∀ j, j < N → W.cell? ⟨g, j * 2, none⟩ = some (cs.getD (j * 2) undef) ∧ W.cell? ⟨g, j * 2 + 1, none⟩ = some (cs.getD (j * 2 + 1) undef) := by
 rcases h.2 with h0 | ⟨g, cap, rfl, h1, h2, h3, h4, h5, h6⟩
 ·exact .inl h0
 ·refine .inr ⟨g, cap, rfl, fun j hj => ?_⟩
  have hl := h.1
  have hb := hk g rfl
  have hg : ∀ i, i < cs.length → W.cell? ⟨g, i, none⟩ = some (cs.getD i undef) := fun i hi => by
   have := h6 i cs[i] (by simp [hi])
   rw [Nat.zero_add] at this
   rw [World.cell?_of_block hb, this, List.getD_eq_getElem?_getD, List.getElem?_eq_getElem hi]
   rfl
  exact ⟨hg _ (by omega), hg _ (by omega)⟩
theorem EndI.next {B : Nat} {S S' S2 : Wood} {w W1 W2 : World} {l : List (Nd × ByteArray)} {t : Nd} {thr u v2 : Value} {k : Nat} (h1 : Fr B S S' w W1) (h3 : ∀ j, w.heap.size ≤ j → j < w.heap.size + 7 → S' j = none) (h4 : w.heap.size + 6 < W1.heap.size) (h5 : W1.heap[w.heap.size + 1]? = some (.cells #[u] 106 (0, 0))) (h6 : W1.heap[w.heap.size + 2]? = some (.cells #[.nilIface] 106 (0, 0))) (h7 : W1.heap[w.heap.size + 3]? = some (.cells #[.nilIface] 114 (0, 0))) (h8 : W1.heap[w.heap.size + 4]? = some (.cells #[thr] 163 (0, 0)))
  (hf : Fr B S' S2 W1 W2) (hv : ndV S2 v2 (endN (l.drop (l.length - (k + 1))) t)) : BkSame (w.heap.size + 5) W1 (W2.setCell ⟨w.heap.size + 1, 0, none⟩ v2) ∧ EndI B S w l t thr (k + 1) (W2.setCell ⟨w.heap.size + 1, 0, none⟩ v2) := by
 have ho : ∀ j, w.heap.size ≤ j → j < w.heap.size + 7 → j ≠ w.heap.size + 1 → (W2.setCell ⟨w.heap.size + 1, 0, none⟩ v2).heap[j]? = W1.heap[j]? := fun j a b c => (Below.heap_setCell _ _ _ _ c).trans (hf.other j (by omega) (h3 j a b))
 have hn : ∀ j, w.heap.size ≤ j → j < w.heap.size + 7 → S2 j = none := fun j a b => hf.new j (by omega) (h3 j a b)
 have hs := hf.size
 have h9 : W2.heap[w.heap.size + 1]? = some (.cells [u].toArray 106 (0, 0)) := (hf.other _ (by omega) (h3 _ (by omega) (by omega))).trans h5
 exact ⟨⟨ho _ (by omega) (by omega) (by omega), ho _ (by omega) (by omega) (by omega)⟩, S2, v2, (h1.trans hf).setCell _ _ (by simp) (hn _ (by simp) (by simp)), hv, hn, by simp; omega, heap_setCell_list h9 0 v2, (ho _ (by omega) (by omega) (by omega)).trans h6, (ho _ (by omega) (by omega) (by omega)).trans h7, (ho _ (by omega) (by omega) (by omega)).trans h8⟩
theorem load_node {w : World} {b : Nat} {v : Value} (h : w.cell? ⟨b, 0, none⟩ = some v) : (loadVar 106 ⟨b, 0, none⟩).run Tryz.prog w = .ok v w := by simp [go_sem, h]
theorem load_error {w : World} {b : Nat} {v : Value} (h : w.cell? ⟨b, 0, none⟩ = some v) : (loadVar 114 ⟨b, 0, none⟩).run Tryz.prog w = .ok v w := by simp [go_sem, h]
theorem results_two {fn : Func} {p q : Tmp} {t1 t2 : TypeId} (h : fn.results = #[.cell p t1, .cell q t2]) (tmps : Array Value) (P : Program) (w : World) (b c : Nat) (hp : tmps.getD p undef = .pointer (some ⟨b, 0, none⟩)) (hq : tmps.getD q undef = .pointer (some ⟨c, 0, none⟩)) {v u : Value} (hv : (loadVar t1 ⟨b, 0, none⟩).run P w = .ok v w) (hu : (loadVar t2 ⟨c, 0, none⟩).run P w = .ok u w) :
  (results fn tmps).run P w = .ok (.tuple #[v, u]) w := by
 simp only [results, h, Array.mapM_eq_mapM_toList, List.mapM_cons, List.mapM_nil, Sem.run_bind, Result.andThen, hp, hq]
 simp [Sem.run_bind, Result.andThen, asAddr, hv, hu]
theorem end_leave {B : Nat} {S S' : Wood} {w W : World} {u : Value} {t : Nd} {D : Nat} {tmps : Array Value} (h : Fr B S S' w W ∧ ndV S' u t ∧ (∀ j, w.heap.size ≤ j → j < w.heap.size + 7 → S' j = none) ∧ w.heap.size + 6 < W.heap.size ∧ W.heap[w.heap.size + 5]? = some (.deferred (some [])) ∧ W.heap[w.heap.size + 2]? = some (.cells #[.nilIface] 106 (0, 0)) ∧ W.heap[w.heap.size + 3]? = some (.cells #[.nilIface] 114 (0, 0))) (hD : D = w.heap.size + 5) (h4 : tmps.getD 4 undef = .pointer (some ⟨w.heap.size + 1 + 1, 0, none⟩)) (h5 : tmps.getD 5 undef = .pointer (some ⟨w.heap.size + 1 + 1 + 1, 0, none⟩)) :
  bodyPostM Fence.wide 3 Tryz.prog Tryz.f147 (Made2 B S w t) .ret { tmps := tmps, defers := [{ target := .collected D, args := #[] }] } ((W.setCell ⟨w.heap.size + 1 + 1, 0, none⟩ u).setCell ⟨w.heap.size + 1 + 1 + 1, 0, none⟩ .nilIface) := by
 obtain ⟨h1, h2, h3, hs, hd, q2, q3⟩ := h
 subst hD
 have e2 : ((W.setCell ⟨w.heap.size + 1 + 1, 0, none⟩ u).setCell ⟨w.heap.size + 1 + 1 + 1, 0, none⟩ .nilIface).heap[w.heap.size + 2]? = some (.cells #[u] 106 (0, 0)) := (Below.heap_setCell _ _ _ _ (by simp)).trans (heap_setCell_list (cs := [.nilIface]) q2 0 u)
 have e3 : ((W.setCell ⟨w.heap.size + 1 + 1, 0, none⟩ u).setCell ⟨w.heap.size + 1 + 1 + 1, 0, none⟩ .nilIface).heap[w.heap.size + 3]? = some (.cells #[.nilIface] 114 (0, 0)) := heap_setCell_list (cs := [.nilIface]) ((Below.heap_setCell _ _ _ _ (by simp)).trans q3) 0 .nilIface
 have e5 : ((W.setCell ⟨w.heap.size + 1 + 1, 0, none⟩ u).setCell ⟨w.heap.size + 1 + 1 + 1, 0, none⟩ .nilIface).heap[w.heap.size + 5]? = some (.deferred (some [])) := (Below.heap_setCell _ _ _ _ (by simp)).trans ((Below.heap_setCell _ _ _ _ (by simp)).trans hd)
 have hF : Fr B S S' w ((W.setCell ⟨w.heap.size + 1 + 1, 0, none⟩ u).setCell ⟨w.heap.size + 1 + 1 + 1, 0, none⟩ .nilIface) := (h1.setCell _ _ (by simp; omega) (h3 _ (by simp; omega) (by simp))).setCell _ _ (by simp; omega) (h3 _ (by simp; omega) (by simp))
 generalize (W.setCell ⟨w.heap.size + 1 + 1, 0, none⟩ u).setCell ⟨w.heap.size + 1 + 1 + 1, 0, none⟩ .nilIface = W2 at e2 e3 e5 hF ⊢
 refine ⟨by simp, .inl ⟨_, _, rfl, run_takeDeferred e5, ?_⟩⟩
 refine ⟨_, results_two Tryz.results147 tmps _ _ (w.heap.size + 2) (w.heap.size + 3) h4 h5 (load_node (heap_cell1 ((World.putObj_heap_other (by omega)).trans e2)).1) (load_error (heap_cell1 ((World.putObj_heap_other (by omega)).trans e3)).1), ?_⟩
 exact ⟨u, S', rfl, h2, hF.putObj _ _ (by omega) (h3 _ (by omega) (by omega))⟩
theorem five {w wL : World} {o0 o1 o2 o3 o4 : Obj} (h : ((((w.alloc o0).alloc o1).alloc o2).alloc o3).alloc o4 = wL) : wL.heap.size = w.heap.size + 5 ∧ Below w.heap.size w wL ∧ wL.heap[w.heap.size + 1]? = some o1 ∧ wL.heap[w.heap.size + 2]? = some o2 ∧ wL.heap[w.heap.size + 3]? = some o3 ∧ wL.heap[w.heap.size + 4]? = some o4 := by
 subst h
 refine ⟨by simp, (((((Below.refl _ _).alloc (Nat.le_refl _) _).alloc (by simp) _).alloc (by simp; omega) _).alloc (by simp; omega) _).alloc (by simp; omega) _, ?_, ?_, ?_, ?_⟩
 ·refine (Below.heap_alloc _ _ _ (by simp)).trans ((Below.heap_alloc _ _ _ (by simp)).trans ((Below.heap_alloc _ _ _ (by simp)).trans ?_))
  have := World.alloc_heap_new (w.alloc o0) o1
  rwa [World.size_alloc] at this
 ·refine (Below.heap_alloc _ _ _ (by simp)).trans ((Below.heap_alloc _ _ _ (by simp)).trans ?_)
  have := World.alloc_heap_new ((w.alloc o0).alloc o1) o2
  rwa [World.size_alloc, World.size_alloc] at this
 ·refine (Below.heap_alloc _ _ _ (by simp)).trans ?_
  have := World.alloc_heap_new (((w.alloc o0).alloc o1).alloc o2) o3
  rwa [World.size_alloc, World.size_alloc, World.size_alloc] at this
 ·have := World.alloc_heap_new ((((w.alloc o0).alloc o1).alloc o2).alloc o3) o4
  rwa [World.size_alloc, World.size_alloc, World.size_alloc, World.size_alloc] at this
set_option maxRecDepth 100000 in
set_option maxHeartbeats 1600000 in
theorem ending_any {B : Nat} {S : Wood} {C : Nat} {w : World} {l : List (Nd × ByteArray)} {t : Nd} {r : ByteArray} {thr v u : Value} {cs : List Value} (hf : Forest B S w) (hO : OwnC w C 2 thr l.length cs) (hT : Turns S l cs) (hnone : ∀ g, thr.ownBlock = some g → S g = none) (hv : v = .nilIface ∨ ∃ T a, v = .iface T (.pointer (some a))) (hu : ndV S u t) (hl : l.length ≤ 1000) (hok : endOK l t) :
  Calls Tryz.prog 147 #[.agg #[thr, v, .string r], u] w (Made2 B S w (endN l t)) := by
 obtain ⟨pv, mv, cv, rfl⟩ := hO.shape
 have hus := hu.shape
 have HF := Hid.hide hf
 have HO := Hid.hide hO
 have HT := Hid.hide hT
 have HU := Hid.hide hu
 have HN := Hid.hide hnone
 have HK := Hid.hide hok
 have HL := Hid.hide hl
 clear hf hO hT hnone hu hok hl
 rcases hv with rfl | ⟨T, a, rfl⟩
 all_goals rcases hus with rfl | ⟨T', a', rfl⟩
 all_goals
  refine (callsIn_wide (n := 3)).1 ?_
  refine callsIn_of_wp_marks Tryz.func147 rfl trivial ?_ rfl
  simp only [Tryz.ntmps147, List.size_toArray, List.length_cons, List.length_nil, Nat.reduceAdd, Nat.reduceSub, Array.replicate_succ, Array.replicate_zero, List.push_toArray, List.append_toArray, List.nil_append, List.cons_append]
  gi_wp2_with (refine ⟨trivial, ?_⟩; gi_at_call 201; refine (callsIn_wide.2 (backward_any _ _ _ _)).mono ?_; rintro x w1 ⟨rfl, rfl⟩)
  generalize hwL : World.alloc (World.alloc (World.alloc (World.alloc (World.alloc w _) _) _) _) _ = wL
  obtain ⟨hs, hbL, q1, q2, q3, q4⟩ := five hwL
  have hI0 := fun o1 o2 => EndI.start (l := l) HF.out HU.out hbL hs q1 q2 q3 q4 o1 o2
  clear hwL hbL q1 q2 q3 q4
  refine wp_range (gf := 223) (lb := #[.pointer (some ⟨w.heap.size + 4, 0, none⟩)]) rfl (enters_of Tryz.func223 (by kernel_rfl) rfl) l.length (backAt l.length cs) (fun _ => rfl) (EndI B S w l t (.slice pv mv cv)) hI0 (fun k W o h => h.put _ (by omega) o) ?seq ?round ?done
  case seq =>
   intro l1 J hJ hY W0 hJ0
   refine back_any l1 (w.heap.size + 4) l.length (.slice pv mv cv) cs J HL.out (fun k W hk => ?_) hY W0 hJ0
   obtain ⟨S', u, h1, h2, h3, h4, h5, h6, h7, h8⟩ := hJ k W hk
   exact ⟨(heap_cell1 h8).1, end_row HO.out (fun g hg => h1.other g (HO.out.block g hg).2 (HN.out g hg))⟩
  case round =>
   intro k W hk hI hlt
   obtain ⟨j, hj⟩ : ∃ j, l.length - 1 - k = j := ⟨_, rfl⟩
   have hjl : j < l.length := by omega
   obtain ⟨ha1, ha2⟩ := HT.out.at j hjl
   unfold backAt
   rw [hj]
   rw [ha1]
   have hlead := endOK_drop HK.out j hjl
   have hend := endN_drop l t hjl
   have e1 : l.length - k = j + 1 := by omega
   have e2 : l.length - (k + 1) = j := by omega
   obtain ⟨x, hx⟩ : ∃ x, l[j] = x := ⟨_, rfl⟩
   rw [hx] at ha2 hlead hend ⊢
   have hin : x.1.inner = true := leads_inner hlead
   obtain ⟨d, hd, hdS⟩ := ha2.full (inner_no hin)
   rw [hd]
   have hm := mLead x.1 hin
   have hfn := enLead x.1 hin
   have HI := Hid.hide hI
   have HX : Hid (x.1.leads x.2 (endN (l.drop (j + 1)) t) ∧ endN (l.drop j) t = x.1.lead x.2 (endN (l.drop (j + 1)) t) ∧ l.length - k = j + 1 ∧ l.length - (k + 1) = j ∧ S d = some x.1) := ⟨hlead, hend, e1, e2, hdS⟩
   have HS := Hid.hide hs
   clear hI hlead hend e1 e2 hdS hd ha2 ha1 hx hj hs hI0
   gi_wp2
   refine ⟨⟨Below.heap_alloc _ _ _ (by omega), Below.heap_alloc _ _ _ hlt⟩, HI.out.alloc _, fun o => ?_⟩
   obtain ⟨S', uk, h1, h2, h3, h4, h5, h6, h7, h8⟩ := (HI.out.alloc (.cells #[.iface (ndTy x.1) (.pointer (some ⟨d, 0, none⟩)), .string x.2] 256)).put (wL.heap.size + 1) (by have := HS.out; omega) o
   have t0 : ((W.alloc (.cells #[.iface (ndTy x.1) (.pointer (some ⟨d, 0, none⟩)), .string x.2] 256)).putObj (wL.heap.size + 1) o).heap[W.heap.size]? = some (.cells #[.iface (ndTy x.1) (.pointer (some ⟨d, 0, none⟩)), .string x.2] 256 (0, 0)) := (World.putObj_heap_other (by omega)).trans (World.alloc_heap_new W _)
   generalize hW1 : (W.alloc (.cells #[.iface (ndTy x.1) (.pointer (some ⟨d, 0, none⟩)), .string x.2] 256)).putObj (wL.heap.size + 1) o = W1 at h1 h2 h3 h4 h5 h6 h7 h8 t0 ⊢
   rw [HX.out.2.2.1] at h2
   have c0 : W1.cell? ⟨W.heap.size, 0, none⟩ = some (.iface (ndTy x.1) (.pointer (some ⟨d, 0, none⟩))) := by simp [World.cell?, t0]
   have c1 : W1.cell? ⟨W.heap.size, 1, none⟩ = some (.string x.2) := by simp [World.cell?, t0]
   obtain ⟨c2, -⟩ := heap_cell1 h5
   have hsh := h2.shape
   have HLd := Hid.hide (lead_any (w := W1) h1.forest (h1.sub d _ HX.out.2.2.2.2) h2 HX.out.1)
   have HE : Hid (∀ W2 S2 v2, Fr B S' S2 W1 W2 → ndV S2 v2 (x.1.lead x.2 (endN (l.drop (j + 1)) t)) → (W2.cell? ⟨w.heap.size + 1, 0, none⟩ = some uk ∧ W2.frozen? ⟨w.heap.size + 1, 0, none⟩ = false) ∧ BkSame wL.heap.size W1 (W2.setCell ⟨w.heap.size + 1, 0, none⟩ v2) ∧ EndI B S w l t (.slice pv mv cv) (k + 1) (W2.setCell ⟨w.heap.size + 1, 0, none⟩ v2)) := fun W2 S2 v2 hf2 hv2 => by
    rw [HS.out]
    refine ⟨heap_cell1 ((hf2.other _ (by omega) (h3 _ (by omega) (by omega))).trans h5), EndI.next h1 h3 h4 h5 h6 h7 h8 hf2 ?_⟩
    rw [HX.out.2.2.2.1, HX.out.2.1]
    exact hv2
   clear h1 h2 h3 h4 h5 h6 h7 h8 t0 hW1
   rcases hsh with rfl | ⟨T2, a2, rfl⟩
   all_goals
    gi_wp2
    refine ⟨trivial, (calls_in HLd.out).mono ?_⟩
    rintro e W2 ⟨v2, S2, rfl, hv2, hf2⟩
    obtain ⟨⟨z0, z1⟩, hbk, hei⟩ := HE.out W2 S2 v2 hf2 hv2
    have HZ : Hid (BkSame wL.heap.size W1 (W2.setCell ⟨w.heap.size + 1, 0, none⟩ v2) ∧ EndI B S w l t (.slice pv mv cv) (k + 1) (W2.setCell ⟨w.heap.size + 1, 0, none⟩ v2)) := ⟨hbk, hei⟩
    have hsh2 := hv2.shape
    clear hbk hei hv2 hf2 HE HLd hm hfn c0 c1 c2
    rcases hsh2 with rfl | ⟨T3, a3, rfl⟩
    all_goals
     gi_wp2
     exact HZ.out
  case done =>
   rintro W ⟨S', u, h1, h2, h3, h4, h5, h6, h7, h8⟩ hD
   rw [Nat.sub_self, List.drop_zero] at h2
   obtain ⟨c1, f1⟩ := heap_cell1 h5
   obtain ⟨c2, f2⟩ := heap_cell1 h6
   obtain ⟨c3, f3⟩ := heap_cell1 h7
   have HE : Hid (Fr B S S' w W ∧ ndV S' u (endN l t) ∧ (∀ j, w.heap.size ≤ j → j < w.heap.size + 7 → S' j = none) ∧ w.heap.size + 6 < W.heap.size ∧ W.heap[w.heap.size + 5]? = some (.deferred (some [])) ∧ W.heap[w.heap.size + 2]? = some (.cells #[.nilIface] 106 (0, 0)) ∧ W.heap[w.heap.size + 3]? = some (.cells #[.nilIface] 114 (0, 0))) := ⟨h1, h2, h3, h4, by rw [← hs]; exact hD, h6, h7⟩
   have hsh := h2.shape
   clear h1 h2 h3 h4 h5 h6 h7 h8 hD hI0
   rcases hsh with rfl | ⟨T2, a2, rfl⟩
   all_goals
    gi_wp2
    exact end_leave HE.out hs rfl rfl
end Go.Proofs.YtjiikjpnlgogfaaGreatDoor
