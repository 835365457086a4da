/-
  Nodes with nibbles ahead (behind).
-/
import Derived.Test.YtakidhihbgfjlaaGreatDoorSxNodC
import Derived.Test.YtakidhihbgfjlaaGreatDoorSxText
import Derived.RangeFuncNested
import Derived.RangeFuncBound
import Derived.RangeFuncCalls
import Derived.RangeFuncLeaves
import Derived.Shelf.Abstract
import Derived.Shelf.RegionOpen
import Derived.OwnWalkIn
import Derived.TacticsInMore
import Derived.LoopNIn
import Derived.LoopIn
namespace Go.Proofs.YtakidhihbgfjlaaGreatDoor
open Go.RowKit
set_option maxRecDepth 100000
set_option maxHeartbeats 25600000
def behindN (q : ByteArray) : Nd -> Nd
 | .leaf p v => .leaf (q ++ p) v
 | .ext p t => .ext (q ++ p) t
 | .br ks => underN q (.br ks)
 | t => t
def behindFn : Nd -> FuncId
 | .no => 0
 | .leaf _ _ => 138
 | .ext _ _ => 179
 | .br _ => 168
 | .stub _ => 135
theorem Qu4 (t : Nd) (ht : t ≠ .no) (a : Addr) (w : World) : (Go.method 386 (ndTy t) (.pointer (some a)) "twigs/tree.behind").run Tryz.prog w = .ok (behindFn t, .pointer (some a)) w := by
 cases t with
 | no => exact absurd rfl ht
 | leaf _ _ => kernel_rfl
 | ext _ _ => kernel_rfl
 | br _ => kernel_rfl
 | stub _ => kernel_rfl
theorem Qpv (t : Nd) (ht : t ≠ .no) (args : Array Value) (w : World) : (callFunc (behindFn t) args).run Tryz.prog w = .ok (.enter (behindFn t) args) w := by
 cases t with
 | no => exact absurd rfl ht
 | leaf _ _ => kernel_rfl
 | ext _ _ => kernel_rfl
 | br _ => kernel_rfl
 | stub _ => kernel_rfl
def Made2 (B : Nat) (S : Wood) (w : World) (t : Nd) (e : Ending) (w' : World) : Prop := ∃ v S', e = .returned (.tuple #[v, .nilIface]) /\ ndV S' v t /\ Fr B S S' w w'
theorem size_append (a b : ByteArray) : (a ++ b).size = a.size + b.size := by
 rw [<- bytesOf_length, Qb1, List.length_append, bytesOf_length, bytesOf_length]
variable {B b : Nat} {S : Wood} {w : World} {p q : ByteArray}
theorem Qot {v : ByteArray} (hf : Forest B S w) (hb : S b = some (.leaf p v)) (hq : nibOK (q ++ p)) :
  Calls Tryz.prog 138 #[.pointer (some ⟨b, 0, none⟩), .string q] w (Made2 B S w (.leaf (q ++ p) v)) := by
 obtain ⟨f, g⟩ := Qcw hf hb
 have a := hf.ok b _ hb
 rw [Nd.ok] at a
 have c := hf.lt hb
 have e := fun W => run_string_add_sum (P := Tryz.prog) W q p (by have := hq.1; rw [size_append] at this; omega)
 obtain ⟨x, h⟩ : ∃ x, q ++ p = x := ⟨_, rfl⟩
 rw [h] at hq e ⊢
 have d : Forest B S w.drew := hf.keep (Nat.le_refl _) fun _ _ _ => rfl
 have j : Hid (Fr B S (S.put w.heap.size (.leaf x v)) w (w.drew.alloc (.cells #[.string ⟨#[]⟩, .string x, .string v] 169))) := (Fr.of_below hf (Below.drew (Below.refl _ _))).trans (Fr.leaf d hq a.2)
 clear hf hb a hq h d
 go_enter Tryz.func138, Tryz.ntmps138
 go_upto_region 1 with fail
 go_region_held3 (fun i => i.cell? ⟨b, 1, none⟩ = some (.string p) /\ i.cell? ⟨b, 2, none⟩ = some (.string v)) (first | exact ⟨f, g⟩ | exact ⟨(World.cell?_alloc_past _ _ _ c).trans f, (World.cell?_alloc_past _ _ _ c).trans g⟩) (fail)
 all_goals go_wp2
 all_goals go_ret2
 all_goals exact ⟨_, _, rfl, .inr ⟨by simp, w.heap.size, rfl, Wood.put_same _ _ _⟩, j.out⟩
variable {t : Nd}
theorem Qou (hf : Forest B S w) (hb : S b = some (.ext p t)) (hq : nibOK (q ++ p)) :
  Calls Tryz.prog 179 #[.pointer (some ⟨b, 0, none⟩), .string q] w (Made2 B S w (.ext (q ++ p) t)) := by
 obtain ⟨n, i, j, c⟩ := Qmx hf hb
 have a := hf.ok b _ hb
 rw [Nd.ok] at a
 obtain ⟨d, rfl, -⟩ := c.full a.2.2
 have e := hf.lt hb
 have g := fun W => run_string_add_sum (P := Tryz.prog) W q p (by have := hq.1; rw [size_append] at this; omega)
 obtain ⟨x, k⟩ : ∃ x, q ++ p = x := ⟨_, rfl⟩
 rw [k] at hq g ⊢
 have f : Forest B S w.drew := hf.keep (Nat.le_refl _) fun _ _ _ => rfl
 have m : Hid (Fr B S (S.put w.heap.size (.ext x t)) w (w.drew.alloc (.cells #[.string ⟨#[]⟩, .string x, .iface (ndTy t) (.pointer (some ⟨d, 0, none⟩))] 232))) := (Fr.of_below hf (Below.drew (Below.refl _ _))).trans (Fr.alloc f (t := .ext x t) (h := ⟨#[]⟩) (r := [.string x, .iface (ndTy t) (.pointer (some ⟨d, 0, none⟩))]) (heldOK.empty (by simp)) ⟨_, rfl, c⟩ (by rw [Nd.ok]; exact ⟨hq, a.2⟩))
 clear hf hb a hq k c f
 go_enter Tryz.func179, Tryz.ntmps179
 go_upto_region 1 with fail
 go_region_held3 (fun l => l.cell? ⟨b, 1, none⟩ = some (.string p) /\ l.cell? ⟨b, 2, none⟩ = some (.iface (ndTy t) (.pointer (some ⟨d, 0, none⟩)))) (first | exact ⟨i, j⟩ | exact ⟨(World.cell?_alloc_past _ _ _ e).trans i, (World.cell?_alloc_past _ _ _ e).trans j⟩) (fail)
 all_goals go_wp2
 all_goals go_ret2
 all_goals exact ⟨_, _, rfl, .inr ⟨by simp, w.heap.size, rfl, Wood.put_same _ _ _⟩, m.out⟩
variable {ks : List Nd}
theorem Qov (hf : Forest B S w) (hb : S b = some (.br ks)) (hq : nibOK q) :
  Calls Tryz.prog 168 #[.pointer (some ⟨b, 0, none⟩), .string q] w (Made2 B S w (underN q (.br ks))) := by
 have g := Hq (Qfa (p := q) (v := .iface 229 (.pointer (some ⟨b, 0, none⟩))) hf (.inr ⟨by simp, b, rfl, hb⟩) (by simp) hq (hf.ok b _ hb))
 clear hf hb hq
 go_enter Tryz.func168, Tryz.ntmps168
 go_wp2_with fail
 refine g.out.mono ?_
 rintro e i ⟨h, d, rfl, c, a⟩
 have f : Hid (ndV d h (underN q (.br ks)) /\ Fr B S d w i) := ⟨c, a⟩
 clear c a
 go_wp2
 go_ret2
 exact ⟨_, _, rfl, f.out⟩
def Nd.room (q : ByteArray) : Nd -> Prop
 | .leaf p _ => nibOK (q ++ p)
 | .ext p _ => nibOK (q ++ p)
 | .br _ => nibOK q
 | _ => False
theorem Qjs (hf : Forest B S w) (hb : S b = some t) (hq : t.room q) :
  Calls Tryz.prog (behindFn t) #[.pointer (some ⟨b, 0, none⟩), .string q] w (Made2 B S w (behindN q t)) := by
 cases t with
 | no => exact hq.elim
 | leaf p v => exact Qot hf hb hq
 | ext p t => exact Qou hf hb hq
 | br ks => exact Qov hf hb hq
 | stub h => exact hq.elim
def Nd.isNo : Nd -> Bool
 | .no => true
 | _ => false
theorem Nd.isNo_iff : t.isNo = true ↔ t = .no := by cases t <;> simp [Nd.isNo]
def cntN (ks : List Nd) : Nat -> Nat
 | 0 => 0
 | k + 1 => cntN ks k + (if (ks.getD k .no).isNo then 0 else 1)
def lastN (ks : List Nd) : Nat -> Nat
 | 0 => 0
 | k + 1 => if (ks.getD k .no).isNo then lastN ks k else k
theorem Qu5 (ks : List Nd) : ∀ k, cntN ks k <= k
 | 0 => Nat.le_refl _
 | k + 1 => by
  have := Qu5 ks k
  rw [cntN]
  split <;> omega
theorem Ql7 (ks : List Nd) : ∀ k, lastN ks k <= k
 | 0 => Nat.le_refl _
 | k + 1 => by
  have := Ql7 ks k
  rw [lastN]
  split <;> omega
theorem Qea (ks : List Nd) : ∀ k, 0 < k -> lastN ks k < k
 | 0, h => absurd h (Nat.lt_irrefl _)
 | k + 1, _ => by
  have := Ql7 ks k
  rw [lastN]
  split <;> omega
theorem Qg0 (ks : List Nd) : ∀ k, 0 < cntN ks k -> (ks.getD (lastN ks k) .no).isNo = false
 | 0, h => by simp [cntN] at h
 | k + 1, h => by
  rw [cntN] at h
  rw [lastN]
  by_cases hk : (ks.getD k .no).isNo = true
  ·rw [if_pos hk] at h ⊢
   exact Qg0 ks k (by omega)
  ·rw [if_neg hk]
   simpa using hk
theorem Ql8 {c : Nat} (h : c < 256) : IntKind.u8.wrap (c : Int) = (c : Int) := by
 simp only [IntKind.wrap, IntKind.bits, IntKind.signed]
 simp
 omega
theorem Qmy {r : List Value} (rg : w.rangeAt b 1 r) (hk : Kids S r ks) :
  Calls Tryz.prog 175 #[.pointer (some ⟨b, 0, none⟩)] w fun e w' => e = .returned (.tuple #[.int .u8 (lastN ks 16 : Nat), .bool (decide (cntN ks 16 = 1))]) /\ w' = w := by
 have H : (Tryz.prog.info? 233).map (·.size) = some r.length := by rw [hk.1]; kernel_rfl
 have l := Hq hk
 obtain ⟨C, z⟩ : ∃ C, cntN ks 16 = C := ⟨_, rfl⟩
 obtain ⟨M, f⟩ : ∃ M, lastN ks 16 = M := ⟨_, rfl⟩
 obtain ⟨bd, g⟩ : ∃ bd, decide (C = 1) = bd := ⟨_, rfl⟩
 have j : Hid (cntN ks 16 = C /\ lastN ks 16 = M /\ M < 16 /\ decide (C = 1) = bd) := ⟨z, f, by rw [<- f]; exact Qea ks 16 (by omega), g⟩
 rw [z, f, g]
 clear hk z f g
 go_enter Tryz.func175, Tryz.ntmps175
 go_wp2_with (refine wpList_load_mid rfl 233 _ rfl b 1 rfl r _ rg Tryz.underlying233 rfl H ?_)
 go_loopg [4, 5, 12] 16 (fun gh c m i wr => ∃ k, k <= 16 /\ gh = 16 - k /\ i = .int .i64 (k : Int) /\ c = .int .i64 (cntN ks k : Nat) /\ m = .int .i64 (lastN ks k : Nat) /\ wr = w)
 case atStart => exact ⟨0, Nat.zero_le _, rfl, rfl, rfl, rfl, rfl⟩
 case round =>
  obtain ⟨k, hk, rfl, rfl, rfl, rfl, rfl⟩ := hrel
  by_cases F : k < 16
  ·have K : (k : Int) < 16 := by omega
   have x : k < r.length := by have := l.out.1; omega
   have v : k < ks.length := by have := l.out.2.1; omega
   have I := l.out.2.2 k x v
   have J := fun w => Qde r k x l.out.1 w
   obtain ⟨u, t⟩ : ∃ u, r[k] = u := ⟨_, rfl⟩
   rw [t] at I
   simp only [t] at J
   have q : ks.getD k .no = ks[k] := by rw [List.getD_eq_getElem?_getD, List.getElem?_eq_getElem v]; rfl
   have D := Qu5 ks k
   have G := Ql7 ks k
   obtain ⟨c, p⟩ : ∃ c, cntN ks k = c := ⟨_, rfl⟩
   obtain ⟨m, s⟩ : ∃ m, lastN ks k = m := ⟨_, rfl⟩
   have n : cntN ks (k + 1) = c + (if ks[k].isNo then 0 else 1) := by rw [cntN, q, p]
   have o : lastN ks (k + 1) = if ks[k].isNo then m else k := by rw [lastN, q, s]
   rw [p] at D ⊢
   rw [s] at G ⊢
   rcases I with ⟨hn, rfl⟩ | ⟨hne, d, rfl, E⟩
   ·have a : Hid (cntN ks (k + 1) = c /\ lastN ks (k + 1) = m) := by rw [n, o, hn]; exact ⟨rfl, rfl⟩
    clear n o p s q t hn
    go_wp2
    go_roundg (16 - (k + 1))
    case measure => omega
    case rel => exact ⟨k + 1, by omega, rfl, by simp, by rw [a.out.1], by rw [a.out.2], rfl⟩
   ·have y : ks[k].isNo = false := by
     cases h : ks[k].isNo with
     | false => rfl
     | true => exact absurd (Nd.isNo_iff.1 h) hne
    have a : Hid (cntN ks (k + 1) = c + 1 /\ lastN ks (k + 1) = k /\ c <= 16) := by rw [n, o, y]; exact ⟨rfl, rfl, by omega⟩
    clear n o p s q t y E hne
    go_wp2
    go_roundg (16 - (k + 1))
    case measure => omega
    case rel => exact ⟨k + 1, by omega, rfl, by simp, by rw [a.out.1]; simp, by rw [a.out.2.1], rfl⟩
  ·obtain rfl : k = 16 := by omega
   rw [j.out.1, j.out.2.1]
   have f := j.out.2.2.1
   have L : IntKind.u8.wrap (M : Int) = (M : Int) := Ql8 (by omega)
   have E : ((C : Int) == 1) = bd := by
    rw [<- j.out.2.2.2]
    by_cases B : C = 1
    ·simp [B]
    ·rw [decide_eq_false B]; simp; omega
   clear F
   go_wp2
   go_ret2
   exact ⟨rfl, rfl⟩
def brLead (ks : List Nd) : Nd := if cntN ks 16 = 1 then behindN (textB [lastN ks 16]) (ks.getD (lastN ks 16) .no) else .br ks
def Nd.lead : Nd -> ByteArray -> Nd -> Nd
 | .br ks, q, t => brLead (ks.set ((bytesOf q)[0]!) t)
 | .ext _ _, q, t => behindN q t
 | _, _, t => t
def Nd.leads : Nd -> ByteArray -> Nd -> Prop
 | .br ks, q, t => 0 < q.size /\ (bytesOf q)[0]! < 16 /\ t.ok /\ (cntN (ks.set ((bytesOf q)[0]!) t) 16 = 1 -> ((ks.set ((bytesOf q)[0]!) t).getD (lastN (ks.set ((bytesOf q)[0]!) t) 16) .no).room (textB [lastN (ks.set ((bytesOf q)[0]!) t) 16]))
 | .ext _ _, q, t => t ≠ .no /\ t.room q
 | _, _, _ => False
def leadFn : Nd -> FuncId
 | .ext _ _ => 182
 | .br _ => 171
 | _ => 0
theorem QDn (t : Nd) (ht : t.inner = true) (a : Addr) (w : World) : (Go.method 386 (ndTy t) (.pointer (some a)) "twigs/tree.leading").run Tryz.prog w = .ok (leadFn t, .pointer (some a)) w := by
 cases t with
 | ext _ _ => kernel_rfl
 | br _ => kernel_rfl
 | _ => simp [Nd.inner] at ht
theorem QCe (t : Nd) (ht : t.inner = true) (args : Array Value) (w : World) : (callFunc (leadFn t) args).run Tryz.prog w = .ok (.enter (leadFn t) args) w := by
 cases t with
 | ext _ _ => kernel_rfl
 | br _ => kernel_rfl
 | _ => simp [Nd.inner] at ht
variable {v : Value}
theorem Qu6 (hf : Forest B S w) (hv : ndV S v t) (hne : t ≠ .no) (hq : t.room q) :
  Calls Tryz.prog 182 #[.pointer (some ⟨b, 0, none⟩), .string q, v] w (Made2 B S w (behindN q t)) := by
 obtain ⟨d, rfl, g⟩ := hv.full hne
 have i := Hq (Qjs hf g hq)
 have k := Qu4 t hne
 have h := Qpv t hne
 clear hf hv g hq
 go_enter Tryz.func182, Tryz.ntmps182
 go_wp2_with fail
 refine i.out.mono ?_
 rintro e m ⟨l, f, rfl, c, a⟩
 have j : Hid (ndV f l (behindN q t) /\ Fr B S f w m) := ⟨c, a⟩
 clear c a k h
 go_wp2
 go_ret2
 exact ⟨_, _, rfl, j.out⟩
theorem Qu7 (hf : Forest B S w) (hb : S b = some (.br ks)) (hv : ndV S v t) (hl : (Nd.br ks).leads q t) :
  Calls Tryz.prog 171 #[.pointer (some ⟨b, 0, none⟩), .string q, v] w (Made2 B S w ((Nd.br ks).lead q t)) := by
 obtain ⟨U, y, V, a⟩ := hl
 rw [Nd.lead]
 obtain ⟨n, hn⟩ : ∃ n, (bytesOf q)[0]! = n := ⟨_, rfl⟩
 rw [hn] at y a ⊢
 have hc : (q[0]'U).toNat = n := by rw [<- hn]; exact Qbo q 0 U
 have i0 : (0 : Int) < (q.size : Int) := by omega
 have F := hf.ok b _ hb
 rw [Nd.ok] at F
 obtain ⟨rr, hk, rg⟩ := Ql5 hf hb
 have D := QAc F.2 F.1 n V
 have P := Hq (Qkz hf rg hk y hv D)
 obtain ⟨ks1, T⟩ : ∃ ks1, ks.set n t = ks1 := ⟨_, rfl⟩
 rw [T] at a P D ⊢
 have HO := Hq D
 clear hf hb hv hn F hk rg T D V y
 by_cases u : cntN ks1 16 = 1
 ·have s := a u
  have f := Qg0 ks1 16 (by omega)
  rw [brLead, if_pos u]
  have hM := Qea ks1 16 (by omega)
  have r := fun (Y : Wood) (w' : World) (b' : Nat) (M : List Value) (h : w'.rangeAt b' 1 M) (k : Kids Y M ks1) => Qmy h k
  rw [decide_eq_true u] at r
  obtain ⟨m, hm⟩ : ∃ m, lastN ks1 16 = m := ⟨_, rfl⟩
  rw [hm] at s f hM r ⊢
  obtain ⟨x, hx⟩ : ∃ x, ks1.getD m .no = x := ⟨_, rfl⟩
  rw [hx] at s f ⊢
  obtain ⟨tm, J⟩ : ∃ tm, textB [m] = tm := ⟨_, rfl⟩
  rw [J] at s ⊢
  have ac := Hq J
  have L : x ≠ .no := fun e => by rw [e] at f; simp [Nd.isNo] at f
  have ah := Qu4 x L
  have ag := Qpv x L
  have HX : Hid (x.room tm /\ ks1.getD m .no = x) := ⟨s, hx⟩
  have O := Hq r
  have i1 : (m : Int) < 16 := by omega
  clear a u hm s f r hx J
  go_enter Tryz.func171, Tryz.ntmps171
  go_upto_region 4 with (first | (go_at_call 153; refine P.out.mono ?_; rintro e N ⟨c, rfl, E, g⟩; obtain ⟨G, j, l⟩ := Ql5 g.forest (Wood.put_same S c (.br ks1)); have C := Hq g; have z := Hq (O.out _ N c G l j); have p : Hid (Kids (S.put c (.br ks1)) G ks1 /\ N.rangeAt c 1 G /\ c < N.heap.size) := ⟨j, l, g.forest.lt (Wood.put_same S c (.br ks1))⟩; clear E g j l) | (go_at_call 175; refine z.out.mono ?_; rintro e i ⟨rfl, rfl⟩))
  have I : m < G.length := by have := p.out.1.1; omega
  have H : m < ks1.length := by have := p.out.1.2.1; omega
  have K := p.out.1.2.2 m I H
  have X : ks1[m] = x := by rw [<- HX.out.2, List.getD_eq_getElem?_getD, List.getElem?_eq_getElem H]; rfl
  rw [X] at K
  obtain ⟨d, hd, Q⟩ := K.full L
  have c1 : i.cell? ⟨c, 1 + m, none⟩ = some (.iface (ndTy x) (.pointer (some ⟨d, 0, none⟩))) := by rw [<- hd]; exact p.out.2.1 m _ (by simp [I])
  have E := p.out.2.2
  have ae : (convert 41 9 (.slice (some ⟨i.heap.size, 0, none⟩) 1 1)).run Tryz.prog (i.alloc (.cells #[.int .u8 (m : Int)] 5)).drew = .ok (.string tm) (i.alloc (.cells #[.int .u8 (m : Int)] 5)).drew := by rw [<- ac.out]; exact Qag _ 41 9 5 Tryz.underlying41 Tryz.underlying5 Tryz.underlying9 (Own.ofCells i 5 [m] (by unfold maxLen; simp))
  have HB : Hid (∀ o, Calls Tryz.prog (behindFn x) #[.pointer (some ⟨d, 0, none⟩), .string tm] (i.drew.alloc o) (Made2 B (S.put c (.br ks1)) (i.drew.alloc o) (behindN tm x))) := fun o => Qjs ((C.out.forest.keep (w' := i.drew) (Nat.le_refl _) fun _ _ _ => rfl).below ((Below.refl _ _).alloc (Nat.le_refl _) o)) Q HX.out.1
  have aa : Hid (∀ o, Fr B S (S.put c (.br ks1)) w (i.drew.alloc o)) := fun o => C.out.behind ((Below.drew (Below.refl _ _)).alloc (Nat.le_refl _) o)
  clear I H K X hd Q O z P
  go_region_with (refine (HB.out _).mono ?_; rintro e w3 ⟨v3, Z, rfl, W, R⟩; have HE : Hid (ndV Z v3 (behindN tm x) /\ Fr B S Z w w3) := ⟨W, (aa.out _).trans R⟩; clear W R)
  all_goals go_wp2
  all_goals go_ret2
  all_goals refine ⟨v3, Z, rfl, ?_⟩
  all_goals exact HE.out
 ·rw [brLead, if_neg u]
  have r := fun (Y : Wood) (w' : World) (b' : Nat) (M : List Value) (h : w'.rangeAt b' 1 M) (k : Kids Y M ks1) => Qmy h k
  rw [decide_eq_false u] at r
  have O := Hq r
  clear a u r
  go_enter Tryz.func171, Tryz.ntmps171
  go_wp2_with (first | (go_at_call 153; refine P.out.mono ?_; rintro e N ⟨c, rfl, E, g⟩; obtain ⟨G, j, l⟩ := Ql5 g.forest (Wood.put_same S c (.br ks1)); have C := Hq g; have z := Hq (O.out _ N c G l j); clear E g j l) | (go_at_call 175; refine z.out.mono ?_; rintro e i ⟨rfl, rfl⟩))
  go_ret2
  exact ⟨_, _, rfl, .inr ⟨by simp, c, rfl, Wood.put_same _ _ _⟩, C.out⟩
theorem Qxl {u : Nd} (hf : Forest B S w) (hb : S b = some t) (hv : ndV S v u) (hl : t.leads q u) :
  Calls Tryz.prog (leadFn t) #[.pointer (some ⟨b, 0, none⟩), .string q, v] w (Made2 B S w (t.lead q u)) := by
 cases t with
 | ext p t => exact Qu6 hf hv hl.1 hl.2
 | br ks => exact Qu7 hf hb hv hl
 | _ => exact hl.elim
def BkSame (s : Nat) (X Y : World) : Prop := Y.heap[s]? = X.heap[s]? /\ Y.heap[s + 1]? = X.heap[s + 1]?
variable {n : Nat}
theorem Qxm {P : Program} {g : Operand} {ps : Array Tmp} {assign body : Code} {Q : Exit -> Act -> World -> Prop} {a : Act} {gf : Nat} {lb : Array Value}
  (hg : a.eval g = .func (.func gf) #[] lb) (eg : ∀ args w, (callFunc gf args).run P w = .ok (.enter gf args) w)
  (N : Nat) (encs : Nat -> Array Value) (hps : ∀ k, (encs k).size = ps.size) (I : Nat -> World -> Prop)
  (h0 : ∀ o1 o2 : Obj, I 0 ((w.alloc o1).alloc o2)) (hp : ∀ k W o, I k W -> I k (W.putObj (w.heap.size + 1) o))
  (hseq : ∀ (l : Nat) (J : Nat -> World -> Prop), (∀ k W, J k W -> I k W) -> (∀ k W, k < N -> J k W -> YieldAt Fence.wide (n - 1 - 1) P l (encs k) W fun e W' => e = .returned (.bool true) /\ J (k + 1) W') -> ∀ W, J 0 W -> CallsIn Fence.wide (n - 1) P gf (#[.func (.yield l) #[] #[]] ++ lb) W fun e W' => (∃ v, e = .returned v) /\ J N W')
  (hround : ∀ k W, k < N -> I k W -> w.heap.size + 1 < W.heap.size -> assign.wpIn (Fence.wide.inRound (w.heap.size + 1)) (n - 1 - 1) P (Exit.then (fun a1 W1 => BkSame w.heap.size W W1 /\ I k W1 /\ ∀ o, body.wpIn (Fence.wide.inRound (w.heap.size + 1)) (n - 1 - 1) P (fun e _ W3 => e = .normal /\ BkSame w.heap.size (W1.putObj (w.heap.size + 1) o) W3 /\ I (k + 1) W3) a1 (W1.putObj (w.heap.size + 1) o)) (fun _ _ _ => False)) { tmps := (ps.zip (encs k)).foldl (fun t (p, v) => t.setIfInBounds p v) a.tmps, defers := [] } W)
  (hdone : ∀ W, I N W -> W.heap[w.heap.size]? = some (.deferred (some [])) -> Q .normal { a with defers := { target := .collected w.heap.size, args := #[] } :: a.defers } W) :
  (Code.rangeFunc g ps assign body).wpIn Fence.wide n P Q a w := by
 refine wpIn_rangeFunc fun fn H => ?_
 have d := run_enterLoop_outer (P := P) (w := w) fn a.tmps ps assign body
 obtain ⟨rc, c⟩ : ∃ rc : Loop, { state := .ready, pending := none, fn, tmps := a.tmps, params := ps, assign, body, defers := w.heap.size } = rc := ⟨_, rfl⟩
 have z : rc.state = .ready := by rw [<- c]
 have b : rc.fn = fn /\ rc.tmps = a.tmps /\ rc.params = ps /\ rc.assign = assign /\ rc.body = body := by rw [<- c]; exact ⟨rfl, rfl, rfl, rfl, rfl⟩
 have M : rc.pending = none := by rw [<- c]
 have i : ({ { rc with state := .busy } with state := .ready, pending := none } : Loop) = rc := by rw [<- c]
 rw [c] at d
 have m := h0 (.deferred (some [])) (.loop rc)
 have s : ((w.alloc (.deferred (some []))).alloc (.loop rc)).heap[w.heap.size + 1]? = some (.loop rc) := by
  have := World.alloc_heap_new (w.alloc (.deferred (some []))) (.loop rc)
  rwa [World.size_alloc] at this
 have r : ((w.alloc (.deferred (some []))).alloc (.loop rc)).heap[w.heap.size]? = some (.deferred (some [])) := (Below.heap_alloc _ _ _ (by simp)).trans (World.alloc_heap_new w _)
 clear c
 generalize hW1 : (w.alloc (.deferred (some []))).alloc (.loop rc) = W1 at d m s r
 clear hW1
 refine ⟨w.heap.size + 1, [{ target := .collected w.heap.size, args := #[] }], W1, { target := .fn (.func gf) lb, args := #[.func (.yield (w.heap.size + 1)) #[] #[]] }, W1, gf, #[.func (.yield (w.heap.size + 1)) #[] #[]] ++ lb, W1, d, ?_, fun _ _ => trivial, ?_, fun h => by simp [Fence.wide] at h, ?_⟩
 ·simp only [resolve, hg]
  simp [go_sem]
 ·simp [invoke, eg]
 ·refine (hseq (w.heap.size + 1) (fun k W => I k W /\ W.heap[w.heap.size + 1]? = some (.loop rc) /\ W.heap[w.heap.size]? = some (.deferred (some []))) (fun _ _ h => h.1) ?_ _ ⟨m, s, r⟩).mono ?_
  ·rintro k W R ⟨B, f, A⟩
   have L : w.heap.size + 1 < W.heap.size := (Array.getElem?_eq_some_iff.1 f).1
   have O := run_yield (P := P) (args := encs k) f (by rw [b.2.2.1]; exact hps k)
   rw [b.1, b.2.1, b.2.2.1, b.2.2.2.1, b.2.2.2.2] at O
   refine ⟨fn, _, assign, body, O, roundIn_of_wpIn H (wpIn_mono (hround k W R B L) ?_)⟩
   rintro e a1 W1 G
   cases e with
   | normal =>
    obtain ⟨D, S, j⟩ := G
    have u := D.2.trans f
    have E := D.1.trans A
    refine ⟨_, run_beginRound u z, wpIn_mono (j _) ?_⟩
    rintro e T W3 ⟨rfl, q, K⟩
    have C : w.heap.size + 1 < W1.heap.size := (Array.getElem?_eq_some_iff.1 u).1
    have y : W3.heap[w.heap.size + 1]? = some (.loop { rc with state := .busy }) := q.2.trans (World.putObj_heap_same C)
    have F : W3.heap[w.heap.size]? = some (.deferred (some [])) := q.1.trans ((World.putObj_heap_other (by omega)).trans E)
    refine ⟨_, _, run_endRound none y, rfl, hp _ _ _ K, ?_, (World.putObj_heap_other (by omega)).trans F⟩
    rw [World.putObj_heap_same (Array.getElem?_eq_some_iff.1 y).1]
    exact congrArg (fun x => some (Obj.loop x)) i
   | _ => exact G.elim
  ·rintro e W ⟨⟨v, rfl⟩, B, f, A⟩
   refine ⟨none, _, by rw [<- M]; exact run_endLoop f (by rw [z]; simp), ?_⟩
   exact hdone _ (hp _ _ _ B) ((World.putObj_heap_other (by omega)).trans A)
open Go.RowKit Go.Shelf
attribute [local go_sem] Oper.semAt_some
def backAt (N : Nat) (cs : List Value) (k : Nat) : Array Value := #[.int .i64 ((N - 1 - k : Nat) : Int), .agg #[cs.getD ((N - 1 - k) * 2) undef, cs.getD ((N - 1 - k) * 2 + 1) undef]]
theorem Qxn (l bs N : Nat) (thr : Value) (cs : List Value) (J : Nat -> World -> Prop) (hN : N <= 1000)
  (hJ : ∀ k W, J k W -> W.cell? ⟨bs, 0, none⟩ = some thr /\ ((thr = .slice none 0 0 /\ N = 0) \/ ∃ g cap, thr = .slice (some ⟨g, 0, none⟩) N cap /\ ∀ j, j < N -> W.cell? ⟨g, j * 2, none⟩ = some (cs.getD (j * 2) undef) /\ W.cell? ⟨g, j * 2 + 1, none⟩ = some (cs.getD (j * 2 + 1) undef)))
  (hY : ∀ k W, k < N -> J k W -> YieldAt Fence.wide (n - 1) Tryz.prog l (backAt N cs k) W fun e W' => e = .returned (.bool true) /\ J (k + 1) W') (W : World) (h0 : J 0 W) :
  CallsIn Fence.wide n Tryz.prog 103 #[.func (.yield l) #[] #[], .pointer (some ⟨bs, 0, none⟩)] W fun e W' => (∃ v, e = .returned v) /\ J N W' := by
 obtain ⟨D, H⟩ := hJ 0 W h0
 obtain ⟨p, cap, a⟩ : ∃ p cap, thr = .slice p N cap := by
  rcases H with ⟨rfl, rfl⟩ | ⟨g, cap, rfl, _⟩
  ·exact ⟨none, 0, rfl⟩
  ·exact ⟨_, cap, rfl⟩
 rw [a] at D
 have K := Hq hJ
 have L := Hq hY
 have I := Hq h0
 have z := Hq hN
 have V : IntKind.i64.wrap ((N : Int) - 1) = (N : Int) - 1 := Qar _ (by omega) (by omega)
 clear hJ hY h0 H hN
 refine callsIn_of_wp Tryz.func103 rfl trivial ?_ rfl
 simp only [Tryz.ntmps103, List.size_toArray, List.length_cons, List.length_nil, Nat.reduceAdd, Nat.reduceSub, Array.replicate_succ, Array.replicate_zero, List.push_toArray, List.append_toArray, List.nil_append, List.cons_append]
 gi_wp2
 gi_loopw [3] (fun i wr => ∃ k, k <= N /\ i = .int .i64 ((N : Int) - 1 - (k : Int)) /\ J k wr) (fun i _ => match i with | .int _ x => (x + 1).toNat | _ => 0)
 case atStart => exact ⟨0, Nat.zero_le _, by simp, I.out⟩
 case round =>
  obtain ⟨k, S, rfl, b⟩ := hrel
  by_cases t : k < N
  ·obtain ⟨j, F⟩ : ∃ j, N - 1 - k = j := ⟨_, rfl⟩
   have G : j < N := by omega
   have q : (N : Int) - 1 - (k : Int) = (j : Int) := by omega
   obtain ⟨E, w⟩ := K.out k wr b
   rw [a] at E
   obtain ⟨g, cap', d, c⟩ : ∃ g cap', thr = .slice (some ⟨g, 0, none⟩) N cap' /\ ∀ j, j < N -> wr.cell? ⟨g, j * 2, none⟩ = some (cs.getD (j * 2) undef) /\ wr.cell? ⟨g, j * 2 + 1, none⟩ = some (cs.getD (j * 2 + 1) undef) := by
    rcases w with ⟨_, h⟩ | h
    ·omega
    ·exact h
   rw [a] at d
   obtain ⟨rfl, rfl⟩ : p = some ⟨g, 0, none⟩ /\ cap = cap' := by
    simp only [Value.slice.injEq] at d
    exact ⟨d.1, d.2.2⟩
   obtain ⟨O, P⟩ := c j G
   obtain ⟨fn, Q, B, M, r, C⟩ := L.out k wr t b
   unfold backAt at r
   rw [F] at r
   obtain ⟨u0, f⟩ : ∃ u, cs.getD (j * 2) undef = u := ⟨_, rfl⟩
   obtain ⟨u1, m⟩ : ∃ u, cs.getD (j * 2 + 1) undef = u := ⟨_, rfl⟩
   rw [f, m] at r
   rw [f] at O
   rw [m] at P
   rw [q]
   have U : (j : Int) < (N : Int) := by omega
   have T : (0 : Int) <= (j : Int) := by omega
   have X : IntKind.i64.wrap ((j : Int) - 1) = (j : Int) - 1 := Qar _ (by have := z.out; omega) (by have := z.out; omega)
   have o : Hid ((N : Int) - 1 - ((k + 1 : Nat) : Int) = (j : Int) - 1 /\ k < N) := ⟨by omega, t⟩
   clear D c w d a f m b q F
   gi_wp2
   refine ⟨fun h => by simp [Fence.wide] at h, C.mono ?_⟩
   rintro e R ⟨rfl, s⟩
   have y := Hq s
   clear s C r
   gi_wp2
   refine ⟨⟨k + 1, o.out.2, by rw [o.out.1], y.out⟩, ?_⟩
   show ((j : Int) - 1 + 1).toNat < ((j : Int) + 1).toNat
   omega
  ·obtain rfl : k = N := by omega
   have q : (k : Int) - 1 - (k : Int) = -1 := by omega
   rw [q]
   have o := Hq b
   clear b
   gi_wp2
   go_end0
   exact ⟨⟨_, rfl⟩, o.out⟩
theorem Qmz (p : Option Addr) (m c : Nat) (w : World) : Calls Tryz.prog 85 #[.slice p m c] w fun e w' => e = .returned (.func (.func 103) #[] #[.pointer (some ⟨w.heap.size, 0, none⟩)]) /\ w' = w.alloc (.cells #[.slice p m c] 110) := by
 go_enter Tryz.func85, Tryz.ntmps85
 go_wp2
 go_ret
 exact ⟨rfl, rfl⟩
attribute [local go_sem] Oper.semAt_some
def endN : List (Nd × ByteArray) -> Nd -> Nd
 | [], t => t
 | x :: l, t => x.1.lead x.2 (endN l t)
def endOK : List (Nd × ByteArray) -> Nd -> Prop
 | [], _ => True
 | x :: l, t => x.1.leads x.2 (endN l t) /\ endOK l t
theorem Qu8 (l : List (Nd × ByteArray)) (t : Nd) {j : Nat} (h : j < l.length) : endN (l.drop j) t = l[j].1.lead l[j].2 (endN (l.drop (j + 1)) t) := by
 rw [List.drop_eq_getElem_cons h, endN]
theorem Qjt {t : Nd} : ∀ {l : List (Nd × ByteArray)}, endOK l t -> ∀ j (h : j < l.length), l[j].1.leads l[j].2 (endN (l.drop (j + 1)) t)
 | [], _, j, h => by simp at h
 | x :: l, hx, 0, _ => hx.1
 | x :: l, hx, j + 1, h => Qjt hx.2 j (by simpa using h)
theorem Turns.at {S : Wood} : ∀ {l : List (Nd × ByteArray)} {cs : List Value}, Turns S l cs -> ∀ j (h : j < l.length), cs.getD (j * 2 + 1) undef = .string l[j].2 /\ ndV S (cs.getD (j * 2) undef) l[j].1
 | [], _, _, j, h => by simp at h
 | x :: l, cs, ht, 0, _ => by
  obtain ⟨v, cs', rfl, h1, _⟩ := ht
  exact ⟨rfl, h1⟩
 | x :: l, cs, ht, j + 1, h => by
  obtain ⟨v, cs', rfl, _, h2⟩ := ht
  have := h2.at j (by simpa using h)
  rw [show (j + 1) * 2 = j * 2 + 1 + 1 by omega]
  exact this
theorem Fr.setCell {B : Nat} {S S' : Wood} {w w1 : World} (h : Fr B S S' w w1) (a : Addr) (v : Value) (hb : w.heap.size <= a.block) (hn : S' a.block = none) : Fr B S S' w (w1.setCell a v) :=
 h.grow (o := some a.block) ⟨rfl, rfl, rfl, by simp, fun k _ hne => Below.heap_setCell _ _ _ _ fun e => hne (by rw [e])⟩ fun k hk => by cases hk; exact ⟨hb, hn⟩
theorem Fr.putObj {B : Nat} {S S' : Wood} {w w1 : World} (h : Fr B S S' w w1) (j : Nat) (o : Obj) (hb : w.heap.size <= j) (hn : S' j = none) : Fr B S S' w (w1.putObj j o) :=
 h.grow (grownBy_putObj' w1 j o) fun k hk => by cases hk; exact ⟨hb, hn⟩
def EndI (B : Nat) (S : Wood) (w : World) (l : List (Nd × ByteArray)) (t : Nd) (thr : Value) (k : Nat) (W : World) : Prop :=
 ∃ S' u, Fr B S S' w W /\ ndV S' u (endN (l.drop (l.length - k)) t) /\ (∀ j, w.heap.size <= j -> j < w.heap.size + 7 -> S' j = none) /\ w.heap.size + 6 < W.heap.size /\
  W.heap[w.heap.size + 1]? = some (.cells #[u] 56 (0, 0)) /\ W.heap[w.heap.size + 2]? = some (.cells #[.nilIface] 56 (0, 0)) /\ W.heap[w.heap.size + 3]? = some (.cells #[.nilIface] 62 (0, 0)) /\ W.heap[w.heap.size + 4]? = some (.cells #[thr] 110 (0, 0))
variable {l : List (Nd × ByteArray)} {thr : Value} {W : World}
theorem EndI.put {k : Nat} (h : EndI B S w l t thr k W) (j : Nat) (hj : j = w.heap.size + 6) (o : Obj) : EndI B S w l t thr k (W.putObj j o) := by
 obtain ⟨b, u, c, d, a, e, f, g, i, m⟩ := h
 subst hj
 exact ⟨b, u, c.putObj _ o (by omega) (a _ (by omega) (by omega)), d, a, by simpa using e, (World.putObj_heap_other (by omega)).trans f, (World.putObj_heap_other (by omega)).trans g, (World.putObj_heap_other (by omega)).trans i, (World.putObj_heap_other (by omega)).trans m⟩
theorem EndI.alloc {B : Nat} {S : Wood} {w : World} {l : List (Nd × ByteArray)} {t : Nd} {thr : Value} {k : Nat} {W : World} (h : EndI B S w l t thr k W) (o : Obj) : EndI B S w l t thr k (W.alloc o) := by
 obtain ⟨a, u, b, c, d, j, e, f, g, i⟩ := h
 exact ⟨a, u, b.behind ((Below.refl _ _).alloc (Nat.le_refl _) _), c, d, by simp; omega, (Below.heap_alloc _ _ _ (by omega)).trans e, (Below.heap_alloc _ _ _ (by omega)).trans f, (Below.heap_alloc _ _ _ (by omega)).trans g, (Below.heap_alloc _ _ _ (by omega)).trans i⟩
variable {u : Value}
theorem EndI.start {wL : World} (hf : Forest B S w) (hu : ndV S u t) (hb : Below w.heap.size w wL) (hs : wL.heap.size = w.heap.size + 5) (h1 : wL.heap[w.heap.size + 1]? = some (.cells #[u] 56 (0, 0))) (h2 : wL.heap[w.heap.size + 2]? = some (.cells #[.nilIface] 56 (0, 0))) (h3 : wL.heap[w.heap.size + 3]? = some (.cells #[.nilIface] 62 (0, 0))) (h4 : wL.heap[w.heap.size + 4]? = some (.cells #[thr] 110 (0, 0))) (o1 o2 : Obj) : EndI B S w l t thr 0 ((wL.alloc o1).alloc o2) := by
 have a : ∀ k, k < w.heap.size + 5 -> ((wL.alloc o1).alloc o2).heap[k]? = wL.heap[k]? := fun k h => (Below.heap_alloc _ _ _ (by simp; omega)).trans (Below.heap_alloc _ _ _ (by omega))
 refine ⟨S, u, Fr.of_below hf ((hb.alloc hb.size _).alloc (Nat.le_trans hb.size (by simp)) _), ?_, fun j h _ => hf.fresh h, by simp; omega, (a _ (by omega)).trans h1, (a _ (by omega)).trans h2, (a _ (by omega)).trans h3, (a _ (by omega)).trans h4⟩
 rw [Nat.sub_zero, List.drop_of_length_le (Nat.le_refl _)]
 exact hu
attribute [local go_sem] Oper.semAt_some
theorem Qxo {l : Nat} {f : FuncId} {args : Array Value} {R : Ending -> World -> Prop} (h : Calls Tryz.prog f args w R) : CallsIn (Fence.wide.inRound l) n Tryz.prog f args w R := CallsIn.inRound l (callsIn_wide.2 h)
theorem Qb6 {t : TypeId} (h : w.heap[b]? = some (.cells #[v] t (0, 0))) : w.cell? ⟨b, 0, none⟩ = some v /\ w.frozen? ⟨b, 0, none⟩ = false := by
 exact ⟨by simp [World.cell?, h], by simp [World.frozen?, h]⟩
theorem Qow {u : Nd} (h : t.leads q u) : t.inner = true := by
 cases t with
 | ext _ _ => rfl
 | br _ => rfl
 | _ => exact h.elim
theorem Qxp (h : t.inner = true) : t ≠ .no := fun e => by rw [e] at h; simp [Nd.inner] at h
variable {cs : List Value}
theorem QAd {C : Nat} {N : Nat} (h : OwnC w C 2 thr N cs) (hk : ∀ g, thr.ownBlock = some g -> W.heap[g]? = w.heap[g]?) : (thr = .slice none 0 0 /\ N = 0) \/ ∃ g cap, thr = .slice (some ⟨g, 0, none⟩) N cap /\ ∀ j, j < N -> W.cell? ⟨g, j * 2, none⟩ = some (cs.getD (j * 2) undef) /\ W.cell? ⟨g, j * 2 + 1, none⟩ = some (cs.getD (j * 2 + 1) undef) := by
 rcases h.2 with h0 | ⟨g, cap, rfl, h1, h2, h3, h4, h5, h6⟩
 ·exact .inl h0
 ·refine .inr ⟨g, cap, rfl, fun j d => ?_⟩
  have e := h.1
  have c := hk g rfl
  have a : ∀ i, i < cs.length -> W.cell? ⟨g, i, none⟩ = some (cs.getD i undef) := fun i b => by
   have := h6 i cs[i] (by simp [b])
   rw [Nat.zero_add] at this
   rw [World.cell?_of_block c, this, List.getD_eq_getElem?_getD, List.getElem?_eq_getElem b]
   rfl
  exact ⟨a _ (by omega), a _ (by omega)⟩
theorem EndI.next {S' S2 : Wood} {W1 W2 : World} {v2 : Value} {k : Nat} (h1 : Fr B S S' w W1) (h3 : ∀ j, w.heap.size <= j -> j < w.heap.size + 7 -> S' j = none) (h4 : w.heap.size + 6 < W1.heap.size) (h5 : W1.heap[w.heap.size + 1]? = some (.cells #[u] 56 (0, 0))) (h6 : W1.heap[w.heap.size + 2]? = some (.cells #[.nilIface] 56 (0, 0))) (h7 : W1.heap[w.heap.size + 3]? = some (.cells #[.nilIface] 62 (0, 0))) (h8 : W1.heap[w.heap.size + 4]? = some (.cells #[thr] 110 (0, 0)))
  (hf : Fr B S' S2 W1 W2) (hv : ndV S2 v2 (endN (l.drop (l.length - (k + 1))) t)) : BkSame (w.heap.size + 5) W1 (W2.setCell ⟨w.heap.size + 1, 0, none⟩ v2) /\ EndI B S w l t thr (k + 1) (W2.setCell ⟨w.heap.size + 1, 0, none⟩ v2) := by
 have d : ∀ j, w.heap.size <= j -> j < w.heap.size + 7 -> j ≠ w.heap.size + 1 -> (W2.setCell ⟨w.heap.size + 1, 0, none⟩ v2).heap[j]? = W1.heap[j]? := fun j a b c => (Below.heap_setCell _ _ _ _ c).trans (hf.other j (by omega) (h3 j a b))
 have e : ∀ j, w.heap.size <= j -> j < w.heap.size + 7 -> S2 j = none := fun j a b => hf.new j (by omega) (h3 j a b)
 have g := hf.size
 have f : W2.heap[w.heap.size + 1]? = some (.cells [u].toArray 56 (0, 0)) := (hf.other _ (by omega) (h3 _ (by omega) (by omega))).trans h5
 exact ⟨⟨d _ (by omega) (by omega) (by omega), d _ (by omega) (by omega) (by omega)⟩, S2, v2, (h1.trans hf).setCell _ _ (by simp) (e _ (by simp) (by simp)), hv, e, by simp; omega, Qa2 f 0 v2, (d _ (by omega) (by omega) (by omega)).trans h6, (d _ (by omega) (by omega) (by omega)).trans h7, (d _ (by omega) (by omega) (by omega)).trans h8⟩
theorem Qu9 (h : w.cell? ⟨b, 0, none⟩ = some v) : (loadVar 56 ⟨b, 0, none⟩).run Tryz.prog w = .ok v w := by simp [go_sem, h]
theorem Qrd (h : w.cell? ⟨b, 0, none⟩ = some v) : (loadVar 62 ⟨b, 0, none⟩).run Tryz.prog w = .ok v w := by simp [go_sem, h]
theorem Qox {fn : Func} {p q : Tmp} {t1 t2 : TypeId} (h : fn.results = #[.cell p t1, .cell q t2]) (tmps : Array Value) (P : Program) (w : World) (b c : Nat) (hp : tmps.getD p undef = .pointer (some ⟨b, 0, none⟩)) (hq : tmps.getD q undef = .pointer (some ⟨c, 0, none⟩)) (hv : (loadVar t1 ⟨b, 0, none⟩).run P w = .ok v w) (hu : (loadVar t2 ⟨c, 0, none⟩).run P w = .ok u w) :
  (results fn tmps).run P w = .ok (.tuple #[v, u]) w := by
 simp only [results, h, Array.mapM_eq_mapM_toList, List.mapM_cons, List.mapM_nil, Sem.run_bind, Result.andThen, hp, hq]
 simp [Sem.run_bind, Result.andThen, asAddr, hv, hu]
theorem Qua {S' : Wood} {D : Nat} {tmps : Array Value} (h : Fr B S S' w W /\ ndV S' u t /\ (∀ j, w.heap.size <= j -> j < w.heap.size + 7 -> S' j = none) /\ w.heap.size + 6 < W.heap.size /\ W.heap[w.heap.size + 5]? = some (.deferred (some [])) /\ W.heap[w.heap.size + 2]? = some (.cells #[.nilIface] 56 (0, 0)) /\ W.heap[w.heap.size + 3]? = some (.cells #[.nilIface] 62 (0, 0))) (hD : D = w.heap.size + 5) (h4 : tmps.getD 4 undef = .pointer (some ⟨w.heap.size + 1 + 1, 0, none⟩)) (h5 : tmps.getD 5 undef = .pointer (some ⟨w.heap.size + 1 + 1 + 1, 0, none⟩)) :
  bodyPostM Fence.wide 3 Tryz.prog Tryz.f68 (Made2 B S w t) .ret { tmps := tmps, defers := [{ target := .collected D, args := #[] }] } ((W.setCell ⟨w.heap.size + 1 + 1, 0, none⟩ u).setCell ⟨w.heap.size + 1 + 1 + 1, 0, none⟩ .nilIface) := by
 obtain ⟨g, i, a, n, k, l, m⟩ := h
 subst hD
 have b : ((W.setCell ⟨w.heap.size + 1 + 1, 0, none⟩ u).setCell ⟨w.heap.size + 1 + 1 + 1, 0, none⟩ .nilIface).heap[w.heap.size + 2]? = some (.cells #[u] 56 (0, 0)) := (Below.heap_setCell _ _ _ _ (by simp)).trans (Qa2 (cs := [.nilIface]) l 0 u)
 have c : ((W.setCell ⟨w.heap.size + 1 + 1, 0, none⟩ u).setCell ⟨w.heap.size + 1 + 1 + 1, 0, none⟩ .nilIface).heap[w.heap.size + 3]? = some (.cells #[.nilIface] 62 (0, 0)) := Qa2 (cs := [.nilIface]) ((Below.heap_setCell _ _ _ _ (by simp)).trans m) 0 .nilIface
 have d : ((W.setCell ⟨w.heap.size + 1 + 1, 0, none⟩ u).setCell ⟨w.heap.size + 1 + 1 + 1, 0, none⟩ .nilIface).heap[w.heap.size + 5]? = some (.deferred (some [])) := (Below.heap_setCell _ _ _ _ (by simp)).trans ((Below.heap_setCell _ _ _ _ (by simp)).trans k)
 have e : Fr B S S' w ((W.setCell ⟨w.heap.size + 1 + 1, 0, none⟩ u).setCell ⟨w.heap.size + 1 + 1 + 1, 0, none⟩ .nilIface) := (g.setCell _ _ (by simp; omega) (a _ (by simp; omega) (by simp))).setCell _ _ (by simp; omega) (a _ (by simp; omega) (by simp))
 generalize (W.setCell ⟨w.heap.size + 1 + 1, 0, none⟩ u).setCell ⟨w.heap.size + 1 + 1 + 1, 0, none⟩ .nilIface = W2 at b c d e ⊢
 refine ⟨by simp, .inl ⟨_, _, rfl, run_takeDeferred d, ?_⟩⟩
 refine ⟨_, Qox Tryz.results68 tmps _ _ (w.heap.size + 2) (w.heap.size + 3) h4 h5 (Qu9 (Qb6 ((World.putObj_heap_other (by omega)).trans b)).1) (Qrd (Qb6 ((World.putObj_heap_other (by omega)).trans c)).1), ?_⟩
 exact ⟨u, S', rfl, i, e.putObj _ _ (by omega) (a _ (by omega) (by omega))⟩
theorem five {wL : World} {o0 o1 o2 o3 o4 : Obj} (h : ((((w.alloc o0).alloc o1).alloc o2).alloc o3).alloc o4 = wL) : wL.heap.size = w.heap.size + 5 /\ Below w.heap.size w wL /\ wL.heap[w.heap.size + 1]? = some o1 /\ wL.heap[w.heap.size + 2]? = some o2 /\ wL.heap[w.heap.size + 3]? = some o3 /\ wL.heap[w.heap.size + 4]? = some o4 := by
 subst h
 refine ⟨by simp, (((((Below.refl _ _).alloc (Nat.le_refl _) _).alloc (by simp) _).alloc (by simp; omega) _).alloc (by simp; omega) _).alloc (by simp; omega) _, ?_, ?_, ?_, ?_⟩
 ·refine (Below.heap_alloc _ _ _ (by simp)).trans ((Below.heap_alloc _ _ _ (by simp)).trans ((Below.heap_alloc _ _ _ (by simp)).trans ?_))
  have := World.alloc_heap_new (w.alloc o0) o1
  rwa [World.size_alloc] at this
 ·refine (Below.heap_alloc _ _ _ (by simp)).trans ((Below.heap_alloc _ _ _ (by simp)).trans ?_)
  have := World.alloc_heap_new ((w.alloc o0).alloc o1) o2
  rwa [World.size_alloc, World.size_alloc] at this
 ·refine (Below.heap_alloc _ _ _ (by simp)).trans ?_
  have := World.alloc_heap_new (((w.alloc o0).alloc o1).alloc o2) o3
  rwa [World.size_alloc, World.size_alloc, World.size_alloc] at this
 ·have := World.alloc_heap_new ((((w.alloc o0).alloc o1).alloc o2).alloc o3) o4
  rwa [World.size_alloc, World.size_alloc, World.size_alloc, World.size_alloc] at this
theorem Qre {C : Nat} {r : ByteArray} (hf : Forest B S w) (hO : OwnC w C 2 thr l.length cs) (hT : Turns S l cs) (hnone : ∀ g, thr.ownBlock = some g -> S g = none) (hv : v = .nilIface \/ ∃ T a, v = .iface T (.pointer (some a))) (hu : ndV S u t) (hl : l.length <= 1000) (hok : endOK l t) :
  Calls Tryz.prog 68 #[.agg #[thr, v, .string r], u] w (Made2 B S w (endN l t)) := by
 obtain ⟨X, V, U, rfl⟩ := hO.shape
 have am := hu.shape
 have HF := Hq hf
 have HO := Hq hO
 have HT := Hq hT
 have HU := Hq hu
 have HN := Hq hnone
 have HK := Hq hok
 have HL := Hq hl
 clear hf hO hT hnone hu hok hl
 rcases hv with rfl | ⟨T, a, rfl⟩
 all_goals rcases am with rfl | ⟨T', a', rfl⟩
 all_goals
  refine (callsIn_wide (n := 3)).1 ?_
  refine callsIn_of_wp_marks Tryz.func68 rfl trivial ?_ rfl
  simp only [Tryz.ntmps68, List.size_toArray, List.length_cons, List.length_nil, Nat.reduceAdd, Nat.reduceSub, Array.replicate_succ, Array.replicate_zero, List.push_toArray, List.append_toArray, List.nil_append, List.cons_append]
  gi_wp2_with (refine ⟨trivial, ?_⟩; gi_at_call 85; refine (callsIn_wide.2 (Qmz _ _ _ _)).mono ?_; rintro x w1 ⟨rfl, rfl⟩)
  generalize hwL : World.alloc (World.alloc (World.alloc (World.alloc (World.alloc w _) _) _) _) _ = wL
  obtain ⟨P, ac, q1, q2, q3, q4⟩ := five hwL
  have L := fun o1 o2 => EndI.start (l := l) HF.out HU.out ac P q1 q2 q3 q4 o1 o2
  clear hwL ac q1 q2 q3 q4
  refine Qxm (gf := 103) (lb := #[.pointer (some ⟨w.heap.size + 4, 0, none⟩)]) rfl (enters_of Tryz.func103 (by kernel_rfl) rfl) l.length (backAt l.length cs) (fun _ => rfl) (EndI B S w l t (.slice X V U)) L (fun k W o h => h.put _ (by omega) o) ?seq ?round ?done
  case seq =>
   intro l1 J hJ hY W0 aj
   refine Qxn l1 (w.heap.size + 4) l.length (.slice X V U) cs J HL.out (fun k W hk => ?_) hY W0 aj
   obtain ⟨H, u, i, c, p, E, m, q, s, F⟩ := hJ k W hk
   exact ⟨(Qb6 F).1, QAd HO.out (fun g hg => i.other g (HO.out.block g hg).2 (HN.out g hg))⟩
  case round =>
   intro k W hk hI al
   obtain ⟨j, hj⟩ : ∃ j, l.length - 1 - k = j := ⟨_, rfl⟩
   have O : j < l.length := by omega
   obtain ⟨aa, M⟩ := HT.out.at j O
   unfold backAt
   rw [hj]
   rw [aa]
   have b := Qjt HK.out j O
   have G := Qu8 l t O
   have e1 : l.length - k = j + 1 := by omega
   have e2 : l.length - (k + 1) = j := by omega
   obtain ⟨x, hx⟩ : ∃ x, l[j] = x := ⟨_, rfl⟩
   rw [hx] at M b G ⊢
   have N : x.1.inner = true := Qow b
   obtain ⟨d, hd, ag⟩ := M.full (Qxp N)
   rw [hd]
   have hm := QDn x.1 N
   have ak := QCe x.1 N
   have HI := Hq hI
   have I : Hid (x.1.leads x.2 (endN (l.drop (j + 1)) t) /\ endN (l.drop j) t = x.1.lead x.2 (endN (l.drop (j + 1)) t) /\ l.length - k = j + 1 /\ l.length - (k + 1) = j /\ S d = some x.1) := ⟨b, G, e1, e2, ag⟩
   have HS := Hq P
   clear hI b G e1 e2 ag hd M aa hx hj P L
   gi_wp2
   refine ⟨⟨Below.heap_alloc _ _ _ (by omega), Below.heap_alloc _ _ _ al⟩, HI.out.alloc _, fun o => ?_⟩
   obtain ⟨H, uk, i, c, p, E, m, q, s, F⟩ := (HI.out.alloc (.cells #[.iface (ndTy x.1) (.pointer (some ⟨d, 0, none⟩)), .string x.2] 196)).put (wL.heap.size + 1) (by have := HS.out; omega) o
   have Y : ((W.alloc (.cells #[.iface (ndTy x.1) (.pointer (some ⟨d, 0, none⟩)), .string x.2] 196)).putObj (wL.heap.size + 1) o).heap[W.heap.size]? = some (.cells #[.iface (ndTy x.1) (.pointer (some ⟨d, 0, none⟩)), .string x.2] 196 (0, 0)) := (World.putObj_heap_other (by omega)).trans (World.alloc_heap_new W _)
   generalize hW1 : (W.alloc (.cells #[.iface (ndTy x.1) (.pointer (some ⟨d, 0, none⟩)), .string x.2] 196)).putObj (wL.heap.size + 1) o = W1 at i c p E m q s F Y ⊢
   rw [I.out.2.2.1] at c
   have c0 : W1.cell? ⟨W.heap.size, 0, none⟩ = some (.iface (ndTy x.1) (.pointer (some ⟨d, 0, none⟩))) := by simp [World.cell?, Y]
   have c1 : W1.cell? ⟨W.heap.size, 1, none⟩ = some (.string x.2) := by simp [World.cell?, Y]
   obtain ⟨c2, -⟩ := Qb6 m
   have Q := c.shape
   have Z := Hq (Qxl (w := W1) i.forest (i.sub d _ I.out.2.2.2.2) c I.out.1)
   have R : Hid (∀ f K D, Fr B H K W1 f -> ndV K D (x.1.lead x.2 (endN (l.drop (j + 1)) t)) -> (f.cell? ⟨w.heap.size + 1, 0, none⟩ = some uk /\ f.frozen? ⟨w.heap.size + 1, 0, none⟩ = false) /\ BkSame wL.heap.size W1 (f.setCell ⟨w.heap.size + 1, 0, none⟩ D) /\ EndI B S w l t (.slice X V U) (k + 1) (f.setCell ⟨w.heap.size + 1, 0, none⟩ D)) := fun f K D y z => by
    rw [HS.out]
    refine ⟨Qb6 ((y.other _ (by omega) (p _ (by omega) (by omega))).trans m), EndI.next i p E m q s F y ?_⟩
    rw [I.out.2.2.2.1, I.out.2.1]
    exact z
   clear i c p E m q s F Y hW1
   rcases Q with rfl | ⟨T2, a2, rfl⟩
   all_goals
    gi_wp2
    refine ⟨trivial, (Qxo Z.out).mono ?_⟩
    rintro e f ⟨D, K, rfl, z, y⟩
    obtain ⟨⟨z0, z1⟩, ae, ah⟩ := R.out f K D y z
    have HZ : Hid (BkSame wL.heap.size W1 (f.setCell ⟨w.heap.size + 1, 0, none⟩ D) /\ EndI B S w l t (.slice X V U) (k + 1) (f.setCell ⟨w.heap.size + 1, 0, none⟩ D)) := ⟨ae, ah⟩
    have ai := z.shape
    clear ae ah z y R Z hm ak c0 c1 c2
    rcases ai with rfl | ⟨T3, a3, rfl⟩
    all_goals
     gi_wp2
     exact HZ.out
  case done =>
   rintro W ⟨H, u, i, c, p, E, m, q, s, F⟩ hD
   rw [Nat.sub_self, List.drop_zero] at c
   obtain ⟨c1, f1⟩ := Qb6 m
   obtain ⟨c2, f2⟩ := Qb6 q
   obtain ⟨c3, f3⟩ := Qb6 s
   have R : Hid (Fr B S H w W /\ ndV H u (endN l t) /\ (∀ j, w.heap.size <= j -> j < w.heap.size + 7 -> H j = none) /\ w.heap.size + 6 < W.heap.size /\ W.heap[w.heap.size + 5]? = some (.deferred (some [])) /\ W.heap[w.heap.size + 2]? = some (.cells #[.nilIface] 56 (0, 0)) /\ W.heap[w.heap.size + 3]? = some (.cells #[.nilIface] 62 (0, 0))) := ⟨i, c, p, E, by rw [<- P]; exact hD, q, s⟩
   have Q := c.shape
   clear i c p E m q s F hD L
   rcases Q with rfl | ⟨T2, a2, rfl⟩
   all_goals
    gi_wp2
    exact Qua R.out P rfl rfl
end Go.Proofs.YtakidhihbgfjlaaGreatDoor
