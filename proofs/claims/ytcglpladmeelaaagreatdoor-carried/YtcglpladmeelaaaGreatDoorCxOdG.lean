/-
  Open: does a node fit at a depth?
-/
import Derived.Test.YtcglpladmeelaaaGreatDoorCxOcG
import Derived.Test.YtcglpladmeelaaaGreatDoorCxSaG
namespace Go.Proofs.YtcglpladmeelaaaGreatDoor
open Go.RowKit
set_option maxRecDepth 100000
set_option maxHeartbeats 25600000
mutual
def Nd.fitB : Nd -> Nat -> Bool
 | .no, _ => true
 | .leaf p _, d => decide (d + p.size = 64)
 | .ext p t, d => decide (d + p.size < 64) && t.fitB (d + p.size)
 | .br ks, d => decide (d < 64) && fitBs ks (d + 1)
 | .stub _, _ => true
def fitBs : List Nd -> Nat -> Bool
 | [], _ => true
 | t :: ts, d => t.fitB d && fitBs ts d
end
theorem fitBs_take (ks : List Nd) (d k : Nat) (hk : k < ks.length) : fitBs (ks.take (k + 1)) d = (fitBs (ks.take k) d && ks[k].fitB d) := by
 induction ks generalizing k with
 | nil => simp at hk
 | cons t ts ih =>
  cases k with
  | zero => simp [fitBs]
  | succ k =>
   rw [List.take_succ_cons, List.take_succ_cons, fitBs, fitBs, ih k (by simpa using hk), Bool.and_assoc]
   rfl
theorem fitBs_false {ks : List Nd} {d k : Nat} (h : fitBs (ks.take k) d = false) : fitBs ks d = false := by
 induction ks generalizing k with
 | nil => simp [fitBs] at h
 | cons t ts ih =>
  cases k with
  | zero => simp [fitBs] at h
  | succ k =>
   rw [List.take_succ_cons, fitBs] at h
   rw [fitBs]
   cases ht : t.fitB d with
   | false => rfl
   | true =>
    rw [ht, Bool.true_and] at h
    rw [Bool.true_and]
    exact ih h
def fitFn : Nd -> FuncId
 | .no => 0
 | .leaf _ _ => 129
 | .ext _ _ => 176
 | .br _ => 165
 | .stub _ => 147
theorem mFit (t : Nd) (ht : t ≠ .no) (a : Addr) (w : World) : (Go.method 384 (ndTy t) (.pointer (some a)) "twigs/tree.fits").run Tryz.prog w = .ok (fitFn t, .pointer (some a)) w := by
 cases t with
 | no => exact absurd rfl ht
 | leaf _ _ => kernel_rfl
 | ext _ _ => kernel_rfl
 | br _ => kernel_rfl
 | stub _ => kernel_rfl
theorem enFit (t : Nd) (ht : t ≠ .no) (args : Array Value) (w : World) : (callFunc (fitFn t) args).run Tryz.prog w = .ok (.enter (fitFn t) args) w := by
 cases t with
 | no => exact absurd rfl ht
 | leaf _ _ => kernel_rfl
 | ext _ _ => kernel_rfl
 | br _ => kernel_rfl
 | stub _ => kernel_rfl
def FitC (B : Nat) (S : Wood) (t : Nd) : Prop := ∀ (w : World) (c d : Nat), Forest B S w -> S c = some t -> d <= 64 -> Calls Tryz.prog (fitFn t) #[.pointer (some ⟨c, 0, none⟩), .int .i64 (d : Int)] w fun e w' => e = .returned (.bool (t.fitB d)) /\ w' = w
theorem fit_leaf {B : Nat} {S : Wood} {p v : ByteArray} : FitC B S (.leaf p v) := fun w c d hf hc hd => by
 obtain ⟨g, r, _, hr', c0, rg, _, _⟩ := (hf.node c _ hc).cell
 obtain rfl : r = [.string p, .string v] := hr'
 have c1 : w.cell? ⟨c, 1, none⟩ = some (.string p) := rg 0 _ rfl
 have hok := hf.ok c _ hc
 rw [Nd.ok] at hok
 have hp := hok.1.1
 have hs : wrap64 ((d : Int) + (p.size : Int)) = ((d + p.size : Nat) : Int) := by unfold wrap64; omega
 have HE : Hid ((decide (((d + p.size : Nat) : Int) = 64)) = (Nd.leaf p v).fitB d) := by
  rw [Nd.fitB]
  show decide _ = decide _
  congr 1
  exact propext (by omega)
 clear hf hc rg hok c0 hd
 show Calls Tryz.prog 129 _ _ _
 go_enter Tryz.func129, Tryz.ntmps129
 go_wp2
 go_ret
 refine ⟨?_, rfl⟩
 rw [<- HE.out]
 rfl
theorem fit_stub {B : Nat} {S : Wood} {h : List Nat} : FitC B S (.stub h) := fun w c d hf hc hd => by
 clear hf hc hd
 show Calls Tryz.prog 147 _ _ _
 go_enter Tryz.func147, Tryz.ntmps147
 go_wp2
 go_ret
 exact ⟨rfl, rfl⟩
theorem fit_ext {B : Nat} {S : Wood} {p : ByteArray} {t : Nd} (ih : t ≠ .no -> FitC B S t) : FitC B S (.ext p t) := fun w nb d hf hb hd => by
 obtain ⟨g, r, _, hr', c0, rg, _, _⟩ := (hf.node nb _ hb).cell
 obtain ⟨tv, rfl, hv⟩ : ∃ v, r = [.string p, v] /\ ndV S v t := hr'
 have c1 : w.cell? ⟨nb, 1, none⟩ = some (.string p) := rg 0 _ rfl
 have c2 : w.cell? ⟨nb, 2, none⟩ = some tv := rg 1 _ rfl
 have hok := hf.ok nb _ hb
 rw [Nd.ok] at hok
 have hp := hok.1.1
 rcases hv with ⟨hv, _⟩ | ⟨hne, c, rfl, hc⟩
 ·exact absurd hv hok.2.2
 have hm := mFit t hne
 have hfn := enFit t hne
 obtain ⟨q, hq⟩ : ∃ q, d + p.size = q := ⟨_, rfl⟩
 have hs : wrap64 ((d : Int) + (p.size : Int)) = (q : Int) := by unfold wrap64; omega
 have hE : (Nd.ext p t).fitB d = (decide (q < 64) && t.fitB q) := by rw [Nd.fitB, hq]
 rw [hE]
 by_cases hlt : q < 64
 ·have HC := Hid.hide (ih hne w c q hf hc (by omega))
  have i1 : (q : Int) < 64 := by omega
  have HE : Hid ((decide (q < 64) && t.fitB q) = t.fitB q) := by
   have h : (decide (q < 64) && t.fitB q) = t.fitB q := by simp [hlt]
   exact h
  clear hf hb rg hok c0 hd hc hp hlt hE hq ih
  show Calls Tryz.prog 176 _ _ _
  go_enter Tryz.func176, Tryz.ntmps176
  go_wp2_with fail
  refine HC.out.mono ?_
  rintro e a ⟨rfl, rfl⟩
  go_wp2
  go_ret
  exact ⟨by rw [HE.out]; rfl, rfl⟩
 ·have i1 : ¬ (q : Int) < 64 := by omega
  have HE : Hid ((decide (q < 64) && t.fitB q) = false) := by
   have h : (decide (q < 64) && t.fitB q) = false := by simp [hlt]
   exact h
  clear hf hb rg hok c0 hd hc hp hlt hE hq ih
  show Calls Tryz.prog 176 _ _ _
  go_enter Tryz.func176, Tryz.ntmps176
  go_wp2
  go_ret
  exact ⟨by rw [HE.out]; rfl, rfl⟩
theorem fit_br {B : Nat} {S : Wood} {ks : List Nd} (ih : ∀ x ∈ ks, x ≠ .no -> FitC B S x) : FitC B S (.br ks) := fun w nb d hf hb hd => by
 obtain ⟨g, r, _, hr', c0, rg, _, _⟩ := (hf.node nb _ hb).cell
 obtain ⟨hr16, hrv⟩ : r.length = 16 /\ ∀ i (h1 : i < r.length) (h2 : i < ks.length), ndV S r[i] ks[i] := hr'
 have hok := hf.ok nb _ hb
 rw [Nd.ok] at hok
 have hsz : (Tryz.prog.info? 231).map (·.size) = some r.length := by rw [hr16]; kernel_rfl
 have hE : (Nd.br ks).fitB d = (decide (d < 64) && fitBs ks (d + 1)) := by rw [Nd.fitB]
 rw [hE]
 by_cases hlt : d < 64
 ·have i1 : ¬ (64 : Int) <= (d : Int) := by omega
  have hs : wrap64 ((d : Int) + 1) = ((d + 1 : Nat) : Int) := by unfold wrap64; omega
  obtain ⟨f, hfe⟩ : ∃ f, (decide (d < 64) && fitBs ks (d + 1)) = f := ⟨_, rfl⟩
  have HE : Hid (f = fitBs ks (d + 1) /\ d < 64) := ⟨by rw [<- hfe]; simp [hlt], hlt⟩
  rw [hfe]
  have HK : Hid (ks.length = 16 /\ r.length = 16 /\ Forest B S w) := ⟨hok.1, hr16, hf⟩
  have HV : Hid (∀ i (h1 : i < r.length) (h2 : i < ks.length), ndV S r[i] ks[i]) := hrv
  have HI := Hid.hide ih
  clear hf hb hr16 hrv hok c0 hd hlt hE hfe ih
  show Calls Tryz.prog 165 _ _ _
  go_enter Tryz.func165, Tryz.ntmps165
  go_wp2_with (refine wpList_load_mid rfl 231 _ rfl nb 1 rfl r _ rg Tryz.underlying231 rfl hsz ?_)
  clear rg
  go_loopg [13] 16 (fun gh i wr => ∃ k, k <= 16 /\ gh = 16 - k /\ i = .int .i64 (k : Int) /\ wr = w /\ fitBs (ks.take k) (d + 1) = true)
  case atStart => exact ⟨0, Nat.zero_le _, rfl, rfl, rfl, by simp [fitBs]⟩
  case round =>
   obtain ⟨k, hk, rfl, rfl, rfl, hb⟩ := hrel
   by_cases hlt : k < 16
   ·have hki : (k : Int) < 16 := by omega
    have hkr : k < r.length := by have := HK.out.2.1; omega
    have hkk : k < ks.length := by have := HK.out.1; omega
    have hv := HV.out k hkr hkk
    have q0 := fun w => run_index16 r k hkr HK.out.2.1 w
    have hx := List.getElem_mem hkk
    have hn := fitBs_take ks (d + 1) k hkk
    rw [hb, Bool.true_and] at hn
    obtain ⟨t, ht⟩ : ∃ t, ks[k] = t := ⟨_, rfl⟩
    rw [ht] at hv hx hn
    obtain ⟨z, hz⟩ : ∃ z, r[k] = z := ⟨_, rfl⟩
    rw [hz] at hv
    simp only [hz] at q0
    have HN := Hid.hide hn
    clear hb hn ht hz
    rcases hv with ⟨rfl, rfl⟩ | ⟨hne, c, rfl, hc⟩
    ·clear hx
     go_wp2
     go_roundg (16 - (k + 1))
     case measure => omega
     case rel => exact ⟨k + 1, by omega, rfl, by simp, rfl, HN.out⟩
    ·have hm := mFit t hne
     have hfn := enFit t hne
     have HC := Hid.hide (HI.out t hx hne wr c (d + 1) HK.out.2.2 hc (by have := HE.out.2; omega))
     cases hfb : t.fitB (d + 1) with
     | true =>
      rw [hfb] at HC
      have HN2 : Hid (fitBs (ks.take (k + 1)) (d + 1) = true) := HN.out.trans hfb
      clear hx hc hne hfb
      go_wp2_with fail
      refine HC.out.mono ?_
      rintro e w1 ⟨rfl, rfl⟩
      go_wp2
      go_roundg (16 - (k + 1))
      case measure => omega
      case rel => exact ⟨k + 1, by omega, rfl, by simp, rfl, HN2.out⟩
     | false =>
      rw [hfb] at HC
      have HN2 : Hid (f = false) := HE.out.1.trans (fitBs_false (HN.out.trans hfb))
      clear hx hc hne hfb
      go_wp2_with fail
      refine HC.out.mono ?_
      rintro e w1 ⟨rfl, rfl⟩
      go_wp2
      go_ret
      exact ⟨by rw [HN2.out]; rfl, rfl⟩
   ·obtain rfl : k = 16 := by omega
    rw [List.take_of_length_le (by have := HK.out.1; omega)] at hb
    have HN2 : Hid (f = true) := HE.out.1.trans hb
    clear hb hlt hk
    go_wp2
    go_ret
    exact ⟨by rw [HN2.out]; rfl, rfl⟩
 ·have i1 : (64 : Int) <= (d : Int) := by omega
  have HE : Hid ((decide (d < 64) && fitBs ks (d + 1)) = false) := by
   have h : (decide (d < 64) && fitBs ks (d + 1)) = false := by simp [hlt]
   exact h
  clear hf hb rg hok c0 hd hlt hE hr16 hrv hsz ih
  show Calls Tryz.prog 165 _ _ _
  go_enter Tryz.func165, Tryz.ntmps165
  go_wp2
  go_ret
  exact ⟨by rw [HE.out]; rfl, rfl⟩
mutual
theorem fit_any (B : Nat) (S : Wood) : ∀ t : Nd, t ≠ .no -> FitC B S t
 | .no, h => absurd rfl h
 | .leaf _ _, _ => fit_leaf
 | .ext _ t, _ => fit_ext fun h => fit_any B S t h
 | .br ks, _ => fit_br fun x hx hne => fits_any B S ks x hx hne
 | .stub _, _ => fit_stub
theorem fits_any (B : Nat) (S : Wood) : ∀ ks : List Nd, ∀ x ∈ ks, x ≠ .no -> FitC B S x
 | [], _, h, _ => by cases h
 | t :: ks, x, h, hn => by
  rcases List.mem_cons.1 h with e | h
  ·rw [e] at hn ⊢
   exact fit_any B S t hn
  ·exact fits_any B S ks x h hn
end
theorem troot_cell {B : Nat} {S : Wood} {w : World} {b : Nat} {t : Nd} (hf : Forest B S w) (hT : Tabs w) (hM : 15 <= B) {v : Value} (hbl : b < w.heap.size) (hv : ndV S v t) (c0 : w.cell? ⟨b, 0, none⟩ = some v) :
  Calls Tryz.prog 24 #[.pointer (some ⟨b, 0, none⟩)] w fun e w' => e = .returned (.agg (t.dig.map encB).toArray) /\ Fr B S S w w' := by
 have j := Hid.hide hf
 have J := Hid.hide hT
 have F := Hid.hide hM
 have C : t.dig.length = 32 := by
  rcases hv with ⟨rfl, _⟩ | ⟨_, c, _, hc⟩
  ·rw [Nd.dig_no]; exact digB_length _
  ·exact t.dig_length (hf.ok c t hc)
 obtain ⟨D, G⟩ : ∃ D : Array Nat, t.dig.toArray = D := ⟨_, rfl⟩
 have n : t.dig = D.toList := by rw [<- G]
 have u : Hid (D.size = 32 /\ t.dig = D.toList) := ⟨by rw [<- G]; simpa using C, n⟩
 rw [n]
 have E : ∀ w0, Below w.heap.size w w0 -> Tabs w0 := fun w0 a => J.out.below a (by have := F.out; have := j.out.le; omega)
 have x := Hid.hide E
 clear hf hT hM G n C E
 rcases hv with ⟨rfl, rfl⟩ | ⟨hne, c, rfl, hc⟩
 ·go_enter Tryz.func24, Tryz.ntmps24
  go_wp2_with fail
  generalize hw0 : (w.alloc (.cells _ 38)) = w0
  have a : Below w.heap.size w w0 := by rw [<- hw0]; exact (Below.refl _ _).alloc (Nat.le_refl _) _
  have i : w0.there w.heap.size 0 32 := by rw [<- hw0]; exact there_new _ _ _ _ rfl
  have g : w.heap.size < w0.heap.size := by rw [<- hw0]; simp
  clear hw0
  refine (empty_any w0).mono ?_
  rintro e w1 ⟨rfl, m⟩
  have y : Below w.heap.size w w1 := Below.behind a m
  have h : Hid (Below w.heap.size w w1 /\ w1.there w.heap.size 0 32 /\ w.heap.size < w1.heap.size) := ⟨y, there_block i (m.block _ g), Nat.lt_of_lt_of_le g m.size⟩
  clear a i g m y
  go_wp2_with fail
  refine (of_any (textB (textCode [])) w1 (x.out w1 h.out.1) (by have := F.out; have := j.out.le; have := h.out.2.2; omega)).mono ?_
  rintro e H ⟨rfl, o⟩
  have z : (digF (textB (textCode []))).toList = D.toList := by rw [<- u.out.2, Nd.dig_no]; rfl
  rw [z]
  obtain ⟨r, s, l, d⟩ := hash_cells u.out.1 (there_block h.out.2.1 (o.block _ h.out.2.2))
  have k := all_oneCell_toArray (oneCell_enc D .u8)
  have f : Hid (Below w.heap.size w H /\ H.there w.heap.size 0 (D.toList.map encB).length) := ⟨Below.behind h.out.1 o, d⟩
  clear o d z
  go_wp2_with (refine wpList_store_mid rfl 38 _ _ rfl w.heap.size 0 (D.toList.map encB).toArray rfl rfl l s k ?_)
  refine bodyPost_ret (v := .agg (D.toList.map encB).toArray) (results_cell1 Tryz.results24 _ _ _ w.heap.size 0 rfl (run_loadVar_mid _ _ _ 38 _ _ (World.rangeAt_setCells_same _ _ _ _ f.out.2) Tryz.underlying38 rfl r)) rfl ⟨rfl, ?_⟩
  exact (Fr.of_below j.out f.out.1).setCells _ _ _ (Nat.le_refl _) (j.out.fresh (Nat.le_refl _))
 ·have I := Hid.hide hc
  clear hc
  go_enter Tryz.func24, Tryz.ntmps24
  go_wp2_with fail
  generalize hw0 : (w.alloc (.cells _ 38)) = w0
  have a : Below w.heap.size w w0 := by rw [<- hw0]; exact (Below.refl _ _).alloc (Nat.le_refl _) _
  have i : w0.there w.heap.size 0 32 := by rw [<- hw0]; exact there_new _ _ _ _ rfl
  have g : w.heap.size < w0.heap.size := by rw [<- hw0]; simp
  clear hw0
  refine (digNode_any (j.out.below a) (x.out w0 a) F.out I.out hne).mono ?_
  rintro e w1 ⟨rfl, p⟩
  rw [u.out.2]
  have q : S w.heap.size = none := j.out.fresh (Nat.le_refl _)
  obtain ⟨r, s, l, d⟩ := hash_cells u.out.1 (there_block i (p.other _ g q))
  have k := all_oneCell_toArray (oneCell_enc D .u8)
  have f : Hid (Fr B S S w w1 /\ w1.there w.heap.size 0 (D.toList.map encB).length /\ S w.heap.size = none) := ⟨(Fr.of_below j.out a).trans p, d, q⟩
  clear p d a i g q
  go_wp2_with (refine wpList_store_mid rfl 38 _ _ rfl w.heap.size 0 (D.toList.map encB).toArray rfl rfl l s k ?_)
  refine bodyPost_ret (v := .agg (D.toList.map encB).toArray) (results_cell1 Tryz.results24 _ _ _ w.heap.size 0 rfl (run_loadVar_mid _ _ _ 38 _ _ (World.rangeAt_setCells_same _ _ _ _ f.out.2.1) Tryz.underlying38 rfl r)) rfl ⟨rfl, ?_⟩
  exact f.out.1.setCells _ _ _ (Nat.le_refl _) f.out.2.2
def treeF (ts : List Nd) (D : List Nat) : Except Er Nd :=
 match ts with
 | [t] => if t.fitB 0 = false then .error (.base 8) else if t.dig = D then .ok t else .error (.base 7)
 | _ => .error (.base 10)
structure TrS (B : Nat) (sent : Nat -> Addr) (S : Wood) (w : World) (q : Except Er Nd) (e : Ending) (w' : World) : Prop where
 bad : ∀ er, q = .error er -> e = .returned (.tuple #[.agg #[.nilIface], er.val sent]) /\ Fr B S S w w'
 good : ∀ t, q = .ok t -> ∃ z, e = .returned (.tuple #[.agg #[z], .nilIface]) /\ ndV S z t /\ Fr B S S w w'
theorem stree_any {w0 : World} {S : Wood} (sent : Nat -> Addr) {w : World} {sb C : Nat} {ts : List Nd} {v : Value} {zs : List Value} {D : List Nat} (hf : Forest w0.heap.size S w) (hF : Faults w0 sent) (hT : Tabs w0) (hM : 15 <= w0.heap.size) (hb : Below w0.heap.size w0 w) (hk : Stk S C sb ts v zs w) (h8 : ts.length <= 1000000) (hD : D.length = 32) (hDb : ∀ x ∈ D, x < 256) :
  Calls Tryz.prog 36 #[.pointer (some ⟨sb, 0, none⟩), .agg (D.map encB).toArray] w fun e w' => TrS w0.heap.size sent S w (treeF ts D) e w' := by
 obtain ⟨pv, cv, rfl, ay⟩ := hk.row.cap
 obtain ⟨c0, -⟩ := box1 hk.cell
 obtain ⟨A, hA⟩ : ∃ A, (D.map encB).toArray = A := ⟨_, rfl⟩
 obtain ⟨p, aj, R, ai⟩ := alloc2 w (.cells A 38) (.cells #[.nilIface] 63)
 obtain ⟨W1, I⟩ : ∃ x, (w.alloc (.cells A 38)).alloc (.cells #[.nilIface] 63) = x := ⟨_, rfl⟩
 rw [I] at p aj R ai
 have ar := (Array.getElem?_eq_some_iff.1 hk.cell).1
 have e0 : W1.cell? ⟨sb, 0, none⟩ = some (.slice pv ts.length cv) := by
  rw [World.cell?_of_block (a := ⟨sb, 0, none⟩) (p.block sb ar)]
  exact c0
 obtain ⟨n, hn⟩ : ∃ n, ts.length = n := ⟨_, rfl⟩
 rw [hn] at e0
 have aa : Below w0.heap.size w0 W1 := hb.trans (p.mono hb.size)
 have HF : Hid (Forest w0.heap.size S w /\ Faults w0 sent /\ Below w0.heap.size w0 w /\ Below w.heap.size w W1 /\ Below w0.heap.size w0 W1 /\ W1.heap.size = w.heap.size + 1 + 1) := ⟨hf, hF, hb, p, aa, ai⟩
 obtain ⟨rb, bl⟩ : ∃ x, w.heap.size + 1 = x := ⟨_, rfl⟩
 rw [bl] at R
 by_cases G : n = 1
 ·subst G
  obtain ⟨t, rfl⟩ : ∃ t, ts = [t] := by
   match ts, hn with
   | [t], _ => exact ⟨t, rfl⟩
  obtain ⟨z, rfl⟩ : ∃ z, zs = [z] := by
   match zs, hk.len with
   | [z], _ => exact ⟨z, rfl⟩
  have hv : ndV S z t := hk.nodes 0 (by simp) (by simp)
  obtain ⟨g, bo, bk, -, hg, -, -, -, az⟩ := hk.row.full (by simp)
  cases bk
  have al : W1.cell? ⟨g, 0, none⟩ = some z := by
   rw [World.cell?_of_block (a := ⟨g, 0, none⟩) (p.block g hg)]
   exact az 0 z rfl
  obtain ⟨W2, o⟩ : ∃ x, W1.alloc (.cells #[z] 63) = x := ⟨_, rfl⟩
  have P : Below W1.heap.size W1 W2 := by rw [<- o]; exact (Below.refl _ _).alloc (Nat.le_refl _) _
  have ak : W2.heap[W1.heap.size]? = some (.cells #[z] 63 (0, 0)) := by rw [<- o]; exact heap_new _ _
  have r : Below w.heap.size w W2 := p.trans (P.mono p.size)
  have H : Below w0.heap.size w0 W2 := hb.trans (r.mono hb.size)
  have ah : Forest w0.heap.size S W2 := (Fr.of_below hf r).forest
  obtain ⟨O, bm⟩ : ∃ x, W1.heap.size = x := ⟨_, rfl⟩
  rw [bm] at ak
  obtain ⟨g0, -⟩ := box1 ak
  have ac := (Array.getElem?_eq_some_iff.1 ak).1
  have L : W2.rangeAt w.heap.size 0 (D.map encB) := rangeAt_block (w := W1) (fun j u hu => by
   rw [Nat.zero_add, World.cell?, aj, <- hA]
   simpa using hu) (P.block _ (by omega))
  have aq : t.dig.length = 32 /\ ∀ x ∈ t.dig, x < 256 := by
   rcases hv with ⟨h, -⟩ | ⟨_, c, _, X⟩
   ·rw [h, Nd.dig_no]; exact ⟨digB_length _, digB_byte _⟩
   ·exact ⟨t.dig_length (hf.ok c t X), t.dig_byte (hf.ok c t X)⟩
  have HR : Hid (∀ W, Below W2.heap.size W2 W -> Calls Tryz.prog 24 #[.pointer (some ⟨O, 0, none⟩)] W fun e w' => e = .returned (.agg (t.dig.map encB).toArray) /\ Fr w0.heap.size S S W w') := fun W s => by
   have ao := H.trans (s.mono H.size)
   refine troot_cell (Fr.of_below ah s).forest (hT.below ao (by omega)) hM (Nat.lt_of_lt_of_le ac s.size) hv ?_
   rw [World.cell?_of_block (a := ⟨O, 0, none⟩) (s.block O ac)]
   exact g0
  have J := fun W => hash_cmp t.dig D aq.1 hD aq.2 hDb W
  have bx : (Tryz.prog.info? 38).map (·.size) = some (D.map encB).length := by rw [List.length_map, hD]; kernel_rfl
  have bn := Tryz.underlying38
  have ap : S O = none := hf.fresh (by omega)
  have ae : S rb = none := hf.fresh (by omega)
  have aw : S w.heap.size = none := hf.fresh (by omega)
  have m : W2.heap[rb]? = some (.cells #[.nilIface] 63 (0, 0)) := (P.block rb (by omega)).trans R
  have HW : Hid (∀ W w3, Below W2.heap.size W2 W -> Fr w0.heap.size S S W w3 -> w3.rangeAt w.heap.size 0 (D.map encB) /\ w3.cell? ⟨O, 0, none⟩ = some z /\ w3.heap[rb]? = some (.cells #[.nilIface] 63 (0, 0)) /\ Fr w0.heap.size S S w w3 /\ Faults w3 sent /\ Below w0.heap.size w0 w3) := fun W w3 s d => by
   have bc : w.heap.size < W2.heap.size := by have := P.size; omega
   have ba : rb < W2.heap.size := by have := P.size; omega
   have ao := H.trans (s.mono H.size)
   have ag : Below w0.heap.size w0 w3 := ao.trans ((d.x (fun _ => False)).below (Fr.of_below ah s).forest (fun _ h => h.elim))
   refine ⟨rangeAt_block L ((d.other _ (Nat.lt_of_lt_of_le bc s.size) aw).trans (s.block _ bc)), ?_, (d.other _ (Nat.lt_of_lt_of_le ba s.size) ae).trans ((s.block _ ba).trans m), (Fr.of_below hf (r.trans (s.mono r.size))).trans d, hF.below ag, ag⟩
   rw [World.cell?_of_block (a := ⟨O, 0, none⟩) ((d.other O (Nat.lt_of_lt_of_le ac s.size) ap).trans (s.block O ac))]
   exact g0
  have f : Hid (Below W2.heap.size W2 W2.drew /\ rb < w.heap.size + 2 /\ w.heap.size <= rb /\ w0.heap.size <= w.heap.size /\ S rb = none) := ⟨(Below.refl _ _).drew, by omega, by omega, hb.size, ae⟩
  have HV := Hid.hide hv
  have bg : Hid (∀ y : t ≠ .no, ∀ c, S c = some t -> Calls Tryz.prog (fitFn t) #[.pointer (some ⟨c, 0, none⟩), .int .i64 0] W2 fun e w' => e = .returned (.bool (t.fitB 0)) /\ w' = W2) := fun y c X => fit_any w0.heap.size S t y W2 c 0 ah X (by omega)
  obtain ⟨Q, hQ⟩ : ∃ Q, treeF [t] D = Q := ⟨_, rfl⟩
  have HQ : Hid ((if t.fitB 0 = false then Except.error (Er.base 8) else if t.dig = D then Except.ok t else Except.error (Er.base 7)) = Q) := hQ
  rw [hQ, hA]
  have ab : W2.cell? ⟨6, 0, none⟩ = some (.iface 241 (.pointer (some (sent 8)))) := (hF.below H).var 8 (by decide)
  have Y : (W2.setCell ⟨rb, 0, none⟩ .nilIface).cell? ⟨6, 0, none⟩ = some (.iface 241 (.pointer (some (sent 8)))) := by
   have K : 6 < w0.heap.size := hF.low (n := 8) (by decide)
   rw [World.cell?_of_block (a := ⟨6, 0, none⟩) ((box1_set m .nilIface).2.block _ (Nat.lt_of_lt_of_le K H.size) (fun e => by have e' : 6 = rb := e; have := hb.size; omega))]
   exact ab
  have au : Hid (∀ w3, Faults w3 sent -> Below w0.heap.size w0 w3 -> w3.heap[rb]? = some (.cells #[.nilIface] 63 (0, 0)) -> w3.cell? ⟨5, 0, none⟩ = some (.iface 241 (.pointer (some (sent 7)))) /\ (w3.setCell ⟨rb, 0, none⟩ .nilIface).cell? ⟨5, 0, none⟩ = some (.iface 241 (.pointer (some (sent 7))))) := fun w3 h3 ag hx => by
   have K : 5 < w0.heap.size := hF.low (n := 7) (by decide)
   have h7 := h3.var 7 (by decide)
   refine ⟨h7, ?_⟩
   rw [World.cell?_of_block (a := ⟨5, 0, none⟩) ((box1_set hx .nilIface).2.block _ (Nat.lt_of_lt_of_le K ag.size) (fun e => by have e' : 5 = rb := e; have := hb.size; omega))]
   exact h7
  have av := Hid.hide m
  have bh : Hid (Fr w0.heap.size S S w (W2.setCell ⟨rb, 0, none⟩ .nilIface).drew) := Fr.of_below hf ((box1_set m .nilIface).2.below r (by omega) r.size).drew
  clear hf hF hT hM hb hk h8 hD hDb ay c0 hA p aj R ai ar hn aa hQ az hg P ak r H ah aq ap ae aw ac
  rcases hv with ⟨rfl, rfl⟩ | ⟨y, c, rfl, X⟩
  ·have l : Hid ((if Nd.no.dig = D then Except.ok Nd.no else Except.error (Er.base 7)) = Q) := by
    have := HQ.out
    rw [if_neg (by rw [Nd.fitB]; simp)] at this
    exact this
   by_cases k : Nd.no.dig = D
   ·simp only [decide_eq_true k] at J
    have i : Hid (Q = .ok .no) := by
     have := l.out
     rw [if_pos k] at this
     exact this.symm
    clear l k m
    have am := Hid.hide o
    have bi : (W1.alloc (.cells #[.nilIface] 63)).cell? ⟨O, 0, none⟩ = some .nilIface := by rw [o]; exact g0
    clear o
    go_enter Tryz.func36, Tryz.ntmps36
    go_upto_region 6 with fail
    rw [am.out]
    clear I ab Y e0 al
    go_region_held3 (fun w' => w'.rangeAt w.heap.size 0 (D.map encB)) (first | exact L | exact G)
     (first | (go_at_call 24; refine (HR.out _ f.out.1).mono ?_; rintro x w3 ⟨rfl, d⟩; obtain ⟨G, e3, q, F, U, T⟩ := HW.out _ w3 f.out.1 d; obtain ⟨a0, a1⟩ := box1 q; obtain ⟨B, N⟩ := box1_set q (.nilIface); obtain ⟨E, -⟩ := box1 B; have V : Hid (Fr w0.heap.size S S w (w3.setCell ⟨rb, 0, none⟩ (.nilIface))) := F.setCell _ _ f.out.2.2.1 f.out.2.2.2.2; clear d q F U T B N))
    all_goals go_wp2
    all_goals refine bodyPost_ret (v := .tuple #[.agg #[.nilIface], .nilIface]) (by simp [results, Tryz.results36, go_sem, E]) rfl ?_
    all_goals exact ⟨fun er b => (by rw [i.out] at b; cases b), fun _ b => (by rw [i.out] at b; cases b; exact ⟨_, rfl, HV.out, V.out⟩)⟩
   ·simp only [decide_eq_false k] at J
    have i : Hid (Q = .error (.base 7)) := by
     have := l.out
     rw [if_neg k] at this
     exact this.symm
    clear l k m
    have am := Hid.hide o
    have bi : (W1.alloc (.cells #[.nilIface] 63)).cell? ⟨O, 0, none⟩ = some .nilIface := by rw [o]; exact g0
    clear o
    go_enter Tryz.func36, Tryz.ntmps36
    go_upto_region 6 with fail
    rw [am.out]
    clear I ab Y e0 al
    go_region_held3 (fun w' => w'.rangeAt w.heap.size 0 (D.map encB)) (first | exact L | exact G)
     (first | (go_at_call 24; refine (HR.out _ f.out.1).mono ?_; rintro x w3 ⟨rfl, d⟩; obtain ⟨G, e3, q, F, U, T⟩ := HW.out _ w3 f.out.1 d; obtain ⟨a0, a1⟩ := box1 q; obtain ⟨B, N⟩ := box1_set q .nilIface; obtain ⟨E, -⟩ := box1 B; have V : Hid (Fr w0.heap.size S S w (w3.setCell ⟨rb, 0, none⟩ .nilIface)) := F.setCell _ _ f.out.2.2.1 f.out.2.2.2.2; obtain ⟨g7, bj⟩ := au.out w3 U T q; clear d q F U T B N))
    all_goals go_wp2_with fail
    all_goals go_region
    all_goals (try go_wp2)
    all_goals refine bodyPost_ret (v := .tuple #[.agg #[.nilIface], .iface 241 (.pointer (some (sent 7)))]) (by simp [results, Tryz.results36, go_sem, E]) rfl ?_
    all_goals exact ⟨fun er b => (by rw [i.out] at b; cases b; exact ⟨rfl, V.out.trans (Fr.of_below V.out.forest (Below.refl _ _).drew)⟩), fun _ b => (by rw [i.out] at b; cases b)⟩
  ·have hm := mFit t y
   have bq := enFit t y
   have Z := Hid.hide (bg.out y c X)
   cases hfb : t.fitB 0 with
   | false =>
    rw [hfb] at Z
    have i : Hid (Q = .error (.base 8)) := by
     have := HQ.out
     rw [if_pos hfb] at this
     exact this.symm
    obtain ⟨d0, d1⟩ := box1 av.out
    obtain ⟨E, -⟩ := box1 (box1_set av.out .nilIface).1
    clear hfb y X m J
    go_enter Tryz.func36, Tryz.ntmps36
    go_upto_region 5 with (refine Z.out.mono ?_; rintro e w4 ⟨rfl, rfl⟩)
    clear I o
    go_region
    all_goals (try go_wp2)
    refine bodyPost_ret (v := .tuple #[.agg #[.nilIface], .iface 241 (.pointer (some (sent 8)))]) (by simp [results, Tryz.results36, go_sem, E]) rfl ?_
    exact ⟨fun er b => (by rw [i.out] at b; cases b; exact ⟨rfl, bh.out⟩), fun _ b => (by rw [i.out] at b; cases b)⟩
   | true =>
    rw [hfb] at Z
    have l : Hid ((if t.dig = D then Except.ok t else Except.error (Er.base 7)) = Q) := by
     have := HQ.out
     rw [if_neg (by rw [hfb]; simp)] at this
     exact this
    by_cases k : t.dig = D
    ·simp only [decide_eq_true k] at J
     have i : Hid (Q = .ok t) := by
      have := l.out
      rw [if_pos k] at this
      exact this.symm
     clear l k m hfb y X
     go_enter Tryz.func36, Tryz.ntmps36
     go_upto_region 6 with (refine Z.out.mono ?_; rintro e w4 ⟨rfl, rfl⟩)
     clear I o ab Y e0 al
     go_region_held3 (fun w' => w'.rangeAt w.heap.size 0 (D.map encB)) (first | exact L | exact G)
      (first | (go_at_call 24; refine (HR.out _ f.out.1).mono ?_; rintro x w3 ⟨rfl, d⟩; obtain ⟨G, e3, q, F, U, T⟩ := HW.out _ w3 f.out.1 d; obtain ⟨a0, a1⟩ := box1 q; obtain ⟨B, N⟩ := box1_set q (.iface (ndTy t) (.pointer (some ⟨c, 0, none⟩))); obtain ⟨E, -⟩ := box1 B; have V : Hid (Fr w0.heap.size S S w (w3.setCell ⟨rb, 0, none⟩ (.iface (ndTy t) (.pointer (some ⟨c, 0, none⟩))))) := F.setCell _ _ f.out.2.2.1 f.out.2.2.2.2; clear d q F U T B N))
     all_goals go_wp2
     all_goals refine bodyPost_ret (v := .tuple #[.agg #[.iface (ndTy t) (.pointer (some ⟨c, 0, none⟩))], .nilIface]) (by simp [results, Tryz.results36, go_sem, E]) rfl ?_
     all_goals exact ⟨fun er b => (by rw [i.out] at b; cases b), fun _ b => (by rw [i.out] at b; cases b; exact ⟨_, rfl, HV.out, V.out⟩)⟩
    ·simp only [decide_eq_false k] at J
     have i : Hid (Q = .error (.base 7)) := by
      have := l.out
      rw [if_neg k] at this
      exact this.symm
     clear l k m hfb y X
     go_enter Tryz.func36, Tryz.ntmps36
     go_upto_region 6 with (refine Z.out.mono ?_; rintro e w4 ⟨rfl, rfl⟩)
     clear I o ab Y e0 al
     go_region_held3 (fun w' => w'.rangeAt w.heap.size 0 (D.map encB)) (first | exact L | exact G)
      (first | (go_at_call 24; refine (HR.out _ f.out.1).mono ?_; rintro x w3 ⟨rfl, d⟩; obtain ⟨G, e3, q, F, U, T⟩ := HW.out _ w3 f.out.1 d; obtain ⟨a0, a1⟩ := box1 q; obtain ⟨B, N⟩ := box1_set q .nilIface; obtain ⟨E, -⟩ := box1 B; have V : Hid (Fr w0.heap.size S S w (w3.setCell ⟨rb, 0, none⟩ .nilIface)) := F.setCell _ _ f.out.2.2.1 f.out.2.2.2.2; obtain ⟨g7, bj⟩ := au.out w3 U T q; clear d q F U T B N))
     all_goals go_wp2_with fail
     all_goals go_region
     all_goals (try go_wp2)
     all_goals refine bodyPost_ret (v := .tuple #[.agg #[.nilIface], .iface 241 (.pointer (some (sent 7)))]) (by simp [results, Tryz.results36, go_sem, E]) rfl ?_
     all_goals exact ⟨fun er b => (by rw [i.out] at b; cases b; exact ⟨rfl, V.out.trans (Fr.of_below V.out.forest (Below.refl _ _).drew)⟩), fun _ b => (by rw [i.out] at b; cases b)⟩
 ·have hg : W1.cell? ⟨8, 0, none⟩ = some (.iface 241 (.pointer (some (sent 10)))) := (hF.below aa).var 10 (by decide)
  have hQ : treeF ts D = .error (.base 10) := by
   match ts, hn with
   | [], _ => rfl
   | [t], h => exact absurd h.symm G
   | _ :: _ :: _, _ => rfl
  rw [hQ, hA]
  have i1 : ¬ (n : Int) = 1 := by omega
  obtain ⟨d0, d1⟩ := box1 R
  obtain ⟨B, N⟩ := box1_set R .nilIface
  have K := (hF.low (n := 10) (by decide))
  have bv : (W1.setCell ⟨rb, 0, none⟩ .nilIface).cell? ⟨8, 0, none⟩ = some (.iface 241 (.pointer (some (sent 10)))) := by
   rw [World.cell?_of_block (a := ⟨8, 0, none⟩) (N.block _ (Nat.lt_of_lt_of_le K aa.size) (fun e => by have e' : 8 = rb := e; have : 8 < w0.heap.size := K; have := hb.size; omega))]
   exact hg
  obtain ⟨E, -⟩ := box1 B
  have bf : Hid (Fr w0.heap.size S S w (W1.setCell ⟨rb, 0, none⟩ .nilIface).drew) := Fr.of_below hf (N.below p (by omega) p.size).drew
  clear hf hF hT hM hb hk h8 hD hDb ay c0 hA p aj ai ar hn aa G hQ K B N
  go_enter Tryz.func36, Tryz.ntmps36
  go_upto_region 2 with fail
  clear I
  go_region
  all_goals (try go_wp2)
  refine bodyPost_ret (v := .tuple #[.agg #[.nilIface], .iface 241 (.pointer (some (sent 10)))]) (by simp [results, Tryz.results36, go_sem, E]) rfl ?_
  exact ⟨fun er b => (by cases b; exact ⟨rfl, bf.out⟩), fun _ b => (by cases b)⟩
theorem rdTk_size {n : Nat} {s p s1 : ByteArray} (h : rdTk n s = .ok (p, s1)) : s1.size + n = s.size := by
 obtain ⟨a, -, rfl⟩ := rdTk_ok h
 rw [ByteArray.size_extract]
 omega
theorem rdNm_size {s : ByteArray} {n : Nat} {s1 : ByteArray} (h : rdNm s = .ok (n, s1)) : s1.size + 1 = s.size := by
 unfold rdNm at h
 split at h
 ·cases h
 ·cases h
  rw [ByteArray.size_extract]
  omega
theorem rdVl_size {s p s1 : ByteArray} (h : rdVl s = .ok (p, s1)) : s1.size <= s.size := by
 unfold rdVl at h
 split at h
 ·cases h
 ·rename_i h1
  have := rdNm_size h1
  have := rdTk_size h
  omega
theorem rdPth_size {s : ByteArray} {c : Nat × ByteArray} {s1 : ByteArray} (h : rdPth s = .ok (c, s1)) : s1.size <= s.size := by
 unfold rdPth at h
 split at h
 ·cases h
 ·rename_i h1
  split at h
  ·cases h
  ·rename_i h2
   cases h
   have := rdNm_size h1
   have := rdTk_size h2
   omega
theorem opRd_size {s s' : ByteArray} {d : Od} (h : opRd s = .ok (d, s')) : s'.size < s.size := by
 unfold opRd at h
 split at h
 ·cases h
 ·rename_i h1
  cases h
  have := rdNm_size h1
  omega
 ·rename_i h1
  have := rdNm_size h1
  unfold opLeaf at h
  split at h
  ·cases h
  ·rename_i h2
   have := rdPth_size h2
   split at h
   ·cases h
   ·rename_i h3
    have := rdVl_size h3
    split at h
    ·cases h
    ·split at h
     ·cases h
     ·cases h; omega
 ·rename_i h1
  have := rdNm_size h1
  unfold opExt at h
  split at h
  ·cases h
  ·rename_i h2
   have := rdPth_size h2
   split at h
   ·cases h
   ·split at h
    ·cases h
    ·cases h; omega
 ·rename_i h1
  have := rdNm_size h1
  unfold opBr at h
  split at h
  ·cases h
  ·rename_i h2
   have := rdTk_size h2
   split at h
   ·cases h
   ·cases h; omega
 ·rename_i h1
  have := rdNm_size h1
  unfold opStub at h
  split at h
  ·cases h
  ·rename_i h2
   have := rdTk_size h2
   cases h; omega
 ·cases h
theorem stepO_size {s s' : ByteArray} {ts ts' : List Nd} (h : stepO s ts = .ok (ts', s')) : s'.size < s.size /\ ts'.length <= ts.length + 1 := by
 unfold stepO at h
 split at h
 ·cases h
 ·rename_i h1
  have := opRd_size h1
  split at h
  ·cases h
  ·split at h
   ·cases h
   ·cases h
    refine ⟨this, ?_⟩
    rw [List.length_append, List.length_take]
    simp
    try omega
def runO (L : Nat) : Nat -> ByteArray -> List Nd -> Except Er (List Nd)
 | 0, _, ts => .ok ts
 | n + 1, s, ts => match stepO s ts with
  | .error e => .error (.place (L - s.size) e)
  | .ok (ts', s') => runO L (min n s'.size) s' ts'
def openF (D : List Nat) (s : ByteArray) : Except Er Nd :=
 if 8000 < s.size then .error (.base 1) else match runO s.size s.size s [] with
  | .error e => .error e
  | .ok ts => match treeF ts D with
   | .error e => .error (.place s.size e)
   | .ok t => .ok t
theorem runO_zero {L : Nat} {s : ByteArray} {ts : List Nd} (h : s.size = 0) : runO L s.size s ts = .ok ts := by rw [h, runO]
theorem runO_bad {L : Nat} {s : ByteArray} {ts : List Nd} {e : Er} (h0 : 0 < s.size) (h : stepO s ts = .error e) : runO L s.size s ts = .error (.place (L - s.size) e) := by
 obtain ⟨n, a⟩ : ∃ n, s.size = n + 1 := ⟨s.size - 1, by omega⟩
 rw [a, runO, h, a]
theorem runO_step {L : Nat} {s s' : ByteArray} {ts ts' : List Nd} (h0 : 0 < s.size) (h : stepO s ts = .ok (ts', s')) : runO L s.size s ts = runO L s'.size s' ts' := by
 obtain ⟨n, a⟩ : ∃ n, s.size = n + 1 := ⟨s.size - 1, by omega⟩
 have := (stepO_size h).1
 rw [a, runO, h]
 show runO L (min n s'.size) s' ts' = _
 rw [Nat.min_eq_right (by omega)]
structure TpS (sent : Nat -> Addr) (w : World) (q : Except Er Nd) (e : Ending) (w' : World) : Prop where
 bad : ∀ er, q = .error er -> e = .returned (.tuple #[.agg #[.nilIface], er.val sent]) /\ Below w.heap.size w w'
 good : ∀ t, q = .ok t -> ∃ z S', e = .returned (.tuple #[.agg #[z], .nilIface]) /\ ndV S' z t /\ FrX w.heap.size (fun _ => False) (fun _ => none) S' w w'
theorem openF_run {D : List Nat} {s : ByteArray} {e : Er} (h : s.size <= 8000) (hr : runO s.size s.size s [] = .error e) : openF D s = .error e := by
 unfold openF
 rw [if_neg (by omega), hr]
theorem openF_bad {D : List Nat} {s : ByteArray} {ts : List Nd} {e : Er} (h : s.size <= 8000) (hr : runO s.size s.size s [] = .ok ts) (ht : treeF ts D = .error e) : openF D s = .error (.place s.size e) := by
 unfold openF
 rw [if_neg (by omega), hr]
 show (match treeF ts D with | .error e => Except.error (Er.place s.size e) | .ok t => Except.ok t) = _
 rw [ht]
theorem openF_good {D : List Nat} {s : ByteArray} {ts : List Nd} {t : Nd} (h : s.size <= 8000) (hr : runO s.size s.size s [] = .ok ts) (ht : treeF ts D = .ok t) : openF D s = .ok t := by
 unfold openF
 rw [if_neg (by omega), hr]
 show (match treeF ts D with | .error e => Except.error (Er.place s.size e) | .ok t => Except.ok t) = _
 rw [ht]
theorem list_full {s : ByteArray} (h : ¬ s.size = 0) : s.toList.isEmpty = false := by
 cases hl : s.toList with
 | nil =>
  have : (bytesOf s).length = s.size := bytesOf_length s
  unfold bytesOf at this
  rw [Lib.toList_data] at hl
  rw [hl] at this
  simp at this
  omega
 | cons _ _ => rfl
theorem topen_any (sent : Nat -> Addr) {w : World} (s : ByteArray) {D : List Nat} (hF : Faults w sent) (hB : Bru w) (hT : Tabs w) (hM : 15 <= w.heap.size) (hD : D.length = 32) (hDb : ∀ x ∈ D, x < 256) :
  Calls Tryz.prog 22 #[.agg (D.map encB).toArray, .string s] w fun e w' => TpS sent w (openF D s) e w' := by
 obtain ⟨A, hA⟩ : ∃ A, (D.map encB).toArray = A := ⟨_, rfl⟩
 obtain ⟨r, ah, b, ac⟩ := alloc2 w (.cells A 38) (.cells #[.nilIface] 63)
 obtain ⟨J, ao⟩ : ∃ x, (w.alloc (.cells A 38)).alloc (.cells #[.nilIface] 63) = x := ⟨_, rfl⟩
 rw [ao] at r ah b ac
 obtain ⟨xb, bk⟩ : ∃ x, w.heap.size + 1 = x := ⟨_, rfl⟩
 rw [bk] at b ac
 by_cases h8 : 8000 < s.size
 ·have hQ : openF D s = .error (.base 1) := by unfold openF; rw [if_pos h8]
  rw [hQ, hA]
  have i1 : (8000 : Int) < (s.size : Int) := by omega
  have ay := (hF.below r)
  have hg : J.cell? ⟨0, 0, none⟩ = some (.iface 241 (.pointer (some (sent 1)))) := ay.var 1 (by decide)
  obtain ⟨d0, d1⟩ := box1 b
  obtain ⟨H, E⟩ := box1_set b .nilIface
  have bf : 0 < w.heap.size := hF.low (n := 1) (by decide)
  have bq : (J.setCell ⟨xb, 0, none⟩ .nilIface).cell? ⟨0, 0, none⟩ = some (.iface 241 (.pointer (some (sent 1)))) := by
   rw [World.cell?_of_block (a := ⟨0, 0, none⟩) (E.block _ (Nat.lt_of_lt_of_le bf r.size) (fun e => by have e' : 0 = xb := e; omega))]
   exact hg
  obtain ⟨Q, -⟩ := box1 H
  have bn : Hid (Below w.heap.size w (J.setCell ⟨xb, 0, none⟩ .nilIface).drew) := (E.below r (by omega) r.size).drew
  clear hF hB hT hM hD hDb hA r ah b ac h8 hQ ay H E bf
  go_enter Tryz.func22, Tryz.ntmps22
  go_upto_region 2 with fail
  clear ao
  go_region
  all_goals (try go_wp2)
  refine bodyPost_ret (v := .tuple #[.agg #[.nilIface], .iface 241 (.pointer (some (sent 1)))]) (by simp [results, Tryz.results22, go_sem, Q]) rfl ?_
  exact ⟨fun er G => (by cases G; exact ⟨rfl, bn.out⟩), fun _ G => (by cases G)⟩
 ·have i1 : ¬ (8000 : Int) < (s.size : Int) := by omega
  obtain ⟨U, ai, aj, ae⟩ := alloc2 J (.cells #[.slice none 0 0] 89) (.cells #[.string s] 91)
  obtain ⟨W1, ba⟩ : ∃ x, (J.alloc (.cells #[.slice none 0 0] 89)).alloc (.cells #[.string s] 91) = x := ⟨_, rfl⟩
  rw [ba] at U ai aj ae
  obtain ⟨sb, ar⟩ : ∃ x, J.heap.size = x := ⟨_, rfl⟩
  obtain ⟨F, aq⟩ : ∃ x, J.heap.size + 1 = x := ⟨_, rfl⟩
  rw [aq] at aj ae
  rw [ar] at ai
  have ap : Below w.heap.size w W1 := r.trans (U.mono r.size)
  have bc : Forest w.heap.size (fun _ => none) w := forest_none w
  have az : Stk (fun _ => none) W1.heap.size sb [] (.slice none 0 0) [] W1 := ⟨ai, OwnC.nil _ _ _, fun i h1 _ => (by simp at h1), fun k e => rfl⟩
  have g : W1.rangeAt w.heap.size 0 (D.map encB) := rangeAt_block (w := J) (fun j u hu => by
   rw [Nat.zero_add, World.cell?, ah, <- hA]
   simpa using hu) (U.block _ (by omega))
  have av : W1.heap[xb]? = some (.cells #[.nilIface] 63 (0, 0)) := (U.block xb (by omega)).trans b
  have X : Hid (Faults w sent /\ Bru w /\ Tabs w /\ 15 <= w.heap.size /\ D.length = 32 /\ (∀ x ∈ D, x < 256)) := ⟨hF, hB, hT, hM, hD, hDb⟩
  have C : Hid (Below w.heap.size w W1 /\ w.heap.size + 1 = xb /\ sb = xb + 1 /\ F = sb + 1 /\ W1.heap.size = F + 1 /\ W1.rangeAt w.heap.size 0 (D.map encB) /\ W1.heap[xb]? = some (.cells #[.nilIface] 63 (0, 0))) := ⟨ap, bk, by omega, by omega, ae, g, av⟩
  have am : Hid (FrX w.heap.size (w.heap.size <= ·) (fun _ => none) (fun _ => none) w W1 /\ RdAt W1 F s /\ Stk (fun _ => none) W1.heap.size sb [] (.slice none 0 0) [] W1) := ⟨(Fr.of_below bc ap).x _, aj, az⟩
  obtain ⟨R, K⟩ : ∃ R, runO s.size s.size s [] = R := ⟨_, rfl⟩
  have I : Hid (s.size <= 8000 /\ runO s.size s.size s [] = R) := ⟨by omega, K⟩
  have bo : (Tryz.prog.info? 38).map (·.size) = some (D.map encB).length := by rw [List.length_map, hD]; kernel_rfl
  rw [hA]
  have HN : Hid (J.heap.size = sb /\ J.heap.size + 1 = F) := ⟨ar, aq⟩
  clear hF hB hT hM hD hDb r ah b ac h8 U ai aj ae ar aq ap bc az g av K
  go_enter Tryz.func22, Tryz.ntmps22
  go_upto_region 5 with fail
  rw [HN.out.2, HN.out.1]
  clear ao ba i1
  go_loopg [9] s.size (fun gh _ wr => ∃ f L m v zs, gh = f.size /\ runO s.size f.size f L = R /\ FrX w.heap.size (w.heap.size <= ·) (fun _ => none) m w wr /\ RdAt wr F f /\ Stk m W1.heap.size sb L v zs wr /\ L.length + f.size <= s.size /\ wr.rangeAt w.heap.size 0 (D.map encB) /\ wr.heap[xb]? = some (.cells #[.nilIface] 63 (0, 0)) /\ W1.heap.size <= wr.heap.size /\ m xb = none /\ m w.heap.size = none /\ m sb = none /\ m F = none)
  case atStart => exact ⟨s, [], _, _, [], rfl, I.out.2, am.out.1, am.out.2.1, am.out.2.2, by simp, C.out.2.2.2.2.2.1, C.out.2.2.2.2.2.2, Nat.le_refl _, rfl, rfl, rfl, rfl⟩
  case round =>
   obtain ⟨f, L, m, v, zs, rfl, K, O, hr, Z, hl, g, hx, ag, n1, n2, n3, n4⟩ := hrel
   obtain ⟨c0, c1, -⟩ := hr.cell
   obtain ⟨a0, a1⟩ := box1 hx
   have B : Hid (runO s.size f.size f L = R /\ FrX w.heap.size (w.heap.size <= ·) (fun _ => none) m w wr /\ RdAt wr F f /\ Stk m W1.heap.size sb L v zs wr /\ L.length + f.size <= s.size /\ wr.rangeAt w.heap.size 0 (D.map encB) /\ wr.heap[xb]? = some (.cells #[.nilIface] 63 (0, 0)) /\ W1.heap.size <= wr.heap.size /\ m xb = none /\ m w.heap.size = none /\ m sb = none /\ m F = none) := ⟨K, O, hr, Z, hl, g, hx, ag, n1, n2, n3, n4⟩
   have aa : Below w.heap.size w wr := O.below (forest_none w) fun _ h => h
   by_cases h0 : f.size = 0
   ·obtain rfl : f = ⟨#[]⟩ := ByteArray.ext (Array.eq_empty_of_size_eq_zero h0)
    have HT := Hid.hide (stree_any (w0 := w) sent O.forest X.out.1 X.out.2.2.1 X.out.2.2.2.1 aa Z (by have := I.out.1; omega) X.out.2.2.2.2.1 X.out.2.2.2.2.2)
    have HR : Hid (R = .ok L) := by have h := K; rw [runO_zero h0] at h; exact h.symm
    have bl : xb < wr.heap.size := by have := C.out; omega
    clear K O hr Z hl hx ag n1 n2 n3 n4 h0 aa
    rw [hA] at HT
    go_wp2_with (refine wpList_load_mid rfl 38 _ rfl w.heap.size 0 rfl (D.map encB) _ g Tryz.underlying38 rfl bo ?_)
    refine HT.out.mono ?_
    intro e w2 p
    cases hq : treeF L D with
    | error er =>
     obtain ⟨rfl, y⟩ := p.bad er hq
     obtain ⟨T, x, G⟩ : ∃ T x, er.val sent = .iface T x := by cases er <;> exact ⟨_, _, rfl⟩
     have b : (w2.alloc (.cells #[.nilIface] 63)).heap[xb]? = some (.cells #[.nilIface] 63 (0, 0)) := (heap_old w2 _ (by have := y.size; omega)).trans ((y.other xb bl B.out.2.2.2.2.2.2.2.2.1).trans B.out.2.2.2.2.2.2.1)
     obtain ⟨b0, b1⟩ := box1 b
     obtain ⟨H, E⟩ := box1_set b .nilIface
     obtain ⟨Q, -⟩ := box1 H
     have HE : Hid (TpS sent w (openF D s) (.returned (.tuple #[.agg #[.nilIface], .iface 95 (.agg #[.int .i64 (s.size : Int), .iface T x])])) ((w2.alloc (.cells #[.nilIface] 63)).setCell ⟨xb, 0, none⟩ .nilIface)) := by
      rw [openF_bad I.out.1 (I.out.2.trans HR.out) hq]
      have N : Below w.heap.size w w2 := (B.out.2.1.below (forest_none w) fun _ h => h).trans ((y.x (fun _ => False)).below B.out.2.1.forest fun _ h => h.elim)
      refine ⟨fun aw h => ?_, fun _ h => (by cases h)⟩
      cases h
      rw [Er.val, G]
      exact ⟨rfl, E.below (N.alloc N.size _) (by have := C.out; omega) (by have := N.size; simp; omega)⟩
     rw [G]
     clear p hq y G b H E g c0 c1 a0 a1 HT
     go_wp2
     refine bodyPost_ret (v := .tuple #[.agg #[.nilIface], .iface 95 (.agg #[.int .i64 (s.size : Int), .iface T x])]) (by simp [results, Tryz.results22, go_sem, Q]) rfl ?_
     exact HE.out
    | ok t =>
     obtain ⟨z, rfl, hz, y⟩ := p.good t hq
     have b : (w2.alloc (.cells #[z] 63)).heap[xb]? = some (.cells #[.nilIface] 63 (0, 0)) := (heap_old w2 _ (by have := y.size; omega)).trans ((y.other xb bl B.out.2.2.2.2.2.2.2.2.1).trans B.out.2.2.2.2.2.2.1)
     obtain ⟨b0, b1⟩ := box1 b
     obtain ⟨H, E⟩ := box1_set b z
     obtain ⟨Q, -⟩ := box1 H
     obtain ⟨y0, -⟩ := box1 (heap_new w2 (.cells #[z] 63))
     have HE : Hid (TpS sent w (openF D s) (.returned (.tuple #[.agg #[z], .nilIface])) ((w2.alloc (.cells #[z] 63)).setCell ⟨xb, 0, none⟩ z)) := by
      rw [openF_good I.out.1 (I.out.2.trans HR.out) hq]
      refine ⟨fun aw h => (by cases h), fun t' h => ?_⟩
      cases h
      have ab : Below w2.heap.size w2 (w2.alloc (.cells #[z] 63)) := (Below.refl _ _).alloc (Nat.le_refl _) _
      have g1 : FrX w.heap.size (w.heap.size <= ·) (fun _ => none) m w (w2.alloc (.cells #[z] 63)) := (B.out.2.1.trans (y.x _)).behind ab
      have S := g1.over E (by have := C.out; omega) B.out.2.2.2.2.2.2.2.2.1
      exact ⟨z, m, rfl, hz, S.os, S.tape, S.output, S.size, fun k Z hs _ => S.other k Z hs (by omega), S.forest, S.sub, S.new⟩
     have HZ := Hid.hide hz
     clear p hq y b H E g c0 c1 a0 a1 HT hz
     rcases HZ.out with ⟨-, rfl⟩ | ⟨-, c, rfl, -⟩
     ·go_wp2
      refine bodyPost_ret (v := .tuple #[.agg #[.nilIface], .nilIface]) (by simp [results, Tryz.results22, go_sem, Q]) rfl ?_
      exact HE.out
     ·go_wp2
      refine bodyPost_ret (v := .tuple #[.agg #[.iface (ndTy t) (.pointer (some ⟨c, 0, none⟩))], .nilIface]) (by simp [results, Tryz.results22, go_sem, Q]) rfl ?_
      exact HE.out
   ·have bi : f.toList.isEmpty = false := list_full h0
    obtain ⟨k, bh⟩ : ∃ k, s.size - f.size = k := ⟨_, rfl⟩
    have KW : wrap64 ((s.size : Int) - (f.size : Int)) = (k : Int) := by
     have := I.out.1
     unfold wrap64
     omega
    have HX := Hid.hide (snext_any (w0 := w) sent O.forest X.out.1 X.out.2.1 aa hr Z (by have := C.out; omega) (by have := C.out; omega) (by have := C.out; omega) (by have := C.out; omega) (by have := C.out; omega) n4 n3 (by have := I.out.1; omega) ag)
    have ak : Hid (0 < f.size /\ s.size - f.size = k) := ⟨by omega, bh⟩
    clear K O hr Z hl hx ag n1 n2 n3 n4 h0 aa g bh
    go_wp2_with fail
    refine HX.out.mono ?_
    intro e w2 p
    have l : xb < W1.heap.size /\ xb ≠ F /\ xb ≠ sb /\ w.heap.size < W1.heap.size /\ w.heap.size ≠ F /\ w.heap.size ≠ sb := by have := C.out; omega
    cases hq : stepO f L with
    | error er =>
     obtain ⟨rfl, N, P⟩ := p.bad er hq
     obtain ⟨T, x, G⟩ : ∃ T x, er.val sent = .iface T x := by cases er <;> exact ⟨_, _, rfl⟩
     have b : w2.heap[xb]? = some (.cells #[.nilIface] 63 (0, 0)) := (P xb l.1 l.2.1 l.2.2.1 B.out.2.2.2.2.2.2.2.2.1).trans B.out.2.2.2.2.2.2.1
     obtain ⟨b0, b1⟩ := box1 b
     obtain ⟨H, E⟩ := box1_set b .nilIface
     obtain ⟨Q, -⟩ := box1 H
     have HE : Hid (TpS sent w (openF D s) (.returned (.tuple #[.agg #[.nilIface], .iface 95 (.agg #[.int .i64 (k : Int), .iface T x])])) (w2.setCell ⟨xb, 0, none⟩ .nilIface)) := by
      have K := B.out.1
      rw [runO_bad ak.out.1 hq, ak.out.2] at K
      rw [openF_run I.out.1 (I.out.2.trans K.symm)]
      have ab : Below w.heap.size w w2 := (B.out.2.1.below (forest_none w) fun _ h => h).trans N
      refine ⟨fun aw h => ?_, fun _ h => (by cases h)⟩
      cases h
      rw [Er.val, G]
      exact ⟨rfl, E.below ab (by have := C.out; omega) ab.size⟩
     rw [G]
     clear p hq N P G b H E c0 c1 a0 a1 l HX bi
     go_wp2
     refine bodyPost_ret (v := .tuple #[.agg #[.nilIface], .iface 95 (.agg #[.int .i64 (k : Int), .iface T x])]) (by simp [results, Tryz.results22, go_sem, Q]) rfl ?_
     exact HE.out
    | ok q =>
     obtain ⟨W, V⟩ := q
     obtain ⟨Y, v2, bm, rfl, o, bj, bg, P⟩ := p.good W V hq
     have d := B.out
     have au := stepO_size hq
     have al : Hid (V.size < f.size /\ runO s.size V.size V W = R /\ FrX w.heap.size (w.heap.size <= ·) (fun _ => none) Y w w2 /\ RdAt w2 F V /\ Stk Y W1.heap.size sb W v2 bm w2 /\ W.length + V.size <= s.size /\ w2.rangeAt w.heap.size 0 (D.map encB) /\ w2.heap[xb]? = some (.cells #[.nilIface] 63 (0, 0)) /\ W1.heap.size <= w2.heap.size /\ Y xb = none /\ Y w.heap.size = none /\ Y sb = none /\ Y F = none) := by
      have hW := C.out
      have hs := d.2.2.2.2.2.2.2.1
      refine ⟨au.1, (runO_step ak.out.1 hq).symm.trans d.1, d.2.1.trans o, bj, bg, by have := d.2.2.2.2.1; omega, rangeAt_block d.2.2.2.2.2.1 (P _ l.2.2.2.1 l.2.2.2.2.1 l.2.2.2.2.2 d.2.2.2.2.2.2.2.2.2.1), (P xb l.1 l.2.1 l.2.2.1 d.2.2.2.2.2.2.2.2.1).trans d.2.2.2.2.2.2.1, Nat.le_trans hs o.size, o.new _ (by omega) d.2.2.2.2.2.2.2.2.1, o.new _ (by omega) d.2.2.2.2.2.2.2.2.2.1, o.new _ (by omega) d.2.2.2.2.2.2.2.2.2.2.1, o.new _ (by omega) d.2.2.2.2.2.2.2.2.2.2.2⟩
     clear p hq o bj bg P d au c0 c1 a0 a1 l HX bi KW
     go_wp2
     go_roundg V.size
     case measure => exact al.out.1
     case rel => exact ⟨V, W, Y, v2, bm, rfl, al.out.2⟩
structure XoS (w : World) (q : Except Er Nd) (e : Ending) (w' : World) : Prop where
 bad : ∀ er, q = .error er -> e = .returned (.tuple #[.pointer none, faultV er.num er.proof er.node er.at_]) /\ Below w.heap.size w w'
 good : ∀ t, q = .ok t -> ∃ b S', e = .returned (.tuple #[.pointer (some ⟨b, 0, none⟩), faultV 0 0 0 0]) /\ TreeAt S' w' b t /\ w.heap.size <= b /\ FrX w.heap.size (fun _ => False) (fun _ => none) S' w w'
theorem Forest.lowB {B B' : Nat} {S : Wood} {w : World} (h : Forest B S w) (hB : B' <= B) : Forest B' S w := ⟨h.node, h.ok, fun b t hb => Nat.le_trans hB (h.low b t hb), Nat.le_trans hB h.le⟩
theorem fault_only {w : World} {b : Nat} (y0 y1 y2 y3 : Value) : Only b w ((((w.setCell ⟨b, 0, none⟩ y0).setCell ⟨b, 1, none⟩ y1).setCell ⟨b, 2, none⟩ y2).setCell ⟨b, 3, none⟩ y3) :=
 ⟨rfl, rfl, rfl, by simp, fun k _ hne => (Below.heap_setCell _ _ _ _ hne).trans ((Below.heap_setCell _ _ _ _ hne).trans ((Below.heap_setCell _ _ _ _ hne).trans (Below.heap_setCell _ _ _ _ hne)))⟩
end Go.Proofs.YtcglpladmeelaaaGreatDoor
