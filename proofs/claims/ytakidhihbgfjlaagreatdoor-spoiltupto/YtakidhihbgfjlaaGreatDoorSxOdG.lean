/-
  Open: does a node fit at a depth?
-/
import Derived.Test.YtakidhihbgfjlaaGreatDoorSxOcG
import Derived.Test.YtakidhihbgfjlaaGreatDoorSxSaG
namespace Go.Proofs.YtakidhihbgfjlaaGreatDoor
open Go.RowKit
set_option maxRecDepth 100000
set_option maxHeartbeats 25600000
mutual
def Nd.fitB : Nd -> Nat -> Bool
 | .no, _ => true
 | .leaf p _, d => decide (d + p.size = 64)
 | .ext p t, d => decide (d + p.size < 64) && t.fitB (d + p.size)
 | .br ks, d => decide (d < 64) && fitBs ks (d + 1)
 | .stub _, _ => true
def fitBs : List Nd -> Nat -> Bool
 | [], _ => true
 | t :: ts, d => t.fitB d && fitBs ts d
end
theorem Qrj (ks : List Nd) (d k : Nat) (hk : k < ks.length) : fitBs (ks.take (k + 1)) d = (fitBs (ks.take k) d && ks[k].fitB d) := by
 induction ks generalizing k with
 | nil => simp at hk
 | cons t ts ih =>
  cases k with
  | zero => simp [fitBs]
  | succ k =>
   rw [List.take_succ_cons, List.take_succ_cons, fitBs, fitBs, ih k (by simpa using hk), Bool.and_assoc]
   rfl
variable {ks : List Nd}
theorem Qoy {d k : Nat} (h : fitBs (ks.take k) d = false) : fitBs ks d = false := by
 induction ks generalizing k with
 | nil => simp [fitBs] at h
 | cons t ts ih =>
  cases k with
  | zero => simp [fitBs] at h
  | succ k =>
   rw [List.take_succ_cons, fitBs] at h
   rw [fitBs]
   cases ht : t.fitB d with
   | false => rfl
   | true =>
    rw [ht, Bool.true_and] at h
    rw [Bool.true_and]
    exact ih h
def fitFn : Nd -> FuncId
 | .no => 0
 | .leaf _ _ => 140
 | .ext _ _ => 181
 | .br _ => 170
 | .stub _ => 136
theorem mFit (t : Nd) (ht : t ≠ .no) (a : Addr) (w : World) : (Go.method 386 (ndTy t) (.pointer (some a)) "twigs/tree.fits").run Tryz.prog w = .ok (fitFn t, .pointer (some a)) w := by
 cases t with
 | no => exact absurd rfl ht
 | leaf _ _ => kernel_rfl
 | ext _ _ => kernel_rfl
 | br _ => kernel_rfl
 | stub _ => kernel_rfl
theorem QAi (t : Nd) (ht : t ≠ .no) (args : Array Value) (w : World) : (callFunc (fitFn t) args).run Tryz.prog w = .ok (.enter (fitFn t) args) w := by
 cases t with
 | no => exact absurd rfl ht
 | leaf _ _ => kernel_rfl
 | ext _ _ => kernel_rfl
 | br _ => kernel_rfl
 | stub _ => kernel_rfl
def FitC (B : Nat) (S : Wood) (t : Nd) : Prop := ∀ (w : World) (c d : Nat), Forest B S w -> S c = some t -> d <= 64 -> Calls Tryz.prog (fitFn t) #[.pointer (some ⟨c, 0, none⟩), .int .i64 (d : Int)] w fun e w' => e = .returned (.bool (t.fitB d)) /\ w' = w
variable {B : Nat} {S : Wood} {p : ByteArray}
theorem Qy1 {v : ByteArray} : FitC B S (.leaf p v) := fun w c d hf hc hd => by
 obtain ⟨g, r, _, hr', c0, rg, _, _⟩ := (hf.node c _ hc).cell
 obtain rfl : r = [.string p, .string v] := hr'
 have c1 : w.cell? ⟨c, 1, none⟩ = some (.string p) := rg 0 _ rfl
 have hok := hf.ok c _ hc
 rw [Nd.ok] at hok
 have hp := hok.1.1
 have hs : wrap64 ((d : Int) + (p.size : Int)) = ((d + p.size : Nat) : Int) := by unfold wrap64; omega
 have HE : Hid ((decide (((d + p.size : Nat) : Int) = 64)) = (Nd.leaf p v).fitB d) := by
  rw [Nd.fitB]
  show decide _ = decide _
  congr 1
  exact propext (by omega)
 clear hf hc rg hok c0 hd
 show Calls Tryz.prog 140 _ _ _
 go_enter Tryz.func140, Tryz.ntmps140
 go_wp2
 go_ret
 refine ⟨?_, rfl⟩
 rw [<- HE.out]
 rfl
theorem Qy2 {h : List Nat} : FitC B S (.stub h) := fun w c d hf hc hd => by
 clear hf hc hd
 show Calls Tryz.prog 136 _ _ _
 go_enter Tryz.func136, Tryz.ntmps136
 go_wp2
 go_ret
 exact ⟨rfl, rfl⟩
variable {t : Nd}
theorem QAj (ih : t ≠ .no -> FitC B S t) : FitC B S (.ext p t) := fun w nb d hf hb hd => by
 obtain ⟨g, r, _, hr', c0, rg, _, _⟩ := (hf.node nb _ hb).cell
 obtain ⟨tv, rfl, hv⟩ : ∃ v, r = [.string p, v] /\ ndV S v t := hr'
 have c1 : w.cell? ⟨nb, 1, none⟩ = some (.string p) := rg 0 _ rfl
 have c2 : w.cell? ⟨nb, 2, none⟩ = some tv := rg 1 _ rfl
 have hok := hf.ok nb _ hb
 rw [Nd.ok] at hok
 have hp := hok.1.1
 rcases hv with ⟨hv, _⟩ | ⟨hne, c, rfl, hc⟩
 ·exact absurd hv hok.2.2
 have hm := mFit t hne
 have hfn := QAi t hne
 obtain ⟨q, hq⟩ : ∃ q, d + p.size = q := ⟨_, rfl⟩
 have hs : wrap64 ((d : Int) + (p.size : Int)) = (q : Int) := by unfold wrap64; omega
 have hE : (Nd.ext p t).fitB d = (decide (q < 64) && t.fitB q) := by rw [Nd.fitB, hq]
 rw [hE]
 by_cases hlt : q < 64
 ·have HC := Hq (ih hne w c q hf hc (by omega))
  have i1 : (q : Int) < 64 := by omega
  have HE : Hid ((decide (q < 64) && t.fitB q) = t.fitB q) := by
   have h : (decide (q < 64) && t.fitB q) = t.fitB q := by simp [hlt]
   exact h
  clear hf hb rg hok c0 hd hc hp hlt hE hq ih
  show Calls Tryz.prog 181 _ _ _
  go_enter Tryz.func181, Tryz.ntmps181
  go_wp2_with fail
  refine HC.out.mono ?_
  rintro e a ⟨rfl, rfl⟩
  go_wp2
  go_ret
  exact ⟨by rw [HE.out]; rfl, rfl⟩
 ·have i1 : ¬ (q : Int) < 64 := by omega
  have HE : Hid ((decide (q < 64) && t.fitB q) = false) := by
   have h : (decide (q < 64) && t.fitB q) = false := by simp [hlt]
   exact h
  clear hf hb rg hok c0 hd hc hp hlt hE hq ih
  show Calls Tryz.prog 181 _ _ _
  go_enter Tryz.func181, Tryz.ntmps181
  go_wp2
  go_ret
  exact ⟨by rw [HE.out]; rfl, rfl⟩
theorem QCm (ih : ∀ x ∈ ks, x ≠ .no -> FitC B S x) : FitC B S (.br ks) := fun w nb d hf hb hd => by
 obtain ⟨g, r, _, hr', c0, rg, _, _⟩ := (hf.node nb _ hb).cell
 obtain ⟨hr16, hrv⟩ : r.length = 16 /\ ∀ i (h1 : i < r.length) (h2 : i < ks.length), ndV S r[i] ks[i] := hr'
 have hok := hf.ok nb _ hb
 rw [Nd.ok] at hok
 have hsz : (Tryz.prog.info? 233).map (·.size) = some r.length := by rw [hr16]; kernel_rfl
 have hE : (Nd.br ks).fitB d = (decide (d < 64) && fitBs ks (d + 1)) := by rw [Nd.fitB]
 rw [hE]
 by_cases hlt : d < 64
 ·have i1 : ¬ (64 : Int) <= (d : Int) := by omega
  have hs : wrap64 ((d : Int) + 1) = ((d + 1 : Nat) : Int) := by unfold wrap64; omega
  obtain ⟨f, hfe⟩ : ∃ f, (decide (d < 64) && fitBs ks (d + 1)) = f := ⟨_, rfl⟩
  have HE : Hid (f = fitBs ks (d + 1) /\ d < 64) := ⟨by rw [<- hfe]; simp [hlt], hlt⟩
  rw [hfe]
  have HK : Hid (ks.length = 16 /\ r.length = 16 /\ Forest B S w) := ⟨hok.1, hr16, hf⟩
  have HV : Hid (∀ i (h1 : i < r.length) (h2 : i < ks.length), ndV S r[i] ks[i]) := hrv
  have HI := Hq ih
  clear hf hb hr16 hrv hok c0 hd hlt hE hfe ih
  show Calls Tryz.prog 170 _ _ _
  go_enter Tryz.func170, Tryz.ntmps170
  go_wp2_with (refine wpList_load_mid rfl 233 _ rfl nb 1 rfl r _ rg Tryz.underlying233 rfl hsz ?_)
  clear rg
  go_loopg [13] 16 (fun gh i wr => ∃ k, k <= 16 /\ gh = 16 - k /\ i = .int .i64 (k : Int) /\ wr = w /\ fitBs (ks.take k) (d + 1) = true)
  case atStart => exact ⟨0, Nat.zero_le _, rfl, rfl, rfl, by simp [fitBs]⟩
  case round =>
   obtain ⟨k, hk, rfl, rfl, rfl, hb⟩ := hrel
   by_cases hlt : k < 16
   ·have hki : (k : Int) < 16 := by omega
    have hkr : k < r.length := by have := HK.out.2.1; omega
    have hkk : k < ks.length := by have := HK.out.1; omega
    have hv := HV.out k hkr hkk
    have q0 := fun w => Qde r k hkr HK.out.2.1 w
    have hx := List.getElem_mem hkk
    have hn := Qrj ks (d + 1) k hkk
    rw [hb, Bool.true_and] at hn
    obtain ⟨t, ht⟩ : ∃ t, ks[k] = t := ⟨_, rfl⟩
    rw [ht] at hv hx hn
    obtain ⟨z, hz⟩ : ∃ z, r[k] = z := ⟨_, rfl⟩
    rw [hz] at hv
    simp only [hz] at q0
    have HN := Hq hn
    clear hb hn ht hz
    rcases hv with ⟨rfl, rfl⟩ | ⟨hne, c, rfl, hc⟩
    ·clear hx
     go_wp2
     go_roundg (16 - (k + 1))
     case measure => omega
     case rel => exact ⟨k + 1, by omega, rfl, by simp, rfl, HN.out⟩
    ·have hm := mFit t hne
     have hfn := QAi t hne
     have HC := Hq (HI.out t hx hne wr c (d + 1) HK.out.2.2 hc (by have := HE.out.2; omega))
     cases hfb : t.fitB (d + 1) with
     | true =>
      rw [hfb] at HC
      have HN2 : Hid (fitBs (ks.take (k + 1)) (d + 1) = true) := HN.out.trans hfb
      clear hx hc hne hfb
      go_wp2_with fail
      refine HC.out.mono ?_
      rintro e w1 ⟨rfl, rfl⟩
      go_wp2
      go_roundg (16 - (k + 1))
      case measure => omega
      case rel => exact ⟨k + 1, by omega, rfl, by simp, rfl, HN2.out⟩
     | false =>
      rw [hfb] at HC
      have HN2 : Hid (f = false) := HE.out.1.trans (Qoy (HN.out.trans hfb))
      clear hx hc hne hfb
      go_wp2_with fail
      refine HC.out.mono ?_
      rintro e w1 ⟨rfl, rfl⟩
      go_wp2
      go_ret
      exact ⟨by rw [HN2.out]; rfl, rfl⟩
   ·obtain rfl : k = 16 := by omega
    rw [List.take_of_length_le (by have := HK.out.1; omega)] at hb
    have HN2 : Hid (f = true) := HE.out.1.trans hb
    clear hb hlt hk
    go_wp2
    go_ret
    exact ⟨by rw [HN2.out]; rfl, rfl⟩
 ·have i1 : (64 : Int) <= (d : Int) := by omega
  have HE : Hid ((decide (d < 64) && fitBs ks (d + 1)) = false) := by
   have h : (decide (d < 64) && fitBs ks (d + 1)) = false := by simp [hlt]
   exact h
  clear hf hb rg hok c0 hd hlt hE hr16 hrv hsz ih
  show Calls Tryz.prog 170 _ _ _
  go_enter Tryz.func170, Tryz.ntmps170
  go_wp2
  go_ret
  exact ⟨by rw [HE.out]; rfl, rfl⟩
mutual
theorem Qoz (B : Nat) (S : Wood) : ∀ t : Nd, t ≠ .no -> FitC B S t
 | .no, h => absurd rfl h
 | .leaf _ _, _ => Qy1
 | .ext _ t, _ => QAj fun h => Qoz B S t h
 | .br ks, _ => QCm fun x hx hne => Qpx B S ks x hx hne
 | .stub _, _ => Qy2
theorem Qpx (B : Nat) (S : Wood) : ∀ ks : List Nd, ∀ x ∈ ks, x ≠ .no -> FitC B S x
 | [], _, h, _ => by cases h
 | t :: ks, x, h, hn => by
  rcases List.mem_cons.1 h with e | h
  ·rw [e] at hn ⊢
   exact Qoz B S t hn
  ·exact Qpx B S ks x h hn
end
variable {w : World}
theorem Qrk {b : Nat} (hf : Forest B S w) (hT : Tabs w) (hM : 15 <= B) {v : Value} (hbl : b < w.heap.size) (hv : ndV S v t) (c0 : w.cell? ⟨b, 0, none⟩ = some v) :
  Calls Tryz.prog 22 #[.pointer (some ⟨b, 0, none⟩)] w fun e w' => e = .returned (.agg (t.dig.map encB).toArray) /\ Fr B S S w w' := by
 have j := Hq hf
 have J := Hq hT
 have F := Hq hM
 have C : t.dig.length = 32 := by
  rcases hv with ⟨rfl, _⟩ | ⟨_, c, _, hc⟩
  ·rw [Nd.dig_no]; exact Qak _
  ·exact t.dig_length (hf.ok c t hc)
 obtain ⟨D, G⟩ : ∃ D : Array Nat, t.dig.toArray = D := ⟨_, rfl⟩
 have n : t.dig = D.toList := by rw [<- G]
 have u : Hid (D.size = 32 /\ t.dig = D.toList) := ⟨by rw [<- G]; simpa using C, n⟩
 rw [n]
 have E : ∀ w0, Below w.heap.size w w0 -> Tabs w0 := fun w0 a => J.out.below a (by have := F.out; have := j.out.le; omega)
 have x := Hq E
 clear hf hT hM G n C E
 rcases hv with ⟨rfl, rfl⟩ | ⟨hne, c, rfl, hc⟩
 ·go_enter Tryz.func22, Tryz.ntmps22
  go_wp2_with fail
  generalize hw0 : (w.alloc (.cells _ 37)) = w0
  have a : Below w.heap.size w w0 := by rw [<- hw0]; exact (Below.refl _ _).alloc (Nat.le_refl _) _
  have i : w0.there w.heap.size 0 32 := by rw [<- hw0]; exact Qac _ _ _ _ rfl
  have g : w.heap.size < w0.heap.size := by rw [<- hw0]; simp
  clear hw0
  refine (Qhl w0).mono ?_
  rintro e w1 ⟨rfl, m⟩
  have y : Below w.heap.size w w1 := Below.behind a m
  have h : Hid (Below w.heap.size w w1 /\ w1.there w.heap.size 0 32 /\ w.heap.size < w1.heap.size) := ⟨y, Qad i (m.block _ g), Nat.lt_of_lt_of_le g m.size⟩
  clear a i g m y
  go_wp2_with fail
  refine (Qkf (textB (textCode [])) w1 (x.out w1 h.out.1) (by have := F.out; have := j.out.le; have := h.out.2.2; omega)).mono ?_
  rintro e H ⟨rfl, o⟩
  have z : (digF (textB (textCode []))).toList = D.toList := by rw [<- u.out.2, Nd.dig_no]; rfl
  rw [z]
  obtain ⟨r, s, l, d⟩ := Qb7 u.out.1 (Qad h.out.2.1 (o.block _ h.out.2.2))
  have k := all_oneCell_toArray (Qaf D .u8)
  have f : Hid (Below w.heap.size w H /\ H.there w.heap.size 0 (D.toList.map encB).length) := ⟨Below.behind h.out.1 o, d⟩
  clear o d z
  go_wp2_with (refine wpList_store_mid rfl 37 _ _ rfl w.heap.size 0 (D.toList.map encB).toArray rfl rfl l s k ?_)
  refine bodyPost_ret (v := .agg (D.toList.map encB).toArray) (Qaj Tryz.results22 _ _ _ w.heap.size 0 rfl (run_loadVar_mid _ _ _ 37 _ _ (World.rangeAt_setCells_same _ _ _ _ f.out.2) Tryz.underlying37 rfl r)) rfl ⟨rfl, ?_⟩
  exact (Fr.of_below j.out f.out.1).setCells _ _ _ (Nat.le_refl _) (j.out.fresh (Nat.le_refl _))
 ·have I := Hq hc
  clear hc
  go_enter Tryz.func22, Tryz.ntmps22
  go_wp2_with fail
  generalize hw0 : (w.alloc (.cells _ 37)) = w0
  have a : Below w.heap.size w w0 := by rw [<- hw0]; exact (Below.refl _ _).alloc (Nat.le_refl _) _
  have i : w0.there w.heap.size 0 32 := by rw [<- hw0]; exact Qac _ _ _ _ rfl
  have g : w.heap.size < w0.heap.size := by rw [<- hw0]; simp
  clear hw0
  refine (Qdf (j.out.below a) (x.out w0 a) F.out I.out hne).mono ?_
  rintro e w1 ⟨rfl, p⟩
  rw [u.out.2]
  have q : S w.heap.size = none := j.out.fresh (Nat.le_refl _)
  obtain ⟨r, s, l, d⟩ := Qb7 u.out.1 (Qad i (p.other _ g q))
  have k := all_oneCell_toArray (Qaf D .u8)
  have f : Hid (Fr B S S w w1 /\ w1.there w.heap.size 0 (D.toList.map encB).length /\ S w.heap.size = none) := ⟨(Fr.of_below j.out a).trans p, d, q⟩
  clear p d a i g q
  go_wp2_with (refine wpList_store_mid rfl 37 _ _ rfl w.heap.size 0 (D.toList.map encB).toArray rfl rfl l s k ?_)
  refine bodyPost_ret (v := .agg (D.toList.map encB).toArray) (Qaj Tryz.results22 _ _ _ w.heap.size 0 rfl (run_loadVar_mid _ _ _ 37 _ _ (World.rangeAt_setCells_same _ _ _ _ f.out.2.1) Tryz.underlying37 rfl r)) rfl ⟨rfl, ?_⟩
  exact f.out.1.setCells _ _ _ (Nat.le_refl _) f.out.2.2
def treeF (ts : List Nd) (D : List Nat) : Except Er Nd :=
 match ts with
 | [t] => if t.fitB 0 = false then .error (.base 8) else if t.dig = D then .ok t else .error (.base 7)
 | _ => .error (.base 10)
structure TrS (B : Nat) (sent : Nat -> Addr) (S : Wood) (w : World) (q : Except Er Nd) (e : Ending) (w' : World) : Prop where
 bad : ∀ er, q = .error er -> e = .returned (.tuple #[.agg #[.nilIface], er.val sent]) /\ Fr B S S w w'
 good : ∀ t, q = .ok t -> ∃ z, e = .returned (.tuple #[.agg #[z], .nilIface]) /\ ndV S z t /\ Fr B S S w w'
variable {ts : List Nd} {D : List Nat}
theorem Quk {w0 : World} (sent : Nat -> Addr) {sb C : Nat} {v : Value} {zs : List Value} (hf : Forest w0.heap.size S w) (hF : Faults w0 sent) (hT : Tabs w0) (hM : 15 <= w0.heap.size) (hb : Below w0.heap.size w0 w) (hk : Stk S C sb ts v zs w) (h8 : ts.length <= 1000000) (hD : D.length = 32) (hDb : ∀ x ∈ D, x < 256) :
  Calls Tryz.prog 35 #[.pointer (some ⟨sb, 0, none⟩), .agg (D.map encB).toArray] w fun e w' => TrS w0.heap.size sent S w (treeF ts D) e w' := by
 obtain ⟨pv, cv, rfl, az⟩ := hk.row.cap
 obtain ⟨c0, -⟩ := box1 hk.cell
 obtain ⟨A, hA⟩ : ∃ A, (D.map encB).toArray = A := ⟨_, rfl⟩
 obtain ⟨p, ak, R, aj⟩ := Qhq w (.cells A 37) (.cells #[.nilIface] 58)
 obtain ⟨W1, I⟩ : ∃ x, (w.alloc (.cells A 37)).alloc (.cells #[.nilIface] 58) = x := ⟨_, rfl⟩
 rw [I] at p ak R aj
 have au := (Array.getElem?_eq_some_iff.1 hk.cell).1
 have e0 : W1.cell? ⟨sb, 0, none⟩ = some (.slice pv ts.length cv) := by
  rw [World.cell?_of_block (a := ⟨sb, 0, none⟩) (p.block sb au)]
  exact c0
 obtain ⟨n, hn⟩ : ∃ n, ts.length = n := ⟨_, rfl⟩
 rw [hn] at e0
 have aa : Below w0.heap.size w0 W1 := hb.trans (p.mono hb.size)
 have HF : Hid (Forest w0.heap.size S w /\ Faults w0 sent /\ Below w0.heap.size w0 w /\ Below w.heap.size w W1 /\ Below w0.heap.size w0 W1 /\ W1.heap.size = w.heap.size + 1 + 1) := ⟨hf, hF, hb, p, aa, aj⟩
 obtain ⟨rb, bm⟩ : ∃ x, w.heap.size + 1 = x := ⟨_, rfl⟩
 rw [bm] at R
 by_cases G : n = 1
 ·subst G
  obtain ⟨t, rfl⟩ : ∃ t, ts = [t] := by
   match ts, hn with
   | [t], _ => exact ⟨t, rfl⟩
  obtain ⟨z, rfl⟩ : ∃ z, zs = [z] := by
   match zs, hk.len with
   | [z], _ => exact ⟨z, rfl⟩
  have hv : ndV S z t := hk.nodes 0 (by simp) (by simp)
  obtain ⟨g, bv, bl, -, hg, -, -, -, b7⟩ := hk.row.full (by simp)
  cases bl
  have am : W1.cell? ⟨g, 0, none⟩ = some z := by
   rw [World.cell?_of_block (a := ⟨g, 0, none⟩) (p.block g hg)]
   exact b7 0 z rfl
  obtain ⟨W2, o⟩ : ∃ x, W1.alloc (.cells #[z] 58) = x := ⟨_, rfl⟩
  have P : Below W1.heap.size W1 W2 := by rw [<- o]; exact (Below.refl _ _).alloc (Nat.le_refl _) _
  have al : W2.heap[W1.heap.size]? = some (.cells #[z] 58 (0, 0)) := by rw [<- o]; exact Qai _ _
  have r : Below w.heap.size w W2 := p.trans (P.mono p.size)
  have H : Below w0.heap.size w0 W2 := hb.trans (r.mono hb.size)
  have ai : Forest w0.heap.size S W2 := (Fr.of_below hf r).forest
  obtain ⟨O, bn⟩ : ∃ x, W1.heap.size = x := ⟨_, rfl⟩
  rw [bn] at al
  obtain ⟨g0, -⟩ := box1 al
  have ae := (Array.getElem?_eq_some_iff.1 al).1
  have L : W2.rangeAt w.heap.size 0 (D.map encB) := Qa4 (w := W1) (fun j u hu => by
   rw [Nat.zero_add, World.cell?, ak, <- hA]
   simpa using hu) (P.block _ (by omega))
  have ar : t.dig.length = 32 /\ ∀ x ∈ t.dig, x < 256 := by
   rcases hv with ⟨h, -⟩ | ⟨_, c, _, X⟩
   ·rw [h, Nd.dig_no]; exact ⟨Qak _, Qdt _⟩
   ·exact ⟨t.dig_length (hf.ok c t X), t.dig_byte (hf.ok c t X)⟩
  have HR : Hid (∀ W, Below W2.heap.size W2 W -> Calls Tryz.prog 22 #[.pointer (some ⟨O, 0, none⟩)] W fun e w' => e = .returned (.agg (t.dig.map encB).toArray) /\ Fr w0.heap.size S S W w') := fun W s => by
   have ap := H.trans (s.mono H.size)
   refine Qrk (Fr.of_below ai s).forest (hT.below ap (by omega)) hM (Nat.lt_of_lt_of_le ae s.size) hv ?_
   rw [World.cell?_of_block (a := ⟨O, 0, none⟩) (s.block O ae)]
   exact g0
  have J := fun W => Qm1 t.dig D ar.1 hD ar.2 hDb W
  have ce : (Tryz.prog.info? 37).map (·.size) = some (D.map encB).length := by rw [List.length_map, hD]; kernel_rfl
  have bo := Tryz.underlying37
  have aq : S O = none := hf.fresh (by omega)
  have ag : S rb = none := hf.fresh (by omega)
  have ay : S w.heap.size = none := hf.fresh (by omega)
  have m : W2.heap[rb]? = some (.cells #[.nilIface] 58 (0, 0)) := (P.block rb (by omega)).trans R
  have HW : Hid (∀ W w3, Below W2.heap.size W2 W -> Fr w0.heap.size S S W w3 -> w3.rangeAt w.heap.size 0 (D.map encB) /\ w3.cell? ⟨O, 0, none⟩ = some z /\ w3.heap[rb]? = some (.cells #[.nilIface] 58 (0, 0)) /\ Fr w0.heap.size S S w w3 /\ Faults w3 sent /\ Below w0.heap.size w0 w3) := fun W w3 s d => by
   have bc : w.heap.size < W2.heap.size := by have := P.size; omega
   have ba : rb < W2.heap.size := by have := P.size; omega
   have ap := H.trans (s.mono H.size)
   have ah : Below w0.heap.size w0 w3 := ap.trans ((d.x (fun _ => False)).below (Fr.of_below ai s).forest (fun _ h => h.elim))
   refine ⟨Qa4 L ((d.other _ (Nat.lt_of_lt_of_le bc s.size) ay).trans (s.block _ bc)), ?_, (d.other _ (Nat.lt_of_lt_of_le ba s.size) ag).trans ((s.block _ ba).trans m), (Fr.of_below hf (r.trans (s.mono r.size))).trans d, hF.below ah, ah⟩
   rw [World.cell?_of_block (a := ⟨O, 0, none⟩) ((d.other O (Nat.lt_of_lt_of_le ae s.size) aq).trans (s.block O ae))]
   exact g0
  have f : Hid (Below W2.heap.size W2 W2.drew /\ rb < w.heap.size + 2 /\ w.heap.size <= rb /\ w0.heap.size <= w.heap.size /\ S rb = none) := ⟨(Below.refl _ _).drew, by omega, by omega, hb.size, ag⟩
  have HV := Hq hv
  have bg : Hid (∀ y : t ≠ .no, ∀ c, S c = some t -> Calls Tryz.prog (fitFn t) #[.pointer (some ⟨c, 0, none⟩), .int .i64 0] W2 fun e w' => e = .returned (.bool (t.fitB 0)) /\ w' = W2) := fun y c X => Qoz w0.heap.size S t y W2 c 0 ai X (by omega)
  obtain ⟨Q, hQ⟩ : ∃ Q, treeF [t] D = Q := ⟨_, rfl⟩
  have HQ : Hid ((if t.fitB 0 = false then Except.error (Er.base 8) else if t.dig = D then Except.ok t else Except.error (Er.base 7)) = Q) := hQ
  rw [hQ, hA]
  have ac : W2.cell? ⟨6, 0, none⟩ = some (.iface 243 (.pointer (some (sent 8)))) := (hF.below H).var 8 (by decide)
  have Y : (W2.setCell ⟨rb, 0, none⟩ .nilIface).cell? ⟨6, 0, none⟩ = some (.iface 243 (.pointer (some (sent 8)))) := by
   have K : 6 < w0.heap.size := hF.low (n := 8) (by decide)
   rw [World.cell?_of_block (a := ⟨6, 0, none⟩) ((Qb8 m .nilIface).2.block _ (Nat.lt_of_lt_of_le K H.size) (fun e => by have e' : 6 = rb := e; have := hb.size; omega))]
   exact ac
  have aw : Hid (∀ w3, Faults w3 sent -> Below w0.heap.size w0 w3 -> w3.heap[rb]? = some (.cells #[.nilIface] 58 (0, 0)) -> w3.cell? ⟨5, 0, none⟩ = some (.iface 243 (.pointer (some (sent 7)))) /\ (w3.setCell ⟨rb, 0, none⟩ .nilIface).cell? ⟨5, 0, none⟩ = some (.iface 243 (.pointer (some (sent 7))))) := fun w3 h3 ah hx => by
   have K : 5 < w0.heap.size := hF.low (n := 7) (by decide)
   have h7 := h3.var 7 (by decide)
   refine ⟨h7, ?_⟩
   rw [World.cell?_of_block (a := ⟨5, 0, none⟩) ((Qb8 hx .nilIface).2.block _ (Nat.lt_of_lt_of_le K ah.size) (fun e => by have e' : 5 = rb := e; have := hb.size; omega))]
   exact h7
  have ax := Hq m
  have bh : Hid (Fr w0.heap.size S S w (W2.setCell ⟨rb, 0, none⟩ .nilIface).drew) := Fr.of_below hf ((Qb8 m .nilIface).2.below r (by omega) r.size).drew
  clear hf hF hT hM hb hk h8 hD hDb az c0 hA p ak R aj au hn aa hQ b7 hg P al r H ai ar aq ag ay ae
  rcases hv with ⟨rfl, rfl⟩ | ⟨y, c, rfl, X⟩
  ·have l : Hid ((if Nd.no.dig = D then Except.ok Nd.no else Except.error (Er.base 7)) = Q) := by
    have := HQ.out
    rw [if_neg (by rw [Nd.fitB]; simp)] at this
    exact this
   by_cases k : Nd.no.dig = D
   ·simp only [decide_eq_true k] at J
    have i : Hid (Q = .ok .no) := by
     have := l.out
     rw [if_pos k] at this
     exact this.symm
    clear l k m
    have ao := Hq o
    have bi : (W1.alloc (.cells #[.nilIface] 58)).cell? ⟨O, 0, none⟩ = some .nilIface := by rw [o]; exact g0
    clear o
    go_enter Tryz.func35, Tryz.ntmps35
    go_upto_region 6 with fail
    rw [ao.out]
    clear I ac Y e0 am
    go_region_held3 (fun w' => w'.rangeAt w.heap.size 0 (D.map encB)) (first | exact L | exact G)
     (first | (go_at_call 22; refine (HR.out _ f.out.1).mono ?_; rintro x w3 ⟨rfl, d⟩; obtain ⟨G, e3, q, F, U, T⟩ := HW.out _ w3 f.out.1 d; obtain ⟨a0, a1⟩ := box1 q; obtain ⟨B, N⟩ := Qb8 q (.nilIface); obtain ⟨E, -⟩ := box1 B; have V : Hid (Fr w0.heap.size S S w (w3.setCell ⟨rb, 0, none⟩ (.nilIface))) := F.setCell _ _ f.out.2.2.1 f.out.2.2.2.2; clear d q F U T B N))
    all_goals go_wp2
    all_goals refine bodyPost_ret (v := .tuple #[.agg #[.nilIface], .nilIface]) (by simp [results, Tryz.results35, go_sem, E]) rfl ?_
    all_goals exact ⟨fun er b => (by rw [i.out] at b; cases b), fun _ b => (by rw [i.out] at b; cases b; exact ⟨_, rfl, HV.out, V.out⟩)⟩
   ·simp only [decide_eq_false k] at J
    have i : Hid (Q = .error (.base 7)) := by
     have := l.out
     rw [if_neg k] at this
     exact this.symm
    clear l k m
    have ao := Hq o
    have bi : (W1.alloc (.cells #[.nilIface] 58)).cell? ⟨O, 0, none⟩ = some .nilIface := by rw [o]; exact g0
    clear o
    go_enter Tryz.func35, Tryz.ntmps35
    go_upto_region 6 with fail
    rw [ao.out]
    clear I ac Y e0 am
    go_region_held3 (fun w' => w'.rangeAt w.heap.size 0 (D.map encB)) (first | exact L | exact G)
     (first | (go_at_call 22; refine (HR.out _ f.out.1).mono ?_; rintro x w3 ⟨rfl, d⟩; obtain ⟨G, e3, q, F, U, T⟩ := HW.out _ w3 f.out.1 d; obtain ⟨a0, a1⟩ := box1 q; obtain ⟨B, N⟩ := Qb8 q .nilIface; obtain ⟨E, -⟩ := box1 B; have V : Hid (Fr w0.heap.size S S w (w3.setCell ⟨rb, 0, none⟩ .nilIface)) := F.setCell _ _ f.out.2.2.1 f.out.2.2.2.2; obtain ⟨g7, bj⟩ := aw.out w3 U T q; clear d q F U T B N))
    all_goals go_wp2_with fail
    all_goals go_region
    all_goals (try go_wp2)
    all_goals refine bodyPost_ret (v := .tuple #[.agg #[.nilIface], .iface 243 (.pointer (some (sent 7)))]) (by simp [results, Tryz.results35, go_sem, E]) rfl ?_
    all_goals exact ⟨fun er b => (by rw [i.out] at b; cases b; exact ⟨rfl, V.out.trans (Fr.of_below V.out.forest (Below.refl _ _).drew)⟩), fun _ b => (by rw [i.out] at b; cases b)⟩
  ·have hm := mFit t y
   have bx := QAi t y
   have Z := Hq (bg.out y c X)
   cases hfb : t.fitB 0 with
   | false =>
    rw [hfb] at Z
    have i : Hid (Q = .error (.base 8)) := by
     have := HQ.out
     rw [if_pos hfb] at this
     exact this.symm
    obtain ⟨d0, d1⟩ := box1 ax.out
    obtain ⟨E, -⟩ := box1 (Qb8 ax.out .nilIface).1
    clear hfb y X m J
    go_enter Tryz.func35, Tryz.ntmps35
    go_upto_region 5 with (refine Z.out.mono ?_; rintro e w4 ⟨rfl, rfl⟩)
    clear I o
    go_region
    all_goals (try go_wp2)
    refine bodyPost_ret (v := .tuple #[.agg #[.nilIface], .iface 243 (.pointer (some (sent 8)))]) (by simp [results, Tryz.results35, go_sem, E]) rfl ?_
    exact ⟨fun er b => (by rw [i.out] at b; cases b; exact ⟨rfl, bh.out⟩), fun _ b => (by rw [i.out] at b; cases b)⟩
   | true =>
    rw [hfb] at Z
    have l : Hid ((if t.dig = D then Except.ok t else Except.error (Er.base 7)) = Q) := by
     have := HQ.out
     rw [if_neg (by rw [hfb]; simp)] at this
     exact this
    by_cases k : t.dig = D
    ·simp only [decide_eq_true k] at J
     have i : Hid (Q = .ok t) := by
      have := l.out
      rw [if_pos k] at this
      exact this.symm
     clear l k m hfb y X
     go_enter Tryz.func35, Tryz.ntmps35
     go_upto_region 6 with (refine Z.out.mono ?_; rintro e w4 ⟨rfl, rfl⟩)
     clear I o ac Y e0 am
     go_region_held3 (fun w' => w'.rangeAt w.heap.size 0 (D.map encB)) (first | exact L | exact G)
      (first | (go_at_call 22; refine (HR.out _ f.out.1).mono ?_; rintro x w3 ⟨rfl, d⟩; obtain ⟨G, e3, q, F, U, T⟩ := HW.out _ w3 f.out.1 d; obtain ⟨a0, a1⟩ := box1 q; obtain ⟨B, N⟩ := Qb8 q (.iface (ndTy t) (.pointer (some ⟨c, 0, none⟩))); obtain ⟨E, -⟩ := box1 B; have V : Hid (Fr w0.heap.size S S w (w3.setCell ⟨rb, 0, none⟩ (.iface (ndTy t) (.pointer (some ⟨c, 0, none⟩))))) := F.setCell _ _ f.out.2.2.1 f.out.2.2.2.2; clear d q F U T B N))
     all_goals go_wp2
     all_goals refine bodyPost_ret (v := .tuple #[.agg #[.iface (ndTy t) (.pointer (some ⟨c, 0, none⟩))], .nilIface]) (by simp [results, Tryz.results35, go_sem, E]) rfl ?_
     all_goals exact ⟨fun er b => (by rw [i.out] at b; cases b), fun _ b => (by rw [i.out] at b; cases b; exact ⟨_, rfl, HV.out, V.out⟩)⟩
    ·simp only [decide_eq_false k] at J
     have i : Hid (Q = .error (.base 7)) := by
      have := l.out
      rw [if_neg k] at this
      exact this.symm
     clear l k m hfb y X
     go_enter Tryz.func35, Tryz.ntmps35
     go_upto_region 6 with (refine Z.out.mono ?_; rintro e w4 ⟨rfl, rfl⟩)
     clear I o ac Y e0 am
     go_region_held3 (fun w' => w'.rangeAt w.heap.size 0 (D.map encB)) (first | exact L | exact G)
      (first | (go_at_call 22; refine (HR.out _ f.out.1).mono ?_; rintro x w3 ⟨rfl, d⟩; obtain ⟨G, e3, q, F, U, T⟩ := HW.out _ w3 f.out.1 d; obtain ⟨a0, a1⟩ := box1 q; obtain ⟨B, N⟩ := Qb8 q .nilIface; obtain ⟨E, -⟩ := box1 B; have V : Hid (Fr w0.heap.size S S w (w3.setCell ⟨rb, 0, none⟩ .nilIface)) := F.setCell _ _ f.out.2.2.1 f.out.2.2.2.2; obtain ⟨g7, bj⟩ := aw.out w3 U T q; clear d q F U T B N))
     all_goals go_wp2_with fail
     all_goals go_region
     all_goals (try go_wp2)
     all_goals refine bodyPost_ret (v := .tuple #[.agg #[.nilIface], .iface 243 (.pointer (some (sent 7)))]) (by simp [results, Tryz.results35, go_sem, E]) rfl ?_
     all_goals exact ⟨fun er b => (by rw [i.out] at b; cases b; exact ⟨rfl, V.out.trans (Fr.of_below V.out.forest (Below.refl _ _).drew)⟩), fun _ b => (by rw [i.out] at b; cases b)⟩
 ·have hg : W1.cell? ⟨8, 0, none⟩ = some (.iface 243 (.pointer (some (sent 10)))) := (hF.below aa).var 10 (by decide)
  have hQ : treeF ts D = .error (.base 10) := by
   match ts, hn with
   | [], _ => rfl
   | [t], h => exact absurd h.symm G
   | _ :: _ :: _, _ => rfl
  rw [hQ, hA]
  have i1 : ¬ (n : Int) = 1 := by omega
  obtain ⟨d0, d1⟩ := box1 R
  obtain ⟨B, N⟩ := Qb8 R .nilIface
  have K := (hF.low (n := 10) (by decide))
  have bz : (W1.setCell ⟨rb, 0, none⟩ .nilIface).cell? ⟨8, 0, none⟩ = some (.iface 243 (.pointer (some (sent 10)))) := by
   rw [World.cell?_of_block (a := ⟨8, 0, none⟩) (N.block _ (Nat.lt_of_lt_of_le K aa.size) (fun e => by have e' : 8 = rb := e; have : 8 < w0.heap.size := K; have := hb.size; omega))]
   exact hg
  obtain ⟨E, -⟩ := box1 B
  have bf : Hid (Fr w0.heap.size S S w (W1.setCell ⟨rb, 0, none⟩ .nilIface).drew) := Fr.of_below hf (N.below p (by omega) p.size).drew
  clear hf hF hT hM hb hk h8 hD hDb az c0 hA p ak aj au hn aa G hQ K B N
  go_enter Tryz.func35, Tryz.ntmps35
  go_upto_region 2 with fail
  clear I
  go_region
  all_goals (try go_wp2)
  refine bodyPost_ret (v := .tuple #[.agg #[.nilIface], .iface 243 (.pointer (some (sent 10)))]) (by simp [results, Tryz.results35, go_sem, E]) rfl ?_
  exact ⟨fun er b => (by cases b; exact ⟨rfl, bf.out⟩), fun _ b => (by cases b)⟩
variable {n : Nat} {s s1 : ByteArray}
theorem Qfc (h : rdTk n s = .ok (p, s1)) : s1.size + n = s.size := by
 obtain ⟨a, -, rfl⟩ := Qhp h
 rw [ByteArray.size_extract]
 omega
theorem Qc2 (h : rdNm s = .ok (n, s1)) : s1.size + 1 = s.size := by
 unfold rdNm at h
 split at h
 ·cases h
 ·cases h
  rw [ByteArray.size_extract]
  omega
theorem Qul (h : rdVl s = .ok (p, s1)) : s1.size <= s.size := by
 unfold rdVl at h
 split at h
 ·cases h
 ·rename_i h1
  have := Qc2 h1
  have := Qfc h
  omega
theorem Qjv {c : Nat × ByteArray} (h : rdPth s = .ok (c, s1)) : s1.size <= s.size := by
 unfold rdPth at h
 split at h
 ·cases h
 ·rename_i h1
  split at h
  ·cases h
  ·rename_i h2
   cases h
   have := Qc2 h1
   have := Qfc h2
   omega
variable {s' : ByteArray}
theorem Qum {d : Od} (h : opRd s = .ok (d, s')) : s'.size < s.size := by
 unfold opRd at h
 split at h
 ·cases h
 ·rename_i h1
  cases h
  have := Qc2 h1
  omega
 ·rename_i h1
  have := Qc2 h1
  unfold opLeaf at h
  split at h
  ·cases h
  ·rename_i h2
   have := Qjv h2
   split at h
   ·cases h
   ·rename_i h3
    have := Qul h3
    split at h
    ·cases h
    ·split at h
     ·cases h
     ·cases h; omega
 ·rename_i h1
  have := Qc2 h1
  unfold opExt at h
  split at h
  ·cases h
  ·rename_i h2
   have := Qjv h2
   split at h
   ·cases h
   ·split at h
    ·cases h
    ·cases h; omega
 ·rename_i h1
  have := Qc2 h1
  unfold opBr at h
  split at h
  ·cases h
  ·rename_i h2
   have := Qfc h2
   split at h
   ·cases h
   ·cases h; omega
 ·rename_i h1
  have := Qc2 h1
  unfold opStub at h
  split at h
  ·cases h
  ·rename_i h2
   have := Qfc h2
   cases h; omega
 ·cases h
variable {ts' : List Nd}
theorem Qeb (h : stepO s ts = .ok (ts', s')) : s'.size < s.size /\ ts'.length <= ts.length + 1 := by
 unfold stepO at h
 split at h
 ·cases h
 ·rename_i h1
  have := Qum h1
  split at h
  ·cases h
  ·split at h
   ·cases h
   ·cases h
    refine ⟨this, ?_⟩
    rw [List.length_append, List.length_take]
    simp
    try omega
def runO (L : Nat) : Nat -> ByteArray -> List Nd -> Except Er (List Nd)
 | 0, _, ts => .ok ts
 | n + 1, s, ts => match stepO s ts with
  | .error e => .error (.place (L - s.size) e)
  | .ok (ts', s') => runO L (min n s'.size) s' ts'
def openF (D : List Nat) (s : ByteArray) : Except Er Nd :=
 if 8000 < s.size then .error (.base 1) else match runO s.size s.size s [] with
  | .error e => .error e
  | .ok ts => match treeF ts D with
   | .error e => .error (.place s.size e)
   | .ok t => .ok t
variable {L : Nat}
theorem Qch (h : s.size = 0) : runO L s.size s ts = .ok ts := by rw [h, runO]
variable {e : Er}
theorem Qlc (h0 : 0 < s.size) (h : stepO s ts = .error e) : runO L s.size s ts = .error (.place (L - s.size) e) := by
 obtain ⟨n, a⟩ : ∃ n, s.size = n + 1 := ⟨s.size - 1, by omega⟩
 rw [a, runO, h, a]
theorem Qfd (h0 : 0 < s.size) (h : stepO s ts = .ok (ts', s')) : runO L s.size s ts = runO L s'.size s' ts' := by
 obtain ⟨n, a⟩ : ∃ n, s.size = n + 1 := ⟨s.size - 1, by omega⟩
 have := (Qeb h).1
 rw [a, runO, h]
 show runO L (min n s'.size) s' ts' = _
 rw [Nat.min_eq_right (by omega)]
structure TpS (sent : Nat -> Addr) (w : World) (q : Except Er Nd) (e : Ending) (w' : World) : Prop where
 bad : ∀ er, q = .error er -> e = .returned (.tuple #[.agg #[.nilIface], er.val sent]) /\ Below w.heap.size w w'
 good : ∀ t, q = .ok t -> ∃ z S', e = .returned (.tuple #[.agg #[z], .nilIface]) /\ ndV S' z t /\ FrX w.heap.size (fun _ => False) (fun _ => none) S' w w'
theorem Qun (h : s.size <= 8000) (hr : runO s.size s.size s [] = .error e) : openF D s = .error e := by
 unfold openF
 rw [if_neg (by omega), hr]
theorem Quo (h : s.size <= 8000) (hr : runO s.size s.size s [] = .ok ts) (ht : treeF ts D = .error e) : openF D s = .error (.place s.size e) := by
 unfold openF
 rw [if_neg (by omega), hr]
 show (match treeF ts D with | .error e => Except.error (Er.place s.size e) | .ok t => Except.ok t) = _
 rw [ht]
theorem Qjw (h : s.size <= 8000) (hr : runO s.size s.size s [] = .ok ts) (ht : treeF ts D = .ok t) : openF D s = .ok t := by
 unfold openF
 rw [if_neg (by omega), hr]
 show (match treeF ts D with | .error e => Except.error (Er.place s.size e) | .ok t => Except.ok t) = _
 rw [ht]
theorem Qup (h : ¬ s.size = 0) : s.toList.isEmpty = false := by
 cases hl : s.toList with
 | nil =>
  have : (bytesOf s).length = s.size := bytesOf_length s
  unfold bytesOf at this
  rw [Lib.toList_data] at hl
  rw [hl] at this
  simp at this
  omega
 | cons _ _ => rfl
theorem Quq (sent : Nat -> Addr) (s : ByteArray) (hF : Faults w sent) (hB : Bru w) (hT : Tabs w) (hM : 15 <= w.heap.size) (hD : D.length = 32) (hDb : ∀ x ∈ D, x < 256) :
  Calls Tryz.prog 20 #[.agg (D.map encB).toArray, .string s] w fun e w' => TpS sent w (openF D s) e w' := by
 obtain ⟨A, hA⟩ : ∃ A, (D.map encB).toArray = A := ⟨_, rfl⟩
 obtain ⟨r, ai, b, ae⟩ := Qhq w (.cells A 37) (.cells #[.nilIface] 58)
 obtain ⟨J, ap⟩ : ∃ x, (w.alloc (.cells A 37)).alloc (.cells #[.nilIface] 58) = x := ⟨_, rfl⟩
 rw [ap] at r ai b ae
 obtain ⟨xb, bl⟩ : ∃ x, w.heap.size + 1 = x := ⟨_, rfl⟩
 rw [bl] at b ae
 by_cases h8 : 8000 < s.size
 ·have hQ : openF D s = .error (.base 1) := by unfold openF; rw [if_pos h8]
  rw [hQ, hA]
  have i1 : (8000 : Int) < (s.size : Int) := by omega
  have az := (hF.below r)
  have hg : J.cell? ⟨0, 0, none⟩ = some (.iface 243 (.pointer (some (sent 1)))) := az.var 1 (by decide)
  obtain ⟨d0, d1⟩ := box1 b
  obtain ⟨H, E⟩ := Qb8 b .nilIface
  have bf : 0 < w.heap.size := hF.low (n := 1) (by decide)
  have bx : (J.setCell ⟨xb, 0, none⟩ .nilIface).cell? ⟨0, 0, none⟩ = some (.iface 243 (.pointer (some (sent 1)))) := by
   rw [World.cell?_of_block (a := ⟨0, 0, none⟩) (E.block _ (Nat.lt_of_lt_of_le bf r.size) (fun e => by have e' : 0 = xb := e; omega))]
   exact hg
  obtain ⟨Q, -⟩ := box1 H
  have bo : Hid (Below w.heap.size w (J.setCell ⟨xb, 0, none⟩ .nilIface).drew) := (E.below r (by omega) r.size).drew
  clear hF hB hT hM hD hDb hA r ai b ae h8 hQ az H E bf
  go_enter Tryz.func20, Tryz.ntmps20
  go_upto_region 2 with fail
  clear ap
  go_region
  all_goals (try go_wp2)
  refine bodyPost_ret (v := .tuple #[.agg #[.nilIface], .iface 243 (.pointer (some (sent 1)))]) (by simp [results, Tryz.results20, go_sem, Q]) rfl ?_
  exact ⟨fun er G => (by cases G; exact ⟨rfl, bo.out⟩), fun _ G => (by cases G)⟩
 ·have i1 : ¬ (8000 : Int) < (s.size : Int) := by omega
  obtain ⟨U, aj, ak, ag⟩ := Qhq J (.cells #[.slice none 0 0] 85) (.cells #[.string s] 87)
  obtain ⟨W1, ba⟩ : ∃ x, (J.alloc (.cells #[.slice none 0 0] 85)).alloc (.cells #[.string s] 87) = x := ⟨_, rfl⟩
  rw [ba] at U aj ak ag
  obtain ⟨sb, au⟩ : ∃ x, J.heap.size = x := ⟨_, rfl⟩
  obtain ⟨F, ar⟩ : ∃ x, J.heap.size + 1 = x := ⟨_, rfl⟩
  rw [ar] at ak ag
  rw [au] at aj
  have aq : Below w.heap.size w W1 := r.trans (U.mono r.size)
  have bc : Forest w.heap.size (fun _ => none) w := Qbk w
  have b7 : Stk (fun _ => none) W1.heap.size sb [] (.slice none 0 0) [] W1 := ⟨aj, OwnC.nil _ _ _, fun i h1 _ => (by simp at h1), fun k e => rfl⟩
  have g : W1.rangeAt w.heap.size 0 (D.map encB) := Qa4 (w := J) (fun j u hu => by
   rw [Nat.zero_add, World.cell?, ai, <- hA]
   simpa using hu) (U.block _ (by omega))
  have ax : W1.heap[xb]? = some (.cells #[.nilIface] 58 (0, 0)) := (U.block xb (by omega)).trans b
  have X : Hid (Faults w sent /\ Bru w /\ Tabs w /\ 15 <= w.heap.size /\ D.length = 32 /\ (∀ x ∈ D, x < 256)) := ⟨hF, hB, hT, hM, hD, hDb⟩
  have C : Hid (Below w.heap.size w W1 /\ w.heap.size + 1 = xb /\ sb = xb + 1 /\ F = sb + 1 /\ W1.heap.size = F + 1 /\ W1.rangeAt w.heap.size 0 (D.map encB) /\ W1.heap[xb]? = some (.cells #[.nilIface] 58 (0, 0))) := ⟨aq, bl, by omega, by omega, ag, g, ax⟩
  have ao : Hid (FrX w.heap.size (w.heap.size <= ·) (fun _ => none) (fun _ => none) w W1 /\ RdAt W1 F s /\ Stk (fun _ => none) W1.heap.size sb [] (.slice none 0 0) [] W1) := ⟨(Fr.of_below bc aq).x _, ak, b7⟩
  obtain ⟨R, K⟩ : ∃ R, runO s.size s.size s [] = R := ⟨_, rfl⟩
  have I : Hid (s.size <= 8000 /\ runO s.size s.size s [] = R) := ⟨by omega, K⟩
  have bv : (Tryz.prog.info? 37).map (·.size) = some (D.map encB).length := by rw [List.length_map, hD]; kernel_rfl
  rw [hA]
  have HN : Hid (J.heap.size = sb /\ J.heap.size + 1 = F) := ⟨au, ar⟩
  clear hF hB hT hM hD hDb r ai b ae h8 U aj ak ag au ar aq bc b7 g ax K
  go_enter Tryz.func20, Tryz.ntmps20
  go_upto_region 5 with fail
  rw [HN.out.2, HN.out.1]
  clear ap ba i1
  go_loopg [9] s.size (fun gh _ wr => ∃ f L m v zs, gh = f.size /\ runO s.size f.size f L = R /\ FrX w.heap.size (w.heap.size <= ·) (fun _ => none) m w wr /\ RdAt wr F f /\ Stk m W1.heap.size sb L v zs wr /\ L.length + f.size <= s.size /\ wr.rangeAt w.heap.size 0 (D.map encB) /\ wr.heap[xb]? = some (.cells #[.nilIface] 58 (0, 0)) /\ W1.heap.size <= wr.heap.size /\ m xb = none /\ m w.heap.size = none /\ m sb = none /\ m F = none)
  case atStart => exact ⟨s, [], _, _, [], rfl, I.out.2, ao.out.1, ao.out.2.1, ao.out.2.2, by simp, C.out.2.2.2.2.2.1, C.out.2.2.2.2.2.2, Nat.le_refl _, rfl, rfl, rfl, rfl⟩
  case round =>
   obtain ⟨f, L, m, v, zs, rfl, K, O, hr, Z, hl, g, hx, ah, n1, n2, n3, n4⟩ := hrel
   obtain ⟨c0, c1, -⟩ := hr.cell
   obtain ⟨a0, a1⟩ := box1 hx
   have B : Hid (runO s.size f.size f L = R /\ FrX w.heap.size (w.heap.size <= ·) (fun _ => none) m w wr /\ RdAt wr F f /\ Stk m W1.heap.size sb L v zs wr /\ L.length + f.size <= s.size /\ wr.rangeAt w.heap.size 0 (D.map encB) /\ wr.heap[xb]? = some (.cells #[.nilIface] 58 (0, 0)) /\ W1.heap.size <= wr.heap.size /\ m xb = none /\ m w.heap.size = none /\ m sb = none /\ m F = none) := ⟨K, O, hr, Z, hl, g, hx, ah, n1, n2, n3, n4⟩
   have aa : Below w.heap.size w wr := O.below (Qbk w) fun _ h => h
   by_cases h0 : f.size = 0
   ·obtain rfl : f = ⟨#[]⟩ := ByteArray.ext (Array.eq_empty_of_size_eq_zero h0)
    have HT := Hq (Quk (w0 := w) sent O.forest X.out.1 X.out.2.2.1 X.out.2.2.2.1 aa Z (by have := I.out.1; omega) X.out.2.2.2.2.1 X.out.2.2.2.2.2)
    have HR : Hid (R = .ok L) := by have h := K; rw [Qch h0] at h; exact h.symm
    have bm : xb < wr.heap.size := by have := C.out; omega
    clear K O hr Z hl hx ah n1 n2 n3 n4 h0 aa
    rw [hA] at HT
    go_wp2_with (refine wpList_load_mid rfl 37 _ rfl w.heap.size 0 rfl (D.map encB) _ g Tryz.underlying37 rfl bv ?_)
    refine HT.out.mono ?_
    intro e w2 p
    cases hq : treeF L D with
    | error er =>
     obtain ⟨rfl, y⟩ := p.bad er hq
     obtain ⟨T, x, G⟩ : ∃ T x, er.val sent = .iface T x := by cases er <;> exact ⟨_, _, rfl⟩
     have b : (w2.alloc (.cells #[.nilIface] 58)).heap[xb]? = some (.cells #[.nilIface] 58 (0, 0)) := (Qby w2 _ (by have := y.size; omega)).trans ((y.other xb bm B.out.2.2.2.2.2.2.2.2.1).trans B.out.2.2.2.2.2.2.1)
     obtain ⟨b0, b1⟩ := box1 b
     obtain ⟨H, E⟩ := Qb8 b .nilIface
     obtain ⟨Q, -⟩ := box1 H
     have HE : Hid (TpS sent w (openF D s) (.returned (.tuple #[.agg #[.nilIface], .iface 91 (.agg #[.int .i64 (s.size : Int), .iface T x])])) ((w2.alloc (.cells #[.nilIface] 58)).setCell ⟨xb, 0, none⟩ .nilIface)) := by
      rw [Quo I.out.1 (I.out.2.trans HR.out) hq]
      have N : Below w.heap.size w w2 := (B.out.2.1.below (Qbk w) fun _ h => h).trans ((y.x (fun _ => False)).below B.out.2.1.forest fun _ h => h.elim)
      refine ⟨fun ay h => ?_, fun _ h => (by cases h)⟩
      cases h
      rw [Er.val, G]
      exact ⟨rfl, E.below (N.alloc N.size _) (by have := C.out; omega) (by have := N.size; simp; omega)⟩
     rw [G]
     clear p hq y G b H E g c0 c1 a0 a1 HT
     go_wp2
     refine bodyPost_ret (v := .tuple #[.agg #[.nilIface], .iface 91 (.agg #[.int .i64 (s.size : Int), .iface T x])]) (by simp [results, Tryz.results20, go_sem, Q]) rfl ?_
     exact HE.out
    | ok t =>
     obtain ⟨z, rfl, hz, y⟩ := p.good t hq
     have b : (w2.alloc (.cells #[z] 58)).heap[xb]? = some (.cells #[.nilIface] 58 (0, 0)) := (Qby w2 _ (by have := y.size; omega)).trans ((y.other xb bm B.out.2.2.2.2.2.2.2.2.1).trans B.out.2.2.2.2.2.2.1)
     obtain ⟨b0, b1⟩ := box1 b
     obtain ⟨H, E⟩ := Qb8 b z
     obtain ⟨Q, -⟩ := box1 H
     obtain ⟨y0, -⟩ := box1 (Qai w2 (.cells #[z] 58))
     have HE : Hid (TpS sent w (openF D s) (.returned (.tuple #[.agg #[z], .nilIface])) ((w2.alloc (.cells #[z] 58)).setCell ⟨xb, 0, none⟩ z)) := by
      rw [Qjw I.out.1 (I.out.2.trans HR.out) hq]
      refine ⟨fun ay h => (by cases h), fun t' h => ?_⟩
      cases h
      have ac : Below w2.heap.size w2 (w2.alloc (.cells #[z] 58)) := (Below.refl _ _).alloc (Nat.le_refl _) _
      have g1 : FrX w.heap.size (w.heap.size <= ·) (fun _ => none) m w (w2.alloc (.cells #[z] 58)) := (B.out.2.1.trans (y.x _)).behind ac
      have S := g1.over E (by have := C.out; omega) B.out.2.2.2.2.2.2.2.2.1
      exact ⟨z, m, rfl, hz, S.os, S.tape, S.output, S.size, fun k Z hs _ => S.other k Z hs (by omega), S.forest, S.sub, S.new⟩
     have HZ := Hq hz
     clear p hq y b H E g c0 c1 a0 a1 HT hz
     rcases HZ.out with ⟨-, rfl⟩ | ⟨-, c, rfl, -⟩
     ·go_wp2
      refine bodyPost_ret (v := .tuple #[.agg #[.nilIface], .nilIface]) (by simp [results, Tryz.results20, go_sem, Q]) rfl ?_
      exact HE.out
     ·go_wp2
      refine bodyPost_ret (v := .tuple #[.agg #[.iface (ndTy t) (.pointer (some ⟨c, 0, none⟩))], .nilIface]) (by simp [results, Tryz.results20, go_sem, Q]) rfl ?_
      exact HE.out
   ·have bi : f.toList.isEmpty = false := Qup h0
    obtain ⟨k, bh⟩ : ∃ k, s.size - f.size = k := ⟨_, rfl⟩
    have KW : wrap64 ((s.size : Int) - (f.size : Int)) = (k : Int) := by
     have := I.out.1
     unfold wrap64
     omega
    have HX := Hq (Quj (w0 := w) sent O.forest X.out.1 X.out.2.1 aa hr Z (by have := C.out; omega) (by have := C.out; omega) (by have := C.out; omega) (by have := C.out; omega) (by have := C.out; omega) n4 n3 (by have := I.out.1; omega) ah)
    have al : Hid (0 < f.size /\ s.size - f.size = k) := ⟨by omega, bh⟩
    clear K O hr Z hl hx ah n1 n2 n3 n4 h0 aa g bh
    go_wp2_with fail
    refine HX.out.mono ?_
    intro e w2 p
    have l : xb < W1.heap.size /\ xb ≠ F /\ xb ≠ sb /\ w.heap.size < W1.heap.size /\ w.heap.size ≠ F /\ w.heap.size ≠ sb := by have := C.out; omega
    cases hq : stepO f L with
    | error er =>
     obtain ⟨rfl, N, P⟩ := p.bad er hq
     obtain ⟨T, x, G⟩ : ∃ T x, er.val sent = .iface T x := by cases er <;> exact ⟨_, _, rfl⟩
     have b : w2.heap[xb]? = some (.cells #[.nilIface] 58 (0, 0)) := (P xb l.1 l.2.1 l.2.2.1 B.out.2.2.2.2.2.2.2.2.1).trans B.out.2.2.2.2.2.2.1
     obtain ⟨b0, b1⟩ := box1 b
     obtain ⟨H, E⟩ := Qb8 b .nilIface
     obtain ⟨Q, -⟩ := box1 H
     have HE : Hid (TpS sent w (openF D s) (.returned (.tuple #[.agg #[.nilIface], .iface 91 (.agg #[.int .i64 (k : Int), .iface T x])])) (w2.setCell ⟨xb, 0, none⟩ .nilIface)) := by
      have K := B.out.1
      rw [Qlc al.out.1 hq, al.out.2] at K
      rw [Qun I.out.1 (I.out.2.trans K.symm)]
      have ac : Below w.heap.size w w2 := (B.out.2.1.below (Qbk w) fun _ h => h).trans N
      refine ⟨fun ay h => ?_, fun _ h => (by cases h)⟩
      cases h
      rw [Er.val, G]
      exact ⟨rfl, E.below ac (by have := C.out; omega) ac.size⟩
     rw [G]
     clear p hq N P G b H E c0 c1 a0 a1 l HX bi
     go_wp2
     refine bodyPost_ret (v := .tuple #[.agg #[.nilIface], .iface 91 (.agg #[.int .i64 (k : Int), .iface T x])]) (by simp [results, Tryz.results20, go_sem, Q]) rfl ?_
     exact HE.out
    | ok q =>
     obtain ⟨W, V⟩ := q
     obtain ⟨Y, v2, bn, rfl, o, bj, bg, P⟩ := p.good W V hq
     have d := B.out
     have aw := Qeb hq
     have am : Hid (V.size < f.size /\ runO s.size V.size V W = R /\ FrX w.heap.size (w.heap.size <= ·) (fun _ => none) Y w w2 /\ RdAt w2 F V /\ Stk Y W1.heap.size sb W v2 bn w2 /\ W.length + V.size <= s.size /\ w2.rangeAt w.heap.size 0 (D.map encB) /\ w2.heap[xb]? = some (.cells #[.nilIface] 58 (0, 0)) /\ W1.heap.size <= w2.heap.size /\ Y xb = none /\ Y w.heap.size = none /\ Y sb = none /\ Y F = none) := by
      have hW := C.out
      have hs := d.2.2.2.2.2.2.2.1
      refine ⟨aw.1, (Qfd al.out.1 hq).symm.trans d.1, d.2.1.trans o, bj, bg, by have := d.2.2.2.2.1; omega, Qa4 d.2.2.2.2.2.1 (P _ l.2.2.2.1 l.2.2.2.2.1 l.2.2.2.2.2 d.2.2.2.2.2.2.2.2.2.1), (P xb l.1 l.2.1 l.2.2.1 d.2.2.2.2.2.2.2.2.1).trans d.2.2.2.2.2.2.1, Nat.le_trans hs o.size, o.new _ (by omega) d.2.2.2.2.2.2.2.2.1, o.new _ (by omega) d.2.2.2.2.2.2.2.2.2.1, o.new _ (by omega) d.2.2.2.2.2.2.2.2.2.2.1, o.new _ (by omega) d.2.2.2.2.2.2.2.2.2.2.2⟩
     clear p hq o bj bg P d aw c0 c1 a0 a1 l HX bi KW
     go_wp2
     go_roundg V.size
     case measure => exact am.out.1
     case rel => exact ⟨V, W, Y, v2, bn, rfl, am.out.2⟩
variable {er : Er}
theorem Qcm (h : rdPth s = .error er) : er = .base 2 := by
 unfold rdPth at h
 split at h
 ·rename_i h1; cases h; exact Qcb h1
 ·split at h
  ·rename_i h2; cases h; exact (Qbp h2).1
  ·cases h
theorem Qhv (h : rdVl s = .error er) : er = .base 2 := by
 unfold rdVl at h
 split at h
 ·rename_i h1; cases h; exact Qcb h1
 ·exact (Qbp h).1
theorem Qfe {c m : Nat} (h : wrRead c p m = .error er) : er.simple := by
 unfold wrRead at h
 split at h
 ·cases h; show 8 ∈ nums; decide
 ·split at h
  ·cases h; rfl
  ·cases h
theorem Qp0 (h : opRd s = .error er) : er.simple := by
 unfold opRd at h
 split at h
 ·rename_i h1; cases h; rw [Qcb h1]; show 2 ∈ nums; decide
 ·cases h
 ·unfold opLeaf at h
  split at h
  ·rename_i h1; cases h; rw [Qcm h1]; show 2 ∈ nums; decide
  ·split at h
   ·rename_i h1; cases h; rw [Qhv h1]; show 2 ∈ nums; decide
   ·split at h
    ·rename_i h1; cases h; exact Qfe h1
    ·split at h
     ·cases h; show 8 ∈ nums; decide
     ·cases h
 ·unfold opExt at h
  split at h
  ·rename_i h1; cases h; rw [Qcm h1]; show 2 ∈ nums; decide
  ·split at h
   ·rename_i h1; cases h; exact Qfe h1
   ·split at h
    ·cases h; show 8 ∈ nums; decide
    ·cases h
 ·unfold opBr at h
  split at h
  ·rename_i h1; cases h; rw [(Qbp h1).1]; show 2 ∈ nums; decide
  ·split at h
   ·cases h; show 8 ∈ nums; decide
   ·cases h
 ·unfold opStub at h
  split at h
  ·rename_i h1; cases h; rw [(Qbp h1).1]; show 2 ∈ nums; decide
  ·cases h
 ·cases h; show 9 ∈ nums; decide
theorem Qp1 {d : Od} (h : d.make ts = .error er) : er.simple := by
 cases d with
 | gives _ => cases h
 | ext _ =>
  rw [Od.make] at h
  split at h
  ·cases h
  ·cases h; show 8 ∈ nums; decide
 | br _ =>
  rw [Od.make] at h
  split at h
  ·cases h; show 8 ∈ nums; decide
  ·cases h
theorem Qn6 (h : stepO s ts = .error er) : er.simple := by
 unfold stepO at h
 split at h
 ·rename_i h1; cases h; exact Qp0 h1
 ·split at h
  ·cases h; show 10 ∈ nums; decide
  ·split at h
   ·rename_i h1; cases h; exact Qp1 h1
   ·cases h
theorem Qp2 (h : runO L n s ts = .error er) : er.simple := by
 induction n using Nat.strongRecOn generalizing s ts with
 | _ n ih =>
  cases n with
  | zero => rw [runO] at h; cases h
  | succ n =>
   rw [runO] at h
   split at h
   ·rename_i h1; cases h; rw [Er.simple]; exact Qn6 h1
   ·exact ih _ (by omega) h
theorem Qn7 (h : treeF ts D = .error er) : er.simple := by
 unfold treeF at h
 split at h
 ·split at h
  ·cases h; show 8 ∈ nums; decide
  ·split at h
   ·cases h
   ·cases h; show 7 ∈ nums; decide
 ·cases h; show 10 ∈ nums; decide
theorem Qgi (h : openF D s = .error er) : er.simple := by
 unfold openF at h
 split at h
 ·cases h; show 1 ∈ nums; decide
 ·split at h
  ·rename_i h1; cases h; exact Qp2 h1
  ·split at h
   ·rename_i h1; cases h; rw [Er.simple]; exact Qn7 h1
   ·cases h
structure XoS (w : World) (q : Except Er Nd) (e : Ending) (w' : World) : Prop where
 bad : ∀ er, q = .error er -> e = .returned (.tuple #[.pointer none, faultV er.num er.proof er.node er.at_]) /\ Below w.heap.size w w'
 good : ∀ t, q = .ok t -> ∃ b S', e = .returned (.tuple #[.pointer (some ⟨b, 0, none⟩), faultV 0 0 0 0]) /\ TreeAt S' w' b t /\ w.heap.size <= b /\ FrX w.heap.size (fun _ => False) (fun _ => none) S' w w'
theorem Forest.lowB {B' : Nat} (h : Forest B S w) (hB : B' <= B) : Forest B' S w := ⟨h.node, h.ok, fun b t hb => Nat.le_trans hB (h.low b t hb), Nat.le_trans hB h.le⟩
theorem Qrl {b : Nat} (y0 y1 y2 y3 : Value) : Only b w ((((w.setCell ⟨b, 0, none⟩ y0).setCell ⟨b, 1, none⟩ y1).setCell ⟨b, 2, none⟩ y2).setCell ⟨b, 3, none⟩ y3) :=
 ⟨rfl, rfl, rfl, by simp, fun k _ hne => (Below.heap_setCell _ _ _ _ hne).trans ((Below.heap_setCell _ _ _ _ hne).trans ((Below.heap_setCell _ _ _ _ hne).trans (Below.heap_setCell _ _ _ _ hne)))⟩
theorem Qur (sent : Nat -> Addr) (s : ByteArray) (hF : Faults w sent) (hB : Bru w) (hT : Tabs w) (hM : 15 <= w.heap.size) (hTy : typeAt w) (hD : D.length = 32) (hDb : ∀ x ∈ D, x < 256) :
  Calls Tryz.prog 7 #[.agg (D.map encB).toArray, .string s] w fun e w' => XoS w (openF D s) e w' := by
 obtain ⟨A, hA⟩ : ∃ A, (D.map encB).toArray = A := ⟨_, rfl⟩
 obtain ⟨d, aa, I, H⟩ := Qhq w (.cells A 37) (.cells #[.int .i64 0, .int .i64 0, .int .i64 0, .int .i64 0] 33)
 obtain ⟨f, ah⟩ : ∃ x, (w.alloc (.cells A 37)).alloc (.cells #[.int .i64 0, .int .i64 0, .int .i64 0, .int .i64 0] 33) = x := ⟨_, rfl⟩
 rw [ah] at d aa I H
 obtain ⟨a, ac⟩ : ∃ x, w.heap.size + 1 = x := ⟨_, rfl⟩
 rw [ac] at I H
 have G : f.rangeAt w.heap.size 0 (D.map encB) := fun j u hu => by
  rw [Nat.zero_add, World.cell?, aa, <- hA]
  simpa using hu
 have ag := World.block_lt_of_cell? w _ hTy
 have L := Hq (Quq (w := f) sent s (hF.below d) (hB.below d) (hT.below d hM) (Nat.le_trans hM d.size) hD hDb)
 have HT : Hid (∀ W, Below f.heap.size f W -> ∀ er : Er, er.simple -> Calls Tryz.prog 21 #[er.val sent] W fun e w' => e = .returned (faultV er.num er.proof er.node er.at_) /\ Below W.heap.size W w') := fun W hW er hs => Qyk sent er hs W (hF.below (d.behind' hW)) (((d.behind' hW).cell (p := ⟨12, 0, none⟩) ag).trans hTy)
 obtain ⟨q, hq⟩ : ∃ q, openF D s = q := ⟨_, rfl⟩
 rw [hq] at L ⊢
 have HS : Hid (∀ er, q = .error er -> er.simple) := fun er e => Qgi (hq.trans e)
 have l : Hid (Below w.heap.size w f /\ f.heap[a]? = some (.cells #[.int .i64 0, .int .i64 0, .int .i64 0, .int .i64 0] 33 (0, 0)) /\ w.heap.size + 1 = a /\ f.heap.size = a + 1) := ⟨d, I, ac, H⟩
 have au : (Tryz.prog.info? 37).map (·.size) = some (D.map encB).length := by rw [List.length_map, hD]; kernel_rfl
 rw [hA] at L ⊢
 clear hF hB hT hM hTy hD hDb d aa I H ac ag hq
 go_enter Tryz.func7, Tryz.ntmps7
 go_upto_region 1 with fail
 rw [l.out.2.2.1]
 clear ah
 go_wp2_with (refine wpList_load_mid rfl 37 _ rfl w.heap.size 0 rfl (D.map encB) _ G Tryz.underlying37 rfl au ?_)
 refine L.out.mono ?_
 intro e m hS
 cases q with
 | error er =>
  obtain ⟨rfl, S⟩ := hS.bad er rfl
  obtain ⟨et, ev, Z⟩ := er.shape sent
  have E : Below f.heap.size f (m.alloc (.cells #[.nilIface] 58)) := S.alloc S.size _
  have R := HT.out _ E er (HS.out er rfl)
  rw [Z] at R
  have ao := Hq R
  have al : Hid (Below f.heap.size f (m.alloc (.cells #[.nilIface] 58))) := E
  rw [Z]
  clear Z R S hS E G L
  go_wp2_with fail
  refine ao.out.mono ?_
  rintro e w2 ⟨rfl, g⟩
  have T : Below f.heap.size f w2 := al.out.behind' g
  have K : w2.heap[a]? = some (.cells #[.int .i64 0, .int .i64 0, .int .i64 0, .int .i64 0] 33 (0, 0)) := (T.block a (by have := l.out; omega)).trans l.out.2.1
  obtain ⟨c0, c1, c2, c3, f0, f1, f2, f3⟩ := Qax K
  have am : Hid (Below w.heap.size w w2) := l.out.1.behind' T
  obtain ⟨P, X⟩ : ∃ x, er.num = x := ⟨_, rfl⟩
  obtain ⟨Q, Y⟩ : ∃ x, er.proof = x := ⟨_, rfl⟩
  obtain ⟨O, V⟩ : ∃ x, er.node = x := ⟨_, rfl⟩
  obtain ⟨N, U⟩ : ∃ x, er.at_ = x := ⟨_, rfl⟩
  have J : Hid (P = er.num /\ Q = er.proof /\ O = er.node /\ N = er.at_) := ⟨X.symm, Y.symm, V.symm, U.symm⟩
  rw [X, Y, V, U]
  clear X Y V U g T
  go_wp2
  have h3 := Qfn K (.int .i64 (P : Int)) (.int .i64 (Q : Int)) (.int .i64 (O : Int)) (.int .i64 (N : Int))
  have ai : Below w.heap.size w ((((w2.setCell ⟨a, 0, none⟩ (.int .i64 (P : Int))).setCell ⟨a, 1, none⟩ (.int .i64 (Q : Int))).setCell ⟨a, 2, none⟩ (.int .i64 (O : Int))).setCell ⟨a, 3, none⟩ (.int .i64 (N : Int))) := Qp9 am.out (by have := l.out; omega) _ _ _ _
  generalize ((((w2.setCell ⟨a, 0, none⟩ (.int .i64 (P : Int))).setCell ⟨a, 1, none⟩ (.int .i64 (Q : Int))).setCell ⟨a, 2, none⟩ (.int .i64 (O : Int))).setCell ⟨a, 3, none⟩ (.int .i64 (N : Int))) = w3 at h3 ai ⊢
  obtain ⟨o, r, y, B, -⟩ := Qax h3
  refine bodyPost_ret (v := .tuple #[.pointer none, faultV P Q O N]) (by simp [results, Tryz.results7, go_sem, o, r, y, B]) rfl ?_
  refine ⟨fun ax F => ?_, fun _ F => (by cases F)⟩
  cases F
  rw [<- J.out.1, <- J.out.2.1, <- J.out.2.2.1, <- J.out.2.2.2]
  exact ⟨rfl, ai⟩
 | ok t =>
  obtain ⟨z, S1, rfl, hz, i⟩ := hS.good t rfl
  obtain ⟨g, ak, ae, aj⟩ := Qhq m (.cells #[z] 58) (.cells #[z] 60)
  obtain ⟨y0, -⟩ := box1 (Qai m (.cells #[z] 58))
  obtain ⟨W2, aq⟩ : ∃ x, (m.alloc (.cells #[z] 58)).alloc (.cells #[z] 60) = x := ⟨_, rfl⟩
  rw [aq] at g ak ae aj
  have K : W2.heap[a]? = some (.cells #[.int .i64 0, .int .i64 0, .int .i64 0, .int .i64 0] 33 (0, 0)) := (g.block a (by have := l.out; have := i.size; omega)).trans ((i.other a (by have := l.out; omega) rfl (fun h => h)).trans l.out.2.1)
  obtain ⟨c0, c1, c2, c3, f0, f1, f2, f3⟩ := Qax K
  have n := Qrl (w := W2) (b := a) (.int .i64 0) (.int .i64 0) (.int .i64 0) (.int .i64 0)
  have HE : Hid (XoS w (.ok t) (.returned (.tuple #[.pointer (some ⟨m.heap.size + 1, 0, none⟩), faultV 0 0 0 0])) ((((W2.setCell ⟨a, 0, none⟩ (.int .i64 0)).setCell ⟨a, 1, none⟩ (.int .i64 0)).setCell ⟨a, 2, none⟩ (.int .i64 0)).setCell ⟨a, 3, none⟩ (.int .i64 0))) := by
   refine ⟨fun _ F => (by cases F), fun t' F => ?_⟩
   cases F
   have hW := l.out
   have ay := i.size
   have ap : S1 a = none := i.new a (by omega) rfl
   have C : FrX f.heap.size (fun _ => False) (fun _ => none) S1 f W2 := i.behind g
   refine ⟨m.heap.size + 1, S1, rfl, ⟨i.forest.fresh (by omega), z, hz, (n.block _ (by omega) (by omega)).trans ae⟩, by omega, ?_⟩
   have ar : Forest w.heap.size S1 ((((W2.setCell ⟨a, 0, none⟩ (.int .i64 0)).setCell ⟨a, 1, none⟩ (.int .i64 0)).setCell ⟨a, 2, none⟩ (.int .i64 0)).setCell ⟨a, 3, none⟩ (.int .i64 0)) := (Qbj C.forest n ap).lowB (by omega)
   have hs := n.size
   have aw := C.size
   have d := hW.1
   exact ⟨n.os.trans (C.os.trans d.os), n.tape.trans (C.tape.trans d.tape), n.output.trans (C.output.trans d.output), by omega, fun k hk _ _ => (n.block k (by omega) (by omega)).trans ((C.other k (by omega) rfl (fun h => h)).trans (d.block k hk)), ar, fun _ _ h => (by cases h), fun k hk _ => C.new k (by omega) rfl⟩
  have J := Hq hz
  have H2 := Hq K
  clear hS i g ak ae aj n G L K hz
  rcases J.out with ⟨-, rfl⟩ | ⟨-, c, rfl, -⟩
  ·go_wp2
   obtain ⟨o, r, y, B, -⟩ := Qax (Qfn H2.out (.int .i64 0) (.int .i64 0) (.int .i64 0) (.int .i64 0))
   generalize World.setCell _ ⟨a, 3, none⟩ _ = w3 at HE o r y B ⊢
   refine bodyPost_ret (v := .tuple #[.pointer (some ⟨m.heap.size + 1, 0, none⟩), faultV 0 0 0 0]) (by simp [results, Tryz.results7, go_sem, o, r, y, B, faultV]) rfl ?_
   exact HE.out
  ·go_wp2
   obtain ⟨o, r, y, B, -⟩ := Qax (Qfn H2.out (.int .i64 0) (.int .i64 0) (.int .i64 0) (.int .i64 0))
   generalize World.setCell _ ⟨a, 3, none⟩ _ = w3 at HE o r y B ⊢
   refine bodyPost_ret (v := .tuple #[.pointer (some ⟨m.heap.size + 1, 0, none⟩), faultV 0 0 0 0]) (by simp [results, Tryz.results7, go_sem, o, r, y, B, faultV]) rfl ?_
   exact HE.out
end Go.Proofs.YtakidhihbgfjlaaGreatDoor
