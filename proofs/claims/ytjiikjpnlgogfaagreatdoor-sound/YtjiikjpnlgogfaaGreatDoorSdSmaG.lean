/-
  What a call leaves as it was: all but one block.
  Number and Tell of package fault.
  Package twigslaw: sameFault of a fault and itself.
-/
import Derived.Test.YtjiikjpnlgogfaaGreatDoorSdErrG
import Derived.Test.YtjiikjpnlgogfaaGreatDoorSdAsP
import Derived.Test.YtjiikjpnlgogfaaGreatDoorSdAsN
import Derived.Test.YtjiikjpnlgogfaaGreatDoorSdAsQ
import Derived.Deep.DeepCutAuto
namespace Go.Proofs.YtjiikjpnlgogfaaGreatDoor
open Go.RowKit
structure Only (tb : Nat) (w w' : World) : Prop where
 os : w'.os = w.os
 tape : w'.tape = w.tape
 output : w'.output = w.output
 size : w.heap.size ≤ w'.heap.size
 block : ∀ k, k < w.heap.size → k ≠ tb → w'.heap[k]? = w.heap[k]?
theorem Only.below {tb B : Nat} {w0 w w' : World} (h : Only tb w w') (hb : Below B w0 w) (h1 : B ≤ tb) (h2 : B ≤ w.heap.size) : Below B w0 w' :=
 ⟨h.os.trans hb.os, h.tape.trans hb.tape, h.output.trans hb.output, Nat.le_trans hb.size h.size, fun k hk => (h.block k (by omega) (by omega)).trans (hb.block k hk)⟩
theorem Only.refl (tb : Nat) (w : World) : Only tb w w := ⟨rfl, rfl, rfl, Nat.le_refl _, fun _ _ _ => rfl⟩
theorem Only.trans {tb : Nat} {w w1 w2 : World} (h : Only tb w w1) (k : Only tb w1 w2) : Only tb w w2 :=
 ⟨k.os.trans h.os, k.tape.trans h.tape, k.output.trans h.output, Nat.le_trans h.size k.size, fun i hi hne => (k.block i (Nat.lt_of_lt_of_le hi h.size) hne).trans (h.block i hi hne)⟩
theorem Only.of_below {tb : Nat} {w w' : World} (h : Below w.heap.size w w') : Only tb w w' := ⟨h.os, h.tape, h.output, h.size, fun k hk _ => h.block k hk⟩
theorem Only.alloc {tb : Nat} {w w' : World} (h : Only tb w w') (o : Obj) : Only tb w (w'.alloc o) := h.trans (.of_below ((Below.refl _ _).alloc (Nat.le_refl _) o))
end Go.Proofs.YtjiikjpnlgogfaaGreatDoor
namespace Go.Proofs.YtjiikjpnlgogfaaGreatDoor
open Go.RowKit Go.Stop
theorem errno_nil (w : World) : Calls Tryz.prog 49 #[.nilIface] w fun e w' => e = .returned (.int .i64 0) ∧ w' = w := by
 go_enter Tryz.func49, Tryz.ntmps49
 go_wp2
 go_ret
 exact ⟨rfl, rfl⟩
theorem simple_num : ∀ e : Er, e.simple → e.num ∈ nums
 | .base _, h => h
 | .place _ e, h => simple_num e h
 | .noNode _, _ => by simp [Er.num, nums]
 | .inNode _ e, h => simple_num e h
 | .inProof _ e, h => simple_num e h
set_option maxRecDepth 100000 in
set_option maxHeartbeats 3200000 in
theorem errno_any (sent : Nat → Addr) (e0 : Er) (h0 : e0.simple) (w : World) (hF : Faults w sent) :
  Calls Tryz.prog 49 #[e0.val sent] w fun e w' => e = .returned (.int .i64 (e0.num : Int)) ∧ Below w.heap.size w w' := by
 obtain ⟨t0, v0, hv0⟩ := e0.shape sent
 have HN : Hid (∀ W, Below w.heap.size w W → ∀ b ∈ nums, b ≠ 3 → Calls Tryz.prog 81 #[.iface t0 v0, .iface 423 (.pointer (some (sent b)))] W fun e w' => e = .returned (.bool (decide (e0.num = b))) ∧ Below W.heap.size W w') := by
  intro W hW b hb h3
  have := is_any sent b hb h3 e0 h0 W (hF.below hW)
  rw [hv0] at this
  exact this
 have HF : Hid (Faults w sent) := hF
 have hn := simple_num e0 h0
 obtain ⟨n, hnn⟩ : ∃ n, e0.num = n := ⟨_, rfl⟩
 rw [hnn] at hn HN ⊢
 rw [hv0]
 clear hv0 h0 hF hnn
 have HB0 : Hid (Below w.heap.size w w) := Below.refl _ _
 have g0 : w.cell? ⟨0, 0, none⟩ = some (.iface 423 (.pointer (some (sent 1)))) := HF.out.var 1 (by decide)
 go_enter Tryz.func49, Tryz.ntmps49
 go_wp2_with fail
 refine (HN.out _ HB0.out 1 (by decide) (by decide)).mono ?_
 rintro e w1 ⟨rfl, hb⟩
 have HB1 : Hid (Below w.heap.size w w1) := Below.behind HB0.out hb
 clear hb g0
 have g1 : w1.cell? ⟨1, 0, none⟩ = some (.iface 423 (.pointer (some (sent 2)))) := (HF.out.below HB1.out).var 2 (by decide)
 by_cases hm0 : n = 1
 ·subst hm0
  go_wp2
  go_ret
  exact ⟨rfl, HB1.out⟩
 have hd0 : decide (n = 1) = false := decide_eq_false hm0
 go_wp2_with fail
 refine (HN.out _ HB1.out 2 (by decide) (by decide)).mono ?_
 rintro e w2 ⟨rfl, hb⟩
 have HB2 : Hid (Below w.heap.size w w2) := Below.behind HB1.out hb
 clear hb g1
 have g2 : w2.cell? ⟨2, 0, none⟩ = some (.iface 423 (.pointer (some (sent 4)))) := (HF.out.below HB2.out).var 4 (by decide)
 by_cases hm1 : n = 2
 ·subst hm1
  go_wp2
  go_ret
  exact ⟨rfl, HB2.out⟩
 have hd1 : decide (n = 2) = false := decide_eq_false hm1
 go_wp2_with fail
 refine (HN.out _ HB2.out 4 (by decide) (by decide)).mono ?_
 rintro e w3 ⟨rfl, hb⟩
 have HB3 : Hid (Below w.heap.size w w3) := Below.behind HB2.out hb
 clear hb g2
 have g3 : w3.cell? ⟨3, 0, none⟩ = some (.iface 423 (.pointer (some (sent 5)))) := (HF.out.below HB3.out).var 5 (by decide)
 by_cases hm2 : n = 4
 ·subst hm2
  go_wp2
  go_ret
  exact ⟨rfl, HB3.out⟩
 have hd2 : decide (n = 4) = false := decide_eq_false hm2
 go_wp2_with fail
 refine (HN.out _ HB3.out 5 (by decide) (by decide)).mono ?_
 rintro e w4 ⟨rfl, hb⟩
 have HB4 : Hid (Below w.heap.size w w4) := Below.behind HB3.out hb
 clear hb g3
 have g4 : w4.cell? ⟨4, 0, none⟩ = some (.iface 423 (.pointer (some (sent 6)))) := (HF.out.below HB4.out).var 6 (by decide)
 by_cases hm3 : n = 5
 ·subst hm3
  go_wp2
  go_ret
  exact ⟨rfl, HB4.out⟩
 have hd3 : decide (n = 5) = false := decide_eq_false hm3
 go_wp2_with fail
 refine (HN.out _ HB4.out 6 (by decide) (by decide)).mono ?_
 rintro e w5 ⟨rfl, hb⟩
 have HB5 : Hid (Below w.heap.size w w5) := Below.behind HB4.out hb
 clear hb g4
 have g5 : w5.cell? ⟨5, 0, none⟩ = some (.iface 423 (.pointer (some (sent 7)))) := (HF.out.below HB5.out).var 7 (by decide)
 by_cases hm4 : n = 6
 ·subst hm4
  go_wp2
  go_ret
  exact ⟨rfl, HB5.out⟩
 have hd4 : decide (n = 6) = false := decide_eq_false hm4
 go_wp2_with fail
 refine (HN.out _ HB5.out 7 (by decide) (by decide)).mono ?_
 rintro e w6 ⟨rfl, hb⟩
 have HB6 : Hid (Below w.heap.size w w6) := Below.behind HB5.out hb
 clear hb g5
 have g6 : w6.cell? ⟨6, 0, none⟩ = some (.iface 423 (.pointer (some (sent 8)))) := (HF.out.below HB6.out).var 8 (by decide)
 by_cases hm5 : n = 7
 ·subst hm5
  go_wp2
  go_ret
  exact ⟨rfl, HB6.out⟩
 have hd5 : decide (n = 7) = false := decide_eq_false hm5
 go_wp2_with fail
 refine (HN.out _ HB6.out 8 (by decide) (by decide)).mono ?_
 rintro e w7 ⟨rfl, hb⟩
 have HB7 : Hid (Below w.heap.size w w7) := Below.behind HB6.out hb
 clear hb g6
 have g7 : w7.cell? ⟨7, 0, none⟩ = some (.iface 423 (.pointer (some (sent 9)))) := (HF.out.below HB7.out).var 9 (by decide)
 by_cases hm6 : n = 8
 ·subst hm6
  go_wp2
  go_ret
  exact ⟨rfl, HB7.out⟩
 have hd6 : decide (n = 8) = false := decide_eq_false hm6
 go_wp2_with fail
 refine (HN.out _ HB7.out 9 (by decide) (by decide)).mono ?_
 rintro e w8 ⟨rfl, hb⟩
 have HB8 : Hid (Below w.heap.size w w8) := Below.behind HB7.out hb
 clear hb g7
 have g8 : w8.cell? ⟨8, 0, none⟩ = some (.iface 423 (.pointer (some (sent 10)))) := (HF.out.below HB8.out).var 10 (by decide)
 by_cases hm7 : n = 9
 ·subst hm7
  go_wp2
  go_ret
  exact ⟨rfl, HB8.out⟩
 have hd7 : decide (n = 9) = false := decide_eq_false hm7
 go_wp2_with fail
 refine (HN.out _ HB8.out 10 (by decide) (by decide)).mono ?_
 rintro e w9 ⟨rfl, hb⟩
 have HB9 : Hid (Below w.heap.size w w9) := Below.behind HB8.out hb
 clear hb g8
 have g9 : w9.cell? ⟨9, 0, none⟩ = some (.iface 423 (.pointer (some (sent 11)))) := (HF.out.below HB9.out).var 11 (by decide)
 by_cases hm8 : n = 10
 ·subst hm8
  go_wp2
  go_ret
  exact ⟨rfl, HB9.out⟩
 have hd8 : decide (n = 10) = false := decide_eq_false hm8
 go_wp2_with fail
 refine (HN.out _ HB9.out 11 (by decide) (by decide)).mono ?_
 rintro e w10 ⟨rfl, hb⟩
 have HB10 : Hid (Below w.heap.size w w10) := Below.behind HB9.out hb
 clear hb g9
 have g10 : w10.cell? ⟨10, 0, none⟩ = some (.iface 423 (.pointer (some (sent 12)))) := (HF.out.below HB10.out).var 12 (by decide)
 by_cases hm9 : n = 11
 ·subst hm9
  go_wp2
  go_ret
  exact ⟨rfl, HB10.out⟩
 have hd9 : decide (n = 11) = false := decide_eq_false hm9
 go_wp2_with fail
 refine (HN.out _ HB10.out 12 (by decide) (by decide)).mono ?_
 rintro e w11 ⟨rfl, hb⟩
 have HB11 : Hid (Below w.heap.size w w11) := Below.behind HB10.out hb
 clear hb g10
 have g11 : w11.cell? ⟨11, 0, none⟩ = some (.iface 423 (.pointer (some (sent 13)))) := (HF.out.below HB11.out).var 13 (by decide)
 by_cases hm10 : n = 12
 ·subst hm10
  go_wp2
  go_ret
  exact ⟨rfl, HB11.out⟩
 have hd10 : decide (n = 12) = false := decide_eq_false hm10
 go_wp2_with fail
 refine (HN.out _ HB11.out 13 (by decide) (by decide)).mono ?_
 rintro e w12 ⟨rfl, hb⟩
 have HB12 : Hid (Below w.heap.size w w12) := Below.behind HB11.out hb
 clear hb g11
 by_cases hm11 : n = 13
 ·subst hm11
  go_wp2
  go_ret
  exact ⟨rfl, HB12.out⟩
 have hd11 : decide (n = 13) = false := decide_eq_false hm11
 obtain rfl : n = 3 := by
  simp only [nums, List.mem_cons, List.not_mem_nil, or_false] at hn
  omega
 go_wp2
 go_ret
 exact ⟨rfl, HB12.out⟩
def Er.at_ (e : Er) : Nat := (e.asP.map (·.1)).getD 0
def Er.node (e : Er) : Nat := (e.asN.map (·.1)).getD 0
def Er.proof (e : Er) : Nat := (e.asQ.map (·.1)).getD 0
abbrev faultV (err proof node at_ : Nat) : Value := .agg #[.int .i64 (err : Int), .int .i64 (proof : Int), .int .i64 (node : Int), .int .i64 (at_ : Int)]
theorem AsSaid.soft {r : Option (Nat × Er)} {sent : Nat → Addr} {tb : Nat} {w : World} {o0 : Value} (ht : w.cell? ⟨tb, 0, none⟩ = some o0) {e : Ending} {w' : World} (h : AsSaid r sent tb w e w') :
  ∃ b : Bool, e = .returned (.bool b) ∧ Only tb w w' ∧ (b = true → w'.cell? ⟨tb, 0, none⟩ = some (.int .i64 (((r.map (·.1)).getD 0 : Nat) : Int))) ∧ (b = false → (r.map (·.1)).getD 0 = 0) := by
 have hlt := World.block_lt_of_cell? w _ ht
 rcases r with _ | ⟨k, x⟩
 ·obtain ⟨rfl, hb⟩ := h.1 rfl
  exact ⟨false, rfl, ⟨hb.os, hb.tape, hb.output, hb.size, fun k hk _ => hb.block k hk⟩, by simp, by simp⟩
 ·obtain ⟨rfl, w1, hb, rfl⟩ := h.2 k x rfl
  refine ⟨true, rfl, ⟨hb.os, hb.tape, hb.output, by simpa using hb.size, fun j hj hne => ?_⟩, fun _ => ?_, by simp⟩
  ·rw [Below.heap_setCell _ _ _ _ hne, Below.heap_setCell _ _ _ _ hne]
   exact hb.block j hj
  ·rw [World.cell?_setCell_other _ _ _ _ (by simp)]
   exact World.cell?_setCell_same _ _ _ ((hb.cell hlt).trans ht)
structure Four (w : World) (b : Nat) (x0 x1 x2 x3 : Nat) : Prop where
 lt : b < w.heap.size
 c0 : w.cell? ⟨b, 0, none⟩ = some (.int .i64 (x0 : Int))
 c1 : w.cell? ⟨b, 1, none⟩ = some (.int .i64 (x1 : Int))
 c2 : w.cell? ⟨b, 2, none⟩ = some (.int .i64 (x2 : Int))
 c3 : w.cell? ⟨b, 3, none⟩ = some (.int .i64 (x3 : Int))
 free : ∀ j, j < 4 → w.frozen? ⟨b, j, none⟩ = false
theorem Four.keep {w w' : World} {b x0 x1 x2 x3 : Nat} (h : Four w b x0 x1 x2 x3) (e : w'.heap[b]? = w.heap[b]?) (hs : w.heap.size ≤ w'.heap.size) : Four w' b x0 x1 x2 x3 :=
 ⟨Nat.lt_of_lt_of_le h.lt hs, (World.cell?_of_block e).trans h.c0, (World.cell?_of_block e).trans h.c1, (World.cell?_of_block e).trans h.c2, (World.cell?_of_block e).trans h.c3, fun j hj => (World.frozen?_of_block e).trans (h.free j hj)⟩
theorem Four.fresh (w : World) (x0 x1 x2 x3 : Nat) (t : TypeId) : Four (w.alloc (.cells #[.int .i64 (x0 : Int), .int .i64 (x1 : Int), .int .i64 (x2 : Int), .int .i64 (x3 : Int)] t)) w.heap.size x0 x1 x2 x3 :=
 ⟨by simp, by rw [World.cell?_alloc_new]; rfl, by rw [World.cell?_alloc_new]; rfl, by rw [World.cell?_alloc_new]; rfl, by rw [World.cell?_alloc_new]; rfl, fun _ _ => World.frozen?_alloc_new _ _ _ _⟩
theorem Four.past {w : World} {b x0 x1 x2 x3 : Nat} (h : Four w b x0 x1 x2 x3) (o : Obj) : Four (w.alloc o) b x0 x1 x2 x3 := h.keep (Below.heap_alloc _ _ _ h.lt) (by simp)
theorem Four.only {tb : Nat} {w w' : World} {b x0 x1 x2 x3 : Nat} (h : Four w b x0 x1 x2 x3) (ho : Only tb w w') (hne : b ≠ tb) : Four w' b x0 x1 x2 x3 := h.keep (ho.block b h.lt hne) ho.size
theorem Four.other {w : World} {b x0 x1 x2 x3 : Nat} (h : Four w b x0 x1 x2 x3) {a : Addr} (hne : b ≠ a.block) (u : Value) : Four (w.setCell a u) b x0 x1 x2 x3 := h.keep (Below.heap_setCell _ _ _ _ hne) (by simp)
theorem Four.set1 {w : World} {b x0 x1 x2 x3 : Nat} (h : Four w b x0 x1 x2 x3) (y : Nat) : Four (w.setCell ⟨b, 1, none⟩ (.int .i64 (y : Int))) b x0 y x2 x3 :=
 ⟨by simpa using h.lt, (World.cell?_setCell_other _ _ _ _ (by simp)).trans h.c0, World.cell?_setCell_same _ _ _ h.c1, (World.cell?_setCell_other _ _ _ _ (by simp)).trans h.c2, (World.cell?_setCell_other _ _ _ _ (by simp)).trans h.c3, fun j hj => by rw [World.frozen?_setCell]; exact h.free j hj⟩
theorem Four.set2 {w : World} {b x0 x1 x2 x3 : Nat} (h : Four w b x0 x1 x2 x3) (y : Nat) : Four (w.setCell ⟨b, 2, none⟩ (.int .i64 (y : Int))) b x0 x1 y x3 :=
 ⟨by simpa using h.lt, (World.cell?_setCell_other _ _ _ _ (by simp)).trans h.c0, (World.cell?_setCell_other _ _ _ _ (by simp)).trans h.c1, World.cell?_setCell_same _ _ _ h.c2, (World.cell?_setCell_other _ _ _ _ (by simp)).trans h.c3, fun j hj => by rw [World.frozen?_setCell]; exact h.free j hj⟩
theorem Four.set3 {w : World} {b x0 x1 x2 x3 : Nat} (h : Four w b x0 x1 x2 x3) (y : Nat) : Four (w.setCell ⟨b, 3, none⟩ (.int .i64 (y : Int))) b x0 x1 x2 y :=
 ⟨by simpa using h.lt, (World.cell?_setCell_other _ _ _ _ (by simp)).trans h.c0, (World.cell?_setCell_other _ _ _ _ (by simp)).trans h.c1, (World.cell?_setCell_other _ _ _ _ (by simp)).trans h.c2, World.cell?_setCell_same _ _ _ h.c3, fun j hj => by rw [World.frozen?_setCell]; exact h.free j hj⟩
def typeAt (w : World) : Prop := w.cell? ⟨12, 0, none⟩ = some (.iface 313 (.agg #[.pointer (some ⟨17, 114, none⟩)]))
def AsSoft (f : Er → Option (Nat × Er)) (e0 : Er) (tb : Nat) (W : World) (e : Ending) (w' : World) : Prop :=
 ∃ b : Bool, e = .returned (.bool b) ∧ Only tb W w' ∧ (b = true → w'.cell? ⟨tb, 0, none⟩ = some (.int .i64 ((((f e0).map (·.1)).getD 0 : Nat) : Int))) ∧ (b = false → ((f e0).map (·.1)).getD 0 = 0)
theorem tell_nil (w : World) : Calls Tryz.prog 58 #[.nilIface] w fun e w' => e = .returned (faultV 0 0 0 0) ∧ Below w.heap.size w w' := by
 have HA := Hid.hide (fun t W => as_nil t W)
 go_enter Tryz.func58, Tryz.ntmps58
 go_wp2_with (first | (go_at_call 49; refine (errno_nil _).mono ?_; rintro e w1 ⟨rfl, rfl⟩) | (go_at_call 101; refine (HA.out _ _).mono ?_; rintro e w1 ⟨rfl, rfl⟩))
 refine bodyPost_ret (v := faultV 0 0 0 0) (by simp [results, Tryz.results58, go_sem]) rfl ⟨rfl, ?_⟩
 exact (((((Below.refl _ _).alloc (Nat.le_refl _) _).alloc (by simp) _).alloc (by simp; omega) _).alloc (by simp; omega) _).alloc (by simp; omega) _
set_option maxRecDepth 100000 in
set_option maxHeartbeats 3200000 in
theorem tell_any (sent : Nat → Addr) (e0 : Er) (h0 : e0.simple) (w : World) (hF : Faults w sent) (hT : typeAt w) :
  Calls Tryz.prog 58 #[e0.val sent] w fun e w' => e = .returned (faultV e0.num e0.proof e0.node e0.at_) ∧ Below w.heap.size w w' := by
 obtain ⟨t0, v0, hv0⟩ := e0.shape sent
 have hlg : 12 < w.heap.size := World.block_lt_of_cell? w _ hT
 have HN : Hid (∀ W, Below w.heap.size w W → Calls Tryz.prog 49 #[.iface t0 v0] W fun e w' => e = .returned (.int .i64 (e0.num : Int)) ∧ Below W.heap.size W w') := fun W hW => hv0 ▸ errno_any sent e0 h0 W (hF.below hW)
 have HP : Hid (∀ W tb o0 o1, Below w.heap.size w W → W.cell? ⟨tb, 0, none⟩ = some o0 → W.cell? ⟨tb, 1, none⟩ = some o1 → W.frozen? ⟨tb, 0, none⟩ = false → W.frozen? ⟨tb, 1, none⟩ = false → Calls Tryz.prog 101 #[.iface t0 v0, .iface 201 (.pointer (some ⟨tb, 0, none⟩))] W (AsSoft Er.asP e0 tb W)) := fun W tb o0 o1 hW a b c d => hv0 ▸ (as_P sent e0 h0 tb o0 o1 W ((hW.cell hlg).trans hT) a b c d).mono fun _ _ h => h.soft a
 have HQ : Hid (∀ W tb o0 o1, Below w.heap.size w W → W.cell? ⟨tb, 0, none⟩ = some o0 → W.cell? ⟨tb, 1, none⟩ = some o1 → W.frozen? ⟨tb, 0, none⟩ = false → W.frozen? ⟨tb, 1, none⟩ = false → Calls Tryz.prog 101 #[.iface t0 v0, .iface 202 (.pointer (some ⟨tb, 0, none⟩))] W (AsSoft Er.asN e0 tb W)) := fun W tb o0 o1 hW a b c d => hv0 ▸ (as_N sent e0 h0 tb o0 o1 W ((hW.cell hlg).trans hT) a b c d).mono fun _ _ h => h.soft a
 have HR : Hid (∀ W tb o0 o1, Below w.heap.size w W → W.cell? ⟨tb, 0, none⟩ = some o0 → W.cell? ⟨tb, 1, none⟩ = some o1 → W.frozen? ⟨tb, 0, none⟩ = false → W.frozen? ⟨tb, 1, none⟩ = false → Calls Tryz.prog 101 #[.iface t0 v0, .iface 205 (.pointer (some ⟨tb, 0, none⟩))] W (AsSoft Er.asQ e0 tb W)) := fun W tb o0 o1 hW a b c d => hv0 ▸ (as_Q sent e0 h0 tb o0 o1 W ((hW.cell hlg).trans hT) a b c d).mono fun _ _ h => h.soft a
 rw [hv0]
 clear hv0 h0 hF hT hlg
 go_enter Tryz.func58, Tryz.ntmps58
 go_wp2_with fail
 refine (HN.out _ ((Below.refl _ _).alloc (Nat.le_refl _) _)).mono ?_
 rintro e w1 ⟨rfl, hb1⟩
 have B1 : Aside (Below w.heap.size w w1) := Below.up hb1
 have F1 : Aside (Four w1 w.heap.size 0 0 0 0) := (Four.fresh w 0 0 0 0 _).keep (hb1.block _ (by simp)) hb1.size
 clear hb1
 go_wp2_with fail
 refine (HP.out _ (w1.heap.size + 1) (.int .i64 0) .nilIface ?b1 ?c1 ?d1 ?f1 ?g1).mono ?_
 case b1 => exact (B1.out.alloc B1.out.size _).alloc (by have := B1.out.size; simp; omega) _
 case c1 => go_simp
 case d1 => go_simp
 case f1 => go_simp
 case g1 => go_simp
 rintro e w2 ⟨b, rfl, hO, hk, hz⟩
 have P1 : Aside (Below w.heap.size w w2 ∧ Four w2 w.heap.size 0 0 0 0 ∧ Four w2 w1.heap.size e0.num 0 0 0) := by
  have h1 := F1.out
  have h2 := Four.fresh w1 e0.num 0 0 0 66
  have h4 := h1.lt
  have h5 := h2.lt
  have h6 := B1.out.size
  refine ⟨hO.below ((B1.out.alloc B1.out.size _).alloc (by have := B1.out.size; simp; omega) _) (by omega) (by simp; omega), ?_, ?_⟩
  ·exact Four.only ((h1.past _).past _) hO (by omega)
  ·exact Four.only ((Four.fresh w1 e0.num 0 0 0 _).past _) hO (by omega)
 have Z : Aside (_ ∧ _) := ⟨hk, hz⟩
 clear hO hk hz
 go_upto_if 12 with fail
 go_cut [] (fun wc => Below w.heap.size w wc ∧ Four wc w.heap.size 0 0 0 0 ∧ Four wc w1.heap.size e0.num 0 0 e0.at_)
 case first =>
  cases b with
  | false =>
   go_wp2
   go_meet
   have hz : e0.at_ = 0 := Z.out.2 (by first | trivial | rfl)
   rw [hz]
   exact P1.out
  | true =>
   have hk : w2.cell? ⟨w1.heap.size + 1, 0, none⟩ = some (.int .i64 ((e0.at_ : Nat) : Int)) := Z.out.1 rfl
   have k0 := P1.out.2.2.c3
   have k1 := P1.out.2.2.free 3 (by omega)
   go_wp2
   go_meet
   exact ⟨P1.out.1.setCell (by simp only; exact B1.out.size) _, P1.out.2.1.other (by have := F1.out.lt; simp only; omega) _, P1.out.2.2.set3 _⟩
 obtain ⟨C1, D1, E1⟩ := hcut
 have Q1 : Aside (Below w.heap.size w wc ∧ Four wc w.heap.size 0 0 0 0 ∧ Four wc w1.heap.size e0.num 0 0 e0.at_) := ⟨C1, D1, E1⟩
 clear C1 D1 E1 P1 Z
 obtain ⟨v2, rfl⟩ : ∃ v2 : World, v2 = wc := ⟨_, rfl⟩
 go_wp2_with fail
 refine (HQ.out _ (v2.heap.size) (.int .i64 0) .nilIface ?b2 ?c2 ?d2 ?f2 ?g2).mono ?_
 case b2 => exact Q1.out.1.alloc Q1.out.1.size _
 case c2 => go_simp
 case d2 => go_simp
 case f2 => go_simp
 case g2 => go_simp
 rintro e w3 ⟨b, rfl, hO, hk, hz⟩
 have P2 : Aside (Below w.heap.size w w3 ∧ Four w3 w.heap.size 0 0 0 0 ∧ Four w3 w1.heap.size e0.num 0 0 e0.at_) := by
  have h1 := Q1.out.2.1
  have h2 := Q1.out.2.2
  have h4 := h1.lt
  have h5 := h2.lt
  have h6 := B1.out.size
  refine ⟨hO.below (Q1.out.1.alloc Q1.out.1.size _) (by omega) (by simp; omega), ?_, ?_⟩
  ·exact Four.only (h1.past _) hO (by omega)
  ·exact Four.only (h2.past _) hO (by omega)
 have Z : Aside (_ ∧ _) := ⟨hk, hz⟩
 clear hO hk hz
 go_upto_if 18 with fail
 go_cut [] (fun wc => Below w.heap.size w wc ∧ Four wc w.heap.size 0 0 0 0 ∧ Four wc w1.heap.size e0.num 0 e0.node e0.at_)
 case first =>
  cases b with
  | false =>
   go_wp2
   go_meet
   have hz : e0.node = 0 := Z.out.2 (by first | trivial | rfl)
   rw [hz]
   exact P2.out
  | true =>
   have hk : w3.cell? ⟨v2.heap.size, 0, none⟩ = some (.int .i64 ((e0.node : Nat) : Int)) := Z.out.1 rfl
   have k0 := P2.out.2.2.c2
   have k1 := P2.out.2.2.free 2 (by omega)
   go_wp2
   go_meet
   exact ⟨P2.out.1.setCell (by simp only; exact B1.out.size) _, P2.out.2.1.other (by have := F1.out.lt; simp only; omega) _, P2.out.2.2.set2 _⟩
 obtain ⟨C2, D2, E2⟩ := hcut
 have Q2 : Aside (Below w.heap.size w wc ∧ Four wc w.heap.size 0 0 0 0 ∧ Four wc w1.heap.size e0.num 0 e0.node e0.at_) := ⟨C2, D2, E2⟩
 clear C2 D2 E2 P2 Z
 obtain ⟨v3, rfl⟩ : ∃ v3 : World, v3 = wc := ⟨_, rfl⟩
 go_wp2_with fail
 refine (HR.out _ (v3.heap.size) (.int .i64 0) .nilIface ?b3 ?c3 ?d3 ?f3 ?g3).mono ?_
 case b3 => exact Q2.out.1.alloc Q2.out.1.size _
 case c3 => go_simp
 case d3 => go_simp
 case f3 => go_simp
 case g3 => go_simp
 rintro e w4 ⟨b, rfl, hO, hk, hz⟩
 have P3 : Aside (Below w.heap.size w w4 ∧ Four w4 w.heap.size 0 0 0 0 ∧ Four w4 w1.heap.size e0.num 0 e0.node e0.at_) := by
  have h1 := Q2.out.2.1
  have h2 := Q2.out.2.2
  have h4 := h1.lt
  have h5 := h2.lt
  have h6 := B1.out.size
  refine ⟨hO.below (Q2.out.1.alloc Q2.out.1.size _) (by omega) (by simp; omega), ?_, ?_⟩
  ·exact Four.only (h1.past _) hO (by omega)
  ·exact Four.only (h2.past _) hO (by omega)
 have Z : Aside (_ ∧ _) := ⟨hk, hz⟩
 clear hO hk hz
 go_upto_if 24 with fail
 go_cut [] (fun wc => Below w.heap.size w wc ∧ Four wc w.heap.size 0 0 0 0 ∧ Four wc w1.heap.size e0.num e0.proof e0.node e0.at_)
 case first =>
  cases b with
  | false =>
   go_wp2
   go_meet
   have hz : e0.proof = 0 := Z.out.2 (by first | trivial | rfl)
   rw [hz]
   exact P3.out
  | true =>
   have hk : w4.cell? ⟨v3.heap.size, 0, none⟩ = some (.int .i64 ((e0.proof : Nat) : Int)) := Z.out.1 rfl
   have k0 := P3.out.2.2.c1
   have k1 := P3.out.2.2.free 1 (by omega)
   go_wp2
   go_meet
   exact ⟨P3.out.1.setCell (by simp only; exact B1.out.size) _, P3.out.2.1.other (by have := F1.out.lt; simp only; omega) _, P3.out.2.2.set1 _⟩
 obtain ⟨C3, D3, E3⟩ := hcut
 have Q3 : Aside (Below w.heap.size w wc ∧ Four wc w.heap.size 0 0 0 0 ∧ Four wc w1.heap.size e0.num e0.proof e0.node e0.at_) := ⟨C3, D3, E3⟩
 clear C3 D3 E3 P3 Z
 obtain ⟨v4, rfl⟩ : ∃ v4 : World, v4 = wc := ⟨_, rfl⟩
 have k0 := Q3.out.2.2.c0
 have k1 := Q3.out.2.2.c1
 have k2 := Q3.out.2.2.c2
 have k3 := Q3.out.2.2.c3
 have r0 := Q3.out.2.1.c0
 have r1 := Q3.out.2.1.c1
 have r2 := Q3.out.2.1.c2
 have r3 := Q3.out.2.1.c3
 have f0 := Q3.out.2.1.free 0 (by omega)
 have f1 := Q3.out.2.1.free 1 (by omega)
 have f2 := Q3.out.2.1.free 2 (by omega)
 have f3 := Q3.out.2.1.free 3 (by omega)
 go_wp2
 refine bodyPost_ret (v := faultV e0.num e0.proof e0.node e0.at_) (by simp [results, Tryz.results58, go_sem, r0, r1, r2, r3]) rfl ⟨rfl, ?_⟩
 exact (((Q3.out.1.setCell (Nat.le_refl _) _).setCell (Nat.le_refl _) _).setCell (Nat.le_refl _) _).setCell (Nat.le_refl _) _
end Go.Proofs.YtjiikjpnlgogfaaGreatDoor
namespace Go.Proofs.YtjiikjpnlgogfaaGreatDoor
open Go.RowKit
end Go.Proofs.YtjiikjpnlgogfaaGreatDoor
