/-
  What a call leaves as it was: all but one block.
  Number and Tell of package fault.
  Package twigslaw: sameFault of a fault and itself.
-/
import Derived.Test.YtjiikjpnlgogfaaGreatDoorMqErrG
import Derived.RowKitTokens
import Derived.Deep.DeepCutAuto
namespace Go.Proofs.YtjiikjpnlgogfaaGreatDoor
open Go.RowKit

/-- Only the block tb may be another. -/
structure Only (tb : Nat) (w w' : World) : Prop where
  os : w'.os = w.os
  tape : w'.tape = w.tape
  output : w'.output = w.output
  size : w.heap.size ≤ w'.heap.size
  block : ∀ k, k < w.heap.size → k ≠ tb → w'.heap[k]? = w.heap[k]?
theorem Only.of_below {tb : Nat} {w w' : World} (h : Below w.heap.size w w') : Only tb w w' := ⟨h.os, h.tape, h.output, h.size, fun k hk _ => h.block k hk⟩
end Go.Proofs.YtjiikjpnlgogfaaGreatDoor

namespace Go.Proofs.YtjiikjpnlgogfaaGreatDoor
open Go.RowKit Go.Stop

theorem errno_nil (w : World) : Calls Tryz.prog 49 #[.nilIface] w fun e w' => e = .returned (.int .i64 0) ∧ w' = w := by
  go_enter Tryz.func49, Tryz.ntmps49
  go_wp2
  go_ret
  exact ⟨rfl, rfl⟩

theorem simple_num : ∀ e : Er, e.simple → e.num ∈ nums
  | .base _, h => h
  | .place _ e, h => simple_num e h
  | .noNode _, _ => by simp [Er.num, nums]
  | .inNode _ e, h => simple_num e h
  | .inProof _ e, h => simple_num e h

set_option maxRecDepth 100000 in
set_option maxHeartbeats 3200000 in
theorem errno_any (sent : Nat → Addr) (e0 : Er) (h0 : e0.simple) (w : World) (hF : Faults w sent) :
    Calls Tryz.prog 49 #[e0.val sent] w fun e w' => e = .returned (.int .i64 (e0.num : Int)) ∧ Below w.heap.size w w' := by
  obtain ⟨t0, v0, hv0⟩ := e0.shape sent
  have HN : Hid (∀ W, Below w.heap.size w W → ∀ b ∈ nums, b ≠ 3 → Calls Tryz.prog 81 #[.iface t0 v0, .iface 423 (.pointer (some (sent b)))] W fun e w' => e = .returned (.bool (decide (e0.num = b))) ∧ Below W.heap.size W w') := by
    intro W hW b hb h3
    have := is_any sent b hb h3 e0 h0 W (hF.below hW)
    rw [hv0] at this
    exact this
  have HF : Hid (Faults w sent) := hF
  have hn := simple_num e0 h0
  obtain ⟨n, hnn⟩ : ∃ n, e0.num = n := ⟨_, rfl⟩
  rw [hnn] at hn HN ⊢
  rw [hv0]
  clear hv0 h0 hF hnn
  have HB0 : Hid (Below w.heap.size w w) := Below.refl _ _
  have g0 : w.cell? ⟨0, 0, none⟩ = some (.iface 423 (.pointer (some (sent 1)))) := HF.out.var 1 (by decide)
  go_enter Tryz.func49, Tryz.ntmps49
  go_wp2_with fail
  refine (HN.out _ HB0.out 1 (by decide) (by decide)).mono ?_
  rintro e w1 ⟨rfl, hb⟩
  have HB1 : Hid (Below w.heap.size w w1) := Below.behind HB0.out hb
  clear hb g0
  have g1 : w1.cell? ⟨1, 0, none⟩ = some (.iface 423 (.pointer (some (sent 2)))) := (HF.out.below HB1.out).var 2 (by decide)
  by_cases hm0 : n = 1
  · subst hm0
    go_wp2
    go_ret
    exact ⟨rfl, HB1.out⟩
  have hd0 : decide (n = 1) = false := decide_eq_false hm0
  go_wp2_with fail
  refine (HN.out _ HB1.out 2 (by decide) (by decide)).mono ?_
  rintro e w2 ⟨rfl, hb⟩
  have HB2 : Hid (Below w.heap.size w w2) := Below.behind HB1.out hb
  clear hb g1
  have g2 : w2.cell? ⟨2, 0, none⟩ = some (.iface 423 (.pointer (some (sent 4)))) := (HF.out.below HB2.out).var 4 (by decide)
  by_cases hm1 : n = 2
  · subst hm1
    go_wp2
    go_ret
    exact ⟨rfl, HB2.out⟩
  have hd1 : decide (n = 2) = false := decide_eq_false hm1
  go_wp2_with fail
  refine (HN.out _ HB2.out 4 (by decide) (by decide)).mono ?_
  rintro e w3 ⟨rfl, hb⟩
  have HB3 : Hid (Below w.heap.size w w3) := Below.behind HB2.out hb
  clear hb g2
  have g3 : w3.cell? ⟨3, 0, none⟩ = some (.iface 423 (.pointer (some (sent 5)))) := (HF.out.below HB3.out).var 5 (by decide)
  by_cases hm2 : n = 4
  · subst hm2
    go_wp2
    go_ret
    exact ⟨rfl, HB3.out⟩
  have hd2 : decide (n = 4) = false := decide_eq_false hm2
  go_wp2_with fail
  refine (HN.out _ HB3.out 5 (by decide) (by decide)).mono ?_
  rintro e w4 ⟨rfl, hb⟩
  have HB4 : Hid (Below w.heap.size w w4) := Below.behind HB3.out hb
  clear hb g3
  have g4 : w4.cell? ⟨4, 0, none⟩ = some (.iface 423 (.pointer (some (sent 6)))) := (HF.out.below HB4.out).var 6 (by decide)
  by_cases hm3 : n = 5
  · subst hm3
    go_wp2
    go_ret
    exact ⟨rfl, HB4.out⟩
  have hd3 : decide (n = 5) = false := decide_eq_false hm3
  go_wp2_with fail
  refine (HN.out _ HB4.out 6 (by decide) (by decide)).mono ?_
  rintro e w5 ⟨rfl, hb⟩
  have HB5 : Hid (Below w.heap.size w w5) := Below.behind HB4.out hb
  clear hb g4
  have g5 : w5.cell? ⟨5, 0, none⟩ = some (.iface 423 (.pointer (some (sent 7)))) := (HF.out.below HB5.out).var 7 (by decide)
  by_cases hm4 : n = 6
  · subst hm4
    go_wp2
    go_ret
    exact ⟨rfl, HB5.out⟩
  have hd4 : decide (n = 6) = false := decide_eq_false hm4
  go_wp2_with fail
  refine (HN.out _ HB5.out 7 (by decide) (by decide)).mono ?_
  rintro e w6 ⟨rfl, hb⟩
  have HB6 : Hid (Below w.heap.size w w6) := Below.behind HB5.out hb
  clear hb g5
  have g6 : w6.cell? ⟨6, 0, none⟩ = some (.iface 423 (.pointer (some (sent 8)))) := (HF.out.below HB6.out).var 8 (by decide)
  by_cases hm5 : n = 7
  · subst hm5
    go_wp2
    go_ret
    exact ⟨rfl, HB6.out⟩
  have hd5 : decide (n = 7) = false := decide_eq_false hm5
  go_wp2_with fail
  refine (HN.out _ HB6.out 8 (by decide) (by decide)).mono ?_
  rintro e w7 ⟨rfl, hb⟩
  have HB7 : Hid (Below w.heap.size w w7) := Below.behind HB6.out hb
  clear hb g6
  have g7 : w7.cell? ⟨7, 0, none⟩ = some (.iface 423 (.pointer (some (sent 9)))) := (HF.out.below HB7.out).var 9 (by decide)
  by_cases hm6 : n = 8
  · subst hm6
    go_wp2
    go_ret
    exact ⟨rfl, HB7.out⟩
  have hd6 : decide (n = 8) = false := decide_eq_false hm6
  go_wp2_with fail
  refine (HN.out _ HB7.out 9 (by decide) (by decide)).mono ?_
  rintro e w8 ⟨rfl, hb⟩
  have HB8 : Hid (Below w.heap.size w w8) := Below.behind HB7.out hb
  clear hb g7
  have g8 : w8.cell? ⟨8, 0, none⟩ = some (.iface 423 (.pointer (some (sent 10)))) := (HF.out.below HB8.out).var 10 (by decide)
  by_cases hm7 : n = 9
  · subst hm7
    go_wp2
    go_ret
    exact ⟨rfl, HB8.out⟩
  have hd7 : decide (n = 9) = false := decide_eq_false hm7
  go_wp2_with fail
  refine (HN.out _ HB8.out 10 (by decide) (by decide)).mono ?_
  rintro e w9 ⟨rfl, hb⟩
  have HB9 : Hid (Below w.heap.size w w9) := Below.behind HB8.out hb
  clear hb g8
  have g9 : w9.cell? ⟨9, 0, none⟩ = some (.iface 423 (.pointer (some (sent 11)))) := (HF.out.below HB9.out).var 11 (by decide)
  by_cases hm8 : n = 10
  · subst hm8
    go_wp2
    go_ret
    exact ⟨rfl, HB9.out⟩
  have hd8 : decide (n = 10) = false := decide_eq_false hm8
  go_wp2_with fail
  refine (HN.out _ HB9.out 11 (by decide) (by decide)).mono ?_
  rintro e w10 ⟨rfl, hb⟩
  have HB10 : Hid (Below w.heap.size w w10) := Below.behind HB9.out hb
  clear hb g9
  have g10 : w10.cell? ⟨10, 0, none⟩ = some (.iface 423 (.pointer (some (sent 12)))) := (HF.out.below HB10.out).var 12 (by decide)
  by_cases hm9 : n = 11
  · subst hm9
    go_wp2
    go_ret
    exact ⟨rfl, HB10.out⟩
  have hd9 : decide (n = 11) = false := decide_eq_false hm9
  go_wp2_with fail
  refine (HN.out _ HB10.out 12 (by decide) (by decide)).mono ?_
  rintro e w11 ⟨rfl, hb⟩
  have HB11 : Hid (Below w.heap.size w w11) := Below.behind HB10.out hb
  clear hb g10
  have g11 : w11.cell? ⟨11, 0, none⟩ = some (.iface 423 (.pointer (some (sent 13)))) := (HF.out.below HB11.out).var 13 (by decide)
  by_cases hm10 : n = 12
  · subst hm10
    go_wp2
    go_ret
    exact ⟨rfl, HB11.out⟩
  have hd10 : decide (n = 12) = false := decide_eq_false hm10
  go_wp2_with fail
  refine (HN.out _ HB11.out 13 (by decide) (by decide)).mono ?_
  rintro e w12 ⟨rfl, hb⟩
  have HB12 : Hid (Below w.heap.size w w12) := Below.behind HB11.out hb
  clear hb g11
  by_cases hm11 : n = 13
  · subst hm11
    go_wp2
    go_ret
    exact ⟨rfl, HB12.out⟩
  have hd11 : decide (n = 13) = false := decide_eq_false hm11
  obtain rfl : n = 3 := by
    simp only [nums, List.mem_cons, List.not_mem_nil, or_false] at hn
    omega
  go_wp2
  go_ret
  exact ⟨rfl, HB12.out⟩

end Go.Proofs.YtjiikjpnlgogfaaGreatDoor

namespace Go.Proofs.YtjiikjpnlgogfaaGreatDoor
open Go.RowKit

end Go.Proofs.YtjiikjpnlgogfaaGreatDoor
