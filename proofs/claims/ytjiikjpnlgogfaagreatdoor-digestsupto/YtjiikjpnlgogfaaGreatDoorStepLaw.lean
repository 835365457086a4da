/-
  twigslaw: a step of a script on hashers (step, looks, within).
-/
import Derived.Test.YtjiikjpnlgogfaaGreatDoorHashLaw3
namespace Go.Proofs.YtjiikjpnlgogfaaGreatDoor
open Go.RowKit

theorem sizeOp : (Tryz.prog.info? 102).map (·.size) = some 160 := by kernel_rfl

theorem within_any (k : Int) (w : World) :
    Calls Tryz.prog 44 #[.int .i64 k, .int .i64 1, .int .i64 4] w fun e w' => e = .returned (.bool (decide (1 ≤ k) && decide (k ≤ 4))) ∧ w' = w := by
  go_enter Tryz.func44, Tryz.ntmps44
  by_cases h1 : 1 ≤ k
  · by_cases h2 : k ≤ 4
    · go_wp2
      go_ret
      exact ⟨by simp [h1, h2], rfl⟩
    · go_wp2
      go_ret
      exact ⟨by simp [h2], rfl⟩
  · go_wp2
    go_ret
    exact ⟨by have hn : ¬ 1 ≤ k := by omega
              simp [hn], rfl⟩

set_option maxHeartbeats 1600000 in
theorem looks_any (bw : Nat) (w : World) (h3 : w.cell? ⟨bw, 3, none⟩ = some (.slice none 0 0)) (h4 : w.cell? ⟨bw, 4, none⟩ = some (.slice none 0 0)) :
    Calls Tryz.prog 45 #[.pointer (some ⟨bw, 3, none⟩)] w fun e w' => e = .returned (.bool true) ∧ w' = w := by
  go_enter Tryz.func45, Tryz.ntmps45
  go_wp2
  go_loopg [3] 0 (fun g i W => g = 0 ∧ i = .int .i64 0 ∧ W = w)
  case atStart => exact ⟨rfl, rfl, rfl⟩
  case round =>
    obtain ⟨rfl, rfl, rfl⟩ := hrel
    go_wp2
    go_loopg [9] 0 (fun g i W => g = 0 ∧ i = .int .i64 0 ∧ W = wr)
    case atStart => exact ⟨rfl, rfl, rfl⟩
    case round =>
      obtain ⟨rfl, rfl, rfl⟩ := hrel
      go_wp2
      go_ret
      exact ⟨rfl, rfl⟩

set_option maxRecDepth 100000 in
set_option maxHeartbeats 3200000 in
theorem step_hash {C : Array Value} {kd a : Int} {s : ByteArray} {w : World} {bw : Nat} {R : World → Prop} (hC : OpC C kd a s) (h1 : 1 ≤ kd) (h4 : kd ≤ 4)
    (hcall : Calls Tryz.prog 63 #[.pointer (some ⟨bw, 0, none⟩), .agg C] (w.alloc (.cells C 102)) fun e w' => e = .returned (.bool true) ∧ R w') :
    Calls Tryz.prog 43 #[.pointer (some ⟨bw, 0, none⟩), .agg C] w fun e w' => e = .returned (.bool true) ∧ R w' := by
  have k0 := OpC.cell hC.k w 102
  have hrg : (w.alloc (.cells C 102)).rangeAt w.heap.size 0 C.toList := fun j v hv => by
    rw [Nat.zero_add, World.cell?_alloc_new, ← hv]
    simp
  have hz : (Tryz.prog.info? 102).map (·.size) = some C.toList.length := by rw [sizeOp, Array.length_toList, hC.size]
  have HC : Hid (Calls Tryz.prog 63 #[.pointer (some ⟨bw, 0, none⟩), .agg C] (w.alloc (.cells C 102)) fun e w' => e = .returned (.bool true) ∧ R w') := hcall
  have h24 : kd ≤ 24 := by omega
  clear hcall hC
  go_enter Tryz.func43, Tryz.ntmps43
  go_wp2_with (refine wpList_load_mid rfl 102 _ rfl w.heap.size 0 rfl C.toList _ hrg Tryz.underlying102 rfl hz ?_)
  refine HC.out.mono ?_
  rintro e w1 ⟨rfl, hR⟩
  have HR : Hid (R w1) := hR
  clear hR HC hrg
  go_wp2
  go_ret
  exact ⟨rfl, HR.out⟩

/-- A STEP ON HASHERS: true, and the state is kept; no text grows by more than the step's own. -/
theorem step_one {C : Array Value} {kd a : Int} {s : ByteArray} {w : World} {bw : Nat} {ps : List Pr} {vh : Value} {T : Nat} (hC : OpC C kd a s) (h1 : 1 ≤ kd) (h4 : kd ≤ 4) (hw : Hw w bw ps vh) (hn : ps.length ≤ 1048576) (ha1 : -9223372036854775808 ≤ a) (ha2 : a < 9223372036854775808) (hT : Tabs w)
    (hsz : ∀ i (hi : i < ps.length), ps[i].2.size ≤ T) (hTs : T + s.size ≤ 70368744177664) :
    Calls Tryz.prog 43 #[.pointer (some ⟨bw, 0, none⟩), .agg C] w fun e w' => e = .returned (.bool true) ∧ Below bw w w' ∧ ∃ ps' vh', Hw w' bw ps' vh' ∧ ps'.length ≤ ps.length + 1 ∧ ∀ i (hi : i < ps'.length), ps'[i].2.size ≤ T + s.size := by
  have hlo := hw.low
  have hlt := hw.lt
  refine step_hash hC h1 h4 ?_
  have hh0 := hw.alloc (.cells C 102)
  have hb0 : Below bw w (w.alloc (.cells C 102)) := (Below.refl _ _).alloc (by omega) _
  have hT0 : Tabs (w.alloc (.cells C 102)) := hT.below ((Below.refl _ _).alloc (Nat.le_refl _) _) (by omega)
  generalize w.alloc (.cells C 102) = w0 at hh0 hb0 hT0 ⊢
  have hlt0 := hh0.lt
  by_cases e1 : kd = 1
  · subst e1
    refine (hashes1 hC hT0 (by omega) (by omega)).mono ?_
    rintro e w1 ⟨rfl, hb⟩
    exact ⟨rfl, hb0.trans (hb.mono (by omega)), ps, vh, hh0.below hb, by omega, fun i hi => by have := hsz i hi; omega⟩
  by_cases e2 : kd = 2
  · subst e2
    refine (hashes2 hC hh0 hn).mono ?_
    rintro e w1 ⟨rfl, hb, H, vh', hh1⟩
    refine ⟨rfl, hb0.trans hb, _, vh', hh1, by simp, fun i hi => ?_⟩
    rw [List.getElem_append]
    split
    · rename_i h; have := hsz i h; omega
    · have : i - ps.length = 0 := by simp at hi; omega
      simp [this]
      exact Nat.zero_le _
  by_cases hp : 0 < ps.length
  · by_cases e3 : kd = 3
    · subst e3
      refine (hashes3 hC hh0 hp ha1 ha2 hT0 (fun i hi => by have := hsz i hi; omega)).mono ?_
      rintro e w1 ⟨rfl, hb, k, hk, hh1⟩
      refine ⟨rfl, hb0.trans hb, _, vh, hh1, by simp, fun i hi => ?_⟩
      rw [List.getElem_set]
      have hki := hsz k hk
      split
      · simp only [ByteArray.size_append]; omega
      · have := hsz i (by simpa using hi); omega
    · obtain rfl : kd = 4 := by omega
      refine (hashes4 hC hh0 hp ha1 ha2 hT0 (fun i hi => by have := hsz i hi; omega)).mono ?_
      rintro e w1 ⟨rfl, hb, hh1⟩
      exact ⟨rfl, hb0.trans hb, ps, vh, hh1, by omega, fun i hi => by have := hsz i hi; omega⟩
  · have hps : ps = [] := List.eq_nil_of_length_eq_zero (by omega)
    subst hps
    refine (hashes0 hC e1 e2 hh0).mono ?_
    rintro e w1 ⟨rfl, hb, hh1⟩
    exact ⟨rfl, hb0.trans hb, [], vh, hh1, by simp, fun i hi => by simp at hi⟩
end Go.Proofs.YtjiikjpnlgogfaaGreatDoor
