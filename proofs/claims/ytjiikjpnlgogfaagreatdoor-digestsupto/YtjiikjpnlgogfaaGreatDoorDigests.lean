/-
  twigslaw.Digests: every step on hashers answers as the document says: the walk.
-/
import Derived.Test.YtjiikjpnlgogfaaGreatDoorStepLaw
namespace Go.Proofs.YtjiikjpnlgogfaaGreatDoor
open Go.RowKit

/-- The script as it lies in memory: n steps from the slice's address on. -/
def Script (w : World) (adr : Option Addr) (n : Nat) : Prop :=
  ∀ i, i < n → ∃ sb so C kd a s, adr = some ⟨sb, so, none⟩ ∧ sb < w.heap.size ∧ OpC C kd a s ∧ s.size ≤ 1048576 ∧ -9223372036854775808 ≤ kd ∧ kd < 9223372036854775808 ∧ -9223372036854775808 ≤ a ∧ a < 9223372036854775808 ∧ w.rangeAt sb (so + i * 160) C.toList


theorem Hw.start (w : World) (t : TypeId) (hM : 16 ≤ w.heap.size) : Hw (w.alloc (.cells #[.slice none 0 0, .slice none 0 0, .slice none 0 0, .slice none 0 0, .slice none 0 0, .int .i64 0] t)) w.heap.size [] (.slice none 0 0) :=
  ⟨by rw [World.cell?_alloc_new]; rfl, World.frozen?_alloc_new _ _ _ _, by rw [World.cell?_alloc_new]; rfl, by rw [World.cell?_alloc_new]; rfl, by rw [World.cell?_alloc_new]; rfl, OwnC.nil _ _ _, hM, by simp, fun i hi => by simp at hi, fun i _ hi => by simp at hi⟩

set_option maxRecDepth 100000 in
set_option maxHeartbeats 3200000 in
theorem plays_any (adr : Option Addr) (n cap : Nat) (w : World) (hT : Tabs w) (hM : 16 ≤ w.heap.size) (hn : n ≤ 1048576) (hS : Script w adr n) :
    Calls Tryz.prog 12 #[.slice adr n cap, .int .i64 1, .int .i64 4] w fun e w' => e = .returned (.bool true) ∧ Below w.heap.size w w' := by
  go_enter Tryz.func12, Tryz.ntmps12
  go_wp2
  have hh0 := Hw.start w 99 hM
  have hb0 : Below w.heap.size w (w.alloc (.cells #[.slice none 0 0, .slice none 0 0, .slice none 0 0, .slice none 0 0, .slice none 0 0, .int .i64 0] 99)) := (Below.refl _ _).alloc (Nat.le_refl _) _
  generalize w.alloc (.cells #[.slice none 0 0, .slice none 0 0, .slice none 0 0, .slice none 0 0, .slice none 0 0, .int .i64 0] 99) = w0 at hh0 hb0 ⊢
  go_loopg [9] n (fun g i wr => ∃ x : Nat, x ≤ n ∧ g = n - x ∧ i = .int .i64 (x : Int) ∧ Below w.heap.size w wr ∧ ∃ ps vh, Hw wr w.heap.size ps vh ∧ ps.length ≤ x ∧ ∀ i (hi : i < ps.length), ps[i].2.size ≤ x * 1048576)
  case atStart => exact ⟨0, by omega, rfl, rfl, hb0, [], _, hh0, by simp, fun i hi => by simp at hi⟩
  case round =>
    obtain ⟨x, hx, rfl, rfl, hbl, ps, vh, hh, hpl, hsz⟩ := hrel
    clear hh0 hb0
    by_cases hlt : x < n
    · obtain ⟨sb, so, C, kd, a, s, rfl, hsb, hC, hss, hk1, hk2, ha1, ha2, hrg⟩ := hS x hlt
      have hrg1 : wr.rangeAt sb (so + x * 160) C.toList := range_below hrg (hbl.block sb hsb)
      have c0 : wr.cell? ⟨sb, so + x * 160, none⟩ = some (.int .i64 kd) := by
        have := hrg1 0 (.int .i64 kd) (by have := hC.k; simpa using this)
        rwa [Nat.add_zero] at this
      have hz : (Tryz.prog.info? 102).map (·.size) = some C.toList.length := by rw [sizeOp, Array.length_toList, hC.size]
      have hxi : (x : Int) < (n : Int) := by omega
      by_cases hwi : 1 ≤ kd ∧ kd ≤ 4
      · have HW : Hid (∀ W, Calls Tryz.prog 44 #[.int .i64 kd, .int .i64 1, .int .i64 4] W fun e w' => e = .returned (.bool true) ∧ w' = W) := fun W => by
          have := within_any kd W
          simpa [hwi.1, hwi.2] using this
        have HS : Hid (Calls Tryz.prog 43 #[.pointer (some ⟨w.heap.size, 0, none⟩), .agg C] wr fun e w' => e = .returned (.bool true) ∧ Below w.heap.size wr w' ∧ ∃ ps' vh', Hw w' w.heap.size ps' vh' ∧ ps'.length ≤ ps.length + 1 ∧ ∀ i (hi : i < ps'.length), ps'[i].2.size ≤ x * 1048576 + s.size) :=
          step_one hC hwi.1 hwi.2 hh (by omega) ha1 ha2 (hT.below hbl hM) hsz (by omega)
        have A1 : Aside (Tabs w ∧ Script w (some ⟨sb, so, none⟩) n ∧ Below w.heap.size w wr ∧ ps.length ≤ x ∧ s.size ≤ 1048576) := ⟨hT, hS, hbl, hpl, hss⟩
        clear hT hS hbl hpl hss hC hk1 hk2 ha1 ha2 hrg hh hsz hwi hsb
        go_wp2_with (first
          | (go_at_call 44; refine (HW.out _).mono ?_; rintro e w' ⟨rfl, rfl⟩)
          | (refine wpList_load_mid rfl 102 _ rfl sb (so + x * 160) rfl C.toList _ hrg1 Tryz.underlying102 rfl hz ?_))
        refine HS.out.mono ?_
        rintro e w1 ⟨rfl, hb1, ps1, vh1, hh1, hp1, hs1⟩
        have HL : Hid (Calls Tryz.prog 45 #[.pointer (some ⟨w.heap.size, 3, none⟩)] w1 fun e w' => e = .returned (.bool true) ∧ w' = w1) := looks_any w.heap.size w1 hh1.c3 hh1.c4
        have A2 : Aside (Below w.heap.size w w1 ∧ ∃ ps vh, Hw w1 w.heap.size ps vh ∧ ps.length ≤ x + 1 ∧ ∀ i (hi : i < ps.length), ps[i].2.size ≤ (x + 1) * 1048576) := by
          obtain ⟨_, _, hbl, hpl, hss⟩ := A1.out
          exact ⟨hbl.trans hb1, ps1, vh1, hh1, by omega, fun i hi => by have := hs1 i hi; omega⟩
        clear hb1 hh1 hp1 hs1 HS hrg1 c0 hz HW
        go_wp2_with (go_at_call 45; refine HL.out.mono ?_; rintro e w' ⟨rfl, rfl⟩)
        obtain ⟨hT, hS, _, _, _⟩ := A1.out
        obtain ⟨hbn, hpsn⟩ := A2.out
        go_roundg (n - (x + 1))
        case measure => omega
        case rel => exact ⟨x + 1, by omega, rfl, by go_num, hbn, hpsn⟩
      · have HW : Hid (∀ W, Calls Tryz.prog 44 #[.int .i64 kd, .int .i64 1, .int .i64 4] W fun e w' => e = .returned (.bool false) ∧ w' = W) := fun W => by
          have := within_any kd W
          have e : (decide (1 ≤ kd) && decide (kd ≤ 4)) = false := by
            by_cases h1 : 1 ≤ kd
            · have h2 : ¬ kd ≤ 4 := fun h => hwi ⟨h1, h⟩
              simp [h2]
            · simp [h1]
          rw [e] at this
          exact this
        have A1 : Aside (Tabs w ∧ Script w (some ⟨sb, so, none⟩) n ∧ Below w.heap.size w wr ∧ ∃ ps vh, Hw wr w.heap.size ps vh ∧ ps.length ≤ x + 1 ∧ ∀ i (hi : i < ps.length), ps[i].2.size ≤ (x + 1) * 1048576) := ⟨hT, hS, hbl, ps, vh, hh, Nat.le_succ_of_le hpl, fun i hi => Nat.le_trans (hsz i hi) (Nat.mul_le_mul_right _ (Nat.le_succ x))⟩
        clear hT hS hbl hpl hss hC hk1 hk2 ha1 ha2 hrg hh hsz hwi hsb hz hrg1
        go_wp2_with (go_at_call 44; refine (HW.out _).mono ?_; rintro e w' ⟨rfl, rfl⟩)
        obtain ⟨hT, hS, hbn, hpsn⟩ := A1.out
        go_roundg (n - (x + 1))
        case measure => omega
        case rel => exact ⟨x + 1, by omega, rfl, by go_num, hbn, hpsn⟩
    · have hxn : (n : Int) ≤ (x : Int) := by omega
      have c1 := hh.c1
      have A1 : Aside (Below w.heap.size w wr) := hbl
      clear hT hS hbl hh hpl hsz hlt
      go_wp2
      go_loopg [12] 0 (fun g i W => g = 0 ∧ i = .int .i64 0 ∧ W = wr)
      case atStart => exact ⟨rfl, rfl, rfl⟩
      case round =>
        obtain ⟨rfl, rfl, rfl⟩ := hrel
        go_wp2
        go_ret
        exact ⟨rfl, A1.out⟩

set_option maxHeartbeats 800000 in
theorem digests_any (adr : Option Addr) (n cap : Nat) (w : World) (hT : Tabs w) (hM : 16 ≤ w.heap.size) (hn : n ≤ 1048576) (hS : Script w adr n) :
    Calls Tryz.prog 3 #[.slice adr n cap] w fun e w' => e = .returned (.bool true) ∧ Below w.heap.size w w' := by
  have HP : Hid (Calls Tryz.prog 12 #[.slice adr n cap, .int .i64 1, .int .i64 4] w fun e w' => e = .returned (.bool true) ∧ Below w.heap.size w w') := plays_any adr n cap w hT hM hn hS
  clear hT hM hn hS
  go_enter Tryz.func3, Tryz.ntmps3
  go_wp2_with fail
  refine HP.out.mono ?_
  rintro e w1 ⟨rfl, hb⟩
  have HB : Hid (Below w.heap.size w w1) := hb
  clear hb
  go_wp2
  go_ret
  exact ⟨rfl, HB.out⟩
end Go.Proofs.YtjiikjpnlgogfaaGreatDoor
