/-
  The first step of a round of the sponge (joinColumns): what it makes of the 25 lanes.
-/
import Derived.Test.YtjiikjpnlgogfaaDoorRot
import Derived.Deep.LoopGhost
import Derived.Deep.RegionHeld3
import Derived.Deep.QuietTactic
import Derived.BigQuiet
import Derived.BigRegion
namespace Go.Proofs.YtjiikjpnlgogfaaDoor
open Go.RowKit

def colsAt (L : Array Nat) : Nat → Array Nat
  | 0 => #[0, 0, 0, 0, 0]
  | k + 1 => (colsAt L k).set! (k / 5) ((colsAt L k)[k / 5]! ^^^ L[k]!)

theorem colsAt_size (L : Array Nat) (k : Nat) : (colsAt L k).size = 5 := by
  induction k with
  | zero => rfl
  | succ k ih => simp [colsAt, ih]

def Small (L : Array Nat) : Prop := ∀ j : Nat, L[j]! < 18446744073709551616

theorem small_set {L : Array Nat} (h : Small L) (i x : Nat) (hx : x < 18446744073709551616) : Small (L.set! i x) := by
  intro j
  by_cases hj : j < L.size
  · by_cases e : i = j
    · subst e; rw [getD_set_same L i x hj]; exact hx
    · rw [getD_set_other L i j x e]; exact h j
  · have : (L.set! i x)[j]! = 0 := by
      simp [hj]
    rw [this]; decide

theorem xor_lt {a b : Nat} (ha : a < 18446744073709551616) (hb : b < 18446744073709551616) : a ^^^ b < 18446744073709551616 := Nat.xor_lt_two_pow (n := 64) ha hb

theorem colsAt_small {L : Array Nat} (h : Small L) (k : Nat) : Small (colsAt L k) := by
  induction k with
  | zero =>
    intro j
    show (#[0, 0, 0, 0, 0] : Array Nat)[j]! < _
    match j with
    | 0 => decide
    | 1 => decide
    | 2 => decide
    | 3 => decide
    | 4 => decide
    | j + 5 => simp
  | succ k ih => exact small_set ih _ _ (xor_lt (ih _) (h _))

/-- The second half: each lane joined with what its column gives. -/
def joinAt (c L : Array Nat) : Nat → Array Nat
  | 0 => L
  | k + 1 => (joinAt c L k).set! k ((joinAt c L k)[k]! ^^^ (c[(k / 5 + 4) % 5]! ^^^ rotl c[(k / 5 + 1) % 5]! 1))

theorem joinAt_size (c L : Array Nat) (k : Nat) : (joinAt c L k).size = L.size := by
  induction k with
  | zero => rfl
  | succ k ih => simp [joinAt, ih]

theorem joinAt_small {c L : Array Nat} (hc : Small c) (h : Small L) (k : Nat) : Small (joinAt c L k) := by
  induction k with
  | zero => exact h
  | succ k ih => exact small_set ih _ _ (xor_lt (ih _) (xor_lt (hc _) (rotl_lt _ _ (hc _))))

def theta (L : Array Nat) : Array Nat := joinAt (colsAt L 25) L 25

theorem rot1_any (x : Nat) (w : World) (hx : x < 18446744073709551616) :
    Calls Tryd.prog 69 #[.int .u64 (x : Int), .int .i64 1] w fun e w' => e = .returned (.int .u64 ((rotl x 1 : Nat) : Int)) ∧ w' = w :=
  rot_any x 1 w hx (by omega)

set_option maxRecDepth 100000 in
set_option maxHeartbeats 800000 in
theorem theta_any (b off : Nat) (L : Array Nat) (w : World) (hL : L.size = 25) (hS : Small L) (hb : b < w.heap.size) (hR : Row encL w b off L) :
    Calls Tryd.prog 52 #[.pointer (some ⟨b, off, none⟩)] w fun e w' => e = .returned (.tuple #[]) ∧ Step b off (off + 25) w w' ∧ Row encL w' b off (theta L) := by
  have hN : Row encL (w.alloc (.cells #[.int .u64 0, .int .u64 0, .int .u64 0, .int .u64 0, .int .u64 0] 64)) w.heap.size 0 (colsAt L 0) := by
    have e : Array.map encL #[0, 0, 0, 0, 0] = #[.int .u64 0, .int .u64 0, .int .u64 0, .int .u64 0, .int .u64 0] := by simp
    have h := Row.new (enc := encL) w #[0, 0, 0, 0, 0] 64
    rw [e] at h
    exact h
  go_enter Tryd.func52, Tryd.ntmps52
  go_wp2
  go_loopg [8] 5 (fun g i wr => ∃ x : Nat, x ≤ 5 ∧ g = 5 - x ∧ i = .int .i64 x ∧ w.heap.size < wr.heap.size ∧ Step b off (off + 25) w wr ∧ Row encL wr w.heap.size 0 (colsAt L (5 * x)) ∧ Row encL wr b off L)
  case atStart => exact ⟨0, by omega, rfl, rfl, by simp, (Step.refl _ _ _ _).alloc hb _, hN, hR.alloc hb _⟩
  case round =>
    obtain ⟨x, hx, rfl, rfl, hsz, hst, hco, hla⟩ := hrel
    clear hN hR
    by_cases hlt : x < 5
    · go_wp2
      go_loopg [11] 5 (fun g i wr => ∃ y : Nat, y ≤ 5 ∧ g = 5 - y ∧ i = .int .i64 y ∧ w.heap.size < wr.heap.size ∧ Step b off (off + 25) w wr ∧ Row encL wr w.heap.size 0 (colsAt L (5 * x + y)) ∧ Row encL wr b off L)
      case atStart => exact ⟨0, by omega, rfl, rfl, hsz, hst, hco, hla⟩
      case round =>
        obtain ⟨y, hy, rfl, rfl, hsz, hst, hco, hla⟩ := hrel
        by_cases hly : y < 5
        · obtain ⟨c1, f1⟩ := hco x (by rw [colsAt_size]; omega)
          obtain ⟨c2, f2⟩ := hla (5 * x + y) (by omega)
          rw [Nat.zero_add] at c1 f1
          rw [show off + (5 * x + y) = off + x * 5 + y by omega] at c2 f2
          have hbu := colsAt_small hS (5 * x + y) x
          have hbv := hS (5 * x + y)
          have hcol : colsAt L (5 * x + (y + 1)) = (colsAt L (5 * x + y)).set! x ((colsAt L (5 * x + y))[x]! ^^^ L[5 * x + y]!) := by
            show colsAt L (5 * x + y + 1) = _
            simp only [colsAt]
            rw [show (5 * x + y) / 5 = x by omega]
          have hxor := u64_xor_nat _ _ hbu hbv
          obtain ⟨u, hu⟩ : ∃ u, (colsAt L (5 * x + y))[x]! = u := ⟨_, rfl⟩
          obtain ⟨v, hv⟩ : ∃ v, L[5 * x + y]! = v := ⟨_, rfl⟩
          rw [hu] at c1 hcol hxor
          rw [hv] at c2 hcol hxor
          have AS : Aside (Step b off (off + 25) w wr ∧ Row encL wr w.heap.size 0 (colsAt L (5 * x + y)) ∧ Row encL wr b off L ∧ colsAt L (5 * x + (y + 1)) = (colsAt L (5 * x + y)).set! x (u ^^^ v) ∧ bits .xor .u64 (u : Int) (v : Int) = ((u ^^^ v : Nat) : Int) ∧ Small L) := ⟨hst, hco, hla, hcol, hxor, hS⟩
          clear hu hv hst hco hla hcol hxor hbu hbv hS
          go_wp2
          go_region
          go_wp2
          obtain ⟨hst, hco, hla, hcol, hxor, hS⟩ := AS.out
          go_roundg (5 - (y + 1))
          case measure => omega
          case rel =>
            refine ⟨y + 1, by omega, rfl, by go_num, by simpa using hsz, (hst.drew).setOther hb (by simp) _, ?_, ?_⟩
            · rw [hcol]
              exact hco.drew.set (by simp) (by rw [colsAt_size]; omega) _ (val_int hxor)
            · exact hla.drew.setOther _ (by simp; omega) _
        · have hy5 : y = 5 := by omega
          subst hy5
          have AS : Aside (Step b off (off + 25) w wr ∧ Row encL wr w.heap.size 0 (colsAt L (5 * x + 5)) ∧ Row encL wr b off L ∧ Small L) := ⟨hst, hco, hla, hS⟩
          clear hst hco hla hS
          go_wp2
          obtain ⟨hst, hco, hla, hS⟩ := AS.out
          go_roundg (5 - (x + 1))
          case measure => omega
          case rel => exact ⟨x + 1, by omega, rfl, by go_num, hsz, hst, hco, hla⟩
    · have hx5 : x = 5 := by omega
      rw [hx5] at hco
      have hnl : (5 : Int) ≤ (x : Int) := by omega
      clear hlt hx5
      have AS : Aside (Step b off (off + 25) w wr ∧ Row encL wr w.heap.size 0 (colsAt L (5 * 5)) ∧ Row encL wr b off L ∧ Small L) := ⟨hst, hco, hla, hS⟩
      clear hst hco hla hS
      go_wp2
      obtain ⟨hst, hco, hla, hS⟩ := AS.out
      obtain ⟨c, hc⟩ : ∃ c, colsAt L (5 * 5) = c := ⟨_, rfl⟩
      have hcs : c.size = 5 := by rw [← hc]; exact colsAt_size _ _
      have hcm : Small c := by rw [← hc]; exact colsAt_small hS _
      rw [hc] at hco
      have HC : Hid (∀ k, k = 25 → colsAt L k = c) := fun k hk => by subst hk; exact hc
      clear hc
      go_loopg [29] 5 (fun g i wr => ∃ x : Nat, x ≤ 5 ∧ g = 5 - x ∧ i = .int .i64 x ∧ w.heap.size < wr.heap.size ∧ Step b off (off + 25) w wr ∧ Row encL wr w.heap.size 0 c ∧ Row encL wr b off (joinAt c L (5 * x)))
      case atStart => exact ⟨0, by omega, rfl, rfl, hsz, hst, hco, hla⟩
      case round =>
        obtain ⟨x', hx', rfl, rfl, hsz, hst, hco, hla⟩ := hrel
        clear hx
        by_cases hlt : x' < 5
        · obtain ⟨c1, f1⟩ := hco ((x' + 4) % 5) (by omega)
          obtain ⟨c2, f2⟩ := hco ((x' + 1) % 5) (by omega)
          rw [Nat.zero_add] at c1 c2
          have hb1 := hcm ((x' + 4) % 5)
          have hb2 := hcm ((x' + 1) % 5)
          obtain ⟨u, hu⟩ : ∃ u, c[(x' + 4) % 5]! = u := ⟨_, rfl⟩
          obtain ⟨v, hv⟩ : ∃ v, c[(x' + 1) % 5]! = v := ⟨_, rfl⟩
          rw [hu] at c1 hb1
          rw [hv] at c2 hb2
          have AS : Aside (Step b off (off + 25) w wr ∧ Row encL wr w.heap.size 0 c ∧ Row encL wr b off (joinAt c L (5 * x')) ∧ c[(x' + 4) % 5]! = u ∧ c[(x' + 1) % 5]! = v ∧ Small L ∧ Small c ∧ c.size = 5) := ⟨hst, hco, hla, hu, hv, hS, hcm, hcs⟩
          clear hu hv hst hco hla hS hcm f1 f2 hcs hb1
          go_wp2
          go_quiet ((go_at_call 69; exact Calls.quiet_of_same (rot1_any _ _ hb2)))
          go_wp2
          obtain ⟨hst, hco, hla, hu, hv, hS, hcm, hcs⟩ := AS.out
          clear c1 c2 hb2 AS
          have hjs := joinAt_size c L
          have hjb := fun k => joinAt_small hcm hS k
          have hxb : u ^^^ rotl v 1 < 18446744073709551616 := by rw [← hu, ← hv]; exact xor_lt (hcm _) (rotl_lt _ _ (hcm _))
          have hx1 : bits .xor .u64 (u : Int) ((rotl v 1 : Nat) : Int) = ((u ^^^ rotl v 1 : Nat) : Int) := u64_xor_nat _ _ (by rw [← hu]; exact hcm _) (by rw [← hv]; exact rotl_lt _ _ (hcm _))
          have HX1 : Hid (bits .xor .u64 (u : Int) ((rotl v 1 : Nat) : Int) = ((u ^^^ rotl v 1 : Nat) : Int)) := hx1
          have HXB : Hid (u ^^^ rotl v 1 < 18446744073709551616) := hxb
          rw [hx1]
          have HU : Hid (c[(x' + 4) % 5]! ^^^ rotl c[(x' + 1) % 5]! 1 = u ^^^ rotl v 1) := by show _ = _; rw [hu, hv]
          clear hx1 hxb hu hv HX1
          obtain ⟨j, hj⟩ : ∃ j, u ^^^ rotl v 1 = j := ⟨_, rfl⟩
          rw [hj] at HXB HU ⊢
          clear hj
          go_loopg [44] 5 (fun g i wr => ∃ y : Nat, y ≤ 5 ∧ g = 5 - y ∧ i = .int .i64 y ∧ w.heap.size < wr.heap.size ∧ Step b off (off + 25) w wr ∧ Row encL wr w.heap.size 0 c ∧ Row encL wr b off (joinAt c L (5 * x' + y)))
          case atStart => exact ⟨0, by omega, rfl, rfl, hsz, hst.drewN _, hco.drewN _, hla.drewN _⟩
          case round =>
            obtain ⟨y, hy, rfl, rfl, hsz, hst, hco, hla⟩ := hrel
            by_cases hly : y < 5
            · obtain ⟨c2, f2⟩ := hla (5 * x' + y) (by rw [hjs]; omega)
              rw [show off + (5 * x' + y) = off + x' * 5 + y by omega] at c2 f2
              have hbv := hjb (5 * x' + y) (5 * x' + y)
              have hcol : joinAt c L (5 * x' + (y + 1)) = (joinAt c L (5 * x' + y)).set! (5 * x' + y) ((joinAt c L (5 * x' + y))[5 * x' + y]! ^^^ j) := by
                show joinAt c L (5 * x' + y + 1) = _
                simp only [joinAt]
                rw [show (5 * x' + y) / 5 = x' by omega, HU.out]
              have hxor := u64_xor_nat _ _ hbv HXB.out
              obtain ⟨v, hv⟩ : ∃ v, (joinAt c L (5 * x' + y))[5 * x' + y]! = v := ⟨_, rfl⟩
              rw [hv] at c2 hcol hxor
              have AS : Aside (Step b off (off + 25) w wr ∧ Row encL wr w.heap.size 0 c ∧ Row encL wr b off (joinAt c L (5 * x' + y)) ∧ joinAt c L (5 * x' + (y + 1)) = (joinAt c L (5 * x' + y)).set! (5 * x' + y) (v ^^^ j) ∧ bits .xor .u64 (v : Int) (j : Int) = ((v ^^^ j : Nat) : Int) ∧ Small L ∧ Small c ∧ ∀ k, (joinAt c L k).size = L.size) := ⟨hst, hco, hla, hcol, hxor, hS, hcm, hjs⟩
              clear hv hst hco hla hcol hxor hbv hS hcm hcs hjs hjb
              go_wp2
              go_region
              go_wp2
              obtain ⟨hst, hco, hla, hcol, hxor, hS, hcm, hjs⟩ := AS.out
              go_roundg (5 - (y + 1))
              case measure => omega
              case rel =>
                refine ⟨y + 1, by omega, rfl, by go_num, by simpa using hsz, hst.drew.set (by omega) (by omega) _, hco.drew.setOther _ (by simp; omega) _, ?_⟩
                rw [hcol]
                exact hla.drew.set (by omega) (by rw [hjs]; omega) _ (val_int hxor)
            · have hy5 : y = 5 := by omega
              rw [hy5] at hla
              have hnl2 : (5 : Int) ≤ (y : Int) := by omega
              have AS : Aside (Step b off (off + 25) w wr ∧ Row encL wr w.heap.size 0 c ∧ Row encL wr b off (joinAt c L (5 * x' + 5)) ∧ Small L ∧ Small c) := ⟨hst, hco, hla, hS, hcm⟩
              clear hst hco hla hS hcm hcs hjs hjb hy5 hly
              go_wp2
              obtain ⟨hst, hco, hla, hS, hcm⟩ := AS.out
              go_roundg (5 - (x' + 1))
              case measure => omega
              case rel => exact ⟨x' + 1, by omega, rfl, by go_num, hsz, hst, hco, hla⟩
        · have hx5 : x' = 5 := by omega
          rw [hx5] at hla
          have hnl2 : (5 : Int) ≤ (x' : Int) := by omega
          have AS : Aside (Step b off (off + 25) w wr ∧ ∀ k, k = 25 → Row encL wr b off (joinAt c L k)) := ⟨hst, fun k hk => by subst hk; exact hla⟩
          clear hst hco hla hS hcm hcs hx5 hlt
          go_wp2
          go_end0
          obtain ⟨hst, hla⟩ := AS.out
          refine ⟨rfl, hst, ?_⟩
          have := hla 25 rfl
          rw [← HC.out 25 rfl] at this
          exact this
end Go.Proofs.YtjiikjpnlgogfaaDoor
