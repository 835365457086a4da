/-
  math/bits.RotateLeft64 and digest.lowestFirst, as plain functions on numbers.
  The first step of a round of the sponge (joinColumns): what it makes of the 25 lanes.
  A whole row of numbers read out of a block and laid into another: small facts.
  The second step of a round of the sponge (turnAndMove): what it makes of the 25 lanes.
-/
import Derived.Test.YtjiikjpnlgogfaaGreatDoorSdBase
import Derived.Deep.LoopGhost
import Derived.Deep.RegionHeld3
import Derived.Deep.QuietTactic
import Derived.BigQuiet
import Derived.BigRegion
import Derived.Deep.MidRow
import Derived.Deep.DrawnRows
namespace Go.Proofs.YtjiikjpnlgogfaaGreatDoor
open Go.RowKit
def rotl (x k : Nat) : Nat := (x * 2 ^ k % 18446744073709551616) ||| (x / 2 ^ (64 - k))
theorem run_shl64 {P : Program} (x k : Nat) (hk : k ≤ 64) (w : World) :
  Sem.run P (Op.shift .shl .u64 (x : Int) .u64 (k : Int)) w = .ok (.int .u64 ((x * 2 ^ k % 18446744073709551616 : Nat) : Int)) w := by
 have h : ¬ ((k : Int) < 0) := by omega
 have hm : min k 64 = k := by omega
 simp only [Op.shift, h, if_false, Int.toNat_natCast, IntKind.bits, hm, IntKind.wrap_u64]
 show Result.ok _ _ = _
 congr 2
theorem run_shr64 {P : Program} (x k : Nat) (hk : k ≤ 64) (w : World) :
  Sem.run P (Op.shift .shr .u64 (x : Int) .u64 (k : Int)) w = .ok (.int .u64 ((x / 2 ^ k : Nat) : Int)) w := by
 have h : ¬ ((k : Int) < 0) := by omega
 have hm : min k 64 = k := by omega
 simp only [Op.shift, h, if_false, Int.toNat_natCast, IntKind.bits, hm]
 show Result.ok _ _ = _
 congr 2
 rw [Int.fdiv_eq_ediv_of_nonneg _ (by exact Int.le_of_lt (Int.pow_pos (by decide)))]
 push_cast
 rfl
theorem rotl_lt (x k : Nat) (hx : x < 18446744073709551616) : rotl x k < 18446744073709551616 := by
 have h1 : x * 2 ^ k % 18446744073709551616 < 2 ^ 64 := Nat.mod_lt _ (by decide)
 have h2 : x / 2 ^ (64 - k) < 2 ^ 64 := Nat.lt_of_le_of_lt (Nat.div_le_self _ _) (by omega)
 exact Nat.or_lt_two_pow h1 h2
theorem rot_eq (x k : Nat) (hx : x < 18446744073709551616) :
  bits BinOp.or IntKind.u64 (IntKind.u64.wrap ((x : Int) * 2 ^ k)) ((x : Int) / 2 ^ (64 - k)) = ((rotl x k : Nat) : Int) := by
 have h1 : IntKind.u64.wrap ((x : Int) * 2 ^ k) = ((x * 2 ^ k % 18446744073709551616 : Nat) : Int) := by
  rw [IntKind.wrap_u64, Int.natCast_emod, Int.natCast_mul, Int.natCast_pow]; rfl
 have h2 : ((x : Int) / 2 ^ (64 - k)) = ((x / 2 ^ (64 - k) : Nat) : Int) := by push_cast; rfl
 rw [h1, h2, u64_or_nat _ _ (Nat.mod_lt _ (by decide)) (Nat.lt_of_le_of_lt (Nat.div_le_self _ _) hx)]
 rfl
set_option maxHeartbeats 400000 in
theorem rot_any (x k : Nat) (w : World) (hx : x < 18446744073709551616) (hk : k < 64) :
  Calls Tryz.prog 222 #[.int .u64 (x : Int), .int .i64 (k : Int)] w fun e w' => e = .returned (.int .u64 ((rotl x k : Nat) : Int)) ∧ w' = w := by
 have ha : bits BinOp.and IntKind.u64 (k : Int) 63 = (k : Int) := by
  have := u64_and_nat k 63 (by omega) (by omega)
  rw [show ((63 : Nat) : Int) = 63 from rfl] at this
  rw [this, nat_mask6]; congr 1; omega
 have h1 := fun w => run_shl64 (P := Tryz.prog) x k (by omega) w
 have h2 := fun w => run_shr64 (P := Tryz.prog) x (64 - k) (by omega) w
 rw [show ((64 - k : Nat) : Int) = 64 - (k : Int) by omega] at h2
 go_enter Tryz.func222, Tryz.ntmps222
 go_wp2
 go_ret
 exact ⟨ret_int (rot_eq x k hx), rfl⟩
def lowFold (blk : Array Nat) (fr : Nat) : Nat → Nat
 | 0 => 0
 | k + 1 => lowFold blk fr k ||| blk[fr + k]! * 2 ^ (8 * k) % 18446744073709551616
theorem lowFold_lt (blk : Array Nat) (fr k : Nat) : lowFold blk fr k < 18446744073709551616 := by
 induction k with
 | zero => simp [lowFold]
 | succ k ih => exact Nat.or_lt_two_pow (n := 64) ih (Nat.mod_lt _ (by decide))
theorem low_step (blk : Array Nat) (fr k : Nat) :
  bits BinOp.or IntKind.u64 ((lowFold blk fr k : Nat) : Int) (IntKind.u64.wrap (((blk[fr + k]! : Nat) : Int) * 2 ^ (8 * k))) = ((lowFold blk fr (k + 1) : Nat) : Int) := by
 have h1 : IntKind.u64.wrap (((blk[fr + k]! : Nat) : Int) * 2 ^ (8 * k)) = ((blk[fr + k]! * 2 ^ (8 * k) % 18446744073709551616 : Nat) : Int) := by
  rw [IntKind.wrap_u64, Int.natCast_emod, Int.natCast_mul, Int.natCast_pow]; rfl
 rw [h1, u64_or_nat _ _ (lowFold_lt _ _ _) (Nat.mod_lt _ (by decide))]
 rfl
set_option maxHeartbeats 400000 in
theorem low_any (blk : Array Nat) (fr : Nat) (w : World) (hs : blk.size = 136) (hb : ∀ j : Nat, blk[j]! < 256) (hf : fr + 8 ≤ 136) :
  Calls Tryz.prog 197 #[.agg (blk.map encB), .int .i64 (fr : Int)] w fun e w' => e = .returned (.int .u64 ((lowFold blk fr 8 : Nat) : Int)) ∧ w' = w.alloc (.cells (blk.map encB) 157) := by
 have hc0 : ∀ j, j < 136 → (w.alloc (.cells (blk.map encB) 157)).cell? ⟨w.heap.size, j, none⟩ = some (encB blk[j]!) := by
  intro j hj
  simp [hs, hj]
 go_enter Tryz.func197, Tryz.ntmps197
 go_wp2
 generalize hw1 : w.alloc (.cells (blk.map encB) 157) = w1 at hc0 ⊢
 have HW : Hid (w.alloc (.cells (blk.map encB) 157) = w1) := hw1
 clear hw1
 go_loop [5, 7] (fun n i => ∃ k : Nat, k ≤ 8 ∧ i = .int .i64 k ∧ n = .int .u64 ((lowFold blk fr k : Nat) : Int)) (fun _ i => 8 - (intOf i).toNat)
 case atStart => exact ⟨0, Nat.zero_le _, rfl, rfl⟩
 case round =>
  obtain ⟨k, hk, rfl, rfl⟩ := hrel
  by_cases hlt : k < 8
  ·have hc := hc0 (fr + k) (by omega)
   have hx := hb (fr + k)
   have hor := low_step blk fr k
   clear hc0 hb
   obtain ⟨x, hxe⟩ : ∃ x, blk[fr + k]! = x := ⟨_, rfl⟩
   obtain ⟨y, hye⟩ : ∃ y, lowFold blk fr k = y := ⟨_, rfl⟩
   rw [hxe] at hc hx hor
   rw [hye] at hor ⊢
   have HO := (show Hid _ from hor)
   clear hxe hye hor
   go_wp2
   go_round
   case rel => exact ⟨k + 1, by omega, by go_num, val_int HO.out⟩
   case measure => simp [intOf]; omega
  ·have hk8 : k = 8 := by omega
   subst hk8
   go_wp2
   go_ret
   exact ⟨rfl, HW.out.symm⟩
end Go.Proofs.YtjiikjpnlgogfaaGreatDoor
namespace Go.Proofs.YtjiikjpnlgogfaaGreatDoor
open Go.RowKit
def colsAt (L : Array Nat) : Nat → Array Nat
 | 0 => #[0, 0, 0, 0, 0]
 | k + 1 => (colsAt L k).set! (k / 5) ((colsAt L k)[k / 5]! ^^^ L[k]!)
theorem colsAt_size (L : Array Nat) (k : Nat) : (colsAt L k).size = 5 := by
 induction k with
 | zero => rfl
 | succ k ih => simp [colsAt, ih]
def Small (L : Array Nat) : Prop := ∀ j : Nat, L[j]! < 18446744073709551616
theorem small_set {L : Array Nat} (h : Small L) (i x : Nat) (hx : x < 18446744073709551616) : Small (L.set! i x) := by
 intro j
 by_cases hj : j < L.size
 ·by_cases e : i = j
  ·subst e; rw [getD_set_same L i x hj]; exact hx
  ·rw [getD_set_other L i j x e]; exact h j
 ·have : (L.set! i x)[j]! = 0 := by
   simp [hj]
  rw [this]; decide
theorem xor_lt {a b : Nat} (ha : a < 18446744073709551616) (hb : b < 18446744073709551616) : a ^^^ b < 18446744073709551616 := Nat.xor_lt_two_pow (n := 64) ha hb
theorem colsAt_small {L : Array Nat} (h : Small L) (k : Nat) : Small (colsAt L k) := by
 induction k with
 | zero =>
  intro j
  show (#[0, 0, 0, 0, 0] : Array Nat)[j]! < _
  match j with
  | 0 => decide
  | 1 => decide
  | 2 => decide
  | 3 => decide
  | 4 => decide
  | j + 5 => simp
 | succ k ih => exact small_set ih _ _ (xor_lt (ih _) (h _))
def joinAt (c L : Array Nat) : Nat → Array Nat
 | 0 => L
 | k + 1 => (joinAt c L k).set! k ((joinAt c L k)[k]! ^^^ (c[(k / 5 + 4) % 5]! ^^^ rotl c[(k / 5 + 1) % 5]! 1))
theorem joinAt_size (c L : Array Nat) (k : Nat) : (joinAt c L k).size = L.size := by
 induction k with
 | zero => rfl
 | succ k ih => simp [joinAt, ih]
theorem joinAt_small {c L : Array Nat} (hc : Small c) (h : Small L) (k : Nat) : Small (joinAt c L k) := by
 induction k with
 | zero => exact h
 | succ k ih => exact small_set ih _ _ (xor_lt (ih _) (xor_lt (hc _) (rotl_lt _ _ (hc _))))
def theta (L : Array Nat) : Array Nat := joinAt (colsAt L 25) L 25
theorem rot1_any (x : Nat) (w : World) (hx : x < 18446744073709551616) :
  Calls Tryz.prog 222 #[.int .u64 (x : Int), .int .i64 1] w fun e w' => e = .returned (.int .u64 ((rotl x 1 : Nat) : Int)) ∧ w' = w :=
 rot_any x 1 w hx (by omega)
set_option maxRecDepth 100000 in
set_option maxHeartbeats 800000 in
theorem theta_any (b off : Nat) (L : Array Nat) (w : World) (hL : L.size = 25) (hS : Small L) (hb : b < w.heap.size) (hR : Row encL w b off L) :
  Calls Tryz.prog 198 #[.pointer (some ⟨b, off, none⟩)] w fun e w' => e = .returned (.tuple #[]) ∧ Step b off (off + 25) w w' ∧ Row encL w' b off (theta L) := by
 have hN : Row encL (w.alloc (.cells #[.int .u64 0, .int .u64 0, .int .u64 0, .int .u64 0, .int .u64 0] 153)) w.heap.size 0 (colsAt L 0) := by
  have e : Array.map encL #[0, 0, 0, 0, 0] = #[.int .u64 0, .int .u64 0, .int .u64 0, .int .u64 0, .int .u64 0] := by simp
  have h := Row.new (enc := encL) w #[0, 0, 0, 0, 0] 153
  rw [e] at h
  exact h
 go_enter Tryz.func198, Tryz.ntmps198
 go_wp2
 go_loopg [8] 5 (fun g i wr => ∃ x : Nat, x ≤ 5 ∧ g = 5 - x ∧ i = .int .i64 x ∧ w.heap.size < wr.heap.size ∧ Step b off (off + 25) w wr ∧ Row encL wr w.heap.size 0 (colsAt L (5 * x)) ∧ Row encL wr b off L)
 case atStart => exact ⟨0, by omega, rfl, rfl, by simp, (Step.refl _ _ _ _).alloc hb _, hN, hR.alloc hb _⟩
 case round =>
  obtain ⟨x, hx, rfl, rfl, hsz, hst, hco, hla⟩ := hrel
  clear hN hR
  by_cases hlt : x < 5
  ·go_wp2
   go_loopg [11] 5 (fun g i wr => ∃ y : Nat, y ≤ 5 ∧ g = 5 - y ∧ i = .int .i64 y ∧ w.heap.size < wr.heap.size ∧ Step b off (off + 25) w wr ∧ Row encL wr w.heap.size 0 (colsAt L (5 * x + y)) ∧ Row encL wr b off L)
   case atStart => exact ⟨0, by omega, rfl, rfl, hsz, hst, hco, hla⟩
   case round =>
    obtain ⟨y, hy, rfl, rfl, hsz, hst, hco, hla⟩ := hrel
    by_cases hly : y < 5
    ·obtain ⟨c1, f1⟩ := hco x (by rw [colsAt_size]; omega)
     obtain ⟨c2, f2⟩ := hla (5 * x + y) (by omega)
     rw [Nat.zero_add] at c1 f1
     rw [show off + (5 * x + y) = off + x * 5 + y by omega] at c2 f2
     have hbu := colsAt_small hS (5 * x + y) x
     have hbv := hS (5 * x + y)
     have hcol : colsAt L (5 * x + (y + 1)) = (colsAt L (5 * x + y)).set! x ((colsAt L (5 * x + y))[x]! ^^^ L[5 * x + y]!) := by
      show colsAt L (5 * x + y + 1) = _
      simp only [colsAt]
      rw [show (5 * x + y) / 5 = x by omega]
     have hxor := u64_xor_nat _ _ hbu hbv
     obtain ⟨u, hu⟩ : ∃ u, (colsAt L (5 * x + y))[x]! = u := ⟨_, rfl⟩
     obtain ⟨v, hv⟩ : ∃ v, L[5 * x + y]! = v := ⟨_, rfl⟩
     rw [hu] at c1 hcol hxor
     rw [hv] at c2 hcol hxor
     have AS : Aside (Step b off (off + 25) w wr ∧ Row encL wr w.heap.size 0 (colsAt L (5 * x + y)) ∧ Row encL wr b off L ∧ colsAt L (5 * x + (y + 1)) = (colsAt L (5 * x + y)).set! x (u ^^^ v) ∧ bits .xor .u64 (u : Int) (v : Int) = ((u ^^^ v : Nat) : Int) ∧ Small L) := ⟨hst, hco, hla, hcol, hxor, hS⟩
     clear hu hv hst hco hla hcol hxor hbu hbv hS
     go_wp2
     go_region
     go_wp2
     obtain ⟨hst, hco, hla, hcol, hxor, hS⟩ := AS.out
     go_roundg (5 - (y + 1))
     case measure => omega
     case rel =>
      refine ⟨y + 1, by omega, rfl, by go_num, by simpa using hsz, (hst.drew).setOther hb (by simp) _, ?_, ?_⟩
      ·rw [hcol]
       exact hco.drew.set (by simp) (by rw [colsAt_size]; omega) _ (val_int hxor)
      ·exact hla.drew.setOther _ (by simp; omega) _
    ·have hy5 : y = 5 := by omega
     subst hy5
     have AS : Aside (Step b off (off + 25) w wr ∧ Row encL wr w.heap.size 0 (colsAt L (5 * x + 5)) ∧ Row encL wr b off L ∧ Small L) := ⟨hst, hco, hla, hS⟩
     clear hst hco hla hS
     go_wp2
     obtain ⟨hst, hco, hla, hS⟩ := AS.out
     go_roundg (5 - (x + 1))
     case measure => omega
     case rel => exact ⟨x + 1, by omega, rfl, by go_num, hsz, hst, hco, hla⟩
  ·have hx5 : x = 5 := by omega
   rw [hx5] at hco
   have hnl : (5 : Int) ≤ (x : Int) := by omega
   clear hlt hx5
   have AS : Aside (Step b off (off + 25) w wr ∧ Row encL wr w.heap.size 0 (colsAt L (5 * 5)) ∧ Row encL wr b off L ∧ Small L) := ⟨hst, hco, hla, hS⟩
   clear hst hco hla hS
   go_wp2
   obtain ⟨hst, hco, hla, hS⟩ := AS.out
   obtain ⟨c, hc⟩ : ∃ c, colsAt L (5 * 5) = c := ⟨_, rfl⟩
   have hcs : c.size = 5 := by rw [← hc]; exact colsAt_size _ _
   have hcm : Small c := by rw [← hc]; exact colsAt_small hS _
   rw [hc] at hco
   have HC : Hid (∀ k, k = 25 → colsAt L k = c) := fun k hk => by subst hk; exact hc
   clear hc
   go_loopg [29] 5 (fun g i wr => ∃ x : Nat, x ≤ 5 ∧ g = 5 - x ∧ i = .int .i64 x ∧ w.heap.size < wr.heap.size ∧ Step b off (off + 25) w wr ∧ Row encL wr w.heap.size 0 c ∧ Row encL wr b off (joinAt c L (5 * x)))
   case atStart => exact ⟨0, by omega, rfl, rfl, hsz, hst, hco, hla⟩
   case round =>
    obtain ⟨x', hx', rfl, rfl, hsz, hst, hco, hla⟩ := hrel
    clear hx
    by_cases hlt : x' < 5
    ·obtain ⟨c1, f1⟩ := hco ((x' + 4) % 5) (by omega)
     obtain ⟨c2, f2⟩ := hco ((x' + 1) % 5) (by omega)
     rw [Nat.zero_add] at c1 c2
     have hb1 := hcm ((x' + 4) % 5)
     have hb2 := hcm ((x' + 1) % 5)
     obtain ⟨u, hu⟩ : ∃ u, c[(x' + 4) % 5]! = u := ⟨_, rfl⟩
     obtain ⟨v, hv⟩ : ∃ v, c[(x' + 1) % 5]! = v := ⟨_, rfl⟩
     rw [hu] at c1 hb1
     rw [hv] at c2 hb2
     have AS : Aside (Step b off (off + 25) w wr ∧ Row encL wr w.heap.size 0 c ∧ Row encL wr b off (joinAt c L (5 * x')) ∧ c[(x' + 4) % 5]! = u ∧ c[(x' + 1) % 5]! = v ∧ Small L ∧ Small c ∧ c.size = 5) := ⟨hst, hco, hla, hu, hv, hS, hcm, hcs⟩
     clear hu hv hst hco hla hS hcm f1 f2 hcs hb1
     go_wp2
     go_quiet ((go_at_call 222; exact Calls.quiet_of_same (rot1_any _ _ hb2)))
     go_wp2
     obtain ⟨hst, hco, hla, hu, hv, hS, hcm, hcs⟩ := AS.out
     clear c1 c2 hb2 AS
     have hjs := joinAt_size c L
     have hjb := fun k => joinAt_small hcm hS k
     have hxb : u ^^^ rotl v 1 < 18446744073709551616 := by rw [← hu, ← hv]; exact xor_lt (hcm _) (rotl_lt _ _ (hcm _))
     have hx1 : bits .xor .u64 (u : Int) ((rotl v 1 : Nat) : Int) = ((u ^^^ rotl v 1 : Nat) : Int) := u64_xor_nat _ _ (by rw [← hu]; exact hcm _) (by rw [← hv]; exact rotl_lt _ _ (hcm _))
     have HX1 : Hid (bits .xor .u64 (u : Int) ((rotl v 1 : Nat) : Int) = ((u ^^^ rotl v 1 : Nat) : Int)) := hx1
     have HXB : Hid (u ^^^ rotl v 1 < 18446744073709551616) := hxb
     rw [hx1]
     have HU : Hid (c[(x' + 4) % 5]! ^^^ rotl c[(x' + 1) % 5]! 1 = u ^^^ rotl v 1) := by show _ = _; rw [hu, hv]
     clear hx1 hxb hu hv HX1
     obtain ⟨j, hj⟩ : ∃ j, u ^^^ rotl v 1 = j := ⟨_, rfl⟩
     rw [hj] at HXB HU ⊢
     clear hj
     go_loopg [44] 5 (fun g i wr => ∃ y : Nat, y ≤ 5 ∧ g = 5 - y ∧ i = .int .i64 y ∧ w.heap.size < wr.heap.size ∧ Step b off (off + 25) w wr ∧ Row encL wr w.heap.size 0 c ∧ Row encL wr b off (joinAt c L (5 * x' + y)))
     case atStart => exact ⟨0, by omega, rfl, rfl, hsz, hst.drewN _, hco.drewN _, hla.drewN _⟩
     case round =>
      obtain ⟨y, hy, rfl, rfl, hsz, hst, hco, hla⟩ := hrel
      by_cases hly : y < 5
      ·obtain ⟨c2, f2⟩ := hla (5 * x' + y) (by rw [hjs]; omega)
       rw [show off + (5 * x' + y) = off + x' * 5 + y by omega] at c2 f2
       have hbv := hjb (5 * x' + y) (5 * x' + y)
       have hcol : joinAt c L (5 * x' + (y + 1)) = (joinAt c L (5 * x' + y)).set! (5 * x' + y) ((joinAt c L (5 * x' + y))[5 * x' + y]! ^^^ j) := by
        show joinAt c L (5 * x' + y + 1) = _
        simp only [joinAt]
        rw [show (5 * x' + y) / 5 = x' by omega, HU.out]
       have hxor := u64_xor_nat _ _ hbv HXB.out
       obtain ⟨v, hv⟩ : ∃ v, (joinAt c L (5 * x' + y))[5 * x' + y]! = v := ⟨_, rfl⟩
       rw [hv] at c2 hcol hxor
       have AS : Aside (Step b off (off + 25) w wr ∧ Row encL wr w.heap.size 0 c ∧ Row encL wr b off (joinAt c L (5 * x' + y)) ∧ joinAt c L (5 * x' + (y + 1)) = (joinAt c L (5 * x' + y)).set! (5 * x' + y) (v ^^^ j) ∧ bits .xor .u64 (v : Int) (j : Int) = ((v ^^^ j : Nat) : Int) ∧ Small L ∧ Small c ∧ ∀ k, (joinAt c L k).size = L.size) := ⟨hst, hco, hla, hcol, hxor, hS, hcm, hjs⟩
       clear hv hst hco hla hcol hxor hbv hS hcm hcs hjs hjb
       go_wp2
       go_region
       go_wp2
       obtain ⟨hst, hco, hla, hcol, hxor, hS, hcm, hjs⟩ := AS.out
       go_roundg (5 - (y + 1))
       case measure => omega
       case rel =>
        refine ⟨y + 1, by omega, rfl, by go_num, by simpa using hsz, hst.drew.set (by omega) (by omega) _, hco.drew.setOther _ (by simp; omega) _, ?_⟩
        rw [hcol]
        exact hla.drew.set (by omega) (by rw [hjs]; omega) _ (val_int hxor)
      ·have hy5 : y = 5 := by omega
       rw [hy5] at hla
       have hnl2 : (5 : Int) ≤ (y : Int) := by omega
       have AS : Aside (Step b off (off + 25) w wr ∧ Row encL wr w.heap.size 0 c ∧ Row encL wr b off (joinAt c L (5 * x' + 5)) ∧ Small L ∧ Small c) := ⟨hst, hco, hla, hS, hcm⟩
       clear hst hco hla hS hcm hcs hjs hjb hy5 hly
       go_wp2
       obtain ⟨hst, hco, hla, hS, hcm⟩ := AS.out
       go_roundg (5 - (x' + 1))
       case measure => omega
       case rel => exact ⟨x' + 1, by omega, rfl, by go_num, hsz, hst, hco, hla⟩
    ·have hx5 : x' = 5 := by omega
     rw [hx5] at hla
     have hnl2 : (5 : Int) ≤ (x' : Int) := by omega
     have AS : Aside (Step b off (off + 25) w wr ∧ ∀ k, k = 25 → Row encL wr b off (joinAt c L k)) := ⟨hst, fun k hk => by subst hk; exact hla⟩
     clear hst hco hla hS hcm hcs hx5 hlt
     go_wp2
     go_end0
     obtain ⟨hst, hla⟩ := AS.out
     refine ⟨rfl, hst, ?_⟩
     have := hla 25 rfl
     rw [← HC.out 25 rfl] at this
     exact this
end Go.Proofs.YtjiikjpnlgogfaaGreatDoor
namespace Go.Proofs.YtjiikjpnlgogfaaGreatDoor
open Go.RowKit
theorem Row.range {enc : Nat → Value} {w : World} {b off : Nat} {d : Array Nat} (h : Row enc w b off d) : w.rangeAt b off (d.toList.map enc) := by
 intro j v hv
 have hj : j < d.size := by
  have := (List.getElem?_eq_some_iff.1 hv).1
  simpa using this
 rw [(h j hj).1]
 rw [← hv]
 simp [hj]
theorem Row.of_setCells {enc : Nat → Value} {w : World} {b off : Nat} (d : Array Nat) (h : w.there b off d.size) : Row enc (w.setCells b off (d.toList.map enc)) b off d := by
 intro j hj
 have ht : w.there b off (d.toList.map enc).length := by simpa using h
 refine ⟨World.rangeAt_setCells_same w b off _ ht j _ ?_, by rw [World.frozen?_setCells]; exact (h j hj).2⟩
 simp [hj]
theorem heap_setCells (b : Nat) : ∀ (vs : List Value) (o : Nat) (w : World) (k : Nat), k ≠ b → (w.setCells b o vs).heap[k]? = w.heap[k]?
 | [], _, _, _, _ => rfl
 | v :: r, o, w, k, h => by
  rw [World.setCells, heap_setCells b r (o + 1) _ k h]
  exact Below.heap_setCell w _ v k h
theorem size_setCells (b : Nat) : ∀ (vs : List Value) (o : Nat) (w : World), (w.setCells b o vs).heap.size = w.heap.size ∧ (w.setCells b o vs).os = w.os ∧ (w.setCells b o vs).tape = w.tape ∧ (w.setCells b o vs).output = w.output
 | [], _, _ => ⟨rfl, rfl, rfl, rfl⟩
 | v :: r, o, w => by
  rw [World.setCells]
  obtain ⟨h1, h2, h3, h4⟩ := size_setCells b r (o + 1) (w.setCell ⟨b, o, none⟩ v)
  exact ⟨h1.trans (by simp [World.setCell]), h2, h3, h4⟩
theorem Row.setCellsOther {enc : Nat → Value} {w : World} {b off : Nat} {d : Array Nat} (h : Row enc w b off d) (b' o : Nat) (hb : b ≠ b') (vs : List Value) : Row enc (w.setCells b' o vs) b off d :=
 h.of_eq (heap_setCells b' vs o w b hb)
theorem Step.setCellsOther {b lo hi : Nat} {w w1 : World} (h : Step b lo hi w w1) (hb : b < w.heap.size) {b' o : Nat} (hp : w.heap.size ≤ b') (vs : List Value) : Step b lo hi w (w1.setCells b' o vs) := by
 obtain ⟨h1, h2, h3, h4⟩ := size_setCells b' vs o w1
 exact ⟨h2.trans h.os, h3.trans h.tape, h4.trans h.output, by rw [h1]; exact h.size, fun k hk hkb => (heap_setCells b' vs o w1 k (by omega)).trans (h.block k hk hkb),
  fun o' ho => (World.cell?_of_block (heap_setCells b' vs o w1 b (by omega))).trans (h.cell o' ho), fun o' => (World.frozen?_of_block (heap_setCells b' vs o w1 b (by omega))).trans (h.froz o')⟩
theorem oneCell_enc (d : Array Nat) (k : IntKind) : ∀ v ∈ d.toList.map (fun n : Nat => Value.int k (n : Int)), v.oneCell' = true := by
 intro v hv
 simp only [List.mem_map] at hv
 obtain ⟨n, _, rfl⟩ := hv
 rfl
end Go.Proofs.YtjiikjpnlgogfaaGreatDoor
namespace Go.Proofs.YtjiikjpnlgogfaaGreatDoor
open Go.RowKit
attribute [local go_sem ↓] Go.wp_at_zero Go.wp_at_succ
def turnsT : Array Nat := #[0, 36, 3, 41, 18, 1, 44, 10, 45, 2, 62, 6, 43, 15, 61, 28, 55, 25, 21, 56, 27, 20, 39, 8, 14]
def keysT : Array Nat := #[1, 32898, 9223372036854808714, 9223372039002292224, 32907, 2147483649, 9223372039002292353, 9223372036854808585, 138, 136, 2147516425, 2147483658, 2147516555, 9223372036854775947, 9223372036854808713, 9223372036854808579, 9223372036854808578, 9223372036854775936, 32778, 9223372039002259466, 9223372039002292353, 9223372036854808704, 2147483649, 9223372039002292232]
def Tabs (w : World) : Prop :=
 (∀ j, j < 25 → w.cell? ⟨15, j, none⟩ = some (.int .i64 ((turnsT[j]! : Nat) : Int))) ∧ (∀ j, j < 24 → w.cell? ⟨13, j, none⟩ = some (.int .u64 ((keysT[j]! : Nat) : Int)))
theorem Tabs.of_blocks {w w1 : World} (h : Tabs w) (h7 : w1.heap[13]? = w.heap[13]?) (h9 : w1.heap[15]? = w.heap[15]?) : Tabs w1 :=
 ⟨fun j hj => (World.cell?_of_block h9).trans (h.1 j hj), fun j hj => (World.cell?_of_block h7).trans (h.2 j hj)⟩
theorem Tabs.step {b lo hi : Nat} {w w1 : World} (h : Tabs w) (hs : Step b lo hi w w1) (hb : 16 ≤ b) (hw : 16 ≤ w.heap.size) : Tabs w1 :=
 h.of_blocks (hs.block 13 (by omega) (by omega)) (hs.block 15 (by omega) (by omega))
theorem Tabs.below {w w1 : World} (h : Tabs w) (hs : Below w.heap.size w w1) (hw : 16 ≤ w.heap.size) : Tabs w1 :=
 h.of_blocks (hs.block 13 (by omega)) (hs.block 15 (by omega))
theorem turnsT_lt (j : Nat) : turnsT[j]! < 64 := by
 by_cases h : j < 25
 ·have : ∀ i : Fin 25, turnsT[i.val]! < 64 := by decide
  exact this ⟨j, h⟩
 ·have : turnsT[j]! = 0 := by
   have hs : turnsT.size = 25 := rfl
   simp [hs, h]
  rw [this]; decide
def piAt (L : Array Nat) : Nat → Array Nat
 | 0 => L
 | k + 1 => (piAt L k).set! (5 * (k % 5) + (2 * (k / 5) + 3 * (k % 5)) % 5) (rotl L[k]! turnsT[k]!)
theorem piAt_size (L : Array Nat) (k : Nat) : (piAt L k).size = L.size := by
 induction k with
 | zero => rfl
 | succ k ih => simp [piAt, ih]
theorem piAt_small {L : Array Nat} (h : Small L) (k : Nat) : Small (piAt L k) := by
 induction k with
 | zero => exact h
 | succ k ih => exact small_set ih _ _ (rotl_lt _ _ (h _))
theorem size65 : (Tryz.prog.info? 154).map (·.size) = some 25 := by kernel_rfl
theorem there_new (w : World) (C : Array Value) (t : TypeId) (n : Nat) (h : n = C.size) : (w.alloc (.cells C t)).there w.heap.size 0 n := by
 intro j hj
 refine ⟨?_, World.frozen?_alloc_new _ _ _ _⟩
 rw [Nat.zero_add, World.cell?_alloc_new]
 have : j < C.size := by omega
 simp [this]
theorem wrap_fits (n : Int) (h1 : -9223372036854775808 ≤ n) (h2 : n < 9223372036854775808) : IntKind.i64.wrap n = n := by
 simp only [IntKind.wrap, IntKind.bits, IntKind.signed]
 simp
 omega
set_option maxRecDepth 100000 in
set_option maxHeartbeats 800000 in
theorem pi_any (b off : Nat) (L : Array Nat) (w : World) (hL : L.size = 25) (hS : Small L) (hb : b < w.heap.size) (hR : Row encL w b off L) (hT : Tabs w) (hb10 : 16 ≤ b) :
  Calls Tryz.prog 199 #[.pointer (some ⟨b, off, none⟩)] w fun e w' => e = .returned (.tuple #[]) ∧ Step b off (off + 25) w w' ∧ Row encL w' b off (piAt L 25) := by
 have hrg := hR.range
 have hsz : (Tryz.prog.info? 154).map (·.size) = some (L.toList.map encL).length := by rw [size65]; simp [hL]
 have hsz2 : (Tryz.prog.info? 154).map (·.size) = some (L.toList.map encL).toArray.size := by rw [size65]; simp [hL]
 have hone := all_oneCell_toArray (oneCell_enc L .u64)
 have hlen : (L.toList.map encL).toArray.size = 25 := by simp [hL]
 have A0 : Aside (Tabs w ∧ Row encL w b off L ∧ Small L ∧ L.size = 25) := ⟨hT, hR, hS, hL⟩
 clear hT hR hS hL
 go_enter Tryz.func199, Tryz.ntmps199
 go_wp2_with (first
  | (refine wpList_load_mid rfl 154 _ rfl b off rfl (L.toList.map encL) _ hrg Tryz.underlying154 rfl hsz ?_)
  | (refine wpList_store_mid rfl 154 _ _ rfl w.heap.size 0 (L.toList.map encL).toArray rfl rfl (there_new _ _ _ _ hlen) hsz2 hone ?_))
 obtain ⟨hT, hR, hS, hL⟩ := A0.out
 generalize hw0 : w.alloc (.cells _ 154) = w0
 have st0 : Step b off (off + 25) w w0 := by rw [← hw0]; exact (Step.refl _ _ _ _).alloc hb _
 have sz0 : w.heap.size < w0.heap.size := by rw [← hw0]; simp
 have th0 : w0.there w.heap.size 0 L.size := by rw [← hw0, hL]; exact there_new _ _ _ _ rfl
 have ro0 : Row encL w0 b off L := by rw [← hw0]; exact hR.alloc hb _
 clear hw0 hR hrg hsz hsz2 hone hlen A0
 generalize hw1 : w0.setCells w.heap.size 0 (L.toList.map encL) = w1
 have st1 : Step b off (off + 25) w w1 := by rw [← hw1]; exact st0.setCellsOther hb (Nat.le_refl _) _
 have sz1 : w.heap.size < w1.heap.size := by rw [← hw1, (size_setCells _ _ _ _).1]; exact sz0
 have old1 : Row encL w1 w.heap.size 0 L := by rw [← hw1]; exact Row.of_setCells L th0
 have ro1 : Row encL w1 b off L := by rw [← hw1]; exact ro0.setCellsOther _ _ (by omega) _
 have hw10 : 16 ≤ w.heap.size := by omega
 clear hw1 st0 sz0 th0 ro0
 go_loopg [9] 5 (fun g i wr => ∃ x : Nat, x ≤ 5 ∧ g = 5 - x ∧ i = .int .i64 x ∧ w.heap.size < wr.heap.size ∧ Step b off (off + 25) w wr ∧ Row encL wr w.heap.size 0 L ∧ Row encL wr b off (piAt L (5 * x)))
 case atStart => exact ⟨0, by omega, rfl, rfl, sz1, st1, old1, ro1⟩
 case round =>
  obtain ⟨x, hx, rfl, rfl, hsz, hst, hco, hla⟩ := hrel
  clear sz1 st1 old1 ro1
  by_cases hlt : x < 5
  ·have A1 : Aside (Step b off (off + 25) w wr ∧ Row encL wr w.heap.size 0 L ∧ Row encL wr b off (piAt L (5 * x)) ∧ Tabs w ∧ Small L ∧ L.size = 25) := ⟨hst, hco, hla, hT, hS, hL⟩
   clear hst hco hla hT hS hL
   have hd : decide ((x : Int) < 5) = true := decide_eq_true (by omega)
   go_wp2
   obtain ⟨hst, hco, hla, hT, hS, hL⟩ := A1.out
   go_loopg [12] 5 (fun g i wr => ∃ y : Nat, y ≤ 5 ∧ g = 5 - y ∧ i = .int .i64 y ∧ w.heap.size < wr.heap.size ∧ Step b off (off + 25) w wr ∧ Row encL wr w.heap.size 0 L ∧ Row encL wr b off (piAt L (5 * x + y)))
   case atStart => exact ⟨0, by omega, rfl, rfl, hsz, hst, hco, hla⟩
   case round =>
    obtain ⟨y, hy, rfl, rfl, hsz, hst, hco, hla⟩ := hrel
    clear A1
    by_cases hly : y < 5
    ·have hps := piAt_size L (5 * x + y)
     obtain ⟨c1, f1⟩ := hco (5 * x + y) (by omega)
     obtain ⟨c3, f3⟩ := hla (5 * y + (2 * x + 3 * y) % 5) (by omega)
     have c2 := (hT.step hst hb10 hw10).1 (5 * x + y) (by omega)
     have htl := turnsT_lt (5 * x + y)
     have hlb := hS (5 * x + y)
     rw [show 0 + (5 * x + y) = x * 5 + y by omega] at c1 f1
     rw [show 5 * x + y = x * 5 + y by omega] at c2
     rw [show off + (5 * y + (2 * x + 3 * y) % 5) = off + y * 5 + (2 * x + 3 * y) % 5 by omega] at c3 f3
     have hcol : piAt L (5 * x + (y + 1)) = (piAt L (5 * x + y)).set! (5 * y + (2 * x + 3 * y) % 5) (rotl L[5 * x + y]! turnsT[5 * x + y]!) := by
      show piAt L (5 * x + y + 1) = _
      simp only [piAt]
      rw [show (5 * x + y) / 5 = x by omega, show (5 * x + y) % 5 = y by omega]
     rw [show x * 5 + y = 5 * x + y by omega] at c2
     obtain ⟨u, hu⟩ : ∃ u, L[5 * x + y]! = u := ⟨_, rfl⟩
     obtain ⟨v, hv⟩ : ∃ v, turnsT[5 * x + y]! = v := ⟨_, rfl⟩
     obtain ⟨z, hz⟩ : ∃ z, (piAt L (5 * x + y))[5 * y + (2 * x + 3 * y) % 5]! = z := ⟨_, rfl⟩
     rw [hu] at c1 hcol hlb
     rw [hv] at c2 hcol htl
     rw [hz] at c3
     rw [show 5 * x + y = x * 5 + y by omega] at c2
     have AS : Aside (Step b off (off + 25) w wr ∧ Row encL wr w.heap.size 0 L ∧ Row encL wr b off (piAt L (5 * x + y)) ∧ piAt L (5 * x + (y + 1)) = (piAt L (5 * x + y)).set! (5 * y + (2 * x + 3 * y) % 5) (rotl u v) ∧ (piAt L (5 * x + y)).size = 25) := ⟨hst, hco, hla, hcol, by omega⟩
     clear hu hv hz hst hco hla hcol hps hS hL hT
     have a1 : IntKind.i64.wrap (2 * (x : Int)) = 2 * (x : Int) := wrap_fits _ (by omega) (by omega)
     have a2 : IntKind.i64.wrap (3 * (y : Int)) = 3 * (y : Int) := wrap_fits _ (by omega) (by omega)
     have a3 : IntKind.i64.wrap (2 * (x : Int) + 3 * (y : Int)) = 2 * (x : Int) + 3 * (y : Int) := wrap_fits _ (by omega) (by omega)
     have i0 : (2 * (x : Int) + 3 * (y : Int)).tmod 5 = (2 * (x : Int) + 3 * (y : Int)) % 5 := Int.tmod_eq_emod_of_nonneg (by omega)
     have i1 : (0 : Int) ≤ (2 * (x : Int) + 3 * (y : Int)) % 5 := by omega
     have i2 : (2 * (x : Int) + 3 * (y : Int)) % 5 < 5 := by omega
     have i3 : ((2 * (x : Int) + 3 * (y : Int)) % 5).toNat = (2 * x + 3 * y) % 5 := by omega
     go_wp2
     have n1 : (⟨b, off + y * 5 + (2 * x + 3 * y) % 5, none⟩ : Addr) ≠ ⟨w.heap.size, x * 5 + y, none⟩ := fun e => by have e2 := congrArg Addr.block e; simp only at e2; omega
     have n2 : (⟨b, off + y * 5 + (2 * x + 3 * y) % 5, none⟩ : Addr) ≠ ⟨15, x * 5 + y, none⟩ := fun e => by have e2 := congrArg Addr.block e; simp only at e2; omega
     have hxi : (x : Int) < 5 := by omega
     go_region_held3 (fun w' => w'.cell? ⟨w.heap.size, x * 5 + y, none⟩ = some (encL u) ∧ w'.cell? ⟨15, x * 5 + y, none⟩ = some (.int .i64 (v : Int))) (first | (go_keep; done) | exact ⟨(World.cell?_setCell_other _ _ _ _ n1).trans c1, (World.cell?_setCell_other _ _ _ _ n2).trans c2⟩) (first | (go_at_call 222; refine (rot_any _ _ _ hlb htl).mono ?_; rintro e w' ⟨rfl, rfl⟩))
     clear a1 a2 a3 i0 i1 i2 i3 n1 n2
     go_wp2
     obtain ⟨hst, hco, hla, hcol, hps⟩ := AS.out
     go_roundg (5 - (y + 1))
     case measure => omega
     case rel =>
      refine ⟨y + 1, by omega, rfl, by go_num, by simpa using hsz, hst.drew.set (by omega) (by omega) _, hco.drew.setOther _ (by simp; omega) _, ?_⟩
      rw [hcol]
      exact hla.drew.set (by omega) (by omega) _ rfl
    ·have hy5 : y = 5 := by omega
     rw [hy5] at hla
     have hnl2 : (5 : Int) ≤ (y : Int) := by omega
     have AS : Aside (Step b off (off + 25) w wr ∧ Row encL wr w.heap.size 0 L ∧ Row encL wr b off (piAt L (5 * x + 5))) := ⟨hst, hco, hla⟩
     clear hst hco hla hS hT hL hy5 hly
     go_wp2
     obtain ⟨hst, hco, hla⟩ := AS.out
     go_roundg (5 - (x + 1))
     case measure => omega
     case rel => exact ⟨x + 1, by omega, rfl, by go_num, hsz, hst, hco, hla⟩
  ·have hx5 : x = 5 := by omega
   rw [hx5] at hla
   have hnl : (5 : Int) ≤ (x : Int) := by omega
   have AS : Aside (Step b off (off + 25) w wr ∧ ∀ k, k = 25 → Row encL wr b off (piAt L k)) := ⟨hst, fun k hk => by subst hk; exact hla⟩
   clear hst hco hla hS hT hL hx5 hlt
   go_wp2
   go_end0
   obtain ⟨hst, hla⟩ := AS.out
   exact ⟨rfl, hst, hla 25 rfl⟩
end Go.Proofs.YtjiikjpnlgogfaaGreatDoor
