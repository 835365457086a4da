/-
  math/bits.RotateLeft64 and digest.lowestFirst, as plain functions on numbers.
-/
import Derived.Test.YtjiikjpnlgogfaaDoorBase
namespace Go.Proofs.YtjiikjpnlgogfaaDoor
open Go.RowKit

def rotl (x k : Nat) : Nat := (x * 2 ^ k % 18446744073709551616) ||| (x / 2 ^ (64 - k))

theorem run_shl64 {P : Program} (x k : Nat) (hk : k ≤ 64) (w : World) :
    Sem.run P (Op.shift .shl .u64 (x : Int) .u64 (k : Int)) w = .ok (.int .u64 ((x * 2 ^ k % 18446744073709551616 : Nat) : Int)) w := by
  have h : ¬ ((k : Int) < 0) := by omega
  have hm : min k 64 = k := by omega
  simp only [Op.shift, h, if_false, Int.toNat_natCast, IntKind.bits, hm, IntKind.wrap_u64]
  show Result.ok _ _ = _
  congr 2

theorem run_shr64 {P : Program} (x k : Nat) (hk : k ≤ 64) (w : World) :
    Sem.run P (Op.shift .shr .u64 (x : Int) .u64 (k : Int)) w = .ok (.int .u64 ((x / 2 ^ k : Nat) : Int)) w := by
  have h : ¬ ((k : Int) < 0) := by omega
  have hm : min k 64 = k := by omega
  simp only [Op.shift, h, if_false, Int.toNat_natCast, IntKind.bits, hm]
  show Result.ok _ _ = _
  congr 2
  rw [Int.fdiv_eq_ediv_of_nonneg _ (by exact Int.le_of_lt (Int.pow_pos (by decide)))]
  push_cast
  rfl

theorem rotl_lt (x k : Nat) (hx : x < 18446744073709551616) : rotl x k < 18446744073709551616 := by
  have h1 : x * 2 ^ k % 18446744073709551616 < 2 ^ 64 := Nat.mod_lt _ (by decide)
  have h2 : x / 2 ^ (64 - k) < 2 ^ 64 := Nat.lt_of_le_of_lt (Nat.div_le_self _ _) (by omega)
  exact Nat.or_lt_two_pow h1 h2

theorem rot_eq (x k : Nat) (hx : x < 18446744073709551616) :
    bits BinOp.or IntKind.u64 (IntKind.u64.wrap ((x : Int) * 2 ^ k)) ((x : Int) / 2 ^ (64 - k)) = ((rotl x k : Nat) : Int) := by
  have h1 : IntKind.u64.wrap ((x : Int) * 2 ^ k) = ((x * 2 ^ k % 18446744073709551616 : Nat) : Int) := by
    rw [IntKind.wrap_u64, Int.natCast_emod, Int.natCast_mul, Int.natCast_pow]; rfl
  have h2 : ((x : Int) / 2 ^ (64 - k)) = ((x / 2 ^ (64 - k) : Nat) : Int) := by push_cast; rfl
  rw [h1, h2, u64_or_nat _ _ (Nat.mod_lt _ (by decide)) (Nat.lt_of_le_of_lt (Nat.div_le_self _ _) hx)]
  rfl


set_option maxHeartbeats 400000 in
theorem rot_any (x k : Nat) (w : World) (hx : x < 18446744073709551616) (hk : k < 64) :
    Calls Tryd.prog 69 #[.int .u64 (x : Int), .int .i64 (k : Int)] w fun e w' => e = .returned (.int .u64 ((rotl x k : Nat) : Int)) ∧ w' = w := by
  have ha : bits BinOp.and IntKind.u64 (k : Int) 63 = (k : Int) := by
    have := u64_and_nat k 63 (by omega) (by omega)
    rw [show ((63 : Nat) : Int) = 63 from rfl] at this
    rw [this, nat_mask6]; congr 1; omega
  have h1 := fun w => run_shl64 (P := Tryd.prog) x k (by omega) w
  have h2 := fun w => run_shr64 (P := Tryd.prog) x (64 - k) (by omega) w
  rw [show ((64 - k : Nat) : Int) = 64 - (k : Int) by omega] at h2
  go_enter Tryd.func69, Tryd.ntmps69
  go_wp2
  go_ret
  exact ⟨ret_int (rot_eq x k hx), rfl⟩


def lowFold (blk : Array Nat) (fr : Nat) : Nat → Nat
  | 0 => 0
  | k + 1 => lowFold blk fr k ||| blk[fr + k]! * 2 ^ (8 * k) % 18446744073709551616


theorem lowFold_lt (blk : Array Nat) (fr k : Nat) : lowFold blk fr k < 18446744073709551616 := by
  induction k with
  | zero => simp [lowFold]
  | succ k ih => exact Nat.or_lt_two_pow (n := 64) ih (Nat.mod_lt _ (by decide))

theorem low_step (blk : Array Nat) (fr k : Nat) :
    bits BinOp.or IntKind.u64 ((lowFold blk fr k : Nat) : Int) (IntKind.u64.wrap (((blk[fr + k]! : Nat) : Int) * 2 ^ (8 * k))) = ((lowFold blk fr (k + 1) : Nat) : Int) := by
  have h1 : IntKind.u64.wrap (((blk[fr + k]! : Nat) : Int) * 2 ^ (8 * k)) = ((blk[fr + k]! * 2 ^ (8 * k) % 18446744073709551616 : Nat) : Int) := by
    rw [IntKind.wrap_u64, Int.natCast_emod, Int.natCast_mul, Int.natCast_pow]; rfl
  rw [h1, u64_or_nat _ _ (lowFold_lt _ _ _) (Nat.mod_lt _ (by decide))]
  rfl

set_option maxHeartbeats 400000 in
theorem low_any (blk : Array Nat) (fr : Nat) (w : World) (hs : blk.size = 136) (hb : ∀ j : Nat, blk[j]! < 256) (hf : fr + 8 ≤ 136) :
    Calls Tryd.prog 51 #[.agg (blk.map encB), .int .i64 (fr : Int)] w fun e w' => e = .returned (.int .u64 ((lowFold blk fr 8 : Nat) : Int)) ∧ w' = w.alloc (.cells (blk.map encB) 68) := by
  have hc0 : ∀ j, j < 136 → (w.alloc (.cells (blk.map encB) 68)).cell? ⟨w.heap.size, j, none⟩ = some (encB blk[j]!) := by
    intro j hj
    simp [hs, hj]
  go_enter Tryd.func51, Tryd.ntmps51
  go_wp2
  generalize hw1 : w.alloc (.cells (blk.map encB) 68) = w1 at hc0 ⊢
  have HW : Hid (w.alloc (.cells (blk.map encB) 68) = w1) := hw1
  clear hw1
  go_loop [5, 7] (fun n i => ∃ k : Nat, k ≤ 8 ∧ i = .int .i64 k ∧ n = .int .u64 ((lowFold blk fr k : Nat) : Int)) (fun _ i => 8 - (intOf i).toNat)
  case atStart => exact ⟨0, Nat.zero_le _, rfl, rfl⟩
  case round =>
    obtain ⟨k, hk, rfl, rfl⟩ := hrel
    by_cases hlt : k < 8
    · have hc := hc0 (fr + k) (by omega)
      have hx := hb (fr + k)
      have hor := low_step blk fr k
      clear hc0 hb
      obtain ⟨x, hxe⟩ : ∃ x, blk[fr + k]! = x := ⟨_, rfl⟩
      obtain ⟨y, hye⟩ : ∃ y, lowFold blk fr k = y := ⟨_, rfl⟩
      rw [hxe] at hc hx hor
      rw [hye] at hor ⊢
      have HO := (show Hid _ from hor)
      clear hxe hye hor
      go_wp2
      go_round
      case rel => exact ⟨k + 1, by omega, by go_num, val_int HO.out⟩
      case measure => simp [intOf]; omega
    · have hk8 : k = 8 := by omega
      subst hk8
      go_wp2
      go_ret
      exact ⟨rfl, HW.out.symm⟩
end Go.Proofs.YtjiikjpnlgogfaaDoor
