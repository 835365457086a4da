/-
  Eight bytes as a number, lowest first: by joining bits and by adding up.
-/
import Derived.Test.YtjiikjpnlgogfaaGreatDoorBegin
namespace Go.Proofs.YtjiikjpnlgogfaaGreatDoor

/-- As the reference reads them: from the highest on. -/
def refLow (blk : Array Nat) (fr : Nat) : Nat → Nat
  | 0 => 0
  | i + 1 => (refLow blk fr i * 256 + blk[fr + (7 - i)]!) % 18446744073709551616

theorem or_add (k x y : Nat) (hy : y < 2 ^ k) : y ||| x * 2 ^ k = y + x * 2 ^ k := by
  rw [Nat.or_comm, Nat.add_comm]
  exact nat_join k (x * 2 ^ k) y (Nat.mul_mod_left _ _) hy

set_option maxRecDepth 100000 in
theorem low_eq (blk : Array Nat) (fr : Nat) (h : ∀ j : Nat, blk[j]! < 256) : refLow blk fr 8 = lowFold blk fr 8 := by
  have h0 := h (fr + 0)
  have h1 := h (fr + 1)
  have h2 := h (fr + 2)
  have h3 := h (fr + 3)
  have h4 := h (fr + 4)
  have h5 := h (fr + 5)
  have h6 := h (fr + 6)
  have h7 := h (fr + 7)
  simp only [refLow, lowFold]
  simp only [Nat.sub_zero, Nat.reduceSub, Nat.reduceMul]
  generalize blk[fr + 0]! = b0 at h0 ⊢
  generalize blk[fr + 1]! = b1 at h1 ⊢
  generalize blk[fr + 2]! = b2 at h2 ⊢
  generalize blk[fr + 3]! = b3 at h3 ⊢
  generalize blk[fr + 4]! = b4 at h4 ⊢
  generalize blk[fr + 5]! = b5 at h5 ⊢
  generalize blk[fr + 6]! = b6 at h6 ⊢
  generalize blk[fr + 7]! = b7 at h7 ⊢
  have e0 : b0 * 2 ^ 0 % 18446744073709551616 = b0 := by rw [Nat.pow_zero]; omega
  have e1 : b1 * 2 ^ 8 % 18446744073709551616 = b1 * 2 ^ 8 := Nat.mod_eq_of_lt (by omega)
  have e2 : b2 * 2 ^ 16 % 18446744073709551616 = b2 * 2 ^ 16 := Nat.mod_eq_of_lt (by omega)
  have e3 : b3 * 2 ^ 24 % 18446744073709551616 = b3 * 2 ^ 24 := Nat.mod_eq_of_lt (by omega)
  have e4 : b4 * 2 ^ 32 % 18446744073709551616 = b4 * 2 ^ 32 := Nat.mod_eq_of_lt (by omega)
  have e5 : b5 * 2 ^ 40 % 18446744073709551616 = b5 * 2 ^ 40 := Nat.mod_eq_of_lt (by omega)
  have e6 : b6 * 2 ^ 48 % 18446744073709551616 = b6 * 2 ^ 48 := Nat.mod_eq_of_lt (by omega)
  have e7 : b7 * 2 ^ 56 % 18446744073709551616 = b7 * 2 ^ 56 := Nat.mod_eq_of_lt (by omega)
  rw [e0, e1, e2, e3, e4, e5, e6, e7, Nat.zero_or]
  rw [or_add 8 b1 b0 (by omega), or_add 16 b2 _ (by omega), or_add 24 b3 _ (by omega), or_add 32 b4 _ (by omega), or_add 40 b5 _ (by omega), or_add 48 b6 _ (by omega), or_add 56 b7 _ (by omega)]
  omega
end Go.Proofs.YtjiikjpnlgogfaaGreatDoor
