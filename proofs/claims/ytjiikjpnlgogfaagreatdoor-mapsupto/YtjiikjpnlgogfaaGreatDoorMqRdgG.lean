/-
  The reference's turning of a number (turned).
  A round by the document's definition and the program's round are one function on the 25 lanes.
  The reference's round (round): what it makes of the 25 numbers.
  The reference's tables (begin): what its loops make are the two tables.
  Eight bytes as a number, lowest first: by joining bits and by adding up.
  A text cut into blocks with its end: byte by byte as the hasher takes it, and all at once as the reference does: the same blocks.
  Block by block as the reference takes them: the same lanes as the program's.
  The reference's digest (twigsref.Digest) is the program's.
-/
import Derived.Test.YtjiikjpnlgogfaaGreatDoorMqRotG
import Derived.Test.YtjiikjpnlgogfaaGreatDoorMqChiG
import Derived.Test.YtjiikjpnlgogfaaGreatDoorMqWriG
import Derived.Test.YtjiikjpnlgogfaaGreatDoorMqOwnG
import Derived.Deep.QuietTactic
import Derived.BigQuiet
import Derived.OwnWalk
import Derived.Deep.RegionHeld3
namespace Go.Proofs.YtjiikjpnlgogfaaGreatDoor
open Go.RowKit

def turnedF (n s : Nat) : Nat := if s < 1 ∨ 63 < s then n else rotl n s

theorem run_shl64i {P : Program} (x k : Nat) (hk : k ≤ 64) (w : World) :
    Sem.run P (Op.shift .shl .u64 (x : Int) .i64 (k : Int)) w = .ok (.int .u64 ((x * 2 ^ k % 18446744073709551616 : Nat) : Int)) w := run_shl64 x k hk w
theorem run_shr64i {P : Program} (x k : Nat) (hk : k ≤ 64) (w : World) :
    Sem.run P (Op.shift .shr .u64 (x : Int) .i64 (k : Int)) w = .ok (.int .u64 ((x / 2 ^ k : Nat) : Int)) w := run_shr64 x k hk w

set_option maxHeartbeats 400000 in
theorem turned_any (x k : Nat) (w : World) (hx : x < 18446744073709551616) (hk : k < 64) :
    Calls Tryz.prog 211 #[.int .u64 (x : Int), .int .i64 (k : Int)] w fun e w' => e = .returned (.int .u64 ((turnedF x k : Nat) : Int)) ∧ ∃ q, w' = w.drewN q := by
  by_cases h0 : k = 0
  · subst h0
    go_enter Tryz.func211, Tryz.ntmps211
    go_wp2
    go_ret
    exact ⟨rfl, 0, rfl⟩
  · have e0 : turnedF x k = rotl x k := by unfold turnedF; rw [if_neg (by omega)]
    rw [e0]
    clear e0
    have h1 := fun w => run_shl64i (P := Tryz.prog) x k (by omega) w
    have h2 := fun w => run_shr64i (P := Tryz.prog) x (64 - k) (by omega) w
    rw [show ((64 - k : Nat) : Int) = 64 - (k : Int) by omega] at h2
    have d1 : ((k : Int) < 1) = False := by simp; omega
    have d2 : ((63 : Int) < (k : Int)) = False := by simp; omega
    go_enter Tryz.func211, Tryz.ntmps211
    go_wp2
    go_quiet (fail)
    go_wp2
    go_ret
    exact ⟨ret_int (rot_eq x k hx), nq, rfl⟩
end Go.Proofs.YtjiikjpnlgogfaaGreatDoor

namespace Go.Proofs.YtjiikjpnlgogfaaGreatDoor


theorem rotl_zero (n : Nat) (h : n < 18446744073709551616) : rotl n 0 = n := by
  unfold rotl
  rw [Nat.pow_zero, Nat.mul_one, Nat.mod_eq_of_lt h, Nat.sub_zero, Nat.div_eq_of_lt (by omega)]
  simp
theorem turnedF_eq (n s : Nat) (h : n < 18446744073709551616) (hs : s < 64) : turnedF n s = rotl n s := by
  unfold turnedF
  by_cases h0 : s = 0
  · subst h0
    rw [if_pos (by omega), rotl_zero n h]
  · rw [if_neg (by omega)]

def refC (L : Array Nat) : Nat → Array Nat
  | 0 => #[0, 0, 0, 0, 0]
  | x + 1 => (refC L x).set! x (L[5 * x]! ^^^ L[5 * x + 1]! ^^^ L[5 * x + 2]! ^^^ L[5 * x + 3]! ^^^ L[5 * x + 4]!)
def refB (c L S : Array Nat) : Nat → Array Nat
  | 0 => #[0, 0, 0, 0, 0, 0, 0, 0, 0, 0, 0, 0, 0, 0, 0, 0, 0, 0, 0, 0, 0, 0, 0, 0, 0]
  | k + 1 => (refB c L S k).set! (5 * (k % 5) + (2 * (k / 5) + 3 * (k % 5)) % 5) (turnedF (L[k]! ^^^ c[(k / 5 + 4) % 5]! ^^^ turnedF c[(k / 5 + 1) % 5]! 1) S[k]!)
def refA (b L : Array Nat) : Nat → Array Nat
  | 0 => L
  | k + 1 => (refA b L k).set! k (b[k]! ^^^ (b[5 * ((k / 5 + 2) % 5) + k % 5]! &&& (18446744073709551615 - b[5 * ((k / 5 + 1) % 5) + k % 5]!)))
def refRound (L S K : Array Nat) (r : Nat) : Array Nat :=
  (refA (refB (refC L 5) L S 25) L 25).set! 0 ((refA (refB (refC L 5) L S 25) L 25)[0]! ^^^ K[r]!)

theorem cols_closed (l0 l1 l2 l3 l4 l5 l6 l7 l8 l9 l10 l11 l12 l13 l14 l15 l16 l17 l18 l19 l20 l21 l22 l23 l24 : Nat) : colsAt #[l0, l1, l2, l3, l4, l5, l6, l7, l8, l9, l10, l11, l12, l13, l14, l15, l16, l17, l18, l19, l20, l21, l22, l23, l24] 25 = #[((((0 ^^^ l0) ^^^ l1) ^^^ l2) ^^^ l3) ^^^ l4, ((((0 ^^^ l5) ^^^ l6) ^^^ l7) ^^^ l8) ^^^ l9, ((((0 ^^^ l10) ^^^ l11) ^^^ l12) ^^^ l13) ^^^ l14, ((((0 ^^^ l15) ^^^ l16) ^^^ l17) ^^^ l18) ^^^ l19, ((((0 ^^^ l20) ^^^ l21) ^^^ l22) ^^^ l23) ^^^ l24] := by kernel_rfl
theorem join_closed (l0 l1 l2 l3 l4 l5 l6 l7 l8 l9 l10 l11 l12 l13 l14 l15 l16 l17 l18 l19 l20 l21 l22 l23 l24 c0 c1 c2 c3 c4 : Nat) : joinAt #[c0, c1, c2, c3, c4] #[l0, l1, l2, l3, l4, l5, l6, l7, l8, l9, l10, l11, l12, l13, l14, l15, l16, l17, l18, l19, l20, l21, l22, l23, l24] 25 = #[l0 ^^^ (c4 ^^^ rotl c1 1), l1 ^^^ (c4 ^^^ rotl c1 1), l2 ^^^ (c4 ^^^ rotl c1 1), l3 ^^^ (c4 ^^^ rotl c1 1), l4 ^^^ (c4 ^^^ rotl c1 1), l5 ^^^ (c0 ^^^ rotl c2 1), l6 ^^^ (c0 ^^^ rotl c2 1), l7 ^^^ (c0 ^^^ rotl c2 1), l8 ^^^ (c0 ^^^ rotl c2 1), l9 ^^^ (c0 ^^^ rotl c2 1), l10 ^^^ (c1 ^^^ rotl c3 1), l11 ^^^ (c1 ^^^ rotl c3 1), l12 ^^^ (c1 ^^^ rotl c3 1), l13 ^^^ (c1 ^^^ rotl c3 1), l14 ^^^ (c1 ^^^ rotl c3 1), l15 ^^^ (c2 ^^^ rotl c4 1), l16 ^^^ (c2 ^^^ rotl c4 1), l17 ^^^ (c2 ^^^ rotl c4 1), l18 ^^^ (c2 ^^^ rotl c4 1), l19 ^^^ (c2 ^^^ rotl c4 1), l20 ^^^ (c3 ^^^ rotl c0 1), l21 ^^^ (c3 ^^^ rotl c0 1), l22 ^^^ (c3 ^^^ rotl c0 1), l23 ^^^ (c3 ^^^ rotl c0 1), l24 ^^^ (c3 ^^^ rotl c0 1)] := by kernel_rfl
theorem pi_closed (l0 l1 l2 l3 l4 l5 l6 l7 l8 l9 l10 l11 l12 l13 l14 l15 l16 l17 l18 l19 l20 l21 l22 l23 l24 : Nat) : piAt #[l0, l1, l2, l3, l4, l5, l6, l7, l8, l9, l10, l11, l12, l13, l14, l15, l16, l17, l18, l19, l20, l21, l22, l23, l24] 25 = #[rotl l0 0, rotl l15 28, rotl l5 1, rotl l20 27, rotl l10 62, rotl l6 44, rotl l21 20, rotl l11 6, rotl l1 36, rotl l16 55, rotl l12 43, rotl l2 3, rotl l17 25, rotl l7 10, rotl l22 39, rotl l18 21, rotl l8 45, rotl l23 8, rotl l13 15, rotl l3 41, rotl l24 14, rotl l14 61, rotl l4 18, rotl l19 56, rotl l9 2] := by kernel_rfl
theorem chi_closed (l0 l1 l2 l3 l4 l5 l6 l7 l8 l9 l10 l11 l12 l13 l14 l15 l16 l17 l18 l19 l20 l21 l22 l23 l24 : Nat) : chiAt #[l0, l1, l2, l3, l4, l5, l6, l7, l8, l9, l10, l11, l12, l13, l14, l15, l16, l17, l18, l19, l20, l21, l22, l23, l24] 25 = #[l0 ^^^ andNot l10 l5, l1 ^^^ andNot l11 l6, l2 ^^^ andNot l12 l7, l3 ^^^ andNot l13 l8, l4 ^^^ andNot l14 l9, l5 ^^^ andNot l15 l10, l6 ^^^ andNot l16 l11, l7 ^^^ andNot l17 l12, l8 ^^^ andNot l18 l13, l9 ^^^ andNot l19 l14, l10 ^^^ andNot l20 l15, l11 ^^^ andNot l21 l16, l12 ^^^ andNot l22 l17, l13 ^^^ andNot l23 l18, l14 ^^^ andNot l24 l19, l15 ^^^ andNot l0 l20, l16 ^^^ andNot l1 l21, l17 ^^^ andNot l2 l22, l18 ^^^ andNot l3 l23, l19 ^^^ andNot l4 l24, l20 ^^^ andNot l5 l0, l21 ^^^ andNot l6 l1, l22 ^^^ andNot l7 l2, l23 ^^^ andNot l8 l3, l24 ^^^ andNot l9 l4] := by kernel_rfl
theorem refC_closed (l0 l1 l2 l3 l4 l5 l6 l7 l8 l9 l10 l11 l12 l13 l14 l15 l16 l17 l18 l19 l20 l21 l22 l23 l24 : Nat) : refC #[l0, l1, l2, l3, l4, l5, l6, l7, l8, l9, l10, l11, l12, l13, l14, l15, l16, l17, l18, l19, l20, l21, l22, l23, l24] 5 = #[l0 ^^^ l1 ^^^ l2 ^^^ l3 ^^^ l4, l5 ^^^ l6 ^^^ l7 ^^^ l8 ^^^ l9, l10 ^^^ l11 ^^^ l12 ^^^ l13 ^^^ l14, l15 ^^^ l16 ^^^ l17 ^^^ l18 ^^^ l19, l20 ^^^ l21 ^^^ l22 ^^^ l23 ^^^ l24] := by kernel_rfl
theorem refB_closed (l0 l1 l2 l3 l4 l5 l6 l7 l8 l9 l10 l11 l12 l13 l14 l15 l16 l17 l18 l19 l20 l21 l22 l23 l24 c0 c1 c2 c3 c4 : Nat) : refB #[c0, c1, c2, c3, c4] #[l0, l1, l2, l3, l4, l5, l6, l7, l8, l9, l10, l11, l12, l13, l14, l15, l16, l17, l18, l19, l20, l21, l22, l23, l24] turnsT 25 = #[turnedF (l0 ^^^ c4 ^^^ turnedF c1 1) 0, turnedF (l15 ^^^ c2 ^^^ turnedF c4 1) 28, turnedF (l5 ^^^ c0 ^^^ turnedF c2 1) 1, turnedF (l20 ^^^ c3 ^^^ turnedF c0 1) 27, turnedF (l10 ^^^ c1 ^^^ turnedF c3 1) 62, turnedF (l6 ^^^ c0 ^^^ turnedF c2 1) 44, turnedF (l21 ^^^ c3 ^^^ turnedF c0 1) 20, turnedF (l11 ^^^ c1 ^^^ turnedF c3 1) 6, turnedF (l1 ^^^ c4 ^^^ turnedF c1 1) 36, turnedF (l16 ^^^ c2 ^^^ turnedF c4 1) 55, turnedF (l12 ^^^ c1 ^^^ turnedF c3 1) 43, turnedF (l2 ^^^ c4 ^^^ turnedF c1 1) 3, turnedF (l17 ^^^ c2 ^^^ turnedF c4 1) 25, turnedF (l7 ^^^ c0 ^^^ turnedF c2 1) 10, turnedF (l22 ^^^ c3 ^^^ turnedF c0 1) 39, turnedF (l18 ^^^ c2 ^^^ turnedF c4 1) 21, turnedF (l8 ^^^ c0 ^^^ turnedF c2 1) 45, turnedF (l23 ^^^ c3 ^^^ turnedF c0 1) 8, turnedF (l13 ^^^ c1 ^^^ turnedF c3 1) 15, turnedF (l3 ^^^ c4 ^^^ turnedF c1 1) 41, turnedF (l24 ^^^ c3 ^^^ turnedF c0 1) 14, turnedF (l14 ^^^ c1 ^^^ turnedF c3 1) 61, turnedF (l4 ^^^ c4 ^^^ turnedF c1 1) 18, turnedF (l19 ^^^ c2 ^^^ turnedF c4 1) 56, turnedF (l9 ^^^ c0 ^^^ turnedF c2 1) 2] := by kernel_rfl
theorem refA_closed (b0 b1 b2 b3 b4 b5 b6 b7 b8 b9 b10 b11 b12 b13 b14 b15 b16 b17 b18 b19 b20 b21 b22 b23 b24 l0 l1 l2 l3 l4 l5 l6 l7 l8 l9 l10 l11 l12 l13 l14 l15 l16 l17 l18 l19 l20 l21 l22 l23 l24 : Nat) : refA #[b0, b1, b2, b3, b4, b5, b6, b7, b8, b9, b10, b11, b12, b13, b14, b15, b16, b17, b18, b19, b20, b21, b22, b23, b24] #[l0, l1, l2, l3, l4, l5, l6, l7, l8, l9, l10, l11, l12, l13, l14, l15, l16, l17, l18, l19, l20, l21, l22, l23, l24] 25 = #[b0 ^^^ (b10 &&& (18446744073709551615 - b5)), b1 ^^^ (b11 &&& (18446744073709551615 - b6)), b2 ^^^ (b12 &&& (18446744073709551615 - b7)), b3 ^^^ (b13 &&& (18446744073709551615 - b8)), b4 ^^^ (b14 &&& (18446744073709551615 - b9)), b5 ^^^ (b15 &&& (18446744073709551615 - b10)), b6 ^^^ (b16 &&& (18446744073709551615 - b11)), b7 ^^^ (b17 &&& (18446744073709551615 - b12)), b8 ^^^ (b18 &&& (18446744073709551615 - b13)), b9 ^^^ (b19 &&& (18446744073709551615 - b14)), b10 ^^^ (b20 &&& (18446744073709551615 - b15)), b11 ^^^ (b21 &&& (18446744073709551615 - b16)), b12 ^^^ (b22 &&& (18446744073709551615 - b17)), b13 ^^^ (b23 &&& (18446744073709551615 - b18)), b14 ^^^ (b24 &&& (18446744073709551615 - b19)), b15 ^^^ (b0 &&& (18446744073709551615 - b20)), b16 ^^^ (b1 &&& (18446744073709551615 - b21)), b17 ^^^ (b2 &&& (18446744073709551615 - b22)), b18 ^^^ (b3 &&& (18446744073709551615 - b23)), b19 ^^^ (b4 &&& (18446744073709551615 - b24)), b20 ^^^ (b5 &&& (18446744073709551615 - b0)), b21 ^^^ (b6 &&& (18446744073709551615 - b1)), b22 ^^^ (b7 &&& (18446744073709551615 - b2)), b23 ^^^ (b8 &&& (18446744073709551615 - b3)), b24 ^^^ (b9 &&& (18446744073709551615 - b4))] := by kernel_rfl

/-- An array of 25 written out. -/
theorem lits25 (L : Array Nat) (h : L.size = 25) : ∃ l0 l1 l2 l3 l4 l5 l6 l7 l8 l9 l10 l11 l12 l13 l14 l15 l16 l17 l18 l19 l20 l21 l22 l23 l24 : Nat, L = #[l0, l1, l2, l3, l4, l5, l6, l7, l8, l9, l10, l11, l12, l13, l14, l15, l16, l17, l18, l19, l20, l21, l22, l23, l24] := by
  obtain ⟨l⟩ := L
  match l, h with
  | [l0, l1, l2, l3, l4, l5, l6, l7, l8, l9, l10, l11, l12, l13, l14, l15, l16, l17, l18, l19, l20, l21, l22, l23, l24], _ => exact ⟨l0, l1, l2, l3, l4, l5, l6, l7, l8, l9, l10, l11, l12, l13, l14, l15, l16, l17, l18, l19, l20, l21, l22, l23, l24, rfl⟩

theorem el_eq {l c d t : Nat} (hl : l < 18446744073709551616) (hc : c < 18446744073709551616) (hd : d < 18446744073709551616) (ht : t < 64) :
    turnedF (l ^^^ c ^^^ turnedF d 1) t = rotl (l ^^^ (c ^^^ rotl d 1)) t := by
  have h1 : turnedF d 1 = rotl d 1 := turnedF_eq d 1 hd (by omega)
  have h2 := rotl_lt d 1 hd
  rw [h1, Nat.xor_assoc]
  exact turnedF_eq _ _ (xor_lt hl (xor_lt hc h2)) ht

theorem xor5_lt {a b c d e : Nat} (ha : a < 18446744073709551616) (hb : b < 18446744073709551616) (hc : c < 18446744073709551616) (hd : d < 18446744073709551616) (he : e < 18446744073709551616) : a ^^^ b ^^^ c ^^^ d ^^^ e < 18446744073709551616 :=
  xor_lt (xor_lt (xor_lt (xor_lt ha hb) hc) hd) he

theorem refB_eq (L : Array Nat) (hs : L.size = 25) (h : Small L) : refB (refC L 5) L turnsT 25 = piAt (theta L) 25 := by
  obtain ⟨l0, l1, l2, l3, l4, l5, l6, l7, l8, l9, l10, l11, l12, l13, l14, l15, l16, l17, l18, l19, l20, l21, l22, l23, l24, rfl⟩ := lits25 L hs
  have h0 : l0 < 18446744073709551616 := h 0
  have h1 : l1 < 18446744073709551616 := h 1
  have h2 : l2 < 18446744073709551616 := h 2
  have h3 : l3 < 18446744073709551616 := h 3
  have h4 : l4 < 18446744073709551616 := h 4
  have h5 : l5 < 18446744073709551616 := h 5
  have h6 : l6 < 18446744073709551616 := h 6
  have h7 : l7 < 18446744073709551616 := h 7
  have h8 : l8 < 18446744073709551616 := h 8
  have h9 : l9 < 18446744073709551616 := h 9
  have h10 : l10 < 18446744073709551616 := h 10
  have h11 : l11 < 18446744073709551616 := h 11
  have h12 : l12 < 18446744073709551616 := h 12
  have h13 : l13 < 18446744073709551616 := h 13
  have h14 : l14 < 18446744073709551616 := h 14
  have h15 : l15 < 18446744073709551616 := h 15
  have h16 : l16 < 18446744073709551616 := h 16
  have h17 : l17 < 18446744073709551616 := h 17
  have h18 : l18 < 18446744073709551616 := h 18
  have h19 : l19 < 18446744073709551616 := h 19
  have h20 : l20 < 18446744073709551616 := h 20
  have h21 : l21 < 18446744073709551616 := h 21
  have h22 : l22 < 18446744073709551616 := h 22
  have h23 : l23 < 18446744073709551616 := h 23
  have h24 : l24 < 18446744073709551616 := h 24
  have k0 := xor5_lt h0 h1 h2 h3 h4
  have k1 := xor5_lt h5 h6 h7 h8 h9
  have k2 := xor5_lt h10 h11 h12 h13 h14
  have k3 := xor5_lt h15 h16 h17 h18 h19
  have k4 := xor5_lt h20 h21 h22 h23 h24
  clear h hs
  unfold theta
  rw [cols_closed, join_closed, pi_closed, refC_closed, refB_closed]
  simp only [Nat.zero_xor]
  generalize l0 ^^^ l1 ^^^ l2 ^^^ l3 ^^^ l4 = c0 at k0 ⊢
  generalize l5 ^^^ l6 ^^^ l7 ^^^ l8 ^^^ l9 = c1 at k1 ⊢
  generalize l10 ^^^ l11 ^^^ l12 ^^^ l13 ^^^ l14 = c2 at k2 ⊢
  generalize l15 ^^^ l16 ^^^ l17 ^^^ l18 ^^^ l19 = c3 at k3 ⊢
  generalize l20 ^^^ l21 ^^^ l22 ^^^ l23 ^^^ l24 = c4 at k4 ⊢
  rw [el_eq h0 k4 k1 (show 0 < 64 by omega), el_eq h15 k2 k4 (show 28 < 64 by omega), el_eq h5 k0 k2 (show 1 < 64 by omega), el_eq h20 k3 k0 (show 27 < 64 by omega), el_eq h10 k1 k3 (show 62 < 64 by omega), el_eq h6 k0 k2 (show 44 < 64 by omega), el_eq h21 k3 k0 (show 20 < 64 by omega), el_eq h11 k1 k3 (show 6 < 64 by omega), el_eq h1 k4 k1 (show 36 < 64 by omega), el_eq h16 k2 k4 (show 55 < 64 by omega), el_eq h12 k1 k3 (show 43 < 64 by omega), el_eq h2 k4 k1 (show 3 < 64 by omega), el_eq h17 k2 k4 (show 25 < 64 by omega), el_eq h7 k0 k2 (show 10 < 64 by omega), el_eq h22 k3 k0 (show 39 < 64 by omega), el_eq h18 k2 k4 (show 21 < 64 by omega), el_eq h8 k0 k2 (show 45 < 64 by omega), el_eq h23 k3 k0 (show 8 < 64 by omega), el_eq h13 k1 k3 (show 15 < 64 by omega), el_eq h3 k4 k1 (show 41 < 64 by omega), el_eq h24 k3 k0 (show 14 < 64 by omega), el_eq h14 k1 k3 (show 61 < 64 by omega), el_eq h4 k4 k1 (show 18 < 64 by omega), el_eq h19 k2 k4 (show 56 < 64 by omega), el_eq h9 k0 k2 (show 2 < 64 by omega)]

theorem refA_eq (b L : Array Nat) (hb : b.size = 25) (hs : L.size = 25) : refA b L 25 = chiAt b 25 := by
  obtain ⟨l0, l1, l2, l3, l4, l5, l6, l7, l8, l9, l10, l11, l12, l13, l14, l15, l16, l17, l18, l19, l20, l21, l22, l23, l24, rfl⟩ := lits25 L hs
  obtain ⟨b0, b1, b2, b3, b4, b5, b6, b7, b8, b9, b10, b11, b12, b13, b14, b15, b16, b17, b18, b19, b20, b21, b22, b23, b24, rfl⟩ := lits25 b hb
  rw [refA_closed, chi_closed]
  rfl

theorem refRound_eq (L : Array Nat) (hs : L.size = 25) (h : Small L) (r : Nat) : refRound L turnsT keysT r = roundF L r := by
  unfold refRound roundF
  rw [refB_eq L hs h, refA_eq _ L (by rw [piAt_size, theta_size]; exact hs) hs]

end Go.Proofs.YtjiikjpnlgogfaaGreatDoor

namespace Go.Proofs.YtjiikjpnlgogfaaGreatDoor
open Go.RowKit
attribute [local go_sem ↓] Go.wp_at_zero Go.wp_at_succ

abbrev encIR (n : Nat) : Value := .int .i64 (n : Int)

/-- The cells of a Sponge of the reference. -/
def spCells (A S K : Array Nat) : List Value := A.toList.map encL ++ (S.toList.map encIR ++ K.toList.map encL)

theorem spCells_length {A S K : Array Nat} (h1 : A.size = 25) (h2 : S.size = 25) (h3 : K.size = 24) : (spCells A S K).length = 74 := by
  simp [spCells, h1, h2, h3]

/-- Block b holds a Sponge. -/
structure Sp (w : World) (b : Nat) (A S K : Array Nat) : Prop where
  a : Row encL w b 0 A
  s : Row encIR w b 25 S
  k : Row encL w b 50 K

theorem Sp.of_range {w : World} {b : Nat} {A S K : Array Nat} (hr : w.rangeAt b 0 (spCells A S K)) (hf : ∀ j, j < 74 → w.frozen? ⟨b, j, none⟩ = false) (h1 : A.size = 25) (h2 : S.size = 25) (h3 : K.size = 24) : Sp w b A S K := by
  refine ⟨fun j hj => ⟨hr j _ ?_, by rw [Nat.zero_add]; exact hf j (by omega)⟩, fun j hj => ⟨?_, hf (25 + j) (by omega)⟩, fun j hj => ⟨?_, hf (50 + j) (by omega)⟩⟩
  · unfold spCells
    rw [List.getElem?_append_left (by simp; omega)]
    simp [hj]
  · have := hr (25 + j) (encIR S[j]!) ?_
    · rwa [Nat.zero_add] at this
    · unfold spCells
      rw [List.getElem?_append_right (by simp; omega), List.getElem?_append_left (by simp; omega)]
      simp [hj, h1]
  · have := hr (50 + j) (encL K[j]!) ?_
    · rwa [Nat.zero_add] at this
    · unfold spCells
      rw [List.getElem?_append_right (by simp; omega), List.getElem?_append_right (by simp; omega)]
      simp only [List.length_map, Array.length_toList, h1, h2]
      rw [show 50 + j - 25 - 25 = j by omega]
      simp [hj]

theorem Sp.range {w : World} {b : Nat} {A S K : Array Nat} (h : Sp w b A S K) (h1 : A.size = 25) (h2 : S.size = 25) : w.rangeAt b 0 (spCells A S K) := by
  intro j v hv
  rw [Nat.zero_add]
  unfold spCells at hv
  rw [List.getElem?_append] at hv
  split at hv
  · have := h.a.range j v hv
    rwa [Nat.zero_add] at this
  · rename_i hj
    simp only [List.length_map, Array.length_toList, h1] at hj hv
    rw [List.getElem?_append] at hv
    split at hv
    · have := h.s.range (j - 25) v hv
      rwa [show 25 + (j - 25) = j by omega] at this
    · rename_i hj2
      simp only [List.length_map, Array.length_toList, h2] at hj2 hv
      have := h.k.range (j - 25 - 25) v hv
      rwa [show 50 + (j - 25 - 25) = j by omega] at this

theorem refC_size (L : Array Nat) (k : Nat) : (refC L k).size = 5 := by
  induction k with
  | zero => rfl
  | succ k ih => simp [refC, ih]
theorem refC_small {L : Array Nat} (h : Small L) (k : Nat) : Small (refC L k) := by
  induction k with
  | zero =>
    intro j
    show (#[0, 0, 0, 0, 0] : Array Nat)[j]! < _
    match j with
    | 0 => decide
    | 1 => decide
    | 2 => decide
    | 3 => decide
    | 4 => decide
    | j + 5 => simp
  | succ k ih => exact small_set ih _ _ (xor5_lt (h _) (h _) (h _) (h _) (h _))

theorem xor5_eq (a b c d e : Nat) (ha : a < 18446744073709551616) (hb : b < 18446744073709551616) (hc : c < 18446744073709551616) (hd : d < 18446744073709551616) (he : e < 18446744073709551616) :
    bits .xor .u64 (bits .xor .u64 (bits .xor .u64 (bits .xor .u64 (a : Int) (b : Int)) (c : Int)) (d : Int)) (e : Int) = ((a ^^^ b ^^^ c ^^^ d ^^^ e : Nat) : Int) := by
  rw [u64_xor_nat a b ha hb, u64_xor_nat _ c (xor_lt ha hb) hc, u64_xor_nat _ d (xor_lt (xor_lt ha hb) hc) hd, u64_xor_nat _ e (xor_lt (xor_lt (xor_lt ha hb) hc) hd) he]

theorem there_set0 {w : World} {b o n : Nat} (h : w.there b o n) (p : Addr) (u : Value) : (w.setCell p u).there b o n := by
  intro j hj
  refine ⟨?_, (World.frozen?_setCell _ _ _ _).trans (h j hj).2⟩
  obtain ⟨v, hv⟩ := Option.isSome_iff_exists.1 (h j hj).1
  by_cases e : p = ⟨b, o + j, none⟩
  · subst e; rw [World.cell?_setCell_same _ _ _ hv]; rfl
  · rw [World.cell?_setCell_other _ _ _ _ e, hv]; rfl

theorem refB_size (c L S : Array Nat) (k : Nat) : (refB c L S k).size = 25 := by
  induction k with
  | zero => rfl
  | succ k ih => simp [refB, ih]

theorem refB_small {c L S : Array Nat} (hc : Small c) (h : Small L) (hS : ∀ j : Nat, S[j]! < 64) (k : Nat) : Small (refB c L S k) := by
  induction k with
  | zero =>
    intro j
    show (Array.replicate 25 0 : Array Nat)[j]! < _
    by_cases hj : j < 25
    · simp [hj]
    · simp [hj]
  | succ k ih =>
    have h1 : turnedF c[(k / 5 + 1) % 5]! 1 < 18446744073709551616 := by rw [turnedF_eq _ 1 (hc _) (by omega)]; exact rotl_lt _ _ (hc _)
    have h2 : L[k]! ^^^ c[(k / 5 + 4) % 5]! ^^^ turnedF c[(k / 5 + 1) % 5]! 1 < 18446744073709551616 := xor_lt (xor_lt (h _) (hc _)) h1
    exact small_set ih _ _ (by rw [turnedF_eq _ _ h2 (hS _)]; exact rotl_lt _ _ h2)
theorem refA_size (b L : Array Nat) (k : Nat) : (refA b L k).size = L.size := by
  induction k with
  | zero => rfl
  | succ k ih => simp [refA, ih]
theorem refA_val (a b c : Nat) (ha : a < 18446744073709551616) (hb : b < 18446744073709551616) (hc : c < 18446744073709551616) :
    bits .xor .u64 (a : Int) (bits .and .u64 (b : Int) (18446744073709551615 - (c : Int))) = ((a ^^^ (b &&& (18446744073709551615 - c)) : Nat) : Int) := by
  have e : (18446744073709551615 - (c : Int)) = ((18446744073709551615 - c : Nat) : Int) := by omega
  rw [e, u64_and_nat b _ hb (by omega), u64_xor_nat _ _ ha (Nat.lt_of_le_of_lt Nat.and_le_left hb)]

/-- What stays known all through a round. -/
structure Rd (w wr : World) (A S K : Array Nat) : Prop where
  below : Below w.heap.size w wr
  sp : Sp wr w.heap.size A S K
  th : wr.there (w.heap.size + 1) 0 74
  sz : w.heap.size + 1 + 1 < wr.heap.size

theorem Rd.drew {w wr : World} {A S K : Array Nat} (h : Rd w wr A S K) : Rd w wr.drew A S K := ⟨h.below.drew, ⟨h.sp.a, h.sp.s, h.sp.k⟩, h.th, h.sz⟩
theorem Rd.drewN {w wr : World} {A S K : Array Nat} (h : Rd w wr A S K) (n : Nat) : Rd w (wr.drewN n) A S K := ⟨⟨h.below.os, h.below.tape, h.below.output, h.below.size, h.below.block⟩, ⟨h.sp.a, h.sp.s, h.sp.k⟩, h.th, h.sz⟩
/-- A store beyond the two sponges. -/
theorem Rd.set {w wr : World} {A S K : Array Nat} (h : Rd w wr A S K) {p : Addr} (hp : w.heap.size + 1 < p.block) (u : Value) : Rd w (wr.setCell p u) A S K :=
  ⟨h.below.setCell (by omega) _, ⟨h.sp.a.setOther _ (by omega) _, h.sp.s.setOther _ (by omega) _, h.sp.k.setOther _ (by omega) _⟩, there_set0 h.th _ _, by simpa using h.sz⟩
theorem Rd.alloc {w wr : World} {A S K : Array Nat} (h : Rd w wr A S K) (o : Obj) : Rd w (wr.alloc o) A S K := by
  have hz := h.sz
  exact ⟨h.below.alloc (by omega) _, ⟨h.sp.a.alloc (by omega) _, h.sp.s.alloc (by omega) _, h.sp.k.alloc (by omega) _⟩, World.there_alloc h.th _, by simp; omega⟩

theorem Rd.setA {w wr : World} {A S K : Array Nat} (h : Rd w wr A S K) {j o x : Nat} {v : Value} (ho : o = j) (hj : j < A.size) (hA : A.size = 25) (hv : v = encL x) : Rd w (wr.setCell ⟨w.heap.size, o, none⟩ v) (A.set! j x) S K :=
  ⟨h.below.setCell (by simp) _, ⟨h.sp.a.set (by omega) hj x hv, h.sp.s.setBeside (by omega) _, h.sp.k.setBeside (by omega) _⟩, there_set0 h.th _ _, by simpa using h.sz⟩
theorem refA_small {b L : Array Nat} (hb : Small b) (h : Small L) (k : Nat) : Small (refA b L k) := by
  induction k with
  | zero => exact h
  | succ k ih => exact small_set ih _ _ (xor_lt (hb _) (Nat.lt_of_le_of_lt Nat.and_le_left (hb _)))
theorem size125 : (Tryz.prog.info? 279).map (·.size) = some 74 := by kernel_rfl
theorem oneCell_sp (A S K : Array Nat) : ∀ v ∈ spCells A S K, v.oneCell' = true := by
  intro v hv
  unfold spCells at hv
  rcases List.mem_append.1 hv with h | h
  · exact oneCell_enc A .u64 v h
  · rcases List.mem_append.1 h with h | h
    · exact oneCell_enc S .i64 v h
    · exact oneCell_enc K .u64 v h

set_option maxRecDepth 100000 in
set_option maxHeartbeats 6400000 in
theorem round_any (A S K : Array Nat) (r : Nat) (w : World) (hA : A.size = 25) (hS : S.size = 25) (hK : K.size = 24) (hAm : Small A) (hSm : ∀ j : Nat, S[j]! < 64) (hKm : Small K) (hr : r < 24) :
    Calls Tryz.prog 164 #[.agg (spCells A S K).toArray, .int .i64 (r : Int)] w fun e w' => e = .returned (.agg (spCells (refRound A S K r) S K).toArray) ∧ Below w.heap.size w w' := by
  have sp0 : Sp (w.alloc (.cells (spCells A S K).toArray 279)) w.heap.size A S K := by
    refine Sp.of_range ?_ (fun j _ => World.frozen?_alloc_new _ _ _ _) hA hS hK
    intro j v hv
    rw [Nat.zero_add, World.cell?_alloc_new, ← hv]
    simp
  have hz : Tryz.zeroCells279.size = 74 := by kernel_rfl
  go_enter Tryz.func164, Tryz.ntmps164
  go_wp2
  have e5 : Array.map encL #[0, 0, 0, 0, 0] = #[.int .u64 0, .int .u64 0, .int .u64 0, .int .u64 0, .int .u64 0] := by simp
  rw [← e5]
  generalize hw1 : (w.alloc (.cells (spCells A S K).toArray 279)).alloc (.cells Tryz.zeroCells279 279) = w1
  have hw1s : w1.heap.size = w.heap.size + 1 + 1 := by rw [← hw1]; simp
  have rd1 : Below w.heap.size w w1 ∧ Sp w1 w.heap.size A S K ∧ w1.there (w.heap.size + 1) 0 74 := by
    rw [← hw1]
    refine ⟨((Below.refl _ _).alloc (Nat.le_refl _) _).alloc (by simp) _, ⟨sp0.a.alloc (by simp) _, sp0.s.alloc (by simp) _, sp0.k.alloc (by simp) _⟩, ?_⟩
    have := there_new (w.alloc (.cells (spCells A S K).toArray 279)) Tryz.zeroCells279 279 74 hz.symm
    simpa using this
  have rc1 : Row encL (w1.alloc (.cells (Array.map encL #[0, 0, 0, 0, 0]) 153)) (w.heap.size + 1 + 1) 0 (refC A 0) := by
    have := Row.new (enc := encL) w1 #[0, 0, 0, 0, 0] 153
    rw [hw1s] at this
    exact this
  have rd2 : Rd w (w1.alloc (.cells (Array.map encL #[0, 0, 0, 0, 0]) 153)) A S K :=
    ⟨rd1.1.alloc (by omega) _, ⟨rd1.2.1.a.alloc (by omega) _, rd1.2.1.s.alloc (by omega) _, rd1.2.1.k.alloc (by omega) _⟩, World.there_alloc rd1.2.2 _, by simp; omega⟩
  generalize w1.alloc (.cells (Array.map encL #[0, 0, 0, 0, 0]) 153) = w2 at rc1 rd2 ⊢
  clear hw1 hw1s rd1 e5 sp0 hz
  go_loopg [6] 5 (fun g i wr => ∃ x : Nat, x ≤ 5 ∧ g = 5 - x ∧ i = .int .i64 x ∧ Rd w wr A S K ∧ Row encL wr (w.heap.size + 1 + 1) 0 (refC A x))
  case atStart => exact ⟨0, by omega, rfl, rfl, rd2, rc1⟩
  case round =>
    obtain ⟨x, hx, rfl, rfl, hrd, hrc⟩ := hrel
    clear rc1 rd2
    by_cases hlt : x < 5
    · obtain ⟨c0, f0⟩ := hrd.sp.a (5 * x) (by omega)
      obtain ⟨c1, f1⟩ := hrd.sp.a (5 * x + 1) (by omega)
      obtain ⟨c2, f2⟩ := hrd.sp.a (5 * x + 2) (by omega)
      obtain ⟨c3, f3⟩ := hrd.sp.a (5 * x + 3) (by omega)
      obtain ⟨c4, f4⟩ := hrd.sp.a (5 * x + 4) (by omega)
      obtain ⟨c5, f5⟩ := hrc x (by rw [refC_size]; exact hlt)
      have hcol : refC A (x + 1) = (refC A x).set! x (A[5 * x]! ^^^ A[5 * x + 1]! ^^^ A[5 * x + 2]! ^^^ A[5 * x + 3]! ^^^ A[5 * x + 4]!) := rfl
      have hxor := xor5_eq _ _ _ _ _ (hAm (5 * x)) (hAm (5 * x + 1)) (hAm (5 * x + 2)) (hAm (5 * x + 3)) (hAm (5 * x + 4))
      rw [show 0 + 5 * x = x * 5 by omega] at c0
      rw [show 0 + (5 * x + 1) = x * 5 + 1 by omega] at c1
      rw [show 0 + (5 * x + 2) = x * 5 + 2 by omega] at c2
      rw [show 0 + (5 * x + 3) = x * 5 + 3 by omega] at c3
      rw [show 0 + (5 * x + 4) = x * 5 + 4 by omega] at c4
      rw [Nat.zero_add] at c5 f5
      obtain ⟨u0, hu0⟩ : ∃ u, A[5 * x]! = u := ⟨_, rfl⟩
      obtain ⟨u1, hu1⟩ : ∃ u, A[5 * x + 1]! = u := ⟨_, rfl⟩
      obtain ⟨u2, hu2⟩ : ∃ u, A[5 * x + 2]! = u := ⟨_, rfl⟩
      obtain ⟨u3, hu3⟩ : ∃ u, A[5 * x + 3]! = u := ⟨_, rfl⟩
      obtain ⟨u4, hu4⟩ : ∃ u, A[5 * x + 4]! = u := ⟨_, rfl⟩
      obtain ⟨z, hz⟩ : ∃ z, (refC A x)[x]! = z := ⟨_, rfl⟩
      rw [hu0] at c0
      rw [hu1] at c1
      rw [hu2] at c2
      rw [hu3] at c3
      rw [hu4] at c4
      rw [hz] at c5
      rw [hu0, hu1, hu2, hu3, hu4] at hcol hxor
      have AS : Aside (Rd w wr A S K ∧ Row encL wr (w.heap.size + 1 + 1) 0 (refC A x) ∧ refC A (x + 1) = (refC A x).set! x (u0 ^^^ u1 ^^^ u2 ^^^ u3 ^^^ u4) ∧ bits .xor .u64 (bits .xor .u64 (bits .xor .u64 (bits .xor .u64 (u0 : Int) (u1 : Int)) (u2 : Int)) (u3 : Int)) (u4 : Int) = ((u0 ^^^ u1 ^^^ u2 ^^^ u3 ^^^ u4 : Nat) : Int) ∧ A.size = 25 ∧ S.size = 25 ∧ K.size = 24 ∧ Small A ∧ (∀ j : Nat, S[j]! < 64) ∧ Small K) := ⟨hrd, hrc, hcol, hxor, hA, hS, hK, hAm, hSm, hKm⟩
      clear hrd hrc hcol hxor hA hS hK hAm hSm hKm hu0 hu1 hu2 hu3 hu4 hz f0 f1 f2 f3 f4
      go_wp2
      have hxi : (x : Int) < 5 := by omega
      have n0 : ∀ o o' : Nat, (⟨w.heap.size + 1 + 1, o, none⟩ : Addr) ≠ ⟨w.heap.size, o', none⟩ := fun o o' e => by have e2 := congrArg Addr.block e; simp only at e2; omega
      go_region_held3 (fun w' => w'.cell? ⟨w.heap.size, x * 5, none⟩ = some (encL u0) ∧ w'.cell? ⟨w.heap.size, x * 5 + 1, none⟩ = some (encL u1) ∧ w'.cell? ⟨w.heap.size, x * 5 + 2, none⟩ = some (encL u2) ∧ w'.cell? ⟨w.heap.size, x * 5 + 3, none⟩ = some (encL u3) ∧ w'.cell? ⟨w.heap.size, x * 5 + 4, none⟩ = some (encL u4)) (first | exact ⟨c0, c1, c2, c3, c4⟩ | exact ⟨(World.cell?_setCell_other _ _ _ _ (n0 _ _)).trans c0, (World.cell?_setCell_other _ _ _ _ (n0 _ _)).trans c1, (World.cell?_setCell_other _ _ _ _ (n0 _ _)).trans c2, (World.cell?_setCell_other _ _ _ _ (n0 _ _)).trans c3, (World.cell?_setCell_other _ _ _ _ (n0 _ _)).trans c4⟩) (fail)
      clear n0 hxi
      go_wp2
      obtain ⟨hrd, hrc, hcol, hxor, _, _, _, _, _, _⟩ := AS.out
      go_roundg (5 - (x + 1))
      case measure => omega
      case rel =>
        refine ⟨x + 1, by omega, rfl, by go_num, (hrd.set (by simp) _).drew, ?_⟩
        rw [hcol]
        exact (hrc.set (by omega) (by rw [refC_size]; exact hlt) _ (val_int hxor)).drew
    · have hx5 : x = 5 := by omega
      rw [hx5] at hrc
      have hnl : (5 : Int) ≤ (x : Int) := by omega
      obtain ⟨c, hc⟩ : ∃ c, refC A 5 = c := ⟨_, rfl⟩
      have hcs : c.size = 5 := by rw [← hc]; exact refC_size _ _
      have hcm : Small c := by rw [← hc]; exact refC_small hAm _
      rw [hc] at hrc
      have HC : Hid (∀ k, k = 5 → refC A k = c) := fun k hk => by subst hk; exact hc
      have AS : Aside (Rd w wr A S K ∧ Row encL wr (w.heap.size + 1 + 1) 0 c ∧ c.size = 5 ∧ Small c ∧ A.size = 25 ∧ S.size = 25 ∧ K.size = 24 ∧ Small A ∧ (∀ j : Nat, S[j]! < 64) ∧ Small K) := ⟨hrd, hrc, hcs, hcm, hA, hS, hK, hAm, hSm, hKm⟩
      clear hrd hrc hcs hcm hA hS hK hAm hSm hKm hc hx5 hlt
      go_wp2
      obtain ⟨hrd, hrc, hcs, hcm, hA, hS, hK, hAm, hSm, hKm⟩ := AS.out
      have e25 : (#[.int .u64 0, .int .u64 0, .int .u64 0, .int .u64 0, .int .u64 0, .int .u64 0, .int .u64 0, .int .u64 0, .int .u64 0, .int .u64 0, .int .u64 0, .int .u64 0, .int .u64 0, .int .u64 0, .int .u64 0, .int .u64 0, .int .u64 0, .int .u64 0, .int .u64 0, .int .u64 0, .int .u64 0, .int .u64 0, .int .u64 0, .int .u64 0, .int .u64 0] : Array Value) = Array.map encL #[0, 0, 0, 0, 0, 0, 0, 0, 0, 0, 0, 0, 0, 0, 0, 0, 0, 0, 0, 0, 0, 0, 0, 0, 0] := by simp
      rw [e25]
      obtain ⟨Bk, hBk⟩ : ∃ Bk, wr.heap.size = Bk := ⟨_, rfl⟩
      have hBk1 : w.heap.size + 1 + 1 < Bk := by rw [← hBk]; exact hrd.sz
      have rb3 : Row encL (wr.alloc (.cells (Array.map encL #[0, 0, 0, 0, 0, 0, 0, 0, 0, 0, 0, 0, 0, 0, 0, 0, 0, 0, 0, 0, 0, 0, 0, 0, 0]) 154)) Bk 0 (refB c A S 0) := by
        rw [← hBk]; exact Row.new (enc := encL) wr #[0, 0, 0, 0, 0, 0, 0, 0, 0, 0, 0, 0, 0, 0, 0, 0, 0, 0, 0, 0, 0, 0, 0, 0, 0] 154
      have rd3 := hrd.alloc (.cells (Array.map encL #[0, 0, 0, 0, 0, 0, 0, 0, 0, 0, 0, 0, 0, 0, 0, 0, 0, 0, 0, 0, 0, 0, 0, 0, 0]) 154)
      have rc3 := hrc.alloc hrd.sz (.cells (Array.map encL #[0, 0, 0, 0, 0, 0, 0, 0, 0, 0, 0, 0, 0, 0, 0, 0, 0, 0, 0, 0, 0, 0, 0, 0, 0]) 154)
      have sz3 : Bk < (wr.alloc (.cells (Array.map encL #[0, 0, 0, 0, 0, 0, 0, 0, 0, 0, 0, 0, 0, 0, 0, 0, 0, 0, 0, 0, 0, 0, 0, 0, 0]) 154)).heap.size := by rw [← hBk]; simp
      generalize wr.alloc (.cells (Array.map encL #[0, 0, 0, 0, 0, 0, 0, 0, 0, 0, 0, 0, 0, 0, 0, 0, 0, 0, 0, 0, 0, 0, 0, 0, 0]) 154) = w3 at rb3 rd3 rc3 sz3 ⊢
      rw [hBk]
      clear AS hrd hrc hBk e25
      go_loopg [8] 5 (fun g i wr => ∃ x : Nat, x ≤ 5 ∧ g = 5 - x ∧ i = .int .i64 x ∧ Bk < wr.heap.size ∧ Rd w wr A S K ∧ Row encL wr (w.heap.size + 1 + 1) 0 c ∧ Row encL wr Bk 0 (refB c A S (5 * x)))
      case atStart => exact ⟨0, by omega, rfl, rfl, sz3, rd3, rc3, rb3⟩
      case round =>
        obtain ⟨x', hx', rfl, rfl, hsz, hrd, hrc, hrb⟩ := hrel
        clear sz3 rd3 rc3 rb3
        by_cases hlt : x' < 5
        · obtain ⟨c1, f1⟩ := hrc ((x' + 1) % 5) (by omega)
          rw [Nat.zero_add] at c1
          have hb1 := hcm ((x' + 1) % 5)
          obtain ⟨v, hv⟩ : ∃ v, c[(x' + 1) % 5]! = v := ⟨_, rfl⟩
          rw [hv] at c1 hb1
          have A1 : Aside (Rd w wr A S K ∧ Row encL wr (w.heap.size + 1 + 1) 0 c ∧ Row encL wr Bk 0 (refB c A S (5 * x')) ∧ c[(x' + 1) % 5]! = v ∧ c.size = 5 ∧ Small c ∧ A.size = 25 ∧ S.size = 25 ∧ K.size = 24 ∧ Small A ∧ (∀ j : Nat, S[j]! < 64) ∧ Small K) := ⟨hrd, hrc, hrb, hv, hcs, hcm, hA, hS, hK, hAm, hSm, hKm⟩
          clear hrd hrc hrb hv hcs hcm hA hS hK hAm hSm hKm f1
          have hd : decide ((x' : Int) < 5) = true := decide_eq_true (by omega)
          go_wp2_with fail
          refine (turned_any v 1 _ hb1 (by omega)).mono ?_
          rintro e w4 ⟨rfl, q, rfl⟩
          clear c1
          go_wp2
          obtain ⟨hrd, hrc, hrb, hv, hcs, hcm, hA, hS, hK, hAm, hSm, hKm⟩ := A1.out
          have hone : turnedF v 1 < 18446744073709551616 := by rw [turnedF_eq v 1 hb1 (by omega)]; exact rotl_lt _ _ hb1
          obtain ⟨one, ho⟩ : ∃ one, turnedF v 1 = one := ⟨_, rfl⟩
          rw [ho] at hone ⊢
          have HO : Hid (turnedF c[(x' + 1) % 5]! 1 = one) := by show _ = _; rw [hv]; exact ho
          clear hv ho A1 hb1
          go_loopg [10] 5 (fun g i wr => ∃ y : Nat, y ≤ 5 ∧ g = 5 - y ∧ i = .int .i64 y ∧ Bk < wr.heap.size ∧ Rd w wr A S K ∧ Row encL wr (w.heap.size + 1 + 1) 0 c ∧ Row encL wr Bk 0 (refB c A S (5 * x' + y)))
          case atStart => exact ⟨0, by omega, rfl, rfl, hsz, hrd.drewN _, hrc.drewN _, hrb.drewN _⟩
          case round =>
            obtain ⟨y, hy, rfl, rfl, hsz, hrd, hrc, hrb⟩ := hrel
            by_cases hly : y < 5
            · have hbs := refB_size c A S (5 * x' + y)
              obtain ⟨c1, f1⟩ := hrd.sp.a (5 * x' + y) (by omega)
              obtain ⟨c2, f2⟩ := hrc ((x' + 4) % 5) (by omega)
              obtain ⟨c3, f3⟩ := hrd.sp.s (5 * x' + y) (by omega)
              obtain ⟨c4, f4⟩ := hrb (5 * y + (2 * x' + 3 * y) % 5) (by omega)
              rw [show 0 + (5 * x' + y) = x' * 5 + y by omega] at c1
              rw [Nat.zero_add] at c2
              rw [show 25 + (5 * x' + y) = 25 + x' * 5 + y by omega] at c3
              rw [show 0 + (5 * y + (2 * x' + 3 * y) % 5) = y * 5 + (2 * x' + 3 * y) % 5 by omega] at c4 f4
              have hm : A[5 * x' + y]! ^^^ c[(x' + 4) % 5]! ^^^ one < 18446744073709551616 := xor_lt (xor_lt (hAm _) (hcm _)) hone
              have hx1 : bits .xor .u64 (bits .xor .u64 ((A[5 * x' + y]! : Nat) : Int) ((c[(x' + 4) % 5]! : Nat) : Int)) (one : Int) = ((A[5 * x' + y]! ^^^ c[(x' + 4) % 5]! ^^^ one : Nat) : Int) := by
                rw [u64_xor_nat _ _ (hAm _) (hcm _), u64_xor_nat _ _ (xor_lt (hAm _) (hcm _)) hone]
              have hcol : refB c A S (5 * x' + (y + 1)) = (refB c A S (5 * x' + y)).set! (5 * y + (2 * x' + 3 * y) % 5) (turnedF (A[5 * x' + y]! ^^^ c[(x' + 4) % 5]! ^^^ one) S[5 * x' + y]!) := by
                show refB c A S (5 * x' + y + 1) = _
                simp only [refB]
                rw [show (5 * x' + y) / 5 = x' by omega, show (5 * x' + y) % 5 = y by omega, HO.out]
              have htl := hSm (5 * x' + y)
              obtain ⟨u1, hu1⟩ : ∃ u, A[5 * x' + y]! = u := ⟨_, rfl⟩
              obtain ⟨u2, hu2⟩ : ∃ u, c[(x' + 4) % 5]! = u := ⟨_, rfl⟩
              obtain ⟨t, hu3⟩ : ∃ u, S[5 * x' + y]! = u := ⟨_, rfl⟩
              obtain ⟨z, hz⟩ : ∃ z, (refB c A S (5 * x' + y))[5 * y + (2 * x' + 3 * y) % 5]! = z := ⟨_, rfl⟩
              rw [hu1] at c1
              rw [hu2] at c2
              rw [hu3] at c3 htl
              rw [hz] at c4
              rw [hu1, hu2] at hm hx1 hcol
              rw [hu3] at hcol
              obtain ⟨m, hmm⟩ : ∃ m, u1 ^^^ u2 ^^^ one = m := ⟨_, rfl⟩
              rw [hmm] at hm hx1 hcol
              have HX : Hid (bits .xor .u64 (bits .xor .u64 (u1 : Int) (u2 : Int)) (one : Int) = ((m : Nat) : Int)) := hx1
              have AS : Aside (Rd w wr A S K ∧ Row encL wr (w.heap.size + 1 + 1) 0 c ∧ Row encL wr Bk 0 (refB c A S (5 * x' + y)) ∧ refB c A S (5 * x' + (y + 1)) = (refB c A S (5 * x' + y)).set! (5 * y + (2 * x' + 3 * y) % 5) (turnedF m t) ∧ (refB c A S (5 * x' + y)).size = 25 ∧ c.size = 5 ∧ Small c ∧ A.size = 25 ∧ S.size = 25 ∧ K.size = 24 ∧ Small A ∧ (∀ j : Nat, S[j]! < 64) ∧ Small K) := ⟨hrd, hrc, hrb, hcol, hbs, hcs, hcm, hA, hS, hK, hAm, hSm, hKm⟩
              clear hrd hrc hrb hcol hbs hcs hcm hA hS hK hAm hSm hKm hu1 hu2 hu3 hz hmm hx1 f1 f2 f3
              have hxi : (x' : Int) < 5 := by omega
              go_wp2_with fail
              go_quiet (fail)
              go_wp2
              rw [HX.out]
              clear HX c1 c2
              have a1 : IntKind.i64.wrap (2 * (x' : Int)) = 2 * (x' : Int) := wrap_fits _ (by omega) (by omega)
              have a2 : IntKind.i64.wrap (3 * (y : Int)) = 3 * (y : Int) := wrap_fits _ (by omega) (by omega)
              have a3 : IntKind.i64.wrap (2 * (x' : Int) + 3 * (y : Int)) = 2 * (x' : Int) + 3 * (y : Int) := wrap_fits _ (by omega) (by omega)
              have i0 : (2 * (x' : Int) + 3 * (y : Int)).tmod 5 = (2 * (x' : Int) + 3 * (y : Int)) % 5 := Int.tmod_eq_emod_of_nonneg (by omega)
              have i1 : (0 : Int) ≤ (2 * (x' : Int) + 3 * (y : Int)) % 5 := by omega
              have i2 : (2 * (x' : Int) + 3 * (y : Int)) % 5 < 5 := by omega
              have i3 : ((2 * (x' : Int) + 3 * (y : Int)) % 5).toNat = (2 * x' + 3 * y) % 5 := by omega
              have n0 : (⟨Bk, y * 5 + (2 * x' + 3 * y) % 5, none⟩ : Addr) ≠ ⟨w.heap.size, 25 + x' * 5 + y, none⟩ := fun e => by have e2 := congrArg Addr.block e; simp only at e2; omega
              go_region_held3 (fun w' => w'.cell? ⟨w.heap.size, 25 + x' * 5 + y, none⟩ = some (encIR t)) (first | exact c3 | exact (World.cell?_setCell_other _ _ _ _ n0).trans c3) (first | (go_at_call 211; refine (turned_any _ _ _ hm htl).mono ?_; rintro e w' ⟨rfl, q, rfl⟩))
              clear a1 a2 a3 i0 i1 i2 i3 n0 hxi c3
              go_wp2
              obtain ⟨hrd, hrc, hrb, hcol, hbs, _⟩ := AS.out
              go_roundg (5 - (y + 1))
              case measure => omega
              case rel =>
                refine ⟨y + 1, by omega, rfl, by go_num, by simpa using hsz, (hrd.drewN _).set (by simp only; omega) _, (hrc.drewN _).setOther _ (by simp only; omega) _, ?_⟩
                rw [hcol]
                exact (hrb.drewN _).set (by omega) (by omega) _ rfl
            · have hy5 : y = 5 := by omega
              rw [hy5] at hrb
              have hnl2 : (5 : Int) ≤ (y : Int) := by omega
              have AS : Aside (Rd w wr A S K ∧ Row encL wr (w.heap.size + 1 + 1) 0 c ∧ Row encL wr Bk 0 (refB c A S (5 * x' + 5))) := ⟨hrd, hrc, hrb⟩
              clear hrd hrc hrb hcs hcm hA hS hK hAm hSm hKm hy5 hly
              go_wp2
              obtain ⟨hrd, hrc, hrb⟩ := AS.out
              go_roundg (5 - (x' + 1))
              case measure => omega
              case rel => exact ⟨x' + 1, by omega, rfl, by go_num, hsz, hrd, hrc, hrb⟩
        · have hx5' : x' = 5 := by omega
          rw [hx5'] at hrb
          have hnl2 : (5 : Int) ≤ (x' : Int) := by omega
          obtain ⟨b, hb⟩ : ∃ b, refB c A S 25 = b := ⟨_, rfl⟩
          have hbs : b.size = 25 := by rw [← hb]; exact refB_size _ _ _ _
          have hbm : Small b := by rw [← hb]; exact refB_small hcm hAm hSm 25
          have hrb' : Row encL wr Bk 0 b := by rw [← hb]; exact hrb
          have HB : Hid (∀ k, k = 25 → refB c A S k = b) := fun k hk => by subst hk; exact hb
          have AS : Aside (Rd w wr A S K ∧ Row encL wr Bk 0 b ∧ b.size = 25 ∧ Small b ∧ A.size = 25 ∧ S.size = 25 ∧ K.size = 24 ∧ Small A ∧ Small K) := ⟨hrd, hrb', hbs, hbm, hA, hS, hK, hAm, hKm⟩
          clear hrd hrc hrb hrb' hbs hbm hcs hcm hA hS hK hAm hSm hKm hb hx5' hlt
          go_wp2
          obtain ⟨hrd, hrb, hbs, hbm, hA, hS, hK, hAm, hKm⟩ := AS.out
          clear AS
          go_loopg [12] 5 (fun g i wr => ∃ x : Nat, x ≤ 5 ∧ g = 5 - x ∧ i = .int .i64 x ∧ Bk < wr.heap.size ∧ Rd w wr (refA b A (5 * x)) S K ∧ Row encL wr Bk 0 b)
          case atStart => exact ⟨0, by omega, rfl, rfl, hsz, hrd, hrb⟩
          case round =>
            obtain ⟨p, hp, rfl, rfl, hsz, hrd, hrb⟩ := hrel
            by_cases hlt : p < 5
            · have A1 : Aside (Rd w wr (refA b A (5 * p)) S K ∧ Row encL wr Bk 0 b ∧ b.size = 25 ∧ Small b ∧ A.size = 25 ∧ S.size = 25 ∧ K.size = 24 ∧ Small A ∧ Small K) := ⟨hrd, hrb, hbs, hbm, hA, hS, hK, hAm, hKm⟩
              clear hrd hrb hbs hbm hA hS hK hAm hKm
              have hd : decide ((p : Int) < 5) = true := decide_eq_true (by omega)
              go_wp2
              obtain ⟨hrd, hrb, hbs, hbm, hA, hS, hK, hAm, hKm⟩ := A1.out
              clear A1
              go_loopg [13] 5 (fun g i wr => ∃ y : Nat, y ≤ 5 ∧ g = 5 - y ∧ i = .int .i64 y ∧ Bk < wr.heap.size ∧ Rd w wr (refA b A (5 * p + y)) S K ∧ Row encL wr Bk 0 b)
              case atStart => exact ⟨0, by omega, rfl, rfl, hsz, hrd, hrb⟩
              case round =>
                obtain ⟨y, hy, rfl, rfl, hsz, hrd, hrb⟩ := hrel
                by_cases hly : y < 5
                · have hps := refA_size b A (5 * p + y)
                  obtain ⟨c1, f1⟩ := hrb (5 * p + y) (by omega)
                  obtain ⟨c2, f2⟩ := hrb (5 * ((p + 2) % 5) + y) (by omega)
                  obtain ⟨c3, f3⟩ := hrb (5 * ((p + 1) % 5) + y) (by omega)
                  obtain ⟨c4, f4⟩ := hrd.sp.a (5 * p + y) (by omega)
                  have hcol : refA b A (5 * p + (y + 1)) = (refA b A (5 * p + y)).set! (5 * p + y) (b[5 * p + y]! ^^^ (b[5 * ((p + 2) % 5) + y]! &&& (18446744073709551615 - b[5 * ((p + 1) % 5) + y]!))) := by
                    show refA b A (5 * p + y + 1) = _
                    simp only [refA]
                    rw [show (5 * p + y) / 5 = p by omega, show (5 * p + y) % 5 = y by omega]
                  have hval := refA_val _ _ _ (hbm (5 * p + y)) (hbm (5 * ((p + 2) % 5) + y)) (hbm (5 * ((p + 1) % 5) + y))
                  rw [show 0 + (5 * p + y) = p * 5 + y by omega] at c1 c4 f4
                  rw [show 0 + (5 * ((p + 2) % 5) + y) = (p + 2) % 5 * 5 + y by omega] at c2
                  rw [show 0 + (5 * ((p + 1) % 5) + y) = (p + 1) % 5 * 5 + y by omega] at c3
                  have hb3 := hbm (5 * ((p + 1) % 5) + y)
                  obtain ⟨u1, hu1⟩ : ∃ u, b[5 * p + y]! = u := ⟨_, rfl⟩
                  obtain ⟨u2, hu2⟩ : ∃ u, b[5 * ((p + 2) % 5) + y]! = u := ⟨_, rfl⟩
                  obtain ⟨u3, hu3⟩ : ∃ u, b[5 * ((p + 1) % 5) + y]! = u := ⟨_, rfl⟩
                  obtain ⟨z, hz⟩ : ∃ z, (refA b A (5 * p + y))[5 * p + y]! = z := ⟨_, rfl⟩
                  rw [hu1] at c1
                  rw [hu2] at c2
                  rw [hu3] at c3 hb3
                  rw [hz] at c4
                  rw [hu1, hu2, hu3] at hcol hval
                  have AS : Aside (Rd w wr (refA b A (5 * p + y)) S K ∧ Row encL wr Bk 0 b ∧ refA b A (5 * p + (y + 1)) = (refA b A (5 * p + y)).set! (5 * p + y) (u1 ^^^ (u2 &&& (18446744073709551615 - u3))) ∧ (refA b A (5 * p + y)).size = 25) := ⟨hrd, hrb, hcol, by omega⟩
                  have AV : Aside (bits .xor .u64 (u1 : Int) (bits .and .u64 (u2 : Int) (18446744073709551615 - (u3 : Int))) = ((u1 ^^^ (u2 &&& (18446744073709551615 - u3)) : Nat) : Int)) := hval
                  clear hrd hrb hcol hval hps hbs hbm hA hS hK hAm hKm hu1 hu2 hu3 hz f1 f2 f3
                  have a1 : IntKind.i64.wrap ((p : Int) + 1) = (p : Int) + 1 := wrap_fits _ (by omega) (by omega)
                  have a2 : IntKind.i64.wrap ((p : Int) + 2) = (p : Int) + 2 := wrap_fits _ (by omega) (by omega)
                  have b1 : ((p : Int) + 1).tmod 5 = ((p : Int) + 1) % 5 := Int.tmod_eq_emod_of_nonneg (by omega)
                  have b2 : ((p : Int) + 2).tmod 5 = ((p : Int) + 2) % 5 := Int.tmod_eq_emod_of_nonneg (by omega)
                  have d1 : (0 : Int) ≤ ((p : Int) + 1) % 5 := by omega
                  have d2 : (0 : Int) ≤ ((p : Int) + 2) % 5 := by omega
                  have e1 : ((p : Int) + 1) % 5 < 5 := by omega
                  have e2 : ((p : Int) + 2) % 5 < 5 := by omega
                  have g1 : (((p : Int) + 1) % 5).toNat = (p + 1) % 5 := by omega
                  have g2 : (((p : Int) + 2) % 5).toNat = (p + 2) % 5 := by omega
                  have hxi : (p : Int) < 5 := by omega
                  have n0 : ∀ o o' : Nat, (⟨w.heap.size, o, none⟩ : Addr) ≠ ⟨Bk, o', none⟩ := fun o o' e => by have e2 := congrArg Addr.block e; simp only at e2; omega
                  go_wp2
                  go_region_held3 (fun w' => w'.cell? ⟨Bk, p * 5 + y, none⟩ = some (encL u1) ∧ w'.cell? ⟨Bk, (p + 2) % 5 * 5 + y, none⟩ = some (encL u2) ∧ w'.cell? ⟨Bk, (p + 1) % 5 * 5 + y, none⟩ = some (encL u3)) (first | exact ⟨c1, c2, c3⟩ | exact ⟨(World.cell?_setCell_other _ _ _ _ (n0 _ _)).trans c1, (World.cell?_setCell_other _ _ _ _ (n0 _ _)).trans c2, (World.cell?_setCell_other _ _ _ _ (n0 _ _)).trans c3⟩) (fail)
                  clear a1 a2 b1 b2 d1 d2 e1 e2 g1 g2 hxi n0 c1 c2 c3
                  go_wp2
                  obtain ⟨hrd, hrb, hcol, hps⟩ := AS.out
                  go_roundg (5 - (y + 1))
                  case measure => omega
                  case rel =>
                    refine ⟨y + 1, by omega, rfl, by go_num, by simpa using hsz, ?_, (hrb.setOther _ (by simp only; omega) _).drew⟩
                    rw [hcol]
                    exact (hrd.setA (by omega) (by omega) hps (val_int AV.out)).drew
                · have hy5 : y = 5 := by omega
                  rw [hy5] at hrd
                  have hnl3 : (5 : Int) ≤ (y : Int) := by omega
                  have AS : Aside (Rd w wr (refA b A (5 * p + 5)) S K ∧ Row encL wr Bk 0 b) := ⟨hrd, hrb⟩
                  clear hrd hrb hbs hbm hA hS hK hAm hKm hy5 hly
                  go_wp2
                  obtain ⟨hrd, hrb⟩ := AS.out
                  go_roundg (5 - (p + 1))
                  case measure => omega
                  case rel => exact ⟨p + 1, by omega, rfl, by go_num, hsz, hrd, hrb⟩
            · have hp5 : p = 5 := by omega
              rw [hp5] at hrd
              have hnl3 : (5 : Int) ≤ (p : Int) := by omega
              obtain ⟨M, hM⟩ : ∃ M, refA b A 25 = M := ⟨_, rfl⟩
              have hMs : M.size = 25 := by rw [← hM, refA_size]; exact hA
              have hMm : Small M := by rw [← hM]; exact refA_small hbm hAm 25
              have hrd' : Rd w wr M S K := by rw [← hM]; exact hrd
              have HM : Hid (∀ k, k = 25 → refA b A k = M) := fun k hk => by subst hk; exact hM
              obtain ⟨c1, f1⟩ := hrd'.sp.a 0 (by omega)
              obtain ⟨c2, f2⟩ := hrd'.sp.k r (by omega)
              rw [Nat.add_zero] at c1 f1
              have hxor := u64_xor_nat _ _ (hMm 0) (hKm r)
              obtain ⟨u, hu⟩ : ∃ u, M[0]! = u := ⟨_, rfl⟩
              obtain ⟨v, hv⟩ : ∃ v, K[r]! = v := ⟨_, rfl⟩
              rw [hu] at c1 hxor
              rw [hv] at c2 hxor
              have AS : Aside (Rd w wr M S K ∧ M.size = 25 ∧ bits .xor .u64 (u : Int) (v : Int) = ((u ^^^ v : Nat) : Int) ∧ M[0]! = u ∧ K[r]! = v ∧ S.size = 25 ∧ K.size = 24) := ⟨hrd', hMs, hxor, hu, hv, hS, hK⟩
              clear hrd hrd' hrb hbs hbm hA hS hK hAm hKm hp5 hlt hM hMs hMm hxor hu hv f2
              have hri : (r : Int) < 24 := by omega
              go_wp2
              go_region
              obtain ⟨hrd, hMs, hxor, hu, hv, hS, hK⟩ := AS.out
              have rd5 : ∀ W : World, W = (wr.setCell ⟨w.heap.size, 0, none⟩ (.int .u64 (bits .xor .u64 (u : Int) (v : Int)))).drew → Rd w W (M.set! 0 (u ^^^ v)) S K := fun W hW => by
                rw [hW]; exact (hrd.setA rfl (by omega) hMs (val_int hxor)).drew
              generalize hw5 : World.drew (World.setCell wr _ _) = w5
              have rd5' := rd5 w5 hw5.symm
              have hF : refRound A S K r = M.set! 0 (u ^^^ v) := by
                unfold refRound
                rw [HC.out 5 rfl, HB.out 25 rfl, HM.out 25 rfl, hu, hv]
              have HF : Hid (∀ x : Unit, refRound A S K r = M.set! 0 (u ^^^ v)) := fun _ => hF
              have hFs : (M.set! 0 (u ^^^ v)).size = 25 := by simpa using hMs
              generalize M.set! 0 (u ^^^ v) = F at rd5' HF hFs
              have hrg := rd5'.sp.range hFs hS
              have hl := spCells_length hFs hS hK
              have hz1 : (Tryz.prog.info? 279).map (·.size) = some (spCells F S K).length := by rw [size125, hl]
              have hz2 : (Tryz.prog.info? 279).map (·.size) = some (spCells F S K).toArray.size := by rw [size125]; simp [hl]
              have hone := all_oneCell_toArray (oneCell_sp F S K)
              have hth2 : w5.there (w.heap.size + 1) 0 (spCells F S K).length := by rw [hl]; exact rd5'.th
              have hth : w5.there (w.heap.size + 1) 0 (spCells F S K).toArray.size := by simpa using hth2
              have A5 : Aside (Below w.heap.size w w5 ∧ w5.there (w.heap.size + 1) 0 (spCells F S K).length) := ⟨rd5'.below, hth2⟩
              obtain ⟨cs, hcs⟩ : ∃ cs, spCells F S K = cs := ⟨_, rfl⟩
              have HCS : Hid (∀ x : Unit, spCells F S K = cs) := fun _ => hcs
              rw [hcs] at hrg hz1 hz2 hone hth A5
              clear AS hrd hMs hxor hu hv hS hK rd5 hw5 rd5' hF hFs hl hth2 hcs c1 f1 c2 hri
              go_wp2_with (first
                | (refine wpList_load_mid rfl 279 _ rfl w.heap.size 0 rfl cs _ hrg Tryz.underlying279 rfl hz1 ?_)
                | (refine wpList_store_mid rfl 279 _ _ rfl (w.heap.size + 1) 0 cs.toArray rfl rfl hth hz2 hone ?_))
              obtain ⟨hB5, hth2⟩ := A5.out
              refine bodyPost_ret (v := .agg cs.toArray) (results_cell1 Tryz.results164 _ _ _ (w.heap.size + 1) 0 rfl (run_loadVar_mid _ _ _ 279 _ _ (World.rangeAt_setCells_same _ _ _ _ hth2) Tryz.underlying279 rfl hz1)) rfl ⟨?_, ?_⟩
              · rw [HF.out (), HCS.out ()]
              · obtain ⟨q1, q2, q3, q4⟩ := size_setCells (w.heap.size + 1) cs 0 w5
                exact hB5.trans ⟨q2, q3, q4, by rw [q1]; exact Nat.le_refl _, fun k hk => heap_setCells _ _ _ _ _ (by omega)⟩
end Go.Proofs.YtjiikjpnlgogfaaGreatDoor

namespace Go.Proofs.YtjiikjpnlgogfaaGreatDoor
open Go.RowKit
attribute [local go_sem ↓] Go.wp_at_zero Go.wp_at_succ

def z25 : Array Nat := #[0, 0, 0, 0, 0, 0, 0, 0, 0, 0, 0, 0, 0, 0, 0, 0, 0, 0, 0, 0, 0, 0, 0, 0, 0]
def z24 : Array Nat := #[0, 0, 0, 0, 0, 0, 0, 0, 0, 0, 0, 0, 0, 0, 0, 0, 0, 0, 0, 0, 0, 0, 0, 0]

/-- The first table after t steps, and where it stands. -/
def begS : Nat → Array Nat × Nat × Nat
  | 0 => (z25, 1, 0)
  | t + 1 => ((begS t).1.set! (5 * (begS t).2.1 + (begS t).2.2) ((t + 1) * (t + 2) / 2 % 64), (begS t).2.2, (2 * (begS t).2.1 + 3 * (begS t).2.2) % 5)
theorem begS_size (t : Nat) : (begS t).1.size = 25 := by
  induction t with
  | zero => rfl
  | succ t ih => simp [begS, ih]
theorem begS_lt (t : Nat) : (begS t).2.1 < 5 ∧ (begS t).2.2 < 5 := by
  induction t with
  | zero => decide
  | succ t ih => exact ⟨ih.2, Nat.mod_lt _ (by decide)⟩
theorem begS_end : (begS 24).1.toList = turnsT.toList := by decide +kernel

/-- One step of the row of bits: the second table's entry, the bit's place, the number. -/
def bitNext (b : Nat) : Nat := if 2 * b > 255 then 2 * b ^^^ 369 else 2 * b
theorem bitNext_lt (b : Nat) (h : b < 256) : bitNext b < 256 := by
  have all : ∀ i : Fin 256, bitNext i.val < 256 := by decide +kernel
  exact all ⟨b, h⟩
/-- One entry after j of its seven places. -/
def begE (e b : Nat) : Nat → Nat × Nat × Nat
  | 0 => (e, 1, b)
  | j + 1 => (if (begE e b j).2.2 % 2 = 1 then ((begE e b j).1 + 2 ^ ((begE e b j).2.1 - 1)) % 18446744073709551616 else (begE e b j).1, (begE e b j).2.1 * 2, bitNext (begE e b j).2.2)
/-- The second table after r entries, and the number. -/
def begK : Nat → Array Nat × Nat
  | 0 => (z24, 1)
  | r + 1 => ((begK r).1.set! r (begE (begK r).1[r]! (begK r).2 7).1, (begE (begK r).1[r]! (begK r).2 7).2.2)
theorem begK_size (t : Nat) : (begK t).1.size = 24 := by
  induction t with
  | zero => rfl
  | succ t ih => simp [begK, ih]
theorem begK_end : (begK 24).1.toList = keysT.toList := by decide +kernel
theorem begE_unit (e b : Nat) (j : Nat) : (begE e b j).2.1 = 2 ^ j := by
  induction j with
  | zero => rfl
  | succ j ih => simp only [begE, ih]; rw [Nat.pow_succ]
theorem begE_lt (e b : Nat) (h : b < 256) (j : Nat) : (begE e b j).2.2 < 256 := by
  induction j with
  | zero => exact h
  | succ j ih => exact bitNext_lt _ ih
theorem begK_lt (r : Nat) : (begK r).2 < 256 := by
  induction r with
  | zero => decide
  | succ r ih =>
    simp only [begK]
    exact begE_lt _ _ ih 7

theorem begS_turns : (begS 24).1 = turnsT := Array.ext' begS_end
theorem begK_keys : (begK 24).1 = keysT := Array.ext' begK_end
theorem set_self (K : Array Nat) (r : Nat) : K.set! r K[r]! = K := by
  apply Array.ext_getElem?
  intro i
  simp only [Array.set!_eq_setIfInBounds, Array.getElem?_setIfInBounds]
  by_cases e : r = i
  · subst e
    by_cases h : r < K.size
    · simp [h]
    · simp [h]
  · simp [e]
theorem set_set (K : Array Nat) (r x y : Nat) : (K.set! r x).set! r y = K.set! r y := by
  apply Array.ext_getElem?
  intro i
  simp only [Array.set!_eq_setIfInBounds, Array.getElem?_setIfInBounds, Array.size_setIfInBounds]
  by_cases e : r = i
  · simp [e]
  · simp [e]
theorem xor369 (b : Nat) (h : b < 256) : bits .xor .i64 ((b : Int) * 2) 369 = ((2 * b ^^^ 369 : Nat) : Int) := by
  have all : ∀ i : Fin 256, bits .xor .i64 ((i.val : Int) * 2) 369 = ((2 * i.val ^^^ 369 : Nat) : Int) := by decide +kernel
  exact all ⟨b, h⟩

/-- What stays known while the tables are made. -/
structure Bg (w wr : World) (S K : Array Nat) : Prop where
  below : Below w.heap.size w wr
  sp : Sp wr (w.heap.size + 1) z25 S K
  th : wr.there w.heap.size 0 74
  sz : w.heap.size + 1 < wr.heap.size

theorem Bg.setS {w wr : World} {S K : Array Nat} (h : Bg w wr S K) {j o x : Nat} {v : Value} (ho : o = 25 + j) (hj : j < S.size) (hS : S.size = 25) (hv : v = encIR x) : Bg w (wr.setCell ⟨w.heap.size + 1, o, none⟩ v) (S.set! j x) K :=
  ⟨h.below.setCell (by simp) _, ⟨h.sp.a.setBeside (by have : z25.size = 25 := rfl; omega) _, h.sp.s.set ho hj x hv, h.sp.k.setBeside (by omega) _⟩, there_set0 h.th _ _, by simpa using h.sz⟩
theorem Bg.setK {w wr : World} {S K : Array Nat} (h : Bg w wr S K) {j o x : Nat} {v : Value} (ho : o = 50 + j) (hj : j < K.size) (hS : S.size = 25) (hv : v = encL x) : Bg w (wr.setCell ⟨w.heap.size + 1, o, none⟩ v) S (K.set! j x) :=
  ⟨h.below.setCell (by simp) _, ⟨h.sp.a.setBeside (by have : z25.size = 25 := rfl; omega) _, h.sp.s.setBeside (by omega) _, h.sp.k.set ho hj x hv⟩, there_set0 h.th _ _, by simpa using h.sz⟩

theorem zero125 : Tryz.zeroCells279 = (spCells z25 z25 z24).toArray := by kernel_rfl

theorem dbl (k : Nat) (h1 : 1 ≤ k) (h : k ≤ 63) : IntKind.u64.wrap (((2 ^ (k - 1) : Nat) : Int) * 2) = ((2 ^ (k + 1 - 1) : Nat) : Int) := by
  have e : 2 ^ (k + 1 - 1) = 2 ^ (k - 1) * 2 := by rw [← Nat.pow_succ]; congr 1; omega
  have hlt : 2 ^ (k - 1) ≤ 2 ^ 62 := Nat.pow_le_pow_right (by omega) (by omega)
  rw [e, IntKind.wrap_u64]
  generalize 2 ^ (k - 1) = n at hlt
  omega

set_option maxRecDepth 100000 in
set_option maxHeartbeats 6400000 in
theorem begin_any (w : World) :
    Calls Tryz.prog 163 #[] w fun e w' => e = .returned (.agg (spCells z25 turnsT keysT).toArray) ∧ Below w.heap.size w w' := by
  go_enter Tryz.func163, Tryz.ntmps163
  go_wp2
  generalize hw0 : w.alloc (.cells Tryz.zeroCells279 279) = w0
  have hw0s : w0.heap.size = w.heap.size + 1 := by rw [← hw0]; simp
  have b0 : Below w.heap.size w w0 ∧ w0.there w.heap.size 0 74 := by
    rw [← hw0]; exact ⟨(Below.refl _ _).alloc (Nat.le_refl _) _, there_new _ _ _ _ (by kernel_rfl)⟩
  have bg : Bg w (w0.alloc (.cells Tryz.zeroCells279 279)) z25 z24 := by
    refine ⟨b0.1.alloc (by omega) _, ?_, World.there_alloc b0.2 _, by simp; omega⟩
    rw [← hw0s, zero125]
    refine Sp.of_range ?_ (fun j _ => World.frozen?_alloc_new _ _ _ _) rfl rfl rfl
    intro j v hv
    rw [Nat.zero_add, World.cell?_alloc_new, ← hv]
    simp
  generalize w0.alloc (.cells Tryz.zeroCells279 279) = w1 at bg ⊢
  clear hw0 hw0s b0
  go_loopg [2, 3, 4] 24 (fun g vx vy i wr => ∃ t : Nat, t ≤ 24 ∧ g = 24 - t ∧ i = .int .i64 t ∧ vx = encIR (begS t).2.1 ∧ vy = encIR (begS t).2.2 ∧ Bg w wr (begS t).1 z24)
  case atStart => exact ⟨0, by omega, rfl, rfl, rfl, rfl, bg⟩
  case round =>
    obtain ⟨t, ht, rfl, rfl, rfl, rfl, hbg⟩ := hrel
    clear bg
    have hsS := begS_size t
    by_cases hlt : t < 24
    · obtain ⟨hx5, hy5⟩ := begS_lt t
      have hnext : begS (t + 1) = ((begS t).1.set! (5 * (begS t).2.1 + (begS t).2.2) ((t + 1) * (t + 2) / 2 % 64), (begS t).2.2, (2 * (begS t).2.1 + 3 * (begS t).2.2) % 5) := rfl
      obtain ⟨c1, f1⟩ := hbg.sp.s (5 * (begS t).2.1 + (begS t).2.2) (by omega)
      obtain ⟨x, hx⟩ : ∃ x, (begS t).2.1 = x := ⟨_, rfl⟩
      obtain ⟨y, hy⟩ : ∃ y, (begS t).2.2 = y := ⟨_, rfl⟩
      obtain ⟨Sx, hSx⟩ : ∃ Sx, (begS t).1 = Sx := ⟨_, rfl⟩
      rw [hx, hy, hSx] at hnext c1
      rw [hx, hy] at f1
      rw [hx] at hx5
      rw [hy] at hy5
      rw [hSx] at hbg hsS
      rw [hx, hy]
      rw [show 25 + (5 * x + y) = 25 + x * 5 + y by omega] at c1 f1
      obtain ⟨m, hm⟩ : ∃ m, (t + 1) * (t + 2) = m := ⟨_, rfl⟩
      have hmb : m ≤ 650 := by rw [← hm]; exact Nat.le_trans (Nat.mul_le_mul (show t + 1 ≤ 24 by omega) (show t + 2 ≤ 25 by omega)) (by omega)
      have hmi : ((t : Int) + 1) * ((t : Int) + 2) = (m : Int) := by rw [← hm]; push_cast; rfl
      rw [hm] at hnext
      obtain ⟨z, hz⟩ : ∃ z, Sx[5 * x + y]! = z := ⟨_, rfl⟩
      rw [hz] at c1
      have AS : Aside (Bg w wr Sx z24 ∧ begS (t + 1) = (Sx.set! (5 * x + y) (m / 2 % 64), y, (2 * x + 3 * y) % 5) ∧ Sx.size = 25) := ⟨hbg, hnext, hsS⟩
      clear hbg hnext hsS hx hy hSx hm hz
      go_wp2
      obtain ⟨hbg, hnext, hsS⟩ := AS.out
      go_roundg (24 - (t + 1))
      case measure => omega
      case rel =>
        refine ⟨t + 1, by omega, rfl, by go_num, ?_, ?_, ?_⟩
        · rw [hnext]
        · rw [hnext]
          show Value.int .i64 _ = Value.int .i64 (((2 * x + 3 * y) % 5 : Nat) : Int)
          exact val_int (by omega)
        · rw [hnext]; exact hbg.setS (by omega) (by omega) hsS (val_int (by omega))
    · have ht24 : t = 24 := by omega
      have hnl : (24 : Int) ≤ (t : Int) := by omega
      have hbg' : Bg w wr turnsT z24 := by rw [← begS_turns, ← ht24]; exact hbg
      obtain ⟨x, hx⟩ : ∃ x, (begS t).2.1 = x := ⟨_, rfl⟩
      obtain ⟨y, hy⟩ : ∃ y, (begS t).2.2 = y := ⟨_, rfl⟩
      rw [hx, hy]
      have AS : Aside (Bg w wr turnsT z24) := hbg'
      clear hbg hbg' hsS ht24 hlt hx hy
      go_wp2
      have hbg := AS.out
      clear AS
      go_loopg [6, 7] 24 (fun g vb i wr => ∃ r : Nat, r ≤ 24 ∧ g = 24 - r ∧ i = .int .i64 r ∧ vb = encIR (begK r).2 ∧ Bg w wr turnsT (begK r).1)
      case atStart => exact ⟨0, by omega, rfl, rfl, rfl, hbg⟩
      case round =>
        obtain ⟨r, hr, rfl, rfl, rfl, hbg⟩ := hrel
        by_cases hlt : r < 24
        · have hb256 := begK_lt r
          have hKs := begK_size r
          have hnext : begK (r + 1) = ((begK r).1.set! r (begE (begK r).1[r]! (begK r).2 7).1, (begE (begK r).1[r]! (begK r).2 7).2.2) := rfl
          obtain ⟨Kr, hKr⟩ : ∃ Kr, (begK r).1 = Kr := ⟨_, rfl⟩
          obtain ⟨b0, hb0⟩ : ∃ b0, (begK r).2 = b0 := ⟨_, rfl⟩
          rw [hKr, hb0] at hnext
          rw [hKr] at hKs hbg
          rw [hb0] at hb256 ⊢
          have hbg0 : Bg w wr turnsT (Kr.set! r (begE Kr[r]! b0 0).1) := by
            show Bg w wr turnsT (Kr.set! r Kr[r]!)
            rw [set_self]; exact hbg
          have HN : Hid (∀ k, k = 7 → begK (r + 1) = (Kr.set! r (begE Kr[r]! b0 k).1, (begE Kr[r]! b0 k).2.2)) := fun k hk => by subst hk; exact hnext
          have hEu := begE_unit Kr[r]! b0
          have hEl := begE_lt Kr[r]! b0 hb256
          have hE0 : (begE Kr[r]! b0 0).2.2 = b0 := rfl
          obtain ⟨E, hE⟩ : ∃ E : Nat → Nat × Nat × Nat, E = begE Kr[r]! b0 := ⟨_, rfl⟩
          have hEs : ∀ j, E (j + 1) = (if (E j).2.2 % 2 = 1 then ((E j).1 + 2 ^ ((E j).2.1 - 1)) % 18446744073709551616 else (E j).1, (E j).2.1 * 2, bitNext (E j).2.2) := fun j => by rw [hE]; rfl
          rw [← hE] at hbg0 HN hEu hEl hE0
          have A1 : Aside (Bg w wr turnsT (Kr.set! r (E 0).1) ∧ Kr.size = 24 ∧ (∀ j, (E j).2.1 = 2 ^ j) ∧ (∀ j, (E j).2.2 < 256) ∧ (E 0).2.2 = b0 ∧ (∀ j, E (j + 1) = (if (E j).2.2 % 2 = 1 then ((E j).1 + 2 ^ ((E j).2.1 - 1)) % 18446744073709551616 else (E j).1, (E j).2.1 * 2, bitNext (E j).2.2))) := ⟨hbg0, hKs, hEu, hEl, hE0, hEs⟩
          clear hbg hbg0 hKs hEu hEl hE0 hEs hE hnext hKr hb0
          have hd : decide ((r : Int) < 24) = true := decide_eq_true (by omega)
          go_wp2
          obtain ⟨hbg, hKs, hEu, hEl, hE0, hEs⟩ := A1.out
          rw [← hE0]
          go_loopg [6, 8, 9] 7 (fun g vb vu i wr => ∃ j : Nat, j ≤ 7 ∧ g = 7 - j ∧ i = .int .i64 j ∧ vu = encIR (2 ^ j) ∧ vb = encIR (E j).2.2 ∧ Bg w wr turnsT (Kr.set! r (E j).1))
          case atStart => exact ⟨0, by omega, rfl, rfl, rfl, rfl, hbg⟩
          case round =>
            obtain ⟨j, hj, rfl, rfl, rfl, rfl, hbg⟩ := hrel
            by_cases hlj : j < 7
            · have hbj := hEl j
              have hunit := hEu j
              have hstep := hEs j
              rw [hunit] at hstep
              have hu64 : 2 ^ j ≤ 64 := Nat.pow_le_pow_right (by omega) (show j ≤ 6 by omega)
              have hu1 : 1 ≤ 2 ^ j := Nat.one_le_two_pow
              have hxx := xor369 (E j).2.2 hbj
              obtain ⟨b, hb⟩ : ∃ b, (E j).2.2 = b := ⟨_, rfl⟩
              obtain ⟨e, he⟩ : ∃ e, (E j).1 = e := ⟨_, rfl⟩
              obtain ⟨u, hu'⟩ : ∃ u, 2 ^ j = u := ⟨_, rfl⟩
              rw [hb] at hbj hstep hxx ⊢
              rw [he] at hstep hbg
              rw [hu'] at hstep hu64 hu1 ⊢
              have hu : Hid (2 ^ j = u) := hu'
              have hKs' : (Kr.set! r e).size = 24 := by simpa using hKs
              have HX : Hid (bits .xor .i64 ((b : Int) * 2) 369 = ((2 * b ^^^ 369 : Nat) : Int)) := hxx
              obtain ⟨ce, fe⟩ := hbg.sp.k r (by omega)
              have hre : (Kr.set! r e)[r]! = e := getD_set_same Kr r e (by omega)
              rw [hre] at ce
              clear hre
              by_cases hodd : b % 2 = 1
              · have hstep' : E (j + 1) = ((e + 2 ^ (u - 1)) % 18446744073709551616, u * 2, bitNext b) := by rw [hstep, if_pos hodd]
                have ho : ((b : Int) % 2 == 1) = true := beq_iff_eq.2 (by omega)
                by_cases hbig : 2 * b > 255
                · have hnb : bitNext b = 2 * b ^^^ 369 := by unfold bitNext; rw [if_pos hbig]
                  have hg : (255 : Int) < (b : Int) * 2 := by omega
                  have AS : Aside (Bg w wr turnsT (Kr.set! r e) ∧ ((E (j + 1)).2.2 = 2 * b ^^^ 369 ∧ (E (j + 1)).1 = (e + 2 ^ (u - 1)) % 18446744073709551616) ∧ (Kr.set! r e).size = 24 ∧ turnsT.size = 25) := ⟨hbg, by rw [hstep', hnb]; exact ⟨rfl, rfl⟩, hKs', rfl⟩
                  have A0 := A1
                  clear hbg hKs hKs' hEu hEl hE0 hEs hstep hstep' hb he hu' hxx hunit hodd hbig hnb A1
                  go_wp2
                  go_loopg [10, 11] (u - 1) (fun g vn vk wr' => ∃ k : Nat, 1 ≤ k ∧ k ≤ u ∧ g = u - k ∧ vk = .int .i64 k ∧ vn = encL (2 ^ (k - 1)) ∧ wr' = wr)
                  case atStart => exact ⟨1, by omega, hu1, rfl, rfl, rfl, rfl⟩
                  case round =>
                    obtain ⟨k, hk1, hku, rfl, rfl, rfl, hwr⟩ := hrel
                    subst hwr
                    by_cases hlk : k < u
                    · have hdb := dbl k hk1 (by omega)
                      obtain ⟨n, hn⟩ : ∃ n, 2 ^ (k - 1) = n := ⟨_, rfl⟩
                      rw [hn] at hdb ⊢
                      have HD : Hid (IntKind.u64.wrap ((n : Int) * 2) = ((2 ^ (k + 1 - 1) : Nat) : Int)) := hdb
                      clear hdb hn
                      go_wp2
                      go_roundg (u - (k + 1))
                      case measure => omega
                      case rel => exact ⟨k + 1, by omega, by omega, rfl, by go_num, val_int HD.out, rfl⟩
                    · have hku' : k = u := by omega
                      have hnl4 : (u : Int) ≤ (k : Int) := by omega
                      obtain ⟨n, hn⟩ : ∃ n, 2 ^ (k - 1) = n := ⟨_, rfl⟩
                      rw [hn]
                      have hne : (e + 2 ^ (u - 1)) % 18446744073709551616 = (e + n) % 18446744073709551616 := by rw [← hn, hku']
                      have HE : Hid ((e + 2 ^ (u - 1)) % 18446744073709551616 = (e + n) % 18446744073709551616) := hne
                      clear hn hku' hlk hne
                      go_wp2
                      obtain ⟨hbg, hnx, hKs', hTs⟩ := AS.out
                      go_roundg (7 - (j + 1))
                      case measure => omega
                      case rel =>
                        refine ⟨j + 1, by omega, rfl, by go_num, by rw [Nat.pow_succ, hu.out]; exact val_int (by omega), by rw [hnx.1]; exact val_int (HX.out), ?_⟩
                        rw [hnx.2, HE.out, ← set_set Kr r e]
                        exact hbg.setK rfl (by omega) hTs (val_int (by rw [IntKind.wrap_u64, Int.natCast_emod, Int.natCast_add]; rfl))
                · have hnb : bitNext b = 2 * b := by unfold bitNext; rw [if_neg hbig]
                  have hg : (b : Int) * 2 ≤ 255 := by omega
                  have AS : Aside (Bg w wr turnsT (Kr.set! r e) ∧ ((E (j + 1)).2.2 = 2 * b ∧ (E (j + 1)).1 = (e + 2 ^ (u - 1)) % 18446744073709551616) ∧ (Kr.set! r e).size = 24 ∧ turnsT.size = 25) := ⟨hbg, by rw [hstep', hnb]; exact ⟨rfl, rfl⟩, hKs', rfl⟩
                  have A0 := A1
                  clear hbg hKs hKs' hEu hEl hE0 hEs hstep hstep' hb he hu' hxx hunit hodd hbig hnb A1
                  go_wp2
                  go_loopg [10, 11] (u - 1) (fun g vn vk wr' => ∃ k : Nat, 1 ≤ k ∧ k ≤ u ∧ g = u - k ∧ vk = .int .i64 k ∧ vn = encL (2 ^ (k - 1)) ∧ wr' = wr)
                  case atStart => exact ⟨1, by omega, hu1, rfl, rfl, rfl, rfl⟩
                  case round =>
                    obtain ⟨k, hk1, hku, rfl, rfl, rfl, hwr⟩ := hrel
                    subst hwr
                    by_cases hlk : k < u
                    · have hdb := dbl k hk1 (by omega)
                      obtain ⟨n, hn⟩ : ∃ n, 2 ^ (k - 1) = n := ⟨_, rfl⟩
                      rw [hn] at hdb ⊢
                      have HD : Hid (IntKind.u64.wrap ((n : Int) * 2) = ((2 ^ (k + 1 - 1) : Nat) : Int)) := hdb
                      clear hdb hn
                      go_wp2
                      go_roundg (u - (k + 1))
                      case measure => omega
                      case rel => exact ⟨k + 1, by omega, by omega, rfl, by go_num, val_int HD.out, rfl⟩
                    · have hku' : k = u := by omega
                      have hnl4 : (u : Int) ≤ (k : Int) := by omega
                      obtain ⟨n, hn⟩ : ∃ n, 2 ^ (k - 1) = n := ⟨_, rfl⟩
                      rw [hn]
                      have hne : (e + 2 ^ (u - 1)) % 18446744073709551616 = (e + n) % 18446744073709551616 := by rw [← hn, hku']
                      have HE : Hid ((e + 2 ^ (u - 1)) % 18446744073709551616 = (e + n) % 18446744073709551616) := hne
                      clear hn hku' hlk hne
                      go_wp2
                      obtain ⟨hbg, hnx, hKs', hTs⟩ := AS.out
                      go_roundg (7 - (j + 1))
                      case measure => omega
                      case rel =>
                        refine ⟨j + 1, by omega, rfl, by go_num, by rw [Nat.pow_succ, hu.out]; exact val_int (by omega), by rw [hnx.1]; exact val_int (by omega), ?_⟩
                        rw [hnx.2, HE.out, ← set_set Kr r e]
                        exact hbg.setK rfl (by omega) hTs (val_int (by rw [IntKind.wrap_u64, Int.natCast_emod, Int.natCast_add]; rfl))
              · have hstep' : E (j + 1) = (e, u * 2, bitNext b) := by rw [hstep, if_neg hodd]
                have ho : ((b : Int) % 2 == 1) = false := beq_eq_false_iff_ne.2 (by omega)
                by_cases hbig : 2 * b > 255
                · have hnb : bitNext b = 2 * b ^^^ 369 := by unfold bitNext; rw [if_pos hbig]
                  have hg : (255 : Int) < (b : Int) * 2 := by omega
                  have AS : Aside (Bg w wr turnsT (Kr.set! r e) ∧ ((E (j + 1)).2.2 = 2 * b ^^^ 369 ∧ (E (j + 1)).1 = e) ∧ (Kr.set! r e).size = 24) := ⟨hbg, by rw [hstep', hnb]; exact ⟨rfl, rfl⟩, hKs'⟩
                  have A0 := A1
                  clear hbg hKs hKs' hEu hEl hE0 hEs hstep hstep' hb he hu' hxx hunit hodd hbig hnb A1
                  go_wp2
                  obtain ⟨hbg, hnx, _⟩ := AS.out
                  go_roundg (7 - (j + 1))
                  case measure => omega
                  case rel => exact ⟨j + 1, by omega, rfl, by go_num, by rw [Nat.pow_succ, hu.out]; exact val_int (by omega), by rw [hnx.1]; exact val_int (HX.out), by rw [hnx.2]; exact hbg⟩
                · have hnb : bitNext b = 2 * b := by unfold bitNext; rw [if_neg hbig]
                  have hg : (b : Int) * 2 ≤ 255 := by omega
                  have AS : Aside (Bg w wr turnsT (Kr.set! r e) ∧ ((E (j + 1)).2.2 = 2 * b ∧ (E (j + 1)).1 = e) ∧ (Kr.set! r e).size = 24) := ⟨hbg, by rw [hstep', hnb]; exact ⟨rfl, rfl⟩, hKs'⟩
                  have A0 := A1
                  clear hbg hKs hKs' hEu hEl hE0 hEs hstep hstep' hb he hu' hxx hunit hodd hbig hnb A1
                  go_wp2
                  obtain ⟨hbg, hnx, _⟩ := AS.out
                  go_roundg (7 - (j + 1))
                  case measure => omega
                  case rel => exact ⟨j + 1, by omega, rfl, by go_num, by rw [Nat.pow_succ, hu.out]; exact val_int (by omega), by rw [hnx.1]; exact val_int (by omega), by rw [hnx.2]; exact hbg⟩
            · have hj7 : j = 7 := by omega
              have hnl3 : (7 : Int) ≤ (j : Int) := by omega
              have hv : encIR (E j).2.2 = encIR (begK (r + 1)).2 := by rw [HN.out 7 rfl, hj7]
              have hbg' : Bg w wr turnsT (begK (r + 1)).1 := by rw [HN.out 7 rfl, ← hj7]; exact hbg
              rw [hv]
              obtain ⟨u, hu⟩ : ∃ u, 2 ^ j = u := ⟨_, rfl⟩
              rw [hu]
              obtain ⟨Kn, hKn⟩ : ∃ Kn, begK (r + 1) = Kn := ⟨_, rfl⟩
              rw [hKn] at hbg' ⊢
              have AS : Aside (Bg w wr turnsT Kn.1 ∧ begK (r + 1) = Kn) := ⟨hbg', hKn⟩
              clear hbg hbg' hv hj7 hlj hu hKn A1 hKs hEu hEl hE0 hEs HN
              go_wp2
              obtain ⟨hbg, hKn⟩ := AS.out
              go_roundg (24 - (r + 1))
              case measure => omega
              case rel => exact ⟨r + 1, by omega, rfl, by go_num, by rw [hKn], by rw [hKn]; exact hbg⟩
        · have hr24 : r = 24 := by omega
          have hnl3 : (24 : Int) ≤ (r : Int) := by omega
          have hbg' : Bg w wr turnsT keysT := by rw [← begK_keys, ← hr24]; exact hbg
          obtain ⟨b, hb⟩ : ∃ b, (begK r).2 = b := ⟨_, rfl⟩
          rw [hb]
          have hrg := hbg'.sp.range rfl rfl
          have hl : (spCells z25 turnsT keysT).length = 74 := spCells_length rfl rfl rfl
          have hz1 : (Tryz.prog.info? 279).map (·.size) = some (spCells z25 turnsT keysT).length := by rw [size125, hl]
          have hz2 : (Tryz.prog.info? 279).map (·.size) = some (spCells z25 turnsT keysT).toArray.size := by rw [size125]; simp [hl]
          have hone := all_oneCell_toArray (oneCell_sp z25 turnsT keysT)
          have hth2 : wr.there w.heap.size 0 (spCells z25 turnsT keysT).length := by rw [hl]; exact hbg'.th
          have hth : wr.there w.heap.size 0 (spCells z25 turnsT keysT).toArray.size := by simpa using hth2
          have A5 : Aside (Below w.heap.size w wr ∧ wr.there w.heap.size 0 (spCells z25 turnsT keysT).length) := ⟨hbg'.below, hth2⟩
          obtain ⟨cs, hcs⟩ : ∃ cs, spCells z25 turnsT keysT = cs := ⟨_, rfl⟩
          have HCS : Hid (∀ x : Unit, spCells z25 turnsT keysT = cs) := fun _ => hcs
          rw [hcs] at hrg hz1 hz2 hone hth A5
          clear hbg hbg' hl hth2 hcs hr24 hlt hb
          go_wp2_with (first
            | (refine wpList_load_mid rfl 279 _ rfl (w.heap.size + 1) 0 rfl cs _ hrg Tryz.underlying279 rfl hz1 ?_)
            | (refine wpList_store_mid rfl 279 _ _ rfl w.heap.size 0 cs.toArray rfl rfl hth hz2 hone ?_))
          obtain ⟨hB5, hth2⟩ := A5.out
          refine bodyPost_ret (v := .agg cs.toArray) (results_cell1 Tryz.results163 _ _ _ w.heap.size 0 rfl (run_loadVar_mid _ _ _ 279 _ _ (World.rangeAt_setCells_same _ _ _ _ hth2) Tryz.underlying279 rfl hz1)) rfl ⟨?_, ?_⟩
          · rw [HCS.out ()]
          · obtain ⟨q1, q2, q3, q4⟩ := size_setCells w.heap.size cs 0 wr
            exact hB5.trans ⟨q2, q3, q4, by rw [q1]; exact Nat.le_refl _, fun k hk => heap_setCells _ _ _ _ _ (by omega)⟩
end Go.Proofs.YtjiikjpnlgogfaaGreatDoor

namespace Go.Proofs.YtjiikjpnlgogfaaGreatDoor

/-- As the reference reads them: from the highest on. -/
def refLow (blk : Array Nat) (fr : Nat) : Nat → Nat
  | 0 => 0
  | i + 1 => (refLow blk fr i * 256 + blk[fr + (7 - i)]!) % 18446744073709551616

theorem or_add (k x y : Nat) (hy : y < 2 ^ k) : y ||| x * 2 ^ k = y + x * 2 ^ k := by
  rw [Nat.or_comm, Nat.add_comm]
  exact nat_join k (x * 2 ^ k) y (Nat.mul_mod_left _ _) hy

set_option maxRecDepth 100000 in
theorem low_eq (blk : Array Nat) (fr : Nat) (h : ∀ j : Nat, blk[j]! < 256) : refLow blk fr 8 = lowFold blk fr 8 := by
  have h0 := h (fr + 0)
  have h1 := h (fr + 1)
  have h2 := h (fr + 2)
  have h3 := h (fr + 3)
  have h4 := h (fr + 4)
  have h5 := h (fr + 5)
  have h6 := h (fr + 6)
  have h7 := h (fr + 7)
  simp only [refLow, lowFold]
  simp only [Nat.sub_zero, Nat.reduceSub, Nat.reduceMul]
  generalize blk[fr + 0]! = b0 at h0 ⊢
  generalize blk[fr + 1]! = b1 at h1 ⊢
  generalize blk[fr + 2]! = b2 at h2 ⊢
  generalize blk[fr + 3]! = b3 at h3 ⊢
  generalize blk[fr + 4]! = b4 at h4 ⊢
  generalize blk[fr + 5]! = b5 at h5 ⊢
  generalize blk[fr + 6]! = b6 at h6 ⊢
  generalize blk[fr + 7]! = b7 at h7 ⊢
  have e0 : b0 * 2 ^ 0 % 18446744073709551616 = b0 := by rw [Nat.pow_zero]; omega
  have e1 : b1 * 2 ^ 8 % 18446744073709551616 = b1 * 2 ^ 8 := Nat.mod_eq_of_lt (by omega)
  have e2 : b2 * 2 ^ 16 % 18446744073709551616 = b2 * 2 ^ 16 := Nat.mod_eq_of_lt (by omega)
  have e3 : b3 * 2 ^ 24 % 18446744073709551616 = b3 * 2 ^ 24 := Nat.mod_eq_of_lt (by omega)
  have e4 : b4 * 2 ^ 32 % 18446744073709551616 = b4 * 2 ^ 32 := Nat.mod_eq_of_lt (by omega)
  have e5 : b5 * 2 ^ 40 % 18446744073709551616 = b5 * 2 ^ 40 := Nat.mod_eq_of_lt (by omega)
  have e6 : b6 * 2 ^ 48 % 18446744073709551616 = b6 * 2 ^ 48 := Nat.mod_eq_of_lt (by omega)
  have e7 : b7 * 2 ^ 56 % 18446744073709551616 = b7 * 2 ^ 56 := Nat.mod_eq_of_lt (by omega)
  rw [e0, e1, e2, e3, e4, e5, e6, e7, Nat.zero_or]
  rw [or_add 8 b1 b0 (by omega), or_add 16 b2 _ (by omega), or_add 24 b3 _ (by omega), or_add 32 b4 _ (by omega), or_add 40 b5 _ (by omega), or_add 48 b6 _ (by omega), or_add 56 b7 _ (by omega)]
  omega
end Go.Proofs.YtjiikjpnlgogfaaGreatDoor

namespace Go.Proofs.YtjiikjpnlgogfaaGreatDoor

theorem putAt_toList (xs : List Nat) : ∀ (W : Array Nat) (c : Nat), c + xs.length ≤ W.size → (putAt W c xs).toList = W.toList.take c ++ xs ++ W.toList.drop (c + xs.length) := by
  induction xs with
  | nil => intro W c h; simp [putAt]
  | cons x xs ih =>
    intro W c h
    simp only [List.length_cons] at h
    rw [putAt, ih _ _ (by simp; omega)]
    have hs : (W.set! c x).toList = W.toList.set c x := by simp
    rw [hs]
    have h1 : (W.toList.set c x).take (c + 1) = W.toList.take c ++ [x] := by
      rw [List.take_succ_eq_append_getElem (by simp; omega), List.take_set, List.set_eq_of_length_le (by simp; omega)]
      simp
    have h2 : (W.toList.set c x).drop (c + 1 + xs.length) = W.toList.drop (c + (xs.length + 1)) := by
      rw [show c + 1 + xs.length = c + (xs.length + 1) by omega, List.drop_set_of_lt (by omega)]
    rw [h1, h2]
    simp

theorem putAt_whole (W : Array Nat) (xs : List Nat) (h : xs.length = W.size) : putAt W 0 xs = xs.toArray := by
  apply Array.ext'
  rw [putAt_toList xs W 0 (by omega)]
  simp [h]

/-- The text with its end. -/
def padded (l : List Nat) : List Nat :=
  let m := l ++ 1 :: List.replicate (135 - l.length % 136) 0
  m.set (m.length - 1) ((m.getD (m.length - 1) 0 + 128) % 256)

/-- n blocks taken, each by f. -/
def foldN (f : Array Nat → List Nat → Array Nat) : Nat → Array Nat → List Nat → Array Nat
  | 0, L, _ => L
  | n + 1, L, l => foldN f n (f L l) (l.drop 136)
theorem foldN_zero (f : Array Nat → List Nat → Array Nat) (L : Array Nat) (l : List Nat) : foldN f 0 L l = L := rfl
theorem foldN_succ (f : Array Nat → List Nat → Array Nat) (n : Nat) (L : Array Nat) (l : List Nat) : foldN f (n + 1) L l = foldN f n (f L l) (l.drop 136) := rfl
/-- A block taken off the front. -/
def takeF (L : Array Nat) (l : List Nat) : Array Nat := absorbF L (l.take 136).toArray

theorem last_eq (W : Array Nat) (l : List Nat) (hW : W.size = 136) (hl : l.length < 136) : lastBlock (putAt W 0 l) l.length = (padded l).toArray := by
  apply Array.ext'
  have hm : l.length % 136 = l.length := Nat.mod_eq_of_lt hl
  have hp := putAt_toList l W 0 (by omega)
  simp only [List.take_zero, List.nil_append, Nat.zero_add] at hp
  have hps : (putAt W 0 l).size = 136 := by rw [putAt_size]; exact hW
  have h1 : ((putAt W 0 l).set! l.length 1).toList = l ++ 1 :: W.toList.drop (l.length + 1) := by
    have : ((putAt W 0 l).set! l.length 1).toList = (putAt W 0 l).toList.set l.length 1 := by simp
    rw [this, hp]
    rw [List.set_append, if_neg (by omega), Nat.sub_self]
    congr 1
    rw [List.drop_eq_getElem_cons (by simp; omega)]
    rfl
  have h2 : (putAt ((putAt W 0 l).set! l.length 1) (l.length + 1) (List.replicate (135 - l.length) 0)).toList = l ++ 1 :: List.replicate (135 - l.length) 0 := by
    rw [putAt_toList _ _ _ (by simp [hps]; omega), h1]
    have t1 : (l ++ 1 :: W.toList.drop (l.length + 1)).take (l.length + 1) = l ++ [1] := by
      rw [List.take_length_add_append]; rfl
    have t2 : (l ++ 1 :: W.toList.drop (l.length + 1)).drop (l.length + 1 + (List.replicate (135 - l.length) 0).length) = [] := by
      apply List.drop_of_length_le
      simp only [List.length_append, List.length_cons, List.length_drop, Array.length_toList, List.length_replicate, hW]
      omega
    rw [t1, t2]
    simp
  unfold lastBlock padded
  simp only [hm]
  generalize putAt ((putAt W 0 l).set! l.length 1) (l.length + 1) (List.replicate (135 - l.length) 0) = W1 at h2
  have hlen : (l ++ 1 :: List.replicate (135 - l.length) 0).length = 136 := by
    simp only [List.length_append, List.length_cons, List.length_replicate]
    omega
  rw [hlen, ← h2]
  have hg : W1[135]! = W1.toList.getD 135 0 := by
    simp only [getElem!_def, List.getD, Array.getElem?_toList]
    cases W1[135]? <;> rfl
  rw [hg]
  simp

set_option maxRecDepth 100000 in
theorem padded_more (l : List Nat) (h : 136 ≤ l.length) : padded l = l.take 136 ++ padded (l.drop 136) := by
  have hm : (l.drop 136).length % 136 = l.length % 136 := by
    rw [List.length_drop]
    omega
  have e : l ++ 1 :: List.replicate (135 - l.length % 136) 0 = l.take 136 ++ (l.drop 136 ++ 1 :: List.replicate (135 - l.length % 136) 0) := by
    rw [← List.append_assoc, List.take_append_drop]
  unfold padded
  simp only [hm]
  rw [e]
  generalize hr : l.drop 136 ++ 1 :: List.replicate (135 - l.length % 136) 0 = r
  have hrl : 0 < r.length := by rw [← hr]; simp only [List.length_append, List.length_cons]; omega
  have ht : (l.take 136).length = 136 := by rw [List.length_take]; omega
  have hgd : (l.take 136 ++ r).getD (136 + r.length - 1) 0 = r.getD (r.length - 1) 0 := by
    rw [List.getD_eq_getElem?_getD, List.getD_eq_getElem?_getD, List.getElem?_append_right (by omega), ht]
    rw [show 136 + r.length - 1 - 136 = r.length - 1 by omega]
  rw [List.length_append, ht, hgd, List.set_append, if_neg (by omega), ht]
  rw [show 136 + r.length - 1 - 136 = r.length - 1 by omega]

set_option maxRecDepth 100000 in
theorem sum_blocks (n : Nat) : ∀ (l : List Nat) (L W : Array Nat), W.size = 136 → l.length / 136 = n → sumF (l.foldl push1 (L, W, 0)) = sqzAt (foldN takeF (n + 1) L (padded l)) 32 := by
  induction n with
  | zero =>
    intro l L W hW hn
    have hl : l.length < 136 := by omega
    rw [push_less l L W 0 (by omega)]
    unfold sumF
    simp only [Nat.zero_add]
    rw [last_eq W l hW hl]
    have hp : (padded l).length = 136 := by
      unfold padded
      simp only [List.length_set, List.length_append, List.length_cons, List.length_replicate]
      omega
    rw [foldN_succ, foldN_zero]
    unfold takeF
    rw [List.take_of_length_le (by omega)]
  | succ n ih =>
    intro l L W hW hn
    have hl : 136 ≤ l.length := by omega
    have ht : (l.take 136).length = 136 := by rw [List.length_take]; omega
    have e : l.foldl push1 (L, W, 0) = (l.drop 136).foldl push1 ((l.take 136).foldl push1 (L, W, 0)) := by
      rw [← List.foldl_append, List.take_append_drop]
    rw [e, push_full (l.take 136) L W 0 (by omega) (by omega), putAt_whole W (l.take 136) (by omega)]
    rw [ih (l.drop 136) _ _ (by simp; omega) (by rw [List.length_drop]; omega)]
    rw [padded_more l hl]
    rw [foldN_succ takeF (n + 1)]
    have ht' : takeF L (l.take 136 ++ padded (l.drop 136)) = absorbF L (l.take 136).toArray := by
      unfold takeF
      rw [List.take_append_of_le_length (by omega), List.take_take, Nat.min_self]
    have hd : (l.take 136 ++ padded (l.drop 136)).drop 136 = padded (l.drop 136) := by
      rw [List.drop_append_of_le_length (by omega)]
      have h0 : (l.take 136).drop 136 = [] := List.drop_of_length_le (by omega)
      rw [h0, List.nil_append]
    rw [ht', hd]
end Go.Proofs.YtjiikjpnlgogfaaGreatDoor

namespace Go.Proofs.YtjiikjpnlgogfaaGreatDoor

/-- The reference's joining of a block that begins at fr. -/
def refMix (A l : Array Nat) (fr : Nat) : Nat → Array Nat
  | 0 => A
  | i + 1 => (refMix A l fr i).set! (5 * (i % 5) + i / 5) ((refMix A l fr i)[5 * (i % 5) + i / 5]! ^^^ refLow l (fr + 8 * i) 8)

theorem refMix_succ (A l : Array Nat) (fr i : Nat) : refMix A l fr (i + 1) = (refMix A l fr i).set! (5 * (i % 5) + i / 5) ((refMix A l fr i)[5 * (i % 5) + i / 5]! ^^^ refLow l (fr + 8 * i) 8) := rfl

theorem lowFold_congr (a b : Array Nat) (x y : Nat) (k : Nat) (h : ∀ j, j < k → a[x + j]! = b[y + j]!) : lowFold a x k = lowFold b y k := by
  induction k with
  | zero => rfl
  | succ k ih =>
    show lowFold a x k ||| a[x + k]! * 2 ^ (8 * k) % 18446744073709551616 = lowFold b y k ||| b[y + k]! * 2 ^ (8 * k) % 18446744073709551616
    rw [ih (fun j hj => h j (by omega)), h k (by omega)]

theorem blk_get (l : List Nat) (fr j : Nat) (hj : j < 136) : ((l.drop fr).take 136).toArray[j]! = l.toArray[fr + j]! := by
  simp only [getElem!_def]
  rw [List.getElem?_toArray, List.getElem?_toArray, List.getElem?_take_of_lt hj, List.getElem?_drop]

theorem refMix_eq (A : Array Nat) (l : List Nat) (hB : Bytes l.toArray) (fr : Nat) : ∀ i, i ≤ 17 → refMix A l.toArray fr i = mixAt A ((l.drop fr).take 136).toArray i := by
  intro i
  induction i with
  | zero => intro _; rfl
  | succ i ih =>
    intro hi
    have e : refLow l.toArray (fr + 8 * i) 8 = lowFold ((l.drop fr).take 136).toArray (8 * i) 8 := by
      rw [low_eq _ _ hB]
      refine lowFold_congr _ _ _ _ _ fun j hj => ?_
      rw [blk_get l fr (8 * i + j) (by omega)]
      congr 1
      omega
    rw [refMix_succ, ih (by omega), e]
    rfl

theorem foldN_last (f : Array Nat → List Nat → Array Nat) (n : Nat) : ∀ (L : Array Nat) (l : List Nat), foldN f (n + 1) L l = f (foldN f n L l) (l.drop (136 * n)) := by
  induction n with
  | zero => intro L l; rfl
  | succ n ih =>
    intro L l
    rw [foldN_succ f (n + 1), ih, foldN_succ f n, List.drop_drop]
    congr 2
    omega

/-- The lanes behind k blocks. -/
def lanesAt (l : List Nat) (k : Nat) : Array Nat := foldN takeF k (Array.replicate 25 0) l
theorem lanesAt_zero (l : List Nat) : lanesAt l 0 = Array.replicate 25 0 := rfl
theorem lanesAt_succ (l : List Nat) (hB : Bytes l.toArray) (k : Nat) : lanesAt l (k + 1) = roundsAt (refMix (lanesAt l k) l.toArray (136 * k) 17) 24 := by
  rw [refMix_eq _ l hB _ 17 (Nat.le_refl _)]
  exact foldN_last takeF k _ l
theorem lanesAt_size (l : List Nat) (hB : Bytes l.toArray) : ∀ k, (lanesAt l k).size = 25 := by
  intro k
  induction k with
  | zero => simp [lanesAt_zero]
  | succ k ih => rw [lanesAt_succ l hB, roundsAt_size, refMix_eq _ l hB _ 17 (Nat.le_refl _), mixAt_size]; exact ih
theorem lanesAt_small (l : List Nat) (hB : Bytes l.toArray) : ∀ k, Small (lanesAt l k) := by
  intro k
  induction k with
  | zero =>
    rw [lanesAt_zero]
    intro j
    rw [zeros_get]
    decide
  | succ k ih => rw [lanesAt_succ l hB, refMix_eq _ l hB _ 17 (Nat.le_refl _)]; exact roundsAt_small (mixAt_small _ ih 17) 24

/-- The digest as the reference comes to it. -/
theorem digF_ref (s : ByteArray) : digF s = sqzAt (lanesAt (padded (bytesOf s)) ((bytesOf s).length / 136 + 1)) 32 :=
  sum_blocks ((bytesOf s).length / 136) (bytesOf s) (Array.replicate 25 0) (Array.replicate 136 0) (by simp) rfl

theorem refMix_size (A l : Array Nat) (fr k : Nat) : (refMix A l fr k).size = A.size := by
  induction k with
  | zero => rfl
  | succ k ih => rw [refMix_succ]; simp [ih]
theorem refLow_lt (l : Array Nat) (fr i : Nat) : refLow l fr i < 18446744073709551616 := by
  cases i with
  | zero => exact Nat.zero_lt_succ _
  | succ i => exact Nat.mod_lt _ (by decide)
theorem refMix_small {A : Array Nat} (l : Array Nat) (fr : Nat) (h : Small A) (k : Nat) : Small (refMix A l fr k) := by
  induction k with
  | zero => exact h
  | succ k ih => rw [refMix_succ]; exact small_set ih _ _ (xor_lt (ih _) (refLow_lt _ _ _))

/-- Zeros at the end, one by one. -/
theorem pad_zero (l : List Nat) (k : Nat) : l ++ 1 :: List.replicate k 0 ++ [0] = l ++ 1 :: List.replicate (k + 1) 0 := by
  rw [List.append_assoc, List.cons_append, List.replicate_succ']
end Go.Proofs.YtjiikjpnlgogfaaGreatDoor

namespace Go.Proofs.YtjiikjpnlgogfaaGreatDoor
open Go.RowKit
attribute [local go_sem ↓] Go.wp_at_zero Go.wp_at_succ

theorem infoB : (Tryz.prog.info? 5).map (fun i => (i.zero, i.size, i.bytes)) = some (some (.int .u8 0), 1, 1) := by kernel_rfl

/-- The text with a 1 and k noughts behind it. -/
def behind1 (l : List Nat) (k : Nat) : List Nat := l ++ 1 :: List.replicate k 0
theorem behind1_length (l : List Nat) (k : Nat) : (behind1 l k).length = l.length + 1 + k := by
  unfold behind1
  simp
  omega
theorem behind1_succ (l : List Nat) (k : Nat) : behind1 l k ++ [0] = behind1 l (k + 1) := pad_zero l k

/-- What stays known: all that was there, and the result's cells. -/
structure FrD (w wr : World) : Prop where
  below : Below w.heap.size w wr
  th : wr.there w.heap.size 0 32
  size : w.heap.size + 1 ≤ wr.heap.size

theorem FrD.append {w wr w1 : World} {v : Value} {l : List Nat} {o : Obj} (h : FrD w wr) (ho : Own wr (w.heap.size + 1) v l) (hg : (wr.alloc o).grownBy w1 v.ownBlock) : FrD w w1 := by
  have hz := h.size
  have hb : ∀ k, k < w.heap.size + 1 → w1.heap[k]? = wr.heap[k]? := fun k hk =>
    (hg.block k (by simp; omega) (fun e => by have := ho.block k e.symm; omega)).trans (Below.heap_alloc wr o k (by omega))
  have hgs := hg.size
  simp only [World.size_alloc] at hgs
  exact ⟨h.below.trans ⟨hg.os, hg.tape, hg.output, by omega, fun k hk => hb k (by omega)⟩, there_block h.th (hb _ (by omega)), by omega⟩

theorem FrD.call {w wr w1 : World} (h : FrD w wr) (hb : Below wr.heap.size wr w1) : FrD w w1 := by
  have hz := h.size
  have hs := hb.size
  exact ⟨h.below.trans (hb.mono (by omega)), there_block h.th (hb.block _ (by omega)), by omega⟩

/-- What is known between the blocks: the text in block bg, the sponge in block bp. -/
structure Dg (w wr : World) (bg bp : Nat) (P A : Array Nat) : Prop where
  fr : FrD w wr
  l : Row encB wr bg 0 P
  p : Sp wr bp A turnsT keysT
  b1 : w.heap.size < bg
  b2 : bg < bp
  b3 : bp < wr.heap.size

theorem Dg.drew {w wr : World} {bg bp : Nat} {P A : Array Nat} (h : Dg w wr bg bp P A) : Dg w wr.drew bg bp P A := ⟨⟨h.fr.below.drew, h.fr.th, h.fr.size⟩, h.l, ⟨h.p.a, h.p.s, h.p.k⟩, h.b1, h.b2, h.b3⟩
theorem Dg.setA {w wr : World} {bg bp : Nat} {P A : Array Nat} (h : Dg w wr bg bp P A) {j o x : Nat} {v : Value} (ho : o = j) (hj : j < 25) (hA : A.size = 25) (hv : v = encL x) : Dg w (wr.setCell ⟨bp, o, none⟩ v) bg bp P (A.set! j x) := by
  have h1 := h.b1
  have h2 := h.b2
  exact ⟨⟨h.fr.below.setCell (by simp; omega) _, there_set h.fr.th _ _, by simpa using h.fr.size⟩, h.l.setOther _ (by simp; omega) _, ⟨h.p.a.set (by omega) (by omega) x hv, h.p.s.setBeside (by omega) _, h.p.k.setBeside (by omega) _⟩, h1, h2, by simpa using h.b3⟩
theorem Dg.call {w wr w1 : World} {bg bp : Nat} {P A : Array Nat} (h : Dg w wr bg bp P A) (hb : Below wr.heap.size wr w1) : Dg w w1 bg bp P A := by
  have h2 := h.b2
  have h3 := h.b3
  have e := hb.block bp h3
  exact ⟨h.fr.call hb, h.l.of_eq (hb.block bg (by omega)), ⟨h.p.a.of_eq e, h.p.s.of_eq e, h.p.k.of_eq e⟩, h.b1, h2, Nat.lt_of_lt_of_le h3 hb.size⟩
theorem sp74 {F : Array Nat} (hF : F.size = 25) : (spCells F turnsT keysT).length = 74 := spCells_length hF rfl rfl

theorem Dg.there {w wr : World} {bg bp : Nat} {P A : Array Nat} (h : Dg w wr bg bp P A) (hA : A.size = 25) : wr.there bp 0 74 := fun j hj => by
  rw [Nat.zero_add]
  by_cases c1 : j < 25
  · have := h.p.a j (by omega)
    rw [Nat.zero_add] at this
    exact ⟨by rw [this.1]; rfl, this.2⟩
  · by_cases c2 : j < 50
    · have := h.p.s (j - 25) (show j - 25 < 25 by omega)
      rw [show 25 + (j - 25) = j by omega] at this
      exact ⟨by rw [this.1]; rfl, this.2⟩
    · have := h.p.k (j - 50) (show j - 50 < 24 by omega)
      rw [show 50 + (j - 50) = j by omega] at this
      exact ⟨by rw [this.1]; rfl, this.2⟩

theorem at_fits (q m : Nat) {Q : Nat} (h : m + 1 = 136 * Q) (hq : q < Q) (hm : (m : Int) < 140737488355328) : wrap64 (136 * (q : Int) + 136) = 136 * (q : Int) + 136 := by
  unfold wrap64
  omega

theorem Dg.setAll {w wr : World} {bg bp : Nat} {P A A' : Array Nat} (h : Dg w wr bg bp P A) (hA : A.size = 25) (hA' : A'.size = 25) : Dg w (wr.setCells bp 0 (spCells A' turnsT keysT)) bg bp P A' := by
  have h1 := h.b1
  have h2 := h.b2
  obtain ⟨q1, q2, q3, q4⟩ := size_setCells bp (spCells A' turnsT keysT) 0 wr
  have hl : (spCells A' turnsT keysT).length = 74 := spCells_length hA' rfl rfl
  have hth := h.there hA
  refine ⟨⟨below_setCells h.fr.below (by omega) _ _, World.there_setCells h.fr.th _ _ _, by rw [q1]; exact h.fr.size⟩, h.l.setCellsOther _ _ (by omega) _, Sp.of_range (World.rangeAt_setCells_same _ _ _ _ (by rw [hl]; exact hth)) (fun j hj => ?_) hA' rfl rfl, h1, h2, by rw [q1]; exact h.b3⟩
  have := (World.there_setCells hth bp 0 (spCells A' turnsT keysT) j hj).2
  rwa [Nat.zero_add] at this

theorem idx_facts (fr z m : Nat) (h : fr + 8 ≤ m + 1) (hz : z < 8) (hm : (m : Int) < 140737488355328) : wrap64 (fr : Int) = (fr : Int) ∧ wrap64 ((fr : Int) + (z : Int)) = (fr : Int) + (z : Int) ∧ (fr : Int) + (z : Int) < (m : Int) + 1 ∧ (0 : Int) ≤ (fr : Int) + (z : Int) ∧ ((fr : Int) + (z : Int)).toNat = fr + z := by
  unfold wrap64
  omega

theorem low_step8 (n b : Nat) : IntKind.u64.wrap (IntKind.u64.wrap ((n : Int) * 256) + IntKind.u64.wrap (b : Int)) = (((n * 256 + b) % 18446744073709551616 : Nat) : Int) := by
  simp only [IntKind.wrap_u64]
  omega
theorem down_step (z y : Nat) (h : 7 - (y : Int) = (z : Int)) : wrap64 ((z : Int) - 1) = 7 - ((y + 1 : Nat) : Int) := by
  unfold wrap64
  omega
theorem mix_facts (x : Nat) (h : x < 17) : (x : Int).tmod 5 = (x : Int) % 5 ∧ (x : Int).tdiv 5 = (x : Int) / 5 ∧ IntKind.i64.wrap ((x : Int) / 5) = (x : Int) / 5 ∧ (0 : Int) ≤ (x : Int) % 5 ∧ (x : Int) % 5 < 5 ∧ ((x : Int) % 5).toNat = x % 5 ∧ (0 : Int) ≤ (x : Int) / 5 ∧ (x : Int) / 5 < 5 ∧ ((x : Int) / 5).toNat = x / 5 :=
  ⟨Int.tmod_eq_emod_of_nonneg (by omega), Int.tdiv_eq_ediv_of_nonneg (by omega), wrap_fits _ (by omega) (by omega), by omega, by omega, by omega, by omega, by omega, by omega⟩

/-- What is known while the digest is written. -/
structure Ot (w wr : World) (bp bo : Nat) (L D : Array Nat) : Prop where
  below : Below w.heap.size w wr
  th : wr.there w.heap.size 0 32
  a : Row encL wr bp 0 L
  o : Row encB wr bo 0 D
  b1 : w.heap.size < bp
  b2 : bp < bo
  b3 : bo < wr.heap.size

theorem Ot.set {w wr : World} {bp bo : Nat} {L D : Array Nat} (h : Ot w wr bp bo L D) {j o x : Nat} {v : Value} (ho : o = j) (hj : j < D.size) (hv : v = encB x) : Ot w (wr.setCell ⟨bo, o, none⟩ v) bp bo L (D.set! j x) := by
  have h1 := h.b1
  have h2 := h.b2
  exact ⟨h.below.setCell (by simp; omega) _, there_set h.th _ _, h.a.setOther _ (by simp; omega) _, h.o.set (by omega) hj x hv, h1, h2, by simpa using h.b3⟩

theorem blocks_count (len m G q : Nat) (h1 : m + 1 = 136 * q) (h2 : m = len + G) (h3 : 135 - len % 136 = G) : len / 136 + 1 = q := by omega
theorem sqz_step (L : Array Nat) (x y u : Nat) (hu : L[5 * x]! = u) (hy : y < 8) : sqzAt L (8 * x + (y + 1)) = (sqzAt L (8 * x + y)).set! (8 * x + y) (u / 256 ^ y % 256) := by
  show (sqzAt L (8 * x + y)).set! (8 * x + y) (L[5 * ((8 * x + y) / 8)]! / 2 ^ ((8 * x + y) % 8 * 8) % 256) = _
  rw [show (8 * x + y) / 8 = x by omega, show (8 * x + y) % 8 = y by omega, hu, Nat.mul_comm y 8, Nat.pow_mul]
theorem out_facts (x y : Nat) (hx : x < 4) (hy : y < 8) : IntKind.i64.wrap (8 * (x : Int)) = 8 * (x : Int) ∧ (0 : Int) ≤ 8 * (x : Int) + (y : Int) ∧ 8 * (x : Int) + (y : Int) < 32 ∧ (8 * (x : Int) + (y : Int)).toNat = 8 * x + y :=
  ⟨wrap_fits _ (by omega) (by omega), by omega, by omega, by omega⟩

theorem div_step (n : Nat) (h : n < 18446744073709551616) : IntKind.u64.wrap ((n : Int) / 256) = ((n / 256 : Nat) : Int) := by
  simp only [IntKind.wrap_u64]
  omega
theorem byte_step (n : Nat) : (n : Int) % 256 = ((n % 256 : Nat) : Int) := by omega

theorem bytes_of_mem {l : List Nat} (h : ∀ x ∈ l, x < 256) : Bytes l.toArray := by
  intro j
  by_cases hj : j < l.length
  · rw [getElem!_pos l.toArray j (by simpa using hj)]
    exact h _ (by simp)
  · rw [getElem!_neg l.toArray j (by simpa using hj)]
    decide
theorem behind1_lt {l : List Nat} (h : ∀ x ∈ l, x < 256) (k : Nat) : ∀ x ∈ behind1 l k, x < 256 := by
  intro x hx
  unfold behind1 at hx
  rcases List.mem_append.1 hx with hx | hx
  · exact h x hx
  · rcases List.mem_cons.1 hx with hx | hx
    · omega
    · have := (List.mem_replicate.1 hx).2
      omega
theorem padded_lt {l : List Nat} (h : ∀ x ∈ l, x < 256) : ∀ x ∈ padded l, x < 256 := by
  intro x hx
  unfold padded at hx
  rcases List.mem_or_eq_of_mem_set hx with hx | hx
  · exact behind1_lt h _ x hx
  · omega
theorem padded_eq (l : List Nat) (k m x : Nat) (hk : 135 - l.length % 136 = k) (hm : (behind1 l k).length = m + 1) (hx : (behind1 l k).toArray[m]! = x) : (behind1 l k).toArray.set! m ((x + 128) % 256) = (padded l).toArray := by
  have e : padded l = (behind1 l k).set ((behind1 l k).length - 1) (((behind1 l k).getD ((behind1 l k).length - 1) 0 + 128) % 256) := by
    rw [← hk]
    rfl
  rw [e, hm, Nat.add_sub_cancel]
  have hg : (behind1 l k).getD m 0 = x := by
    rw [← hx]
    simp only [getElem!_def, List.getD, List.getElem?_toArray]
    cases (behind1 l k)[m]? <;> rfl
  rw [hg]
  simp
theorem dg_start {w w3 : World} {bg : Nat} {P : Array Nat} {C : Array Value} {t : TypeId} (l : List Nat) (hC : C.size = 74) (hf : FrD w w3) (hr : Row encB w3 bg 0 P) (hb1 : w.heap.size + 1 ≤ bg) (hb : bg < w3.heap.size) : Dg w ((w3.alloc (.cells C t)).setCells w3.heap.size 0 (spCells z25 turnsT keysT)) bg w3.heap.size P (lanesAt l 0) := by
  have hz : lanesAt l 0 = z25 := by rw [lanesAt_zero]; rfl
  rw [hz]
  obtain ⟨q1, q2, q3, q4⟩ := size_setCells w3.heap.size (spCells z25 turnsT keysT) 0 (w3.alloc (.cells C t))
  have hl : (spCells z25 turnsT keysT).length = 74 := sp74 rfl
  have hth : (w3.alloc (.cells C t)).there w3.heap.size 0 74 := there_new w3 C t 74 hC.symm
  have hs := hf.size
  refine ⟨⟨below_setCells (hf.below.alloc (by omega) _) (by omega) _ _, World.there_setCells (World.there_alloc hf.th _) _ _ _, by rw [q1]; simp; omega⟩, (hr.alloc hb _).setCellsOther _ _ (by omega) _, Sp.of_range (World.rangeAt_setCells_same _ _ _ _ (by rw [hl]; exact hth)) (fun j hj => ?_) rfl rfl rfl, by omega, hb, by rw [q1]; simp⟩
  have := (World.there_setCells hth w3.heap.size 0 (spCells z25 turnsT keysT) j hj).2
  rwa [Nat.zero_add] at this

/-- 32 noughts. -/
def Zh : Array Value := #[.int .u8 0, .int .u8 0, .int .u8 0, .int .u8 0, .int .u8 0, .int .u8 0, .int .u8 0, .int .u8 0, .int .u8 0, .int .u8 0, .int .u8 0, .int .u8 0, .int .u8 0, .int .u8 0, .int .u8 0, .int .u8 0, .int .u8 0, .int .u8 0, .int .u8 0, .int .u8 0, .int .u8 0, .int .u8 0, .int .u8 0, .int .u8 0, .int .u8 0, .int .u8 0, .int .u8 0, .int .u8 0, .int .u8 0, .int .u8 0, .int .u8 0, .int .u8 0]

set_option maxRecDepth 100000 in
set_option maxHeartbeats 3200000 in
theorem refdig_any (s : ByteArray) (w : World) (hs : s.size ≤ 70368744177664) :
    Calls Tryz.prog 109 #[.string s] w fun e w' => e = .returned (.agg ((digF s).toList.map encB).toArray) ∧ Below w.heap.size w w' := by
  have hconv : ∀ W, Sem.run Tryz.prog (convert 9 111 (.string s)) W = .ok (.slice (some ⟨W.heap.size, 0, none⟩) s.size (grownCap W s.size 0 5)) (Lib.bytesWorld W 5 s) := fun W => Lib.run_convert_string_bytes W 9 111 5 s Tryz.underlying9 Tryz.underlying111 Tryz.underlying5
  obtain ⟨i0, hi, hz0, hz1, hz2⟩ := info_parts infoB
  go_enter Tryz.func109, Tryz.ntmps109
  have hown0 : ∀ C, Own (Lib.bytesWorld (w.alloc (.cells C 34)) 5 s) (w.heap.size + 1) (.slice (some ⟨w.heap.size + 1, 0, none⟩) s.size (grownCap (w.alloc (.cells C 34)) s.size 0 5)) (bytesOf s) := fun C => by
    have := Own.ofString (w.alloc (.cells C 34)) 5 s (by unfold maxLen; omega)
    simpa using this
  have hfr0 : ∀ C : Array Value, C.size = 32 → Below w.heap.size w (Lib.bytesWorld (w.alloc (.cells C 34)) 5 s) ∧ (Lib.bytesWorld (w.alloc (.cells C 34)) 5 s).there w.heap.size 0 32 ∧ (Lib.bytesWorld (w.alloc (.cells C 34)) 5 s).heap.size = w.heap.size + 2 := fun C hC => by
    have hb := bytesWorld_below (w.alloc (.cells C 34)) 5 s
    have h0 : Below w.heap.size w (w.alloc (.cells C 34)) := (Below.refl _ _).alloc (Nat.le_refl _) _
    refine ⟨h0.trans (hb.mono (by simp)), there_block (there_new w C _ 32 hC.symm) (hb.block _ (by simp)), ?_⟩
    rw [Lib.bytesWorld_size]
    simp
  have hlen := bytesOf_length s
  obtain ⟨l, hl⟩ : ∃ l, bytesOf s = l := ⟨_, rfl⟩
  have HL : Hid (∀ u : Unit, bytesOf s = l) := fun _ => hl
  have HB : Hid (∀ x ∈ l, x < 256) := by rw [← hl]; exact bytesOf_lt s
  rw [hl] at hlen hown0
  clear hl
  go_wp2_with (at_builtin; refine wpList_append_bytes _ rfl _ _ 111 rfl 5 i0 Tryz.underlying111 hi hz0 hz1 hz2 (w.heap.size + 1) _ l rfl ((hown0 _).alloc _) (w.heap.size + 2) 0 1 [1] rfl ?c1 ?c2 ?c3 ?_)
  case c1 =>
    intro j hj
    have hj0 : j = 0 := by simpa using hj
    subst hj0
    have := World.cell?_alloc_new (Lib.bytesWorld (w.alloc (.cells Zh 34)) 5 s) (#[encB 1]) 5 0
    rw [(hfr0 Zh rfl).2.2] at this
    exact this
  case c2 => simp; omega
  case c3 =>
    have := (hfr0 Zh rfl).2.2
    have e := Array.size_push (Obj.cells #[encB 1] 5) (xs := (Lib.bytesWorld (w.alloc (.cells Zh 34)) 5 s).heap)
    rw [this] at e
    exact Nat.le_trans (by omega) (Nat.le_of_eq e.symm)
  intro v1 w1 hown1 hgrow1
  have fr1 : FrD w w1 := (FrD.mk (hfr0 Zh rfl).1 (hfr0 Zh rfl).2.1 (by rw [(hfr0 Zh rfl).2.2]; omega)).append (hown0 Zh) hgrow1
  clear hgrow1 hown0 hfr0 hconv
  go_wp2
  obtain ⟨G, hG⟩ : ∃ G, 135 - s.size % 136 = G := ⟨_, rfl⟩
  go_loopg [3] G (fun g v wr => ∃ k : Nat, k ≤ G ∧ g = G - k ∧ Own wr (w.heap.size + 1) v (behind1 l k) ∧ FrD w wr)
  case atStart => exact ⟨0, by omega, rfl, hown1, fr1⟩
  case round =>
    obtain ⟨k, hk, rfl, hown, hfr⟩ := hrel
    clear hown1 fr1
    obtain ⟨bg, cap, rfl, hjunk⟩ := hown.full (by rw [behind1_length]; omega)
    clear hjunk
    have hbl := behind1_length l k
    rw [hlen] at hbl
    rw [hbl]
    by_cases hlt : k < G
    · have AS : Aside (Own wr (w.heap.size + 1) (.slice (some ⟨bg, 0, none⟩) (s.size + 1 + k) cap) (behind1 l k) ∧ FrD w wr) := by rw [← hbl]; exact ⟨hown, hfr⟩
      have hne : ((s.size : Int) + 1 + (k : Int)) % 136 ≠ 0 := by omega
      have hs9 : s.size + 1 + k ≤ 140737488355327 := by omega
      have hown2 : ∀ o, Own (wr.alloc o) (w.heap.size + 1) (.slice (some ⟨bg, 0, none⟩) (s.size + 1 + k) cap) (behind1 l k) := fun o => AS.out.1.alloc o
      have hwz : w.heap.size + 1 ≤ wr.heap.size := hfr.size
      clear hown hfr
      go_wp2_with (at_builtin; refine wpList_append_bytes _ rfl _ _ 111 rfl 5 i0 Tryz.underlying111 hi hz0 hz1 hz2 (w.heap.size + 1) _ (behind1 l k) rfl (hown2 _) wr.heap.size 0 1 [0] rfl ?c1 ?c2 ?c3 ?_)
      case c1 =>
        intro j hj
        have hj0 : j = 0 := by simpa using hj
        subst hj0
        exact World.cell?_alloc_new wr (#[encB 0]) 5 0
      case c2 => rw [hbl]; simp; omega
      case c3 => simp; omega
      intro v2 w2 hown3 hgrow2
      obtain ⟨ho, hfr⟩ := AS.out
      have fr2 : FrD w w2 := hfr.append ho hgrow2
      rw [behind1_succ] at hown3
      have AS2 : Aside (Own w2 (w.heap.size + 1) v2 (behind1 l (k + 1)) ∧ FrD w w2) := ⟨hown3, fr2⟩
      clear hgrow2 ho hfr AS hown2 hown3 fr2
      go_wp2
      go_roundg (G - (k + 1))
      case measure => omega
      case rel => exact ⟨k + 1, by omega, rfl, AS2.out⟩
    · have hkG : k = G := by omega
      have heq : ((s.size : Int) + 1 + (k : Int)) % 136 = 0 := by omega
      have hin := hown
      obtain ⟨bg', cap', e0, hbg, hbgs, hcap, hcm, hth, hcell⟩ := hown.full (by rw [hbl]; omega)
      simp only [Value.slice.injEq, Option.some.injEq, Addr.mk.injEq, and_true, true_and] at e0
      obtain ⟨rfl, rfl⟩ := e0
      have hrow : Row encB wr bg 0 (behind1 l k).toArray := fun j hj => by
        rw [List.size_toArray] at hj
        refine ⟨?_, (hth j (by omega)).2⟩
        rw [Nat.zero_add, hcell j hj]
        simp [getElem!_def]
      obtain ⟨m, hm⟩ : ∃ m, s.size + 1 + k = m + 1 := ⟨s.size + k, by omega⟩
      have heq' : ((m : Int) + 1) % 136 = 0 := by omega
      rw [hm] at hbl ⊢
      clear heq
      have hm136 : (m + 1) % 136 = 0 := by omega
      obtain ⟨x, hx⟩ : ∃ x, (behind1 l k).toArray[m]! = x := ⟨_, rfl⟩
      have hx8 : x < 256 := by rw [← hx]; exact bytes_of_mem (behind1_lt HB.out k) m
      obtain ⟨c0, f0⟩ := hrow m (by simp; omega)
      rw [Nat.zero_add, hx] at c0
      rw [Nat.zero_add] at f0
      have hpad : (behind1 l k).toArray.set! m ((x + 128) % 256) = (padded l).toArray := padded_eq l k m x (by rw [hlen]; omega) hbl hx
      have AS : Aside (Row encB wr bg 0 (behind1 l k).toArray ∧ FrD w wr ∧ (behind1 l k).toArray.set! m ((x + 128) % 256) = (padded l).toArray ∧ (behind1 l k).length = m + 1 ∧ w.heap.size + 1 ≤ bg ∧ bg < wr.heap.size ∧ m = s.size + G) := ⟨hrow, hfr, hpad, hbl, hbg, hbgs, by omega⟩
      have hmi : (m : Int) < 140737488355328 := by omega
      clear hrow hfr hpad hbl hbg hbgs hown hin hcell hth hcm hcap hx hlt hkG hk hm
      go_wp2_with fail
      obtain ⟨hrow, hfr, hpad, hbl, hbg, hbgs, hmG⟩ := AS.out
      have HMG : Hid (m = s.size + G) := hmG
      clear hmG
      have hrow2 : Row encB (wr.setCell ⟨bg, m, none⟩ (.int .u8 (((x : Int) + 128) % 256))) bg 0 (padded l).toArray := by
        rw [← hpad]
        exact hrow.set (Nat.zero_add _).symm (by simp; omega) _ (by simp)
      have fr2 : FrD w (wr.setCell ⟨bg, m, none⟩ (.int .u8 (((x : Int) + 128) % 256))) := ⟨hfr.below.setCell (by simp; omega) _, there_set hfr.th _ _, by simpa using hfr.size⟩
      have hbg2 : bg < (wr.setCell ⟨bg, m, none⟩ (.int .u8 (((x : Int) + 128) % 256))).heap.size := by simpa using hbgs
      generalize wr.setCell ⟨bg, m, none⟩ (.int .u8 (((x : Int) + 128) % 256)) = w2 at hrow2 fr2 hbg2 ⊢
      refine (begin_any w2).mono ?_
      rintro e w3 ⟨rfl, hb3⟩
      have dg3 : FrD w w3 ∧ Row encB w3 bg 0 (padded l).toArray ∧ bg < w3.heap.size := ⟨fr2.call hb3, hrow2.of_eq (hb3.block _ hbg2), Nat.lt_of_lt_of_le hbg2 hb3.size⟩
      have hlp : (padded l).length = m + 1 := by
        have := congrArg Array.size hpad
        simp at this
        omega
      have AS2 : Aside (FrD w w3 ∧ Row encB w3 bg 0 (padded l).toArray ∧ bg < w3.heap.size ∧ (padded l).length = m + 1 ∧ w.heap.size + 1 ≤ bg) := ⟨dg3.1, dg3.2.1, dg3.2.2, hlp, hbg⟩
      clear hrow hfr hpad hbl hbg hbgs hrow2 fr2 hbg2 hb3 AS c0 f0 dg3 hlp
      have hl74 : (spCells z25 turnsT keysT).length = 74 := spCells_length rfl rfl rfl
      have hz2' : (Tryz.prog.info? 279).map (·.size) = some (spCells z25 turnsT keysT).toArray.size := by rw [size125]; simp [hl74]
      have hone := all_oneCell_toArray (oneCell_sp z25 turnsT keysT)
      have hth : (w3.alloc (.cells Tryz.zeroCells279 279)).there w3.heap.size 0 (spCells z25 turnsT keysT).toArray.size := by
        have hzz : Tryz.zeroCells279.size = 74 := by kernel_rfl
        have := there_new w3 Tryz.zeroCells279 279 74 hzz.symm
        simpa [hl74] using this
      have A5 : Aside (Dg w ((w3.alloc (.cells Tryz.zeroCells279 279)).setCells w3.heap.size 0 (spCells z25 turnsT keysT)) bg w3.heap.size (padded l).toArray (lanesAt (padded l) 0)) :=
        dg_start (padded l) (by kernel_rfl) AS2.out.1 AS2.out.2.1 AS2.out.2.2.2.2 AS2.out.2.2.1
      obtain ⟨cs, hcs⟩ : ∃ cs, spCells z25 turnsT keysT = cs := ⟨_, rfl⟩
      rw [hcs] at hz2' hone hth A5 ⊢
      clear hcs hl74
      go_wp2_with (refine wpList_store_mid rfl 279 _ _ rfl w3.heap.size 0 cs.toArray rfl rfl hth hz2' hone ?_)
      obtain ⟨fr3, hrow3, hbg3, hlp, hbg⟩ := AS2.out
      obtain ⟨bp, hbp⟩ : ∃ bp, w3.heap.size = bp := ⟨_, rfl⟩
      have dg0 : Dg w ((w3.alloc (.cells Tryz.zeroCells279 279)).setCells w3.heap.size 0 cs) bg w3.heap.size (padded l).toArray (lanesAt (padded l) 0) := A5.out
      generalize (w3.alloc (.cells Tryz.zeroCells279 279)).setCells w3.heap.size 0 cs = w4 at dg0 ⊢
      rw [hbp] at dg0 ⊢
      obtain ⟨Q, hQ⟩ : ∃ Q, m + 1 = 136 * Q := ⟨(m + 1) / 136, by omega⟩
      have hby : Bytes (padded l).toArray := bytes_of_mem (padded_lt HB.out)
      obtain ⟨pl, hpl⟩ : ∃ pl, padded l = pl := ⟨_, rfl⟩
      have HP : Hid (∀ u : Unit, padded l = pl) := fun _ => hpl
      rw [hpl] at dg0 hby hlp
      have HQ : Hid (m + 1 = 136 * Q) := hQ
      have HG : Hid (135 - s.size % 136 = G) := hG
      have HS : Hid (s.size ≤ 70368744177664 ∧ (m : Int) < 140737488355328 ∧ l.length = s.size ∧ w.heap.size + 1 ≤ bg) := ⟨hs, hmi, hlen, hbg⟩
      clear fr3 hrow3 hbg3 AS2 A5 hone hth hz2' hbp hpl hQ hm136 heq' hG hs hmi hlen hbg hi hz0 hz1 hz2 hx8
      go_loopg [5] Q (fun g i wr => ∃ q : Nat, q ≤ Q ∧ g = Q - q ∧ i = .int .i64 (136 * (q : Int)) ∧ Dg w wr bg bp pl.toArray (lanesAt pl q))
      case atStart => exact ⟨0, by omega, rfl, rfl, dg0⟩
      case round =>
        obtain ⟨q, hq, rfl, rfl, hdg⟩ := hrel
        clear dg0
        by_cases hlt : q < Q
        · have hA := lanesAt_size pl hby q
          have hAm := lanesAt_small pl hby q
          have hnx := lanesAt_succ pl hby q
          obtain ⟨A, hAe⟩ : ∃ A, lanesAt pl q = A := ⟨_, rfl⟩
          rw [hAe] at hA hAm hnx hdg
          have HN : Hid (∀ k a b, k = q + 1 → a = 17 → b = 24 → lanesAt pl k = roundsAt (refMix A pl.toArray (136 * q) a) b) := fun k a b hk ha hb => by subst hk ha hb; exact hnx
          have t1 : (136 * (q : Int)) < (m : Int) + 1 := by have := HQ.out; omega
          have AS : Aside (Dg w wr bg bp pl.toArray A ∧ A.size = 25 ∧ Small A ∧ Bytes pl.toArray ∧ pl.length = m + 1) := ⟨hdg, hA, hAm, hby, hlp⟩
          clear hdg hA hAm hnx hAe hby hlp
          go_wp2
          obtain ⟨hdg, hA, hAm, hby, hlp⟩ := AS.out
          go_loopg [6] 17 (fun g i wr => ∃ x : Nat, x ≤ 17 ∧ g = 17 - x ∧ i = .int .i64 (x : Int) ∧ Dg w wr bg bp pl.toArray (refMix A pl.toArray (136 * q) x))
          case atStart => exact ⟨0, by omega, rfl, rfl, hdg⟩
          case round =>
            obtain ⟨x, hx, rfl, rfl, hdx⟩ := hrel
            clear hdg AS
            by_cases hltx : x < 17
            · have AS : Aside (Dg w wr bg bp pl.toArray (refMix A pl.toArray (136 * q) x) ∧ A.size = 25 ∧ Small A ∧ Bytes pl.toArray ∧ pl.length = m + 1) := ⟨hdx, hA, hAm, hby, hlp⟩
              clear hdx hA hAm hby hlp
              go_wp2
              obtain ⟨fr, hfr⟩ : ∃ fr, 136 * q + 8 * x = fr := ⟨_, rfl⟩
              have hfm : fr + 8 ≤ m + 1 := by have := HQ.out; omega
              have hfi : 136 * (q : Int) + 8 * (x : Int) = (fr : Int) := by omega
              go_loopg [7, 8] 8 (fun g n k W => ∃ y : Nat, y ≤ 8 ∧ g = 8 - y ∧ n = .int .u64 ((refLow pl.toArray fr y : Nat) : Int) ∧ k = .int .i64 (7 - (y : Int)) ∧ W = wr)
              case atStart => exact ⟨0, by omega, rfl, rfl, rfl, rfl⟩
              case round =>
                obtain ⟨y, hy, rfl, rfl, rfl, rfl⟩ := hrel
                by_cases hlty : y < 8
                · obtain ⟨hdx, hA, hAm, hby, hlp⟩ := AS.out
                  obtain ⟨z, hz⟩ : ∃ z, 7 - y = z := ⟨_, rfl⟩
                  have hzi : (7 - (y : Int)) = (z : Int) := by omega
                  obtain ⟨c0, f0⟩ := hdx.l (fr + z) (by simp; omega)
                  have hst : refLow pl.toArray fr (y + 1) = (refLow pl.toArray fr y * 256 + pl.toArray[fr + z]!) % 18446744073709551616 := by rw [← hz]; rfl
                  have hnl := refLow_lt pl.toArray fr y
                  have hb8 := hby (fr + z)
                  obtain ⟨n, hn⟩ : ∃ n, refLow pl.toArray fr y = n := ⟨_, rfl⟩
                  obtain ⟨b, hb⟩ : ∃ b, pl.toArray[fr + z]! = b := ⟨_, rfl⟩
                  rw [hn] at hst hnl ⊢
                  rw [hb] at hst hb8 c0
                  rw [hzi]
                  rw [Nat.zero_add] at c0
                  have i1 : IntKind.i64.wrap (8 * (x : Int)) = 8 * (x : Int) := wrap_fits _ (by omega) (by omega)
                  have HST : Hid (refLow pl.toArray fr (y + 1) = (n * 256 + b) % 18446744073709551616 ∧ n < 18446744073709551616 ∧ b < 256 ∧ 7 - (y : Int) = (z : Int)) := ⟨hst, hnl, hb8, hzi⟩
                  obtain ⟨j1, j2, j3, j4, j5⟩ := idx_facts fr z m hfm (by clear AS HN HST c0; omega) HS.out.2.1
                  clear hdx hA hAm hby hlp hst hn hb hnl hb8 f0 hzi hz
                  go_wp2
                  go_roundg (8 - (y + 1))
                  case measure => omega
                  case rel => exact ⟨y + 1, by omega, rfl, by rw [HST.out.1]; exact val_int (low_step8 n b), val_int (down_step z y HST.out.2.2.2), rfl⟩
                · obtain rfl : y = 8 := by omega
                  obtain ⟨hdx, hA, hAm, hby, hlp⟩ := AS.out
                  have hps := refMix_size A pl.toArray (136 * q) x
                  have hcol := refMix_succ A pl.toArray (136 * q) x
                  have hMm := refMix_small pl.toArray (136 * q) hAm x
                  rw [hfr] at hcol
                  have hnl := refLow_lt pl.toArray fr 8
                  obtain ⟨n, hn⟩ : ∃ n, refLow pl.toArray fr 8 = n := ⟨_, rfl⟩
                  rw [hn] at hcol hnl ⊢
                  obtain ⟨c1, f1⟩ := hdx.p.a (5 * (x % 5) + x / 5) (by omega)
                  have hxor := u64_xor_nat _ _ (hMm (5 * (x % 5) + x / 5)) hnl
                  obtain ⟨u, hu⟩ : ∃ u, (refMix A pl.toArray (136 * q) x)[5 * (x % 5) + x / 5]! = u := ⟨_, rfl⟩
                  rw [hu] at c1 hcol hxor
                  rw [show 0 + (5 * (x % 5) + x / 5) = x % 5 * 5 + x / 5 by omega] at c1 f1
                  have AS2 : Aside (Dg w wr bg bp pl.toArray (refMix A pl.toArray (136 * q) x) ∧ refMix A pl.toArray (136 * q) (x + 1) = (refMix A pl.toArray (136 * q) x).set! (5 * (x % 5) + x / 5) (u ^^^ n) ∧ bits .xor .u64 (u : Int) (n : Int) = ((u ^^^ n : Nat) : Int) ∧ (refMix A pl.toArray (136 * q) x).size = 25) := ⟨hdx, hcol, hxor, by omega⟩
                  clear hdx hA hAm hby hlp hps hcol hMm hnl hn hxor hu hfr hfm hfi hlty hy
                  obtain ⟨a1, a2, a3, b1, b2, b3, d1, d2, d3⟩ := mix_facts x hltx
                  go_wp2
                  go_region
                  clear a1 a2 a3 b1 b2 b3 d1 d2 d3 c1 f1
                  go_wp2
                  obtain ⟨hdx, hcol, hxor, hps⟩ := AS2.out
                  go_roundg (17 - (x + 1))
                  case measure => omega
                  case rel =>
                    refine ⟨x + 1, by omega, rfl, by go_num, ?_⟩
                    rw [hcol]
                    exact (hdx.setA (by omega) (by omega) hps (val_int hxor)).drew
            · obtain rfl : x = 17 := by omega
              obtain ⟨M, hM⟩ : ∃ M, refMix A pl.toArray (136 * q) 17 = M := ⟨_, rfl⟩
              have hMs : M.size = 25 := by rw [← hM, refMix_size]; exact hA
              have hMm : Small M := by rw [← hM]; exact refMix_small _ _ hAm 17
              have hdm : Dg w wr bg bp pl.toArray M := by rw [← hM]; exact hdx
              have HM : Hid (∀ k, k = 17 → refMix A pl.toArray (136 * q) k = M) := fun k hk => by subst hk; exact hM
              have AS : Aside (Dg w wr bg bp pl.toArray M ∧ M.size = 25 ∧ Small M ∧ Bytes pl.toArray ∧ pl.length = m + 1) := ⟨hdm, hMs, hMm, hby, hlp⟩
              clear hdx hA hAm hby hlp hM hMs hMm hdm hltx hx
              go_wp2
              obtain ⟨hdm, hMs, hMm, hby, hlp⟩ := AS.out
              go_loopg [9] 24 (fun g i wr => ∃ r : Nat, r ≤ 24 ∧ g = 24 - r ∧ i = .int .i64 (r : Int) ∧ Dg w wr bg bp pl.toArray (roundsAt M r))
              case atStart => exact ⟨0, by omega, rfl, rfl, hdm⟩
              case round =>
                obtain ⟨r, hr, rfl, rfl, hdr⟩ := hrel
                clear hdm AS
                by_cases hltr : r < 24
                · have hRs := (roundsAt_size M r).trans hMs
                  have hRm := roundsAt_small hMm r
                  have hnx : roundsAt M (r + 1) = roundF (roundsAt M r) r := rfl
                  rw [← refRound_eq _ hRs hRm] at hnx
                  obtain ⟨R, hR⟩ : ∃ R, roundsAt M r = R := ⟨_, rfl⟩
                  rw [hR] at hRs hRm hnx hdr
                  have hF : (refRound R turnsT keysT r).size = 25 := by rw [refRound_eq R hRs hRm, roundF_size]; exact hRs
                  have hcall := fun W => round_any R turnsT keysT r W hRs rfl rfl hRm turnsT_lt keysT_lt hltr
                  obtain ⟨F, hFe⟩ : ∃ F, refRound R turnsT keysT r = F := ⟨_, rfl⟩
                  rw [hFe] at hnx hF hcall
                  have hrg := hdr.p.range hRs rfl
                  have hz1 : (Tryz.prog.info? 279).map (·.size) = some (spCells R turnsT keysT).length := by rw [size125, spCells_length hRs rfl rfl]
                  have hz2 : (Tryz.prog.info? 279).map (·.size) = some (spCells F turnsT keysT).toArray.size := by rw [size125]; simp [sp74 hF]
                  have hone := all_oneCell_toArray (oneCell_sp F turnsT keysT)
                  have hstore : ∀ W, Below wr.heap.size wr W → W.there bp 0 (spCells F turnsT keysT).toArray.size ∧ Dg w (W.setCells bp 0 (spCells F turnsT keysT)) bg bp pl.toArray F := fun W hW =>
                    ⟨by have := (hdr.call hW).there hRs; simpa [sp74 hF] using this, (hdr.call hW).setAll hRs hF⟩
                  obtain ⟨cs1, hcs1⟩ : ∃ cs, spCells R turnsT keysT = cs := ⟨_, rfl⟩
                  obtain ⟨cs2, hcs2⟩ : ∃ cs, spCells F turnsT keysT = cs := ⟨_, rfl⟩
                  rw [hcs1] at hrg hz1 hcall
                  rw [hcs2] at hz2 hone hcall hstore
                  have HC : Hid (∀ W, Calls Tryz.prog 164 #[.agg cs1.toArray, .int .i64 (r : Int)] W fun e W' => e = .returned (.agg cs2.toArray) ∧ Below W.heap.size W W') := hcall
                  have HS2 : Hid (∀ W, Below wr.heap.size wr W → W.there bp 0 cs2.toArray.size ∧ Dg w (W.setCells bp 0 cs2) bg bp pl.toArray F) := hstore
                  have AS : Aside (M.size = 25 ∧ Small M ∧ Bytes pl.toArray ∧ pl.length = m + 1 ∧ roundsAt M (r + 1) = F) := ⟨hMs, hMm, hby, hlp, hnx⟩
                  clear hdr hMs hMm hby hlp hRs hRm hnx hR hF hFe hcall hstore hcs1 hcs2
                  go_wp2_with (refine wpList_load_mid rfl 279 _ rfl bp 0 rfl cs1 _ hrg Tryz.underlying279 rfl hz1 ?_)
                  refine (HC.out _).mono ?_
                  rintro e w6 ⟨rfl, hb6⟩
                  have hth6 := (HS2.out w6 hb6).1
                  have A6 : Aside (Dg w (w6.setCells bp 0 cs2) bg bp pl.toArray F) := (HS2.out w6 hb6).2
                  clear hb6 hrg
                  go_wp2_with (refine wpList_store_mid rfl 279 _ _ rfl bp 0 cs2.toArray rfl rfl hth6 hz2 hone ?_)
                  clear hth6 hz1 hz2 hone
                  obtain ⟨hMs, hMm, hby, hlp, hnx⟩ := AS.out
                  go_roundg (24 - (r + 1))
                  case measure => omega
                  case rel => exact ⟨r + 1, by omega, rfl, by go_num, by rw [hnx]; exact A6.out⟩
                · obtain rfl : r = 24 := by omega
                  have hnx := HN.out (q + 1) 17 24 rfl rfl rfl
                  rw [HM.out 17 rfl] at hnx
                  have hdn : Dg w wr bg bp pl.toArray (lanesAt pl (q + 1)) := by rw [hnx]; exact hdr
                  obtain ⟨An, hAn⟩ : ∃ An, lanesAt pl (q + 1) = An := ⟨_, rfl⟩
                  rw [hAn] at hdn
                  have AS : Aside (Dg w wr bg bp pl.toArray An ∧ lanesAt pl (q + 1) = An) := ⟨hdn, hAn⟩
                  have j6 : wrap64 (136 * (q : Int) + 136) = 136 * (q : Int) + 136 := at_fits q m HQ.out hlt HS.out.2.1
                  clear hdr hMs hMm hby hlp hnx hdn hAn hltr hr HN HM
                  go_wp2
                  obtain ⟨hdn, hAn⟩ := AS.out
                  go_roundg (Q - (q + 1))
                  case measure => omega
                  case rel => exact ⟨q + 1, by omega, rfl, val_int (by omega), by rw [hAn]; exact hdn⟩
        · obtain rfl : q = Q := by omega
          have hLs := lanesAt_size pl hby q
          have hLm := lanesAt_small pl hby q
          have hDg : digF s = sqzAt (lanesAt pl q) 32 := by
            rw [digF_ref, HL.out (), HP.out (), blocks_count l.length m G q HQ.out (by rw [HS.out.2.2.1]; exact HMG.out) (by rw [HS.out.2.2.1]; exact HG.out)]
          obtain ⟨L, hL⟩ : ∃ L, lanesAt pl q = L := ⟨_, rfl⟩
          rw [hL] at hdg hLs hLm hDg
          have HD : Hid (∀ k, k = 32 → digF s = sqzAt L k) := fun k hk => by subst hk; exact hDg
          have t1 : ((m : Int) + 1) ≤ (136 * (q : Int)) := by have := HQ.out; omega
          have ot0 : Ot w (wr.alloc (.cells Zh 34)) bp wr.heap.size L (sqzAt L 0) :=
            ⟨hdg.fr.below.alloc (by have := hdg.fr.size; omega) _, World.there_alloc hdg.fr.th _, hdg.p.a.alloc hdg.b3 _, row_zeros wr _ Zh 32 (by kernel_rfl), Nat.lt_trans hdg.b1 hdg.b2, hdg.b3, by simp⟩
          have AS : Aside (Ot w (wr.alloc (.cells Zh 34)) bp wr.heap.size L (sqzAt L 0) ∧ L.size = 25 ∧ Small L) := ⟨ot0, hLs, hLm⟩
          clear hdg hLs hLm hDg hL ot0 hby hlp
          go_wp2
          obtain ⟨ot0, hLs, hLm⟩ := AS.out
          obtain ⟨bo, hbo⟩ : ∃ bo, wr.heap.size = bo := ⟨_, rfl⟩
          rw [hbo] at ot0 ⊢
          generalize hw7 : wr.alloc (.cells _ 34) = w7
          have ot1 : Ot w w7 bp bo L (sqzAt L 0) := by rw [← hw7]; exact ot0
          clear ot0 hw7 AS hbo t1 HL HP HQ HG HS HMG
          go_loopg [11] 4 (fun g i wr => ∃ x : Nat, x ≤ 4 ∧ g = 4 - x ∧ i = .int .i64 (x : Int) ∧ Ot w wr bp bo L (sqzAt L (8 * x)))
          case atStart => exact ⟨0, by omega, rfl, rfl, ot1⟩
          case round =>
            obtain ⟨x, hx, rfl, rfl, hot⟩ := hrel
            clear ot1
            by_cases hltx : x < 4
            · obtain ⟨c0, f0⟩ := hot.a (5 * x) (by omega)
              have hu8 := hLm (5 * x)
              obtain ⟨u, hu⟩ : ∃ u, L[5 * x]! = u := ⟨_, rfl⟩
              rw [hu] at c0 hu8
              rw [show 0 + 5 * x = x * 5 by omega] at c0
              have HU : Hid (L[5 * x]! = u ∧ u < 18446744073709551616) := ⟨hu, hu8⟩
              have AS : Aside (Ot w wr bp bo L (sqzAt L (8 * x)) ∧ L.size = 25 ∧ Small L) := ⟨hot, hLs, hLm⟩
              clear hot hLs hLm hu hu8 f0
              go_wp2
              obtain ⟨hot, hLs, hLm⟩ := AS.out
              clear c0
              go_loopg [12, 13] 8 (fun g n k wr => ∃ y : Nat, y ≤ 8 ∧ g = 8 - y ∧ n = .int .u64 ((u / 256 ^ y : Nat) : Int) ∧ k = .int .i64 (y : Int) ∧ Ot w wr bp bo L (sqzAt L (8 * x + y)))
              case atStart => exact ⟨0, by omega, rfl, by simp, rfl, hot⟩
              case round =>
                obtain ⟨y, hy, rfl, rfl, rfl, hoy⟩ := hrel
                clear hot AS
                by_cases hlty : y < 8
                · obtain ⟨c1, f1⟩ := hoy.o (8 * x + y) (by rw [sqzAt_size]; omega)
                  rw [Nat.zero_add] at c1 f1
                  have hst := sqz_step L x y u HU.out.1 hlty
                  have hnn : u / 256 ^ (y + 1) = u / 256 ^ y / 256 := by rw [Nat.pow_succ, Nat.div_div_eq_div_mul]
                  have hnu : u / 256 ^ y < 18446744073709551616 := Nat.lt_of_le_of_lt (Nat.div_le_self _ _) HU.out.2
                  obtain ⟨n, hn⟩ : ∃ n, u / 256 ^ y = n := ⟨_, rfl⟩
                  rw [hn] at hst hnn hnu ⊢
                  have HST : Hid (sqzAt L (8 * x + (y + 1)) = (sqzAt L (8 * x + y)).set! (8 * x + y) (n % 256) ∧ u / 256 ^ (y + 1) = n / 256 ∧ n < 18446744073709551616) := ⟨hst, hnn, hnu⟩
                  have AS : Aside (Ot w wr bp bo L (sqzAt L (8 * x + y)) ∧ L.size = 25 ∧ Small L) := ⟨hoy, hLs, hLm⟩
                  clear hoy hLs hLm hst hnn hnu hn
                  obtain ⟨j1, j2, j3, j4⟩ := out_facts x y hltx hlty
                  go_wp2
                  clear j1 j2 j3 j4 c1 f1
                  obtain ⟨hoy, hLs, hLm⟩ := AS.out
                  go_roundg (8 - (y + 1))
                  case measure => omega
                  case rel =>
                    refine ⟨y + 1, by omega, rfl, ?_, by go_num, ?_⟩
                    · rw [HST.out.2.1]
                      exact val_int (div_step n HST.out.2.2)
                    · rw [HST.out.1]
                      exact hoy.set (by omega) (by rw [sqzAt_size]; omega) (val_int (byte_step n))
                · obtain rfl : y = 8 := by omega
                  have hoz : Ot w wr bp bo L (sqzAt L (8 * (x + 1))) := by rw [show 8 * (x + 1) = 8 * x + 8 by omega]; exact hoy
                  obtain ⟨D, hD⟩ : ∃ D, sqzAt L (8 * (x + 1)) = D := ⟨_, rfl⟩
                  rw [hD] at hoz
                  obtain ⟨n, hn⟩ : ∃ n, u / 256 ^ 8 = n := ⟨_, rfl⟩
                  rw [hn]
                  have AS : Aside (Ot w wr bp bo L D ∧ sqzAt L (8 * (x + 1)) = D ∧ L.size = 25 ∧ Small L) := ⟨hoz, hD, hLs, hLm⟩
                  clear hoy hoz hD hLs hLm hn hlty hy HU
                  go_wp2
                  obtain ⟨hoz, hD, hLs, hLm⟩ := AS.out
                  go_roundg (4 - (x + 1))
                  case measure => omega
                  case rel => exact ⟨x + 1, by omega, rfl, by go_num, by rw [hD]; exact hoz⟩
            · obtain rfl : x = 4 := by omega
              have hDs := sqzAt_size L 32
              have hoz : Ot w wr bp bo L (sqzAt L 32) := hot
              obtain ⟨D, hD⟩ : ∃ D, sqzAt L 32 = D := ⟨_, rfl⟩
              rw [hD] at hoz hDs
              have HD2 : Hid (∀ u : Unit, digF s = D) := fun _ => (HD.out 32 rfl).trans hD
              obtain ⟨hz1, hz2, hth', hth2⟩ := hash_cells hDs hoz.th
              have hrg := hoz.o.range
              have hone := all_oneCell_toArray (oneCell_enc D .u8)
              have A3 : Aside (Below w.heap.size w wr ∧ wr.there w.heap.size 0 (D.toList.map encB).length) := ⟨hoz.below, hth2⟩
              clear hot hoz hD hLs hLm hltx hx HD hth2 hDs
              go_wp2_with (first
                | (refine wpList_load_mid rfl 34 _ rfl bo 0 rfl (D.toList.map encB) _ hrg Tryz.underlying34 rfl hz1 ?_)
                | (refine wpList_store_mid rfl 34 _ _ rfl w.heap.size 0 (D.toList.map encB).toArray rfl rfl hth' hz2 hone ?_))
              obtain ⟨hB3, hth2⟩ := A3.out
              refine bodyPost_ret (v := .agg (D.toList.map encB).toArray) (results_cell1 Tryz.results109 _ _ _ w.heap.size 0 rfl (run_loadVar_mid _ _ _ 34 _ _ (World.rangeAt_setCells_same _ _ _ _ hth2) Tryz.underlying34 rfl hz1)) rfl ⟨?_, below_setCells hB3 (Nat.le_refl _) _ _⟩
              rw [HD2.out ()]
end Go.Proofs.YtjiikjpnlgogfaaGreatDoor
