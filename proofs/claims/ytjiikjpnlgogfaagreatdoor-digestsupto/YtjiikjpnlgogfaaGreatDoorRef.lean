/-
  A round by the document's definition and the program's round are one function on the 25 lanes.
-/
import Derived.Test.YtjiikjpnlgogfaaGreatDoorAbs
import Derived.Test.YtjiikjpnlgogfaaGreatDoorTurned
namespace Go.Proofs.YtjiikjpnlgogfaaGreatDoor


theorem rotl_zero (n : Nat) (h : n < 18446744073709551616) : rotl n 0 = n := by
  unfold rotl
  rw [Nat.pow_zero, Nat.mul_one, Nat.mod_eq_of_lt h, Nat.sub_zero, Nat.div_eq_of_lt (by omega)]
  simp
theorem turnedF_eq (n s : Nat) (h : n < 18446744073709551616) (hs : s < 64) : turnedF n s = rotl n s := by
  unfold turnedF
  by_cases h0 : s = 0
  · subst h0
    rw [if_pos (by omega), rotl_zero n h]
  · rw [if_neg (by omega)]

def refC (L : Array Nat) : Nat → Array Nat
  | 0 => #[0, 0, 0, 0, 0]
  | x + 1 => (refC L x).set! x (L[5 * x]! ^^^ L[5 * x + 1]! ^^^ L[5 * x + 2]! ^^^ L[5 * x + 3]! ^^^ L[5 * x + 4]!)
def refB (c L S : Array Nat) : Nat → Array Nat
  | 0 => #[0, 0, 0, 0, 0, 0, 0, 0, 0, 0, 0, 0, 0, 0, 0, 0, 0, 0, 0, 0, 0, 0, 0, 0, 0]
  | k + 1 => (refB c L S k).set! (5 * (k % 5) + (2 * (k / 5) + 3 * (k % 5)) % 5) (turnedF (L[k]! ^^^ c[(k / 5 + 4) % 5]! ^^^ turnedF c[(k / 5 + 1) % 5]! 1) S[k]!)
def refA (b L : Array Nat) : Nat → Array Nat
  | 0 => L
  | k + 1 => (refA b L k).set! k (b[k]! ^^^ (b[5 * ((k / 5 + 2) % 5) + k % 5]! &&& (18446744073709551615 - b[5 * ((k / 5 + 1) % 5) + k % 5]!)))
def refRound (L S K : Array Nat) (r : Nat) : Array Nat :=
  (refA (refB (refC L 5) L S 25) L 25).set! 0 ((refA (refB (refC L 5) L S 25) L 25)[0]! ^^^ K[r]!)

theorem cols_closed (l0 l1 l2 l3 l4 l5 l6 l7 l8 l9 l10 l11 l12 l13 l14 l15 l16 l17 l18 l19 l20 l21 l22 l23 l24 : Nat) : colsAt #[l0, l1, l2, l3, l4, l5, l6, l7, l8, l9, l10, l11, l12, l13, l14, l15, l16, l17, l18, l19, l20, l21, l22, l23, l24] 25 = #[((((0 ^^^ l0) ^^^ l1) ^^^ l2) ^^^ l3) ^^^ l4, ((((0 ^^^ l5) ^^^ l6) ^^^ l7) ^^^ l8) ^^^ l9, ((((0 ^^^ l10) ^^^ l11) ^^^ l12) ^^^ l13) ^^^ l14, ((((0 ^^^ l15) ^^^ l16) ^^^ l17) ^^^ l18) ^^^ l19, ((((0 ^^^ l20) ^^^ l21) ^^^ l22) ^^^ l23) ^^^ l24] := by kernel_rfl
theorem join_closed (l0 l1 l2 l3 l4 l5 l6 l7 l8 l9 l10 l11 l12 l13 l14 l15 l16 l17 l18 l19 l20 l21 l22 l23 l24 c0 c1 c2 c3 c4 : Nat) : joinAt #[c0, c1, c2, c3, c4] #[l0, l1, l2, l3, l4, l5, l6, l7, l8, l9, l10, l11, l12, l13, l14, l15, l16, l17, l18, l19, l20, l21, l22, l23, l24] 25 = #[l0 ^^^ (c4 ^^^ rotl c1 1), l1 ^^^ (c4 ^^^ rotl c1 1), l2 ^^^ (c4 ^^^ rotl c1 1), l3 ^^^ (c4 ^^^ rotl c1 1), l4 ^^^ (c4 ^^^ rotl c1 1), l5 ^^^ (c0 ^^^ rotl c2 1), l6 ^^^ (c0 ^^^ rotl c2 1), l7 ^^^ (c0 ^^^ rotl c2 1), l8 ^^^ (c0 ^^^ rotl c2 1), l9 ^^^ (c0 ^^^ rotl c2 1), l10 ^^^ (c1 ^^^ rotl c3 1), l11 ^^^ (c1 ^^^ rotl c3 1), l12 ^^^ (c1 ^^^ rotl c3 1), l13 ^^^ (c1 ^^^ rotl c3 1), l14 ^^^ (c1 ^^^ rotl c3 1), l15 ^^^ (c2 ^^^ rotl c4 1), l16 ^^^ (c2 ^^^ rotl c4 1), l17 ^^^ (c2 ^^^ rotl c4 1), l18 ^^^ (c2 ^^^ rotl c4 1), l19 ^^^ (c2 ^^^ rotl c4 1), l20 ^^^ (c3 ^^^ rotl c0 1), l21 ^^^ (c3 ^^^ rotl c0 1), l22 ^^^ (c3 ^^^ rotl c0 1), l23 ^^^ (c3 ^^^ rotl c0 1), l24 ^^^ (c3 ^^^ rotl c0 1)] := by kernel_rfl
theorem pi_closed (l0 l1 l2 l3 l4 l5 l6 l7 l8 l9 l10 l11 l12 l13 l14 l15 l16 l17 l18 l19 l20 l21 l22 l23 l24 : Nat) : piAt #[l0, l1, l2, l3, l4, l5, l6, l7, l8, l9, l10, l11, l12, l13, l14, l15, l16, l17, l18, l19, l20, l21, l22, l23, l24] 25 = #[rotl l0 0, rotl l15 28, rotl l5 1, rotl l20 27, rotl l10 62, rotl l6 44, rotl l21 20, rotl l11 6, rotl l1 36, rotl l16 55, rotl l12 43, rotl l2 3, rotl l17 25, rotl l7 10, rotl l22 39, rotl l18 21, rotl l8 45, rotl l23 8, rotl l13 15, rotl l3 41, rotl l24 14, rotl l14 61, rotl l4 18, rotl l19 56, rotl l9 2] := by kernel_rfl
theorem chi_closed (l0 l1 l2 l3 l4 l5 l6 l7 l8 l9 l10 l11 l12 l13 l14 l15 l16 l17 l18 l19 l20 l21 l22 l23 l24 : Nat) : chiAt #[l0, l1, l2, l3, l4, l5, l6, l7, l8, l9, l10, l11, l12, l13, l14, l15, l16, l17, l18, l19, l20, l21, l22, l23, l24] 25 = #[l0 ^^^ andNot l10 l5, l1 ^^^ andNot l11 l6, l2 ^^^ andNot l12 l7, l3 ^^^ andNot l13 l8, l4 ^^^ andNot l14 l9, l5 ^^^ andNot l15 l10, l6 ^^^ andNot l16 l11, l7 ^^^ andNot l17 l12, l8 ^^^ andNot l18 l13, l9 ^^^ andNot l19 l14, l10 ^^^ andNot l20 l15, l11 ^^^ andNot l21 l16, l12 ^^^ andNot l22 l17, l13 ^^^ andNot l23 l18, l14 ^^^ andNot l24 l19, l15 ^^^ andNot l0 l20, l16 ^^^ andNot l1 l21, l17 ^^^ andNot l2 l22, l18 ^^^ andNot l3 l23, l19 ^^^ andNot l4 l24, l20 ^^^ andNot l5 l0, l21 ^^^ andNot l6 l1, l22 ^^^ andNot l7 l2, l23 ^^^ andNot l8 l3, l24 ^^^ andNot l9 l4] := by kernel_rfl
theorem refC_closed (l0 l1 l2 l3 l4 l5 l6 l7 l8 l9 l10 l11 l12 l13 l14 l15 l16 l17 l18 l19 l20 l21 l22 l23 l24 : Nat) : refC #[l0, l1, l2, l3, l4, l5, l6, l7, l8, l9, l10, l11, l12, l13, l14, l15, l16, l17, l18, l19, l20, l21, l22, l23, l24] 5 = #[l0 ^^^ l1 ^^^ l2 ^^^ l3 ^^^ l4, l5 ^^^ l6 ^^^ l7 ^^^ l8 ^^^ l9, l10 ^^^ l11 ^^^ l12 ^^^ l13 ^^^ l14, l15 ^^^ l16 ^^^ l17 ^^^ l18 ^^^ l19, l20 ^^^ l21 ^^^ l22 ^^^ l23 ^^^ l24] := by kernel_rfl
theorem refB_closed (l0 l1 l2 l3 l4 l5 l6 l7 l8 l9 l10 l11 l12 l13 l14 l15 l16 l17 l18 l19 l20 l21 l22 l23 l24 c0 c1 c2 c3 c4 : Nat) : refB #[c0, c1, c2, c3, c4] #[l0, l1, l2, l3, l4, l5, l6, l7, l8, l9, l10, l11, l12, l13, l14, l15, l16, l17, l18, l19, l20, l21, l22, l23, l24] turnsT 25 = #[turnedF (l0 ^^^ c4 ^^^ turnedF c1 1) 0, turnedF (l15 ^^^ c2 ^^^ turnedF c4 1) 28, turnedF (l5 ^^^ c0 ^^^ turnedF c2 1) 1, turnedF (l20 ^^^ c3 ^^^ turnedF c0 1) 27, turnedF (l10 ^^^ c1 ^^^ turnedF c3 1) 62, turnedF (l6 ^^^ c0 ^^^ turnedF c2 1) 44, turnedF (l21 ^^^ c3 ^^^ turnedF c0 1) 20, turnedF (l11 ^^^ c1 ^^^ turnedF c3 1) 6, turnedF (l1 ^^^ c4 ^^^ turnedF c1 1) 36, turnedF (l16 ^^^ c2 ^^^ turnedF c4 1) 55, turnedF (l12 ^^^ c1 ^^^ turnedF c3 1) 43, turnedF (l2 ^^^ c4 ^^^ turnedF c1 1) 3, turnedF (l17 ^^^ c2 ^^^ turnedF c4 1) 25, turnedF (l7 ^^^ c0 ^^^ turnedF c2 1) 10, turnedF (l22 ^^^ c3 ^^^ turnedF c0 1) 39, turnedF (l18 ^^^ c2 ^^^ turnedF c4 1) 21, turnedF (l8 ^^^ c0 ^^^ turnedF c2 1) 45, turnedF (l23 ^^^ c3 ^^^ turnedF c0 1) 8, turnedF (l13 ^^^ c1 ^^^ turnedF c3 1) 15, turnedF (l3 ^^^ c4 ^^^ turnedF c1 1) 41, turnedF (l24 ^^^ c3 ^^^ turnedF c0 1) 14, turnedF (l14 ^^^ c1 ^^^ turnedF c3 1) 61, turnedF (l4 ^^^ c4 ^^^ turnedF c1 1) 18, turnedF (l19 ^^^ c2 ^^^ turnedF c4 1) 56, turnedF (l9 ^^^ c0 ^^^ turnedF c2 1) 2] := by kernel_rfl
theorem refA_closed (b0 b1 b2 b3 b4 b5 b6 b7 b8 b9 b10 b11 b12 b13 b14 b15 b16 b17 b18 b19 b20 b21 b22 b23 b24 l0 l1 l2 l3 l4 l5 l6 l7 l8 l9 l10 l11 l12 l13 l14 l15 l16 l17 l18 l19 l20 l21 l22 l23 l24 : Nat) : refA #[b0, b1, b2, b3, b4, b5, b6, b7, b8, b9, b10, b11, b12, b13, b14, b15, b16, b17, b18, b19, b20, b21, b22, b23, b24] #[l0, l1, l2, l3, l4, l5, l6, l7, l8, l9, l10, l11, l12, l13, l14, l15, l16, l17, l18, l19, l20, l21, l22, l23, l24] 25 = #[b0 ^^^ (b10 &&& (18446744073709551615 - b5)), b1 ^^^ (b11 &&& (18446744073709551615 - b6)), b2 ^^^ (b12 &&& (18446744073709551615 - b7)), b3 ^^^ (b13 &&& (18446744073709551615 - b8)), b4 ^^^ (b14 &&& (18446744073709551615 - b9)), b5 ^^^ (b15 &&& (18446744073709551615 - b10)), b6 ^^^ (b16 &&& (18446744073709551615 - b11)), b7 ^^^ (b17 &&& (18446744073709551615 - b12)), b8 ^^^ (b18 &&& (18446744073709551615 - b13)), b9 ^^^ (b19 &&& (18446744073709551615 - b14)), b10 ^^^ (b20 &&& (18446744073709551615 - b15)), b11 ^^^ (b21 &&& (18446744073709551615 - b16)), b12 ^^^ (b22 &&& (18446744073709551615 - b17)), b13 ^^^ (b23 &&& (18446744073709551615 - b18)), b14 ^^^ (b24 &&& (18446744073709551615 - b19)), b15 ^^^ (b0 &&& (18446744073709551615 - b20)), b16 ^^^ (b1 &&& (18446744073709551615 - b21)), b17 ^^^ (b2 &&& (18446744073709551615 - b22)), b18 ^^^ (b3 &&& (18446744073709551615 - b23)), b19 ^^^ (b4 &&& (18446744073709551615 - b24)), b20 ^^^ (b5 &&& (18446744073709551615 - b0)), b21 ^^^ (b6 &&& (18446744073709551615 - b1)), b22 ^^^ (b7 &&& (18446744073709551615 - b2)), b23 ^^^ (b8 &&& (18446744073709551615 - b3)), b24 ^^^ (b9 &&& (18446744073709551615 - b4))] := by kernel_rfl

/-- An array of 25 written out. -/
theorem lits25 (L : Array Nat) (h : L.size = 25) : ∃ l0 l1 l2 l3 l4 l5 l6 l7 l8 l9 l10 l11 l12 l13 l14 l15 l16 l17 l18 l19 l20 l21 l22 l23 l24 : Nat, L = #[l0, l1, l2, l3, l4, l5, l6, l7, l8, l9, l10, l11, l12, l13, l14, l15, l16, l17, l18, l19, l20, l21, l22, l23, l24] := by
  obtain ⟨l⟩ := L
  match l, h with
  | [l0, l1, l2, l3, l4, l5, l6, l7, l8, l9, l10, l11, l12, l13, l14, l15, l16, l17, l18, l19, l20, l21, l22, l23, l24], _ => exact ⟨l0, l1, l2, l3, l4, l5, l6, l7, l8, l9, l10, l11, l12, l13, l14, l15, l16, l17, l18, l19, l20, l21, l22, l23, l24, rfl⟩

theorem el_eq {l c d t : Nat} (hl : l < 18446744073709551616) (hc : c < 18446744073709551616) (hd : d < 18446744073709551616) (ht : t < 64) :
    turnedF (l ^^^ c ^^^ turnedF d 1) t = rotl (l ^^^ (c ^^^ rotl d 1)) t := by
  have h1 : turnedF d 1 = rotl d 1 := turnedF_eq d 1 hd (by omega)
  have h2 := rotl_lt d 1 hd
  rw [h1, Nat.xor_assoc]
  exact turnedF_eq _ _ (xor_lt hl (xor_lt hc h2)) ht

theorem xor5_lt {a b c d e : Nat} (ha : a < 18446744073709551616) (hb : b < 18446744073709551616) (hc : c < 18446744073709551616) (hd : d < 18446744073709551616) (he : e < 18446744073709551616) : a ^^^ b ^^^ c ^^^ d ^^^ e < 18446744073709551616 :=
  xor_lt (xor_lt (xor_lt (xor_lt ha hb) hc) hd) he

theorem refB_eq (L : Array Nat) (hs : L.size = 25) (h : Small L) : refB (refC L 5) L turnsT 25 = piAt (theta L) 25 := by
  obtain ⟨l0, l1, l2, l3, l4, l5, l6, l7, l8, l9, l10, l11, l12, l13, l14, l15, l16, l17, l18, l19, l20, l21, l22, l23, l24, rfl⟩ := lits25 L hs
  have h0 : l0 < 18446744073709551616 := h 0
  have h1 : l1 < 18446744073709551616 := h 1
  have h2 : l2 < 18446744073709551616 := h 2
  have h3 : l3 < 18446744073709551616 := h 3
  have h4 : l4 < 18446744073709551616 := h 4
  have h5 : l5 < 18446744073709551616 := h 5
  have h6 : l6 < 18446744073709551616 := h 6
  have h7 : l7 < 18446744073709551616 := h 7
  have h8 : l8 < 18446744073709551616 := h 8
  have h9 : l9 < 18446744073709551616 := h 9
  have h10 : l10 < 18446744073709551616 := h 10
  have h11 : l11 < 18446744073709551616 := h 11
  have h12 : l12 < 18446744073709551616 := h 12
  have h13 : l13 < 18446744073709551616 := h 13
  have h14 : l14 < 18446744073709551616 := h 14
  have h15 : l15 < 18446744073709551616 := h 15
  have h16 : l16 < 18446744073709551616 := h 16
  have h17 : l17 < 18446744073709551616 := h 17
  have h18 : l18 < 18446744073709551616 := h 18
  have h19 : l19 < 18446744073709551616 := h 19
  have h20 : l20 < 18446744073709551616 := h 20
  have h21 : l21 < 18446744073709551616 := h 21
  have h22 : l22 < 18446744073709551616 := h 22
  have h23 : l23 < 18446744073709551616 := h 23
  have h24 : l24 < 18446744073709551616 := h 24
  have k0 := xor5_lt h0 h1 h2 h3 h4
  have k1 := xor5_lt h5 h6 h7 h8 h9
  have k2 := xor5_lt h10 h11 h12 h13 h14
  have k3 := xor5_lt h15 h16 h17 h18 h19
  have k4 := xor5_lt h20 h21 h22 h23 h24
  clear h hs
  unfold theta
  rw [cols_closed, join_closed, pi_closed, refC_closed, refB_closed]
  simp only [Nat.zero_xor]
  generalize l0 ^^^ l1 ^^^ l2 ^^^ l3 ^^^ l4 = c0 at k0 ⊢
  generalize l5 ^^^ l6 ^^^ l7 ^^^ l8 ^^^ l9 = c1 at k1 ⊢
  generalize l10 ^^^ l11 ^^^ l12 ^^^ l13 ^^^ l14 = c2 at k2 ⊢
  generalize l15 ^^^ l16 ^^^ l17 ^^^ l18 ^^^ l19 = c3 at k3 ⊢
  generalize l20 ^^^ l21 ^^^ l22 ^^^ l23 ^^^ l24 = c4 at k4 ⊢
  rw [el_eq h0 k4 k1 (show 0 < 64 by omega), el_eq h15 k2 k4 (show 28 < 64 by omega), el_eq h5 k0 k2 (show 1 < 64 by omega), el_eq h20 k3 k0 (show 27 < 64 by omega), el_eq h10 k1 k3 (show 62 < 64 by omega), el_eq h6 k0 k2 (show 44 < 64 by omega), el_eq h21 k3 k0 (show 20 < 64 by omega), el_eq h11 k1 k3 (show 6 < 64 by omega), el_eq h1 k4 k1 (show 36 < 64 by omega), el_eq h16 k2 k4 (show 55 < 64 by omega), el_eq h12 k1 k3 (show 43 < 64 by omega), el_eq h2 k4 k1 (show 3 < 64 by omega), el_eq h17 k2 k4 (show 25 < 64 by omega), el_eq h7 k0 k2 (show 10 < 64 by omega), el_eq h22 k3 k0 (show 39 < 64 by omega), el_eq h18 k2 k4 (show 21 < 64 by omega), el_eq h8 k0 k2 (show 45 < 64 by omega), el_eq h23 k3 k0 (show 8 < 64 by omega), el_eq h13 k1 k3 (show 15 < 64 by omega), el_eq h3 k4 k1 (show 41 < 64 by omega), el_eq h24 k3 k0 (show 14 < 64 by omega), el_eq h14 k1 k3 (show 61 < 64 by omega), el_eq h4 k4 k1 (show 18 < 64 by omega), el_eq h19 k2 k4 (show 56 < 64 by omega), el_eq h9 k0 k2 (show 2 < 64 by omega)]

theorem refA_eq (b L : Array Nat) (hb : b.size = 25) (hs : L.size = 25) : refA b L 25 = chiAt b 25 := by
  obtain ⟨l0, l1, l2, l3, l4, l5, l6, l7, l8, l9, l10, l11, l12, l13, l14, l15, l16, l17, l18, l19, l20, l21, l22, l23, l24, rfl⟩ := lits25 L hs
  obtain ⟨b0, b1, b2, b3, b4, b5, b6, b7, b8, b9, b10, b11, b12, b13, b14, b15, b16, b17, b18, b19, b20, b21, b22, b23, b24, rfl⟩ := lits25 b hb
  rw [refA_closed, chi_closed]
  rfl

theorem refRound_eq (L : Array Nat) (hs : L.size = 25) (h : Small L) (r : Nat) : refRound L turnsT keysT r = roundF L r := by
  unfold refRound roundF
  rw [refB_eq L hs h, refA_eq _ L (by rw [piAt_size, theta_size]; exact hs) hs]

end Go.Proofs.YtjiikjpnlgogfaaGreatDoor
