/-
  Block by block as the reference takes them: the same lanes as the program's.
-/
import Derived.Test.YtjiikjpnlgogfaaGreatDoorPad
namespace Go.Proofs.YtjiikjpnlgogfaaGreatDoor

/-- The reference's joining of a block that begins at fr. -/
def refMix (A l : Array Nat) (fr : Nat) : Nat → Array Nat
  | 0 => A
  | i + 1 => (refMix A l fr i).set! (5 * (i % 5) + i / 5) ((refMix A l fr i)[5 * (i % 5) + i / 5]! ^^^ refLow l (fr + 8 * i) 8)

theorem refMix_zero (A l : Array Nat) (fr : Nat) : refMix A l fr 0 = A := rfl
theorem refMix_succ (A l : Array Nat) (fr i : Nat) : refMix A l fr (i + 1) = (refMix A l fr i).set! (5 * (i % 5) + i / 5) ((refMix A l fr i)[5 * (i % 5) + i / 5]! ^^^ refLow l (fr + 8 * i) 8) := rfl

theorem lowFold_congr (a b : Array Nat) (x y : Nat) (k : Nat) (h : ∀ j, j < k → a[x + j]! = b[y + j]!) : lowFold a x k = lowFold b y k := by
  induction k with
  | zero => rfl
  | succ k ih =>
    show lowFold a x k ||| a[x + k]! * 2 ^ (8 * k) % 18446744073709551616 = lowFold b y k ||| b[y + k]! * 2 ^ (8 * k) % 18446744073709551616
    rw [ih (fun j hj => h j (by omega)), h k (by omega)]

theorem blk_get (l : List Nat) (fr j : Nat) (hj : j < 136) : ((l.drop fr).take 136).toArray[j]! = l.toArray[fr + j]! := by
  simp only [getElem!_def]
  rw [List.getElem?_toArray, List.getElem?_toArray, List.getElem?_take_of_lt hj, List.getElem?_drop]

theorem refMix_eq (A : Array Nat) (l : List Nat) (hB : Bytes l.toArray) (fr : Nat) : ∀ i, i ≤ 17 → refMix A l.toArray fr i = mixAt A ((l.drop fr).take 136).toArray i := by
  intro i
  induction i with
  | zero => intro _; rfl
  | succ i ih =>
    intro hi
    have e : refLow l.toArray (fr + 8 * i) 8 = lowFold ((l.drop fr).take 136).toArray (8 * i) 8 := by
      rw [low_eq _ _ hB]
      refine lowFold_congr _ _ _ _ _ fun j hj => ?_
      rw [blk_get l fr (8 * i + j) (by omega)]
      congr 1
      omega
    rw [refMix_succ, ih (by omega), e]
    rfl

theorem foldN_last (f : Array Nat → List Nat → Array Nat) (n : Nat) : ∀ (L : Array Nat) (l : List Nat), foldN f (n + 1) L l = f (foldN f n L l) (l.drop (136 * n)) := by
  induction n with
  | zero => intro L l; rfl
  | succ n ih =>
    intro L l
    rw [foldN_succ f (n + 1), ih, foldN_succ f n, List.drop_drop]
    congr 2
    omega

/-- The lanes behind k blocks. -/
def lanesAt (l : List Nat) (k : Nat) : Array Nat := foldN takeF k (Array.replicate 25 0) l
theorem lanesAt_zero (l : List Nat) : lanesAt l 0 = Array.replicate 25 0 := rfl
theorem lanesAt_succ (l : List Nat) (hB : Bytes l.toArray) (k : Nat) : lanesAt l (k + 1) = roundsAt (refMix (lanesAt l k) l.toArray (136 * k) 17) 24 := by
  rw [refMix_eq _ l hB _ 17 (Nat.le_refl _)]
  exact foldN_last takeF k _ l
theorem lanesAt_size (l : List Nat) (hB : Bytes l.toArray) : ∀ k, (lanesAt l k).size = 25 := by
  intro k
  induction k with
  | zero => simp [lanesAt_zero]
  | succ k ih => rw [lanesAt_succ l hB, roundsAt_size, refMix_eq _ l hB _ 17 (Nat.le_refl _), mixAt_size]; exact ih
theorem lanesAt_small (l : List Nat) (hB : Bytes l.toArray) : ∀ k, Small (lanesAt l k) := by
  intro k
  induction k with
  | zero =>
    rw [lanesAt_zero]
    intro j
    rw [zeros_get]
    decide
  | succ k ih => rw [lanesAt_succ l hB, refMix_eq _ l hB _ 17 (Nat.le_refl _)]; exact roundsAt_small (mixAt_small _ ih 17) 24

theorem padded_length (l : List Nat) : (padded l).length = 136 * (l.length / 136 + 1) := by
  unfold padded
  simp only [List.length_set, List.length_append, List.length_cons, List.length_replicate]
  omega

/-- The digest as the reference comes to it. -/
theorem digF_ref (s : ByteArray) : digF s = sqzAt (lanesAt (padded (bytesOf s)) ((bytesOf s).length / 136 + 1)) 32 :=
  sum_blocks ((bytesOf s).length / 136) (bytesOf s) (Array.replicate 25 0) (Array.replicate 136 0) (by simp) rfl

theorem refMix_size (A l : Array Nat) (fr k : Nat) : (refMix A l fr k).size = A.size := by
  induction k with
  | zero => rfl
  | succ k ih => rw [refMix_succ]; simp [ih]
theorem refLow_lt (l : Array Nat) (fr i : Nat) : refLow l fr i < 18446744073709551616 := by
  cases i with
  | zero => exact Nat.zero_lt_succ _
  | succ i => exact Nat.mod_lt _ (by decide)
theorem refMix_small {A : Array Nat} (l : Array Nat) (fr : Nat) (h : Small A) (k : Nat) : Small (refMix A l fr k) := by
  induction k with
  | zero => exact h
  | succ k ih => rw [refMix_succ]; exact small_set ih _ _ (xor_lt (ih _) (refLow_lt _ _ _))

/-- Zeros at the end, one by one. -/
theorem pad_zero (l : List Nat) (k : Nat) : l ++ 1 :: List.replicate k 0 ++ [0] = l ++ 1 :: List.replicate (k + 1) 0 := by
  rw [List.append_assoc, List.cons_append, List.replicate_succ']
end Go.Proofs.YtjiikjpnlgogfaaGreatDoor
