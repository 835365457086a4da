/-
  A text cut into blocks with its end: byte by byte as the hasher takes it, and all at once as the reference does: the same blocks.
-/
import Derived.Test.YtjiikjpnlgogfaaGreatDoorLow2
import Derived.Test.YtjiikjpnlgogfaaGreatDoorOf
namespace Go.Proofs.YtjiikjpnlgogfaaGreatDoor

theorem putAt_toList (xs : List Nat) : ∀ (W : Array Nat) (c : Nat), c + xs.length ≤ W.size → (putAt W c xs).toList = W.toList.take c ++ xs ++ W.toList.drop (c + xs.length) := by
  induction xs with
  | nil => intro W c h; simp [putAt]
  | cons x xs ih =>
    intro W c h
    simp only [List.length_cons] at h
    rw [putAt, ih _ _ (by simp; omega)]
    have hs : (W.set! c x).toList = W.toList.set c x := by simp
    rw [hs]
    have h1 : (W.toList.set c x).take (c + 1) = W.toList.take c ++ [x] := by
      rw [List.take_succ_eq_append_getElem (by simp; omega), List.take_set, List.set_eq_of_length_le (by simp; omega)]
      simp
    have h2 : (W.toList.set c x).drop (c + 1 + xs.length) = W.toList.drop (c + (xs.length + 1)) := by
      rw [show c + 1 + xs.length = c + (xs.length + 1) by omega, List.drop_set_of_lt (by omega)]
    rw [h1, h2]
    simp

theorem putAt_whole (W : Array Nat) (xs : List Nat) (h : xs.length = W.size) : putAt W 0 xs = xs.toArray := by
  apply Array.ext'
  rw [putAt_toList xs W 0 (by omega)]
  simp [h]

/-- The text with its end. -/
def padded (l : List Nat) : List Nat :=
  let m := l ++ 1 :: List.replicate (135 - l.length % 136) 0
  m.set (m.length - 1) ((m.getD (m.length - 1) 0 + 128) % 256)

/-- n blocks taken, each by f. -/
def foldN (f : Array Nat → List Nat → Array Nat) : Nat → Array Nat → List Nat → Array Nat
  | 0, L, _ => L
  | n + 1, L, l => foldN f n (f L l) (l.drop 136)
theorem foldN_zero (f : Array Nat → List Nat → Array Nat) (L : Array Nat) (l : List Nat) : foldN f 0 L l = L := rfl
theorem foldN_succ (f : Array Nat → List Nat → Array Nat) (n : Nat) (L : Array Nat) (l : List Nat) : foldN f (n + 1) L l = foldN f n (f L l) (l.drop 136) := rfl
/-- A block taken off the front. -/
def takeF (L : Array Nat) (l : List Nat) : Array Nat := absorbF L (l.take 136).toArray

theorem last_eq (W : Array Nat) (l : List Nat) (hW : W.size = 136) (hl : l.length < 136) : lastBlock (putAt W 0 l) l.length = (padded l).toArray := by
  apply Array.ext'
  have hm : l.length % 136 = l.length := Nat.mod_eq_of_lt hl
  have hp := putAt_toList l W 0 (by omega)
  simp only [List.take_zero, List.nil_append, Nat.zero_add] at hp
  have hps : (putAt W 0 l).size = 136 := by rw [putAt_size]; exact hW
  have h1 : ((putAt W 0 l).set! l.length 1).toList = l ++ 1 :: W.toList.drop (l.length + 1) := by
    have : ((putAt W 0 l).set! l.length 1).toList = (putAt W 0 l).toList.set l.length 1 := by simp
    rw [this, hp]
    rw [List.set_append, if_neg (by omega), Nat.sub_self]
    congr 1
    rw [List.drop_eq_getElem_cons (by simp; omega)]
    rfl
  have h2 : (putAt ((putAt W 0 l).set! l.length 1) (l.length + 1) (List.replicate (135 - l.length) 0)).toList = l ++ 1 :: List.replicate (135 - l.length) 0 := by
    rw [putAt_toList _ _ _ (by simp [hps]; omega), h1]
    have t1 : (l ++ 1 :: W.toList.drop (l.length + 1)).take (l.length + 1) = l ++ [1] := by
      rw [List.take_length_add_append]; rfl
    have t2 : (l ++ 1 :: W.toList.drop (l.length + 1)).drop (l.length + 1 + (List.replicate (135 - l.length) 0).length) = [] := by
      apply List.drop_of_length_le
      simp only [List.length_append, List.length_cons, List.length_drop, Array.length_toList, List.length_replicate, hW]
      omega
    rw [t1, t2]
    simp
  unfold lastBlock padded
  simp only [hm]
  generalize putAt ((putAt W 0 l).set! l.length 1) (l.length + 1) (List.replicate (135 - l.length) 0) = W1 at h2
  have hlen : (l ++ 1 :: List.replicate (135 - l.length) 0).length = 136 := by
    simp only [List.length_append, List.length_cons, List.length_replicate]
    omega
  rw [hlen, ← h2]
  have hg : W1[135]! = W1.toList.getD 135 0 := by
    simp only [getElem!_def, List.getD, Array.getElem?_toList]
    cases W1[135]? <;> rfl
  rw [hg]
  simp

set_option maxRecDepth 100000 in
theorem padded_more (l : List Nat) (h : 136 ≤ l.length) : padded l = l.take 136 ++ padded (l.drop 136) := by
  have hm : (l.drop 136).length % 136 = l.length % 136 := by
    rw [List.length_drop]
    omega
  have e : l ++ 1 :: List.replicate (135 - l.length % 136) 0 = l.take 136 ++ (l.drop 136 ++ 1 :: List.replicate (135 - l.length % 136) 0) := by
    rw [← List.append_assoc, List.take_append_drop]
  unfold padded
  simp only [hm]
  rw [e]
  generalize hr : l.drop 136 ++ 1 :: List.replicate (135 - l.length % 136) 0 = r
  have hrl : 0 < r.length := by rw [← hr]; simp only [List.length_append, List.length_cons]; omega
  have ht : (l.take 136).length = 136 := by rw [List.length_take]; omega
  have hgd : (l.take 136 ++ r).getD (136 + r.length - 1) 0 = r.getD (r.length - 1) 0 := by
    rw [List.getD_eq_getElem?_getD, List.getD_eq_getElem?_getD, List.getElem?_append_right (by omega), ht]
    rw [show 136 + r.length - 1 - 136 = r.length - 1 by omega]
  rw [List.length_append, ht, hgd, List.set_append, if_neg (by omega), ht]
  rw [show 136 + r.length - 1 - 136 = r.length - 1 by omega]

set_option maxRecDepth 100000 in
theorem sum_blocks (n : Nat) : ∀ (l : List Nat) (L W : Array Nat), W.size = 136 → l.length / 136 = n → sumF (l.foldl push1 (L, W, 0)) = sqzAt (foldN takeF (n + 1) L (padded l)) 32 := by
  induction n with
  | zero =>
    intro l L W hW hn
    have hl : l.length < 136 := by omega
    rw [push_less l L W 0 (by omega)]
    unfold sumF
    simp only [Nat.zero_add]
    rw [last_eq W l hW hl]
    have hp : (padded l).length = 136 := by
      unfold padded
      simp only [List.length_set, List.length_append, List.length_cons, List.length_replicate]
      omega
    rw [foldN_succ, foldN_zero]
    unfold takeF
    rw [List.take_of_length_le (by omega)]
  | succ n ih =>
    intro l L W hW hn
    have hl : 136 ≤ l.length := by omega
    have ht : (l.take 136).length = 136 := by rw [List.length_take]; omega
    have e : l.foldl push1 (L, W, 0) = (l.drop 136).foldl push1 ((l.take 136).foldl push1 (L, W, 0)) := by
      rw [← List.foldl_append, List.take_append_drop]
    rw [e, push_full (l.take 136) L W 0 (by omega) (by omega), putAt_whole W (l.take 136) (by omega)]
    rw [ih (l.drop 136) _ _ (by simp; omega) (by rw [List.length_drop]; omega)]
    rw [padded_more l hl]
    rw [foldN_succ takeF (n + 1)]
    have ht' : takeF L (l.take 136 ++ padded (l.drop 136)) = absorbF L (l.take 136).toArray := by
      unfold takeF
      rw [List.take_append_of_le_length (by omega), List.take_take, Nat.min_self]
    have hd : (l.take 136 ++ padded (l.drop 136)).drop 136 = padded (l.drop 136) := by
      rw [List.drop_append_of_le_length (by omega)]
      have h0 : (l.take 136).drop 136 = [] := List.drop_of_length_le (by omega)
      rw [h0, List.nil_append]
    rw [ht', hd]
end Go.Proofs.YtjiikjpnlgogfaaGreatDoor
