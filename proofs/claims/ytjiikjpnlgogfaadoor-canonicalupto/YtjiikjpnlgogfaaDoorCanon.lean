/-
  What a head that is accepted says: it is the head that would be written. Plain facts on lists of bytes.
-/
import Derived.Test.YtjiikjpnlgogfaaDoorRead
namespace Go.Proofs.YtjiikjpnlgogfaaDoor
open Go.RowKit

theorem numB_cut : ∀ (k : Nat) (d : List Nat), (∀ x ∈ d, x < 256) → k ≤ d.length → numB d / 256 ^ k = numB (d.take (d.length - k)) := by
  intro k
  induction k with
  | zero => intro d _ _; simp
  | succ k ih =>
    intro d hd hk
    have hne : d ≠ [] := fun e => by subst e; simp at hk
    obtain ⟨r, x, rfl⟩ : ∃ r x, d = r ++ [x] := ⟨d.dropLast, d.getLast hne, (List.dropLast_concat_getLast hne).symm⟩
    have hx : x < 256 := hd x (by simp)
    simp only [List.length_append, List.length_cons, List.length_nil] at hk ⊢
    rw [numB_snoc, Nat.pow_succ, Nat.mul_comm (256 ^ k) 256, ← Nat.div_div_eq_div_mul, show (numB r * 256 + x) / 256 = numB r by omega, ih r (fun y hy => hd y (by simp [hy])) (by omega)]
    rw [show r.length + (0 + 1) - (k + 1) = r.length - k by omega, List.take_append_of_le_length (by omega)]

theorem numB_cons_pos : ∀ (r : List Nat) (x : Nat), x ≠ 0 → numB (x :: r) ≠ 0 := by
  have h : ∀ (r : List Nat) (n : Nat), n ≠ 0 → r.foldl (fun n x => n * 256 + x) n ≠ 0 := by
    intro r
    induction r with
    | nil => intro n hn; exact hn
    | cons y r ih => intro n hn; exact ih _ (by simp only; omega)
  intro r x hx
  unfold numB
  rw [List.foldl_cons]
  exact h r _ (by omega)

/-- A number's bytes, read and written again. -/
theorem bigE_numB (d : List Nat) (hd : ∀ x ∈ d, x < 256) (h8 : d.length ≤ 8) (h0 : d ≠ [] → d[0]! ≠ 0) : bigE (numB d) = d := by
  have key : ∀ i, i ≤ 8 → bigAt (numB d) i = d.take (i - (8 - d.length)) := by
    intro i
    induction i with
    | zero => intro _; simp [bigAt]
    | succ i ih =>
      intro hi
      rw [bigAt, ih (by omega)]
      have e : 2 ^ (56 - 8 * i) = 256 ^ (7 - i) := by
        rw [show (256 : Nat) = 2 ^ 8 by decide, ← Nat.pow_mul]
        congr 1
        omega
      rw [e]
      by_cases hk : d.length ≤ 7 - i
      · have hlt := numB_lt d hd
        have : numB d / 256 ^ (7 - i) = 0 := Nat.div_eq_of_lt (Nat.lt_of_lt_of_le hlt (Nat.pow_le_pow_right (by decide) hk))
        rw [if_pos this, show i - (8 - d.length) = 0 by omega, show i + 1 - (8 - d.length) = 0 by omega]
      · rw [numB_cut (7 - i) d hd (by omega)]
        obtain ⟨j, hj⟩ : ∃ j, d.length - (7 - i) = j + 1 := ⟨d.length - (7 - i) - 1, by omega⟩
        have hjd : j < d.length := by omega
        rw [hj, show i - (8 - d.length) = j by omega, show i + 1 - (8 - d.length) = j + 1 by omega]
        have hs : d.take (j + 1) = d.take j ++ [d[j]] := (List.take_append_getElem hjd).symm
        have hn0 : numB (d.take (j + 1)) ≠ 0 := by
          cases hdd : d with
          | nil => rw [hdd] at hjd; simp at hjd
          | cons a r =>
            have := h0 (by rw [hdd]; simp)
            rw [hdd] at this
            rw [List.take_succ_cons]
            exact numB_cons_pos _ _ (by simpa using this)
        rw [if_neg hn0, hs, numB_snoc]
        have := hd d[j] (List.getElem_mem hjd)
        rw [show (numB (d.take j) * 256 + d[j]) % 256 = d[j] by omega]
  have := key 8 (Nat.le_refl _)
  unfold bigE
  rw [this, List.take_of_length_le (by omega)]

theorem take_one_get {l : List Nat} (h : 0 < l.length) : l.take 1 = [l[0]!] := by
  cases l with
  | nil => simp at h
  | cons a r => simp

/-- A length that is accepted: its head is the one that would be written. -/
theorem lenF_ok {l : List Nat} {kind a b : Nat} (hl : ∀ x ∈ l, x < 256) (hp : 0 < l.length) (hk : kind ≤ l[0]!) (h63 : l[0]! - kind ≤ 63) (h : lenF l kind = .ok (a, b)) : l.take a = headB kind b ∧ a + b ≤ l.length ∧ 1 ≤ a ∧ a ≤ 9 := by
  have hl0 : l[0]! < 256 := by
    rw [getElem!_pos l 0 hp]
    exact hl _ (List.getElem_mem hp)
  by_cases h55 : l[0]! - kind ≤ 55
  · rw [lenF_small h55] at h
    split at h
    · cases h
    · injection h with h
      injection h with h1 h2
      subst h1 h2
      refine ⟨?_, by omega, by omega, by omega⟩
      unfold headB
      rw [if_pos h55, take_one_get hp]
      congr 1
      omega
  · rw [lenF_great h55] at h
    split at h
    · cases h
    · rename_i hlen
      split at h
      · cases h
      · rename_i hz
        split at h
        · cases h
        · rename_i hr
          injection h with h
          injection h with h1 h2
          have hz1 : l[1]! ≠ 0 := fun e => hz (.inl e)
          have hz2 : ¬ numB ((l.drop 1).take (l[0]! - kind - 55)) ≤ 55 := fun e => hz (.inr e)
          have hdl : ((l.drop 1).take (l[0]! - kind - 55)).length = l[0]! - kind - 55 := by
            rw [List.length_take, List.length_drop]
            omega
          have hd : bigE (numB ((l.drop 1).take (l[0]! - kind - 55))) = (l.drop 1).take (l[0]! - kind - 55) := by
            refine bigE_numB _ (fun x hx => hl x (List.mem_of_mem_drop (List.mem_of_mem_take hx))) (by omega) (fun _ => ?_)
            have e : ((l.drop 1).take (l[0]! - kind - 55))[0]! = l[1]! := by
              rw [getElem!_pos _ 0 (by omega), getElem!_pos l 1 (by omega), List.getElem_take, List.getElem_drop]
            rw [e]
            exact hz1
          rw [h2] at hd hz2
          refine ⟨?_, by omega, by omega, by omega⟩
          unfold headB
          rw [if_neg hz2, hd, hdl, ← h1]
          cases hll : l with
          | nil => rw [hll] at hp; simp at hp
          | cons x r =>
            rw [hll] at h55 hl0 hk hlen h63
            simp only [List.getElem!_cons_zero, List.drop_succ_cons, List.drop_zero] at h55 hl0 hk hlen h63 ⊢
            rw [show x - kind - 54 = (x - kind - 55) + 1 by omega, List.take_succ_cons]
            congr 1
            omega

/-- What readHead accepts, of the bytes l. -/
def HeadOK (l : List Nat) (list : Bool) (size len : Nat) : Prop :=
  size + len ≤ l.length ∧ 0 < size + len ∧ size ≤ 9 ∧ (list = true → l.take size = headB 192 len) ∧ (list = false → l.take (size + len) = textCode ((l.drop size).take len))

theorem HeadOK.byte {l : List Nat} (hp : 0 < l.length) (h : l[0]! < 128) : HeadOK l false 0 1 := by
  refine ⟨by omega, by omega, by omega, by simp, fun _ => ?_⟩
  rw [Nat.zero_add, List.drop_zero, take_one_get hp]
  unfold textCode
  rw [if_pos ⟨rfl, by simpa using h⟩]
  rfl
theorem HeadOK.text {l : List Nat} {a b : Nat} (hl : ∀ x ∈ l, x < 256) (hp : 0 < l.length) (hk : 128 ≤ l[0]!) (hk2 : l[0]! < 192) (h : lenF l 128 = .ok (a, b)) (hn : ¬ (b = 1 ∧ l[a]! < 128)) : HeadOK l false a b := by
  obtain ⟨h1, h2, h3, h4⟩ := lenF_ok hl hp hk (by omega) h
  refine ⟨h2, by omega, h4, by simp, fun _ => ?_⟩
  have hlen : ((l.drop a).take b).length = b := by rw [List.length_take, List.length_drop]; omega
  unfold textCode
  rw [if_neg, hlen, ← h1, List.take_add]
  rintro ⟨e1, e2⟩
  rw [hlen] at e1
  refine hn ⟨e1, ?_⟩
  rw [getElem!_pos _ 0 (by omega), List.getElem_take, List.getElem_drop] at e2
  rw [getElem!_pos l a (by omega)]
  simpa using e2
theorem HeadOK.list {l : List Nat} {a b : Nat} (hl : ∀ x ∈ l, x < 256) (hp : 0 < l.length) (hk : 192 ≤ l[0]!) (h : lenF l 192 = .ok (a, b)) : HeadOK l true a b := by
  have hl0 : l[0]! < 256 := by
    rw [getElem!_pos l 0 hp]
    exact hl _ (List.getElem_mem hp)
  obtain ⟨h1, h2, h3, h4⟩ := lenF_ok hl hp hk (by omega) h
  exact ⟨h2, by omega, h4, fun _ => h1, by simp⟩
end Go.Proofs.YtjiikjpnlgogfaaDoor
