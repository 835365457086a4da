/-
  What Read of package twigsref makes of a head is what readHead's function says. Plain facts.
-/
import Derived.Test.YtjiikjpnlgogfaaGreatDoorHeaG
import Derived.Test.YtjiikjpnlgogfaaGreatDoorFull
namespace Go.Proofs.YtjiikjpnlgogfaaGreatDoor
open Go.RowKit

/-- A number of several bytes: its own, or great. -/
theorem capN_num (l : List Nat) : capN l = numB l ∨ (1000000000 ≤ capN l ∧ 1000000000 ≤ numB l) := by
  have key : ∀ (l : List Nat) (n m : Nat), n = m ∨ (1000000000 ≤ n ∧ 1000000000 ≤ m) → l.foldl (fun n x => if n < 1000000000 then 256 * n + x else n) n = l.foldl (fun n x => n * 256 + x) m ∨ (1000000000 ≤ l.foldl (fun n x => if n < 1000000000 then 256 * n + x else n) n ∧ 1000000000 ≤ l.foldl (fun n x => n * 256 + x) m) := by
    intro l
    induction l with
    | nil => intro n m h; exact h
    | cons x l ih =>
      intro n m h
      rw [List.foldl_cons, List.foldl_cons]
      apply ih
      rcases h with rfl | ⟨h1, h2⟩
      · by_cases hn : n < 1000000000
        · rw [if_pos hn]; omega
        · rw [if_neg hn]; omega
      · rw [if_neg (by omega)]; omega
  exact key l 0 0 (.inl rfl)

/-- Read's tests on a head: the length within the room, a text as it would be written. -/
def rdErr (l : List Nat) (at_ end_ : Nat) : Nat :=
  let r := hdS l at_ end_
  if r.2 ≠ 0 then r.2
  else if end_ - (at_ + r.1.2.2) < r.1.2.1 then 2
  else if r.1.1 = false ∧ textCode ((l.drop (at_ + r.1.2.2)).take r.1.2.1) ≠ (l.drop at_).take (r.1.2.2 + r.1.2.1) then 3
  else 0

theorem get_room {l : List Nat} {at_ end_ j : Nat} (hj : at_ + j < end_) (he : end_ ≤ l.length) : ((l.take end_).drop at_)[j]! = l[at_ + j]! := by
  rw [getElem!_pos _ j (by rw [List.length_drop, List.length_take]; omega), getElem!_pos l _ (by omega), List.getElem_drop, List.getElem_take]
theorem cut_room {l : List Nat} {at_ end_ a n : Nat} (h : at_ + a + n ≤ end_) : (((l.take end_).drop at_).drop a).take n = (l.drop (at_ + a)).take n := by
  rw [List.drop_drop, List.drop_take, List.take_take, Nat.min_eq_left (by omega)]

theorem rdErr_of {l : List Nat} {at_ end_ n z e : Nat} {lst : Bool} (h : hdS l at_ end_ = ((lst, n, z), e)) :
    rdErr l at_ end_ = if e ≠ 0 then e else if end_ - (at_ + z) < n then 2 else if lst = false ∧ textCode ((l.drop (at_ + z)).take n) ≠ (l.drop at_).take (z + n) then 3 else 0 := by
  unfold rdErr
  rw [h]
theorem cut_cons {l : List Nat} {at_ n : Nat} (h : at_ < l.length) : (l.drop at_).take (1 + n) = l[at_]! :: (l.drop (at_ + 1)).take n := by
  rw [List.drop_eq_getElem_cons h, Nat.add_comm 1 n, List.take_succ_cons, getElem!_pos l at_ h]

/-- What a head is that is short, or of one byte. -/
theorem head_small {l : List Nat} {at_ end_ b base k : Nat} {lst : Bool} (he : end_ ≤ l.length) (h0 : at_ < end_) (hb : l[at_]! = b) (hB : (base = 192 ∧ lst = true ∧ 192 ≤ b) ∨ (base = 128 ∧ lst = false ∧ 128 ≤ b ∧ b < 192)) (hb8 : b < 256) (hk : b - base = k) (h55 : k ≤ 55) :
    headF ((l.take end_).drop at_) = if (if end_ - (at_ + 1) < k then 2 else if lst = false ∧ textCode ((l.drop (at_ + 1)).take k) ≠ (l.drop at_).take (1 + k) then 3 else 0) = 0 then .ok (lst, 1, k) else .error (if end_ - (at_ + 1) < k then 2 else if lst = false ∧ textCode ((l.drop (at_ + 1)).take k) ≠ (l.drop at_).take (1 + k) then 3 else 0) := by
  have hx : ((l.take end_).drop at_).length = end_ - at_ := by rw [List.length_drop, List.length_take]; omega
  have hx0 : ((l.take end_).drop at_)[0]! = b := by rw [get_room (j := 0) (by omega) he, Nat.add_zero, hb]
  unfold headF
  rw [if_neg (by omega), hx0, if_neg (by omega)]
  rcases hB with ⟨rfl, rfl, h1⟩ | ⟨rfl, rfl, h1, h2⟩
  · rw [if_neg (by omega), lenF_small (by rw [hx0]; omega), hx0, hx, hk]
    by_cases hr : end_ - at_ - 1 < k
    · have hr2 : end_ - (at_ + 1) < k := by omega
      rw [if_pos hr, if_pos hr2]
      simp
    · have hr2 : ¬ end_ - (at_ + 1) < k := by omega
      rw [if_neg hr, if_neg hr2]
      simp
  · rw [if_pos h2, lenF_small (by rw [hx0]; omega), hx0, hx, hk]
    by_cases hr : end_ - at_ - 1 < k
    · have hr2 : end_ - (at_ + 1) < k := by omega
      rw [if_pos hr, if_pos hr2]
      simp
    · have hr2 : ¬ end_ - (at_ + 1) < k := by omega
      rw [if_neg hr, if_neg hr2]
      simp only
      have ht : ((l.drop (at_ + 1)).take k).length = k := by rw [List.length_take, List.length_drop]; omega
      have hc := cut_cons (l := l) (at_ := at_) (n := k) (by omega)
      rw [hb] at hc
      by_cases h1k : k = 1 ∧ ((l.take end_).drop at_)[1]! < 128
      · rw [if_pos h1k]
        have hg : ((l.drop (at_ + 1)).take k)[0]! = ((l.take end_).drop at_)[1]! := by
          rw [get_room (j := 1) (by omega) he, getElem!_pos _ 0 (by omega), getElem!_pos l _ (by omega), List.getElem_take, List.getElem_drop]
        have e : textCode ((l.drop (at_ + 1)).take k) ≠ (l.drop at_).take (1 + k) := by
          rw [hc]
          unfold textCode
          rw [if_pos ⟨by rw [ht]; exact h1k.1, by rw [hg]; exact h1k.2⟩]
          intro h
          have := congrArg List.length h
          simp only [List.nil_append, List.length_cons] at this
          omega
        simp [e]
      · rw [if_neg h1k]
        have e : textCode ((l.drop (at_ + 1)).take k) = (l.drop at_).take (1 + k) := by
          rw [hc]
          unfold textCode headB
          rw [ht, if_neg, if_pos h55]
          · have hbk : (128 + k) % 256 = b := by omega
            rw [hbk]
            rfl
          · rintro ⟨q1, q2⟩
            refine h1k ⟨q1, ?_⟩
            rw [get_room (j := 1) (by omega) he]
            rw [getElem!_pos _ 0 (by omega), List.getElem_take, List.getElem_drop] at q2
            rw [getElem!_pos l _ (by omega)]
            simpa using q2
        simp [e]

/-- A text whose head is of several bytes is written so. -/
theorem text_long {l : List Nat} (hb : ∀ x ∈ l, x < 256) {at_ b k n : Nat} (h1 : 128 ≤ b) (h2 : b < 192) (hbb : l[at_]! = b) (hk : b - 128 = k) (h55 : 55 < k) (hn : numB ((l.drop (at_ + 1)).take (k - 55)) = n) (hn55 : 55 < n) (hz : l[at_ + 1]! ≠ 0) (hr : at_ + (k - 54) + n ≤ l.length) :
    textCode ((l.drop (at_ + (k - 54))).take n) = (l.drop at_).take (k - 54 + n) := by
  have ht : ((l.drop (at_ + (k - 54))).take n).length = n := by rw [List.length_take, List.length_drop]; omega
  have hdl : ((l.drop (at_ + 1)).take (k - 55)).length = k - 55 := by rw [List.length_take, List.length_drop]; omega
  have hE : bigE n = (l.drop (at_ + 1)).take (k - 55) := by
    rw [← hn]
    refine bigE_numB _ (fun x hx => hb x (List.mem_of_mem_drop (List.mem_of_mem_take hx))) (by omega) (fun _ => ?_)
    rw [getElem!_pos _ 0 (by omega), List.getElem_take, List.getElem_drop, ← getElem!_pos l _ (by omega)]
    simpa using hz
  unfold textCode headB
  rw [ht, if_neg (by omega), if_neg (by omega), hE, hdl, show (128 + 55 + (k - 55)) % 256 = b by omega]
  rw [show k - 54 + n = 1 + ((k - 55) + n) by omega, cut_cons (by omega), hbb, List.cons_append]
  refine congrArg (List.cons b) ?_
  rw [List.take_add, List.drop_drop, show at_ + 1 + (k - 55) = at_ + (k - 54) by omega]

theorem head_eq {l : List Nat} (hb : ∀ x ∈ l, x < 256) {at_ end_ : Nat} (he : end_ ≤ l.length) (hl : l.length ≤ 1000000) :
    headF ((l.take end_).drop at_) = if rdErr l at_ end_ = 0 then .ok ((hdS l at_ end_).1.1, (hdS l at_ end_).1.2.2, (hdS l at_ end_).1.2.1) else .error (rdErr l at_ end_) := by
  have hx : ((l.take end_).drop at_).length = end_ - at_ := by rw [List.length_drop, List.length_take]; omega
  by_cases h0 : end_ ≤ at_
  · have H : hdS l at_ end_ = ((false, 0, 0), 2) := by unfold hdS; rw [if_pos h0]
    have R := rdErr_of H
    rw [if_pos (by omega)] at R
    rw [R, H]
    unfold headF
    rw [if_pos (by omega)]
    simp
  · obtain ⟨b, hbb⟩ : ∃ b, l[at_]! = b := ⟨_, rfl⟩
    have hb8 : b < 256 := by
      rw [← hbb, getElem!_pos l at_ (by omega)]
      exact hb _ (List.getElem_mem _)
    have hx0 : ((l.take end_).drop at_)[0]! = b := by rw [get_room (j := 0) (by omega) he, Nat.add_zero, hbb]
    by_cases h128 : b < 128
    · have H : hdS l at_ end_ = ((false, 1, 0), 0) := by unfold hdS; rw [if_neg h0, hbb, if_pos h128]
      have R := rdErr_of H
      have e1 : (l.drop at_).take (0 + 1) = [b] := by
        have := cut_cons (l := l) (at_ := at_) (n := 0) (by omega)
        rw [hbb] at this
        simpa using this
      have e2 : textCode ((l.drop (at_ + 0)).take 1) = (l.drop at_).take (0 + 1) := by
        rw [Nat.add_zero, show (l.drop at_).take 1 = (l.drop at_).take (0 + 1) from rfl, e1]
        unfold textCode
        rw [if_pos ⟨rfl, by simpa using h128⟩]
        rfl
      have hr2 : ¬ end_ - (at_ + 0) < 1 := by omega
      have h3 : ¬ (false = false ∧ textCode ((l.drop (at_ + 0)).take 1) ≠ (l.drop at_).take (0 + 1)) := fun h => h.2 e2
      rw [if_neg (by omega), if_neg hr2, if_neg h3] at R
      rw [R, H]
      unfold headF
      rw [if_neg (by omega), hx0, if_pos h128]
      simp
    · obtain ⟨base, hbase⟩ : ∃ base, (if 192 ≤ b then 192 else 128) = base := ⟨_, rfl⟩
      obtain ⟨k, hk⟩ : ∃ k, b - base = k := ⟨_, rfl⟩
      obtain ⟨lst, hlst⟩ : ∃ lst, decide (192 ≤ b) = lst := ⟨_, rfl⟩
      have hB : (base = 192 ∧ lst = true ∧ 192 ≤ b) ∨ (base = 128 ∧ lst = false ∧ 128 ≤ b ∧ b < 192) := by
        rw [← hlst]
        by_cases h : 192 ≤ b
        · rw [if_pos h] at hbase
          exact .inl ⟨hbase.symm, decide_eq_true h, h⟩
        · rw [if_neg h] at hbase
          exact .inr ⟨hbase.symm, decide_eq_false h, by omega, by omega⟩
      by_cases h55 : k ≤ 55
      · have H : hdS l at_ end_ = ((lst, k, 1), 0) := by unfold hdS; rw [if_neg h0, hbb, if_neg h128, hbase, hk, if_pos h55, hlst]
        have R := rdErr_of H
        rw [if_neg (by omega)] at R
        rw [R, H]
        exact head_small he (by omega) hbb hB hb8 hk h55
      · have hd1 : (((l.take end_).drop at_).drop 1).take (k - 55) = ((l.take end_).drop (at_ + 1)).take (k - 55) := by rw [List.drop_drop]
        have hF0 : headF ((l.take end_).drop at_) = if (if end_ - at_ < k - 54 then 2 else if ((l.take end_).drop at_)[1]! = 0 ∨ numB ((((l.take end_).drop at_).drop 1).take (k - 55)) ≤ 55 then 3 else if end_ - at_ - (k - 54) < numB ((((l.take end_).drop at_).drop 1).take (k - 55)) then 2 else 0) = 0 then .ok (lst, k - 54, numB ((((l.take end_).drop at_).drop 1).take (k - 55))) else .error (if end_ - at_ < k - 54 then 2 else if ((l.take end_).drop at_)[1]! = 0 ∨ numB ((((l.take end_).drop at_).drop 1).take (k - 55)) ≤ 55 then 3 else if end_ - at_ - (k - 54) < numB ((((l.take end_).drop at_).drop 1).take (k - 55)) then 2 else 0) := by
          unfold headF
          rw [if_neg (by omega), hx0, if_neg h128]
          generalize hX : (l.take end_).drop at_ = X at hx hx0
          generalize hNN : numB ((X.drop 1).take (k - 55)) = N
          generalize hq : X[1]! = q
          have lg : ∀ kind, b - kind = k → lenF X kind = if end_ - at_ < k - 54 then .error false else if q = 0 ∨ N ≤ 55 then .error true else if end_ - at_ - (k - 54) < N then .error false else .ok (k - 54, N) := fun kind hkk => by
            rw [lenF_great (by rw [hx0, hkk]; exact h55), hx0, hkk, hx, hNN, hq]
          rcases hB with ⟨rfl, rfl, h1⟩ | ⟨rfl, rfl, h1, h2⟩
          · rw [if_neg (by omega), lg 192 hk]
            by_cases a1 : end_ - at_ < k - 54
            · simp [a1]
            · by_cases a2 : q = 0 ∨ N ≤ 55
              · simp [a1, a2]
              · by_cases a3 : end_ - at_ - (k - 54) < N
                · simp [a1, a2, a3]
                · simp [a1, a2, a3]
          · rw [if_pos h2, lg 128 hk]
            by_cases a1 : end_ - at_ < k - 54
            · simp [a1]
            · by_cases a2 : q = 0 ∨ N ≤ 55
              · simp [a1, a2]
              · have a4 : N ≠ 1 := fun h => a2 (.inr (by omega))
                by_cases a3 : end_ - at_ - (k - 54) < N
                · simp [a1, a2, a3]
                · simp [a1, a2, a3, a4]
        rw [hF0]
        clear hF0 hd1
        by_cases a1 : end_ - at_ < k - 54
        · have H : hdS l at_ end_ = ((lst, k, k - 54), 2) := by
            unfold hdS
            rw [if_neg h0, hbb, if_neg h128, hbase, hk, if_neg h55, if_pos (by omega), hlst]
          have R := rdErr_of H
          rw [if_pos (by omega)] at R
          rw [R, H, if_pos a1]
          simp
        · have hcut : (((l.take end_).drop at_).drop 1).take (k - 55) = (l.drop (at_ + 1)).take (k - 55) := cut_room (by omega)
          have hg1 : ((l.take end_).drop at_)[1]! = l[at_ + 1]! := get_room (j := 1) (by omega) he
          rw [hcut, hg1, if_neg a1]
          have hcn := capN_num ((l.drop (at_ + 1)).take (k - 55))
          obtain ⟨n, hn⟩ : ∃ n, numB ((l.drop (at_ + 1)).take (k - 55)) = n := ⟨_, rfl⟩
          obtain ⟨c, hc⟩ : ∃ c, capN ((l.drop (at_ + 1)).take (k - 55)) = c := ⟨_, rfl⟩
          obtain ⟨q, hq⟩ : ∃ q, l[at_ + 1]! = q := ⟨_, rfl⟩
          rw [hn, hc] at hcn
          rw [hn, hq]
          have a1' : ¬ end_ < at_ + (k - 54) := by omega
          by_cases a2 : q = 0 ∨ n ≤ 55
          · have a2' : q = 0 ∨ c ≤ 55 := by omega
            have H : hdS l at_ end_ = ((lst, c, k - 54), 3) := by
              unfold hdS
              rw [if_neg h0, hbb, if_neg h128, hbase, hk, if_neg h55, if_neg a1', hq, hc, if_pos a2', hlst]
            have R := rdErr_of H
            rw [if_pos (by omega)] at R
            rw [R, H, if_pos a2]
            simp
          · have a2' : ¬ (q = 0 ∨ c ≤ 55) := by omega
            have H : hdS l at_ end_ = ((lst, c, k - 54), 0) := by
              unfold hdS
              rw [if_neg h0, hbb, if_neg h128, hbase, hk, if_neg h55, if_neg a1', hq, hc, if_neg a2', hlst]
            have R := rdErr_of H
            rw [if_neg (by omega)] at R
            rw [if_neg a2]
            by_cases a3 : end_ - at_ - (k - 54) < n
            · have a3' : end_ - (at_ + (k - 54)) < c := by omega
              rw [if_pos a3'] at R
              rw [R, H, if_pos a3]
              simp
            · have hceq : c = n := by omega
              have a3' : ¬ end_ - (at_ + (k - 54)) < c := by omega
              subst hceq
              have hno : ¬ (lst = false ∧ textCode ((l.drop (at_ + (k - 54))).take c) ≠ (l.drop at_).take (k - 54 + c)) := by
                rintro ⟨hl0, hne⟩
                rcases hB with ⟨_, h, _⟩ | ⟨hb1, _, h1, h2⟩
                · rw [hl0] at h; cases h
                · subst hb1
                  exact hne (text_long hb h1 h2 hbb hk (by omega) hn (by omega) (by rw [hq]; omega) (by omega))
              rw [if_neg a3', if_neg hno] at R
              rw [R, H, if_neg a3]
end Go.Proofs.YtjiikjpnlgogfaaGreatDoor
