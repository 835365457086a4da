/-
  DecodeAccount and EncodeAccount of package twigs.
  Accounts and paths: what is accepted is the code of what is given. Plain facts.
  DecodeAccount of package twigs, exactly.
-/
import Derived.Test.YtjiikjpnlgogfaaGreatDoorSgAccG
import Derived.Test.YtjiikjpnlgogfaaGreatDoorSgEndG
import Derived.Deep.RegionHeld3
namespace Go.Proofs.YtjiikjpnlgogfaaGreatDoor
open Go.RowKit
theorem tencacc (a : Acc) (ha : a.ok) (w : World) :
  Calls Tryz.prog 41 #[.agg (accL a).toArray] w fun e w' => e = .returned (.string (textB (encAcc a))) ∧ Below w.heap.size w w' := by
 have HE := Hid.hide (fun W => acc_encode a ha W)
 obtain ⟨A, hA⟩ : ∃ A, (accL a).toArray = A := ⟨_, rfl⟩
 have hsz : A.size = 66 := by rw [← hA, List.size_toArray]; exact accL_length ha.2.2.1 ha.2.2.2.1
 rw [hA] at HE ⊢
 obtain ⟨t, ht⟩ : ∃ t, textB (encAcc a) = t := ⟨_, rfl⟩
 rw [ht] at HE ⊢
 have hrow : ∀ W : World, (W.alloc (.cells A 85)).rangeAt W.heap.size 0 A.toList := fun W j u hu => by
  rw [Nat.zero_add, World.cell?_alloc_new]
  simpa using hu
 have hzL : (Tryz.prog.info? 85).map (·.size) = some A.toList.length := by rw [Array.length_toList, zeroA_size, hsz]
 clear hA ht
 go_enter Tryz.func41, Tryz.ntmps41
 go_wp2_with (first | (refine wpList_load_mid rfl 85 _ rfl w.heap.size 0 rfl A.toList _ (hrow w) Tryz.underlying85 rfl hzL ?_) | (go_at_call 61; refine (HE.out _).mono ?_; rintro e w1 ⟨rfl, hb1⟩))
 go_ret
 exact ⟨rfl, Below.up hb1⟩
end Go.Proofs.YtjiikjpnlgogfaaGreatDoor
namespace Go.Proofs.YtjiikjpnlgogfaaGreatDoor
open Go.RowKit
theorem mem_textCode {t : List Nat} {b : Nat} (h : b ∈ t) : b ∈ textCode t := by
 unfold textCode
 split
 ·exact h
 ·exact List.mem_append_right _ h
theorem text_of {y : It} (h : y.isList = false) : y.code = textCode y.txt := by
 cases y with
 | text a b t => rfl
 | list a b l => cases h
theorem num_back {t : List Nat} (hb : ∀ x ∈ t, x < 256) (h : numOK false t) : bigE (numB t) = t ∧ numB t < 18446744073709551616 := by
 obtain ⟨_, h8, h0⟩ := h
 refine ⟨bigE_numB t hb h8 ?_, ?_⟩
 ·intro hne he
  cases t with
  | nil => exact hne rfl
  | cons x r =>
   have hx : x = 0 := he
   subst hx
   exact h0 ⟨by simp, rfl⟩
 ·have h1 := numB_lt t hb
  have h2 : 256 ^ t.length ≤ 256 ^ 8 := Nat.pow_le_pow_right (by decide) h8
  have h3 : 256 ^ 8 = 18446744073709551616 := by decide
  omega
theorem readAcc_ok {y0 y1 y2 y3 : It} {a : Acc} (h : readAcc y0 y1 y2 y3 = .ok a) : numIt y0 ∧ numIt y1 ∧ hashIt y2 ∧ hashIt y3 ∧ a = ⟨numB y0.txt, numB y1.txt, y2.txt, y3.txt⟩ := by
 unfold readAcc at h
 split at h
 ·cases h
 ·split at h
  ·cases h
  ·split at h
   ·cases h
   ·split at h
    ·cases h
    ·rename_i h0 h1 h2 h3
     cases h
     exact ⟨Decidable.not_not.1 h0, Decidable.not_not.1 h1, Decidable.not_not.1 h2, Decidable.not_not.1 h3, rfl⟩
theorem readAcc_err {y0 y1 y2 y3 : It} {er : Er} (h : readAcc y0 y1 y2 y3 = .error er) : ∃ k, er = .place k (.base 13) := by
 unfold readAcc at h
 split at h
 ·cases h; exact ⟨_, rfl⟩
 ·split at h
  ·cases h; exact ⟨_, rfl⟩
  ·split at h
   ·cases h; exact ⟨_, rfl⟩
   ·split at h
    ·cases h; exact ⟨_, rfl⟩
    ·cases h
theorem accF_ok {l : List Nat} (hl : ∀ y ∈ l, y < 256) {a : Acc} (h : accF l = .ok a) : a.ok ∧ encAcc a = l := by
 unfold accF at h
 cases hd : decF l with
 | error e => rw [hd] at h; cases h
 | ok x =>
  rw [hd] at h
  simp only at h
  split at h
  ·rename_i y0 y1 y2 y3 hx
   obtain ⟨n0, n1, h2, h3, rfl⟩ := readAcc_ok h
   obtain ⟨_, _, _, hc⟩ := decF_ok hl hd
   cases x with
   | text fr en t => cases hx
   | list fr en its =>
    have hx' : its = [y0, y1, y2, y3] := hx
    subst hx'
    have e0 := text_of n0.1
    have e1 := text_of n1.1
    have e2 := text_of h2.1
    have e3 := text_of h3.1
    have hc' : listCode (y0.code ++ (y1.code ++ (y2.code ++ (y3.code ++ [])))) = l := hc
    rw [e0, e1, e2, e3] at hc'
    have hb : ∀ b ∈ textCode y0.txt ++ (textCode y1.txt ++ (textCode y2.txt ++ (textCode y3.txt ++ []))), b < 256 := fun b hb => hl b (by rw [← hc']; unfold listCode; exact List.mem_append_right _ hb)
    have b0 : ∀ b ∈ y0.txt, b < 256 := fun b h => hb b (by simp only [List.mem_append]; exact .inl (mem_textCode h))
    have b1 : ∀ b ∈ y1.txt, b < 256 := fun b h => hb b (by simp only [List.mem_append]; exact .inr (.inl (mem_textCode h)))
    have b2 : ∀ b ∈ y2.txt, b < 256 := fun b h => hb b (by simp only [List.mem_append]; exact .inr (.inr (.inl (mem_textCode h))))
    have b3 : ∀ b ∈ y3.txt, b < 256 := fun b h => hb b (by simp only [List.mem_append]; exact .inr (.inr (.inr (.inl (mem_textCode h)))))
    have k0 := num_back b0 ⟨rfl, n0.2⟩
    have k1 := num_back b1 ⟨rfl, n1.2⟩
    refine ⟨⟨k0.2, k1.2, h2.2, h3.2, b2, b3⟩, ?_⟩
    unfold encAcc accTexts
    simp only
    rw [k0.1, k1.1, ← hc']
    simp only [List.append_assoc, List.append_nil]
  ·cases h
theorem accF_error {l : List Nat} (hl : ∀ y ∈ l, y < 256) {er : Er} (h : accF l = .error er) : er.simple ∧ er.num ≠ 0 ∧ er.node = 0 ∧ er.proof = 0 := by
 have h13 : ∀ k, (Er.place k (.base 13)).simple ∧ (Er.place k (.base 13)).num ≠ 0 ∧ (Er.place k (.base 13)).node = 0 ∧ (Er.place k (.base 13)).proof = 0 := fun k => ⟨(by decide : 13 ∈ nums), by simp [Er.num], rfl, rfl⟩
 unfold accF at h
 cases hd : decF l with
 | error e =>
  rw [hd] at h
  cases h
  obtain ⟨q1, q2, _, q4, q5⟩ := decF_err hl hd
  exact ⟨q1, q2, q4, q5⟩
 | ok x =>
  rw [hd] at h
  simp only at h
  split at h
  ·obtain ⟨k, rfl⟩ := readAcc_err h
   exact h13 k
  ·cases h
   exact h13 _
theorem pairs_nibs : ∀ l : List Nat, pairs (nibs l) = l
 | [] => rfl
 | x :: r => by
  show (x / 16 * 16 + x % 16) :: pairs (nibs r) = x :: r
  rw [pairs_nibs r]
  congr 1
  omega
theorem nibs_lt {l : List Nat} (hl : ∀ y ∈ l, y < 256) : ∀ y ∈ nibs l, y < 16 := by
 intro y hy
 obtain ⟨x, hx, hxy⟩ := List.mem_flatMap.1 hy
 have := hl x hx
 rcases List.mem_cons.1 hxy with rfl | h
 ·omega
 ·rcases List.mem_cons.1 h with rfl | h
  ·omega
  ·cases h
theorem unpackF_back {l : List Nat} (hl : ∀ y ∈ l, y < 256) {p : List Nat} {leaf : Bool} (h : unpackF l = some (p, leaf)) : (∀ y ∈ p, y < 16) ∧ pathCode p leaf = l ∧ p.length ≤ 2 * l.length := by
 cases l with
 | nil => cases h
 | cons c r =>
  have hr : ∀ y ∈ r, y < 256 := fun y hy => hl y (List.mem_cons_of_mem _ hy)
  rw [unpackF_cons] at h
  split at h
  ·cases h
  ·split at h
   ·rename_i h3 h1
    cases h
    have hlen : ((c % 16) :: nibs r).length % 2 = 1 := by rw [List.length_cons, nibs_length]; omega
    refine ⟨?_, ?_, by simp only [List.length_cons, nibs_length]; omega⟩
    ·intro y hy
     rcases List.mem_cons.1 hy with rfl | hy
     ·omega
     ·exact nibs_lt hr y hy
    ·unfold pathCode
     rw [hlen]
     show ((if decide (2 ≤ c / 16) = true then 32 else 0) + (16 + c % 16)) :: pairs (nibs r) = c :: r
     rw [pairs_nibs]
     congr 1
     by_cases h2 : 2 ≤ c / 16
     ·rw [decide_eq_true h2, if_pos rfl]; omega
     ·rw [decide_eq_false h2, if_neg (by decide)]; omega
   ·split at h
    ·rename_i h3 h1 h0
     cases h
     have hlen : (nibs r).length % 2 = 0 := by rw [nibs_length]; omega
     refine ⟨nibs_lt hr, ?_, by simp only [List.length_cons, nibs_length]; omega⟩
     unfold pathCode
     rw [hlen]
     show ((if decide (2 ≤ c / 16) = true then 32 else 0) + 0) :: pairs (nibs r) = c :: r
     rw [pairs_nibs]
     congr 1
     by_cases h2 : 2 ≤ c / 16
     ·rw [decide_eq_true h2, if_pos rfl]; omega
     ·rw [decide_eq_false h2, if_neg (by decide)]; omega
    ·cases h
end Go.Proofs.YtjiikjpnlgogfaaGreatDoor
namespace Go.Proofs.YtjiikjpnlgogfaaGreatDoor
open Go.RowKit
end Go.Proofs.YtjiikjpnlgogfaaGreatDoor
