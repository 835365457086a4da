/-
  DecodeAccount and EncodeAccount of package twigs.
  Accounts and paths: what is accepted is the code of what is given. Plain facts.
  DecodeAccount of package twigs, exactly.
-/
import Derived.Test.YtoohdfiddbfacaaGreatDoorTeAccG
import Derived.Test.YtoohdfiddbfacaaGreatDoorTeEndG
import Derived.Deep.RegionHeld3
namespace Go.Proofs.YtoohdfiddbfacaaGreatDoor
open Go.RowKit
set_option maxRecDepth 100000
set_option maxHeartbeats 25600000
theorem tencacc (a : Acc) (ha : a.ok) (w : World) :
  Calls Tryz.prog 11 #[.agg (accL a).toArray] w fun e w' => e = .returned (.string (textB (encAcc a))) /\ Below w.heap.size w w' := by
 have b := Hid.hide (fun W => acc_encode a ha W)
 obtain ⟨A, c⟩ : ∃ A, (accL a).toArray = A := ⟨_, rfl⟩
 have g : A.size = 66 := by rw [<- c, List.size_toArray]; exact accL_length ha.2.2.1 ha.2.2.2.1
 rw [c] at b ⊢
 obtain ⟨t, h⟩ : ∃ t, textB (encAcc a) = t := ⟨_, rfl⟩
 rw [h] at b ⊢
 have d : ∀ W : World, (W.alloc (.cells A 47)).rangeAt W.heap.size 0 A.toList := fun W j u k => by
  rw [Nat.zero_add, World.cell?_alloc_new]
  simpa using k
 have i : (Tryz.prog.info? 47).map (·.size) = some A.toList.length := by rw [Array.length_toList, zeroA_size, g]
 clear c h
 go_enter Tryz.func11, Tryz.ntmps11
 go_wp2_with (first | (refine wpList_load_mid rfl 47 _ rfl w.heap.size 0 rfl A.toList _ (d w) Tryz.underlying47 rfl i ?_) | (go_at_call 25; refine (b.out _).mono ?_; rintro e l ⟨rfl, f⟩))
 go_ret
 exact ⟨rfl, Below.up f⟩
theorem mem_textCode {t : List Nat} {b : Nat} (h : b ∈ t) : b ∈ textCode t := by
 unfold textCode
 split
 ·exact h
 ·exact List.mem_append_right _ h
theorem text_of {y : It} (h : y.isList = false) : y.code = textCode y.txt := by
 cases y with
 | text a b t => rfl
 | list a b l => cases h
theorem num_back {t : List Nat} (hb : ∀ x ∈ t, x < 256) (h : numOK false t) : bigE (numB t) = t /\ numB t < 18446744073709551616 := by
 obtain ⟨_, a, c⟩ := h
 refine ⟨bigE_numB t hb a ?_, ?_⟩
 ·intro b d
  cases t with
  | nil => exact b rfl
  | cons x r =>
   have e : x = 0 := d
   subst e
   exact c ⟨by simp, rfl⟩
 ·have f := numB_lt t hb
  have g : 256 ^ t.length <= 256 ^ 8 := Nat.pow_le_pow_right (by decide) a
  have i : 256 ^ 8 = 18446744073709551616 := by decide
  omega
theorem readAcc_ok {y0 y1 y2 y3 : It} {a : Acc} (h : readAcc y0 y1 y2 y3 = .ok a) : numIt y0 /\ numIt y1 /\ hashIt y2 /\ hashIt y3 /\ a = ⟨numB y0.txt, numB y1.txt, y2.txt, y3.txt⟩ := by
 unfold readAcc at h
 split at h
 ·cases h
 ·split at h
  ·cases h
  ·split at h
   ·cases h
   ·split at h
    ·cases h
    ·rename_i h0 h1 h2 h3
     cases h
     exact ⟨Decidable.not_not.1 h0, Decidable.not_not.1 h1, Decidable.not_not.1 h2, Decidable.not_not.1 h3, rfl⟩
theorem readAcc_err {y0 y1 y2 y3 : It} {er : Er} (h : readAcc y0 y1 y2 y3 = .error er) : ∃ k, er = .place k (.base 13) := by
 unfold readAcc at h
 split at h
 ·cases h; exact ⟨_, rfl⟩
 ·split at h
  ·cases h; exact ⟨_, rfl⟩
  ·split at h
   ·cases h; exact ⟨_, rfl⟩
   ·split at h
    ·cases h; exact ⟨_, rfl⟩
    ·cases h
theorem accF_ok {l : List Nat} (hl : ∀ y ∈ l, y < 256) {a : Acc} (h : accF l = .ok a) : a.ok /\ encAcc a = l := by
 unfold accF at h
 cases hd : decF l with
 | error e => rw [hd] at h; cases h
 | ok x =>
  rw [hd] at h
  simp only at h
  split at h
  ·rename_i y0 y1 y2 y3 hx
   obtain ⟨m, n, f, g, rfl⟩ := readAcc_ok h
   obtain ⟨_, _, _, z⟩ := decF_ok hl hd
   cases x with
   | text fr en t => cases hx
   | list fr en its =>
    have i : its = [y0, y1, y2, y3] := hx
    subst i
    have s := text_of m.1
    have u := text_of n.1
    have v := text_of f.1
    have w := text_of g.1
    have d : listCode (y0.code ++ (y1.code ++ (y2.code ++ (y3.code ++ [])))) = l := z
    rw [s, u, v, w] at d
    have c : ∀ b ∈ textCode y0.txt ++ (textCode y1.txt ++ (textCode y2.txt ++ (textCode y3.txt ++ []))), b < 256 := fun b c => hl b (by rw [<- d]; unfold listCode; exact List.mem_append_right _ c)
    have o : ∀ b ∈ y0.txt, b < 256 := fun b h => c b (by simp only [List.mem_append]; exact .inl (mem_textCode h))
    have p : ∀ b ∈ y1.txt, b < 256 := fun b h => c b (by simp only [List.mem_append]; exact .inr (.inl (mem_textCode h)))
    have q : ∀ b ∈ y2.txt, b < 256 := fun b h => c b (by simp only [List.mem_append]; exact .inr (.inr (.inl (mem_textCode h))))
    have r : ∀ b ∈ y3.txt, b < 256 := fun b h => c b (by simp only [List.mem_append]; exact .inr (.inr (.inr (.inl (mem_textCode h)))))
    have j := num_back o ⟨rfl, m.2⟩
    have k := num_back p ⟨rfl, n.2⟩
    refine ⟨⟨j.2, k.2, f.2, g.2, q, r⟩, ?_⟩
    unfold encAcc accTexts
    simp only
    rw [j.1, k.1, <- d]
    simp only [List.append_assoc, List.append_nil]
  ·cases h
theorem accF_error {l : List Nat} (hl : ∀ y ∈ l, y < 256) {er : Er} (h : accF l = .error er) : er.simple /\ er.num ≠ 0 /\ er.node = 0 /\ er.proof = 0 := by
 have a : ∀ k, (Er.place k (.base 13)).simple /\ (Er.place k (.base 13)).num ≠ 0 /\ (Er.place k (.base 13)).node = 0 /\ (Er.place k (.base 13)).proof = 0 := fun k => ⟨(by decide : 13 ∈ nums), by simp [Er.num], rfl, rfl⟩
 unfold accF at h
 cases hd : decF l with
 | error e =>
  rw [hd] at h
  cases h
  obtain ⟨b, c, _, d, f⟩ := decF_err hl hd
  exact ⟨b, c, d, f⟩
 | ok x =>
  rw [hd] at h
  simp only at h
  split at h
  ·obtain ⟨k, rfl⟩ := readAcc_err h
   exact a k
  ·cases h
   exact a _
theorem pairs_nibs : ∀ l : List Nat, pairs (nibs l) = l
 | [] => rfl
 | x :: r => by
  show (x / 16 * 16 + x % 16) :: pairs (nibs r) = x :: r
  rw [pairs_nibs r]
  congr 1
  omega
theorem nibs_lt {l : List Nat} (hl : ∀ y ∈ l, y < 256) : ∀ y ∈ nibs l, y < 16 := by
 intro y c
 obtain ⟨x, b, a⟩ := List.mem_flatMap.1 c
 have := hl x b
 rcases List.mem_cons.1 a with rfl | h
 ·omega
 ·rcases List.mem_cons.1 h with rfl | h
  ·omega
  ·cases h
theorem unpackF_back {l : List Nat} (hl : ∀ y ∈ l, y < 256) {p : List Nat} {leaf : Bool} (h : unpackF l = some (p, leaf)) : (∀ y ∈ p, y < 16) /\ pathCode p leaf = l /\ p.length <= 2 * l.length := by
 cases l with
 | nil => cases h
 | cons c r =>
  have e : ∀ y ∈ r, y < 256 := fun y d => hl y (List.mem_cons_of_mem _ d)
  rw [unpackF_cons] at h
  split at h
  ·cases h
  ·split at h
   ·rename_i h3 h1
    cases h
    have a : ((c % 16) :: nibs r).length % 2 = 1 := by rw [List.length_cons, nibs_length]; omega
    refine ⟨?_, ?_, by simp only [List.length_cons, nibs_length]; omega⟩
    ·intro y d
     rcases List.mem_cons.1 d with rfl | d
     ·omega
     ·exact nibs_lt e y d
    ·unfold pathCode
     rw [a]
     show ((if decide (2 <= c / 16) = true then 32 else 0) + (16 + c % 16)) :: pairs (nibs r) = c :: r
     rw [pairs_nibs]
     congr 1
     by_cases b : 2 <= c / 16
     ·rw [decide_eq_true b, if_pos rfl]; omega
     ·rw [decide_eq_false b, if_neg (by decide)]; omega
   ·split at h
    ·rename_i h3 h1 h0
     cases h
     have a : (nibs r).length % 2 = 0 := by rw [nibs_length]; omega
     refine ⟨nibs_lt e, ?_, by simp only [List.length_cons, nibs_length]; omega⟩
     unfold pathCode
     rw [a]
     show ((if decide (2 <= c / 16) = true then 32 else 0) + 0) :: pairs (nibs r) = c :: r
     rw [pairs_nibs]
     congr 1
     by_cases b : 2 <= c / 16
     ·rw [decide_eq_true b, if_pos rfl]; omega
     ·rw [decide_eq_false b, if_neg (by decide)]; omega
    ·cases h
end Go.Proofs.YtoohdfiddbfacaaGreatDoor
