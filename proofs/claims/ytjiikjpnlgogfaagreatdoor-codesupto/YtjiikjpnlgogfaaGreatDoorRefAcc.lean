/-
  Package twigsref: EncodeAccount.
-/
import Derived.Test.YtjiikjpnlgogfaaGreatDoorRefG
import Derived.Test.YtjiikjpnlgogfaaGreatDoorAccH
import Derived.Test.YtjiikjpnlgogfaaGreatDoorSteady
import Derived.Test.YtjiikjpnlgogfaaGreatDoorWriG
namespace Go.Proofs.YtjiikjpnlgogfaaGreatDoor
open Go.RowKit

/-- What the operations of its one great region yield. -/
def raVals (a : Acc) (B : Nat) : List Value :=
  [.pointer (some ⟨B, 0, none⟩), .int .u64 (a.nonce : Int), .string (textB (bigE a.nonce)), .string (textB (accT1 a)),
   .pointer (some ⟨B, 1, none⟩), .int .u64 (a.bal : Int), .string (textB (bigE a.bal)), .string (textB (textCode (bigE a.bal))), .string (textB (accT2 a)),
   .pointer (some ⟨B, 2, none⟩), .agg (a.root.map encB).toArray, .string (textB a.root), .string (textB (textCode a.root)), .string (textB (accT3 a)),
   .pointer (some ⟨B, 34, none⟩), .agg (a.code.map encB).toArray, .string (textB a.code), .string (textB (textCode a.code)), .string (textB (accTexts a)),
   .string (textB (encAcc a)), .string (textB (encAcc a))]

theorem ra_step {w W w1 : World} {B : Nat} {L : List Value} (hS : Below w.heap.size w W ∧ B < W.heap.size ∧ W.rangeAt B 0 L) (hb : Below W.heap.size W w1) : Below w.heap.size w w1 ∧ B < w1.heap.size ∧ w1.rangeAt B 0 L :=
  ⟨hS.1.trans (hb.mono hS.1.size), Nat.lt_of_lt_of_le hS.2.1 hb.size, range_below hS.2.2 (hb.block _ hS.2.1)⟩
theorem ra_rng {W : World} {B : Nat} {a : Acc} (h : W.rangeAt B 0 (accL a)) (ha : a.ok) : W.rangeAt B 2 (a.root.map encB) ∧ W.rangeAt B 34 (a.code.map encB) := by
  constructor
  · intro j v hv
    have hj : j < a.root.length := by
      have := (List.getElem?_eq_some_iff.1 hv).1
      simpa using this
    have := h (2 + j) v (by
      unfold accL
      rw [show 2 + j = j + 1 + 1 by omega, List.getElem?_cons_succ, List.getElem?_cons_succ, List.getElem?_append_left (by simpa using hj)]
      exact hv)
    rwa [Nat.zero_add] at this
  · intro j v hv
    have := h (34 + j) v (by
      unfold accL
      rw [show 34 + j = (32 + j) + 1 + 1 by omega, List.getElem?_cons_succ, List.getElem?_cons_succ, List.getElem?_append_right (by rw [List.length_map, ha.2.2.1]; omega), List.length_map, ha.2.2.1, show 32 + j - 32 = j by omega]
      exact hv)
    rwa [Nat.zero_add] at this
theorem ra_text (l : List Nat) (hb : ∀ x ∈ l, x < 256) (hl : l.length ≤ 1000) (W : World) : Calls Tryz.prog 174 #[.string (textB l)] W fun e w' => e = .returned (.string (textB (textCode l))) ∧ Below W.heap.size W w' := by
  have h := rtext_any (textB l) W (by rw [textB_size]; omega)
  rw [bytesOf_textB hb] at h
  exact h
theorem ra_len {a : Acc} (ha : a.ok) : (accT1 a).length ≤ 17 ∧ (textCode (bigE a.bal)).length ≤ 17 ∧ (accT2 a).length ≤ 34 ∧ (textCode a.root).length ≤ 41 ∧ (accT3 a).length ≤ 75 ∧ (textCode a.code).length ≤ 41 ∧ (accTexts a).length ≤ 116 := by
  have t1 := textCode_length (bigE a.nonce)
  have t2 := textCode_length (bigE a.bal)
  have t3 := textCode_length a.root
  have t4 := textCode_length a.code
  have b1 := bigE_le a.nonce
  have b2 := bigE_le a.bal
  have h3 := ha.2.2.1
  have h4 := ha.2.2.2.1
  unfold accT1 accT2 accT3 accTexts
  simp only [List.length_append]
  omega
theorem ra_byte {a : Acc} (ha : a.ok) : ∀ b ∈ accTexts a, b < 256 := by
  have hh : ∀ k n, ∀ b ∈ headB k n, b < 256 := by
    intro k n b hb
    unfold headB at hb
    split at hb
    · rw [List.mem_singleton.1 hb]; omega
    · rcases List.mem_cons.1 hb with rfl | hb
      · omega
      · exact bigE_byte n b hb
  have ht : ∀ t : List Nat, (∀ b ∈ t, b < 256) → ∀ b ∈ textCode t, b < 256 := by
    intro t h b hb
    unfold textCode at hb
    rcases List.mem_append.1 hb with hb | hb
    · split at hb
      · cases hb
      · exact hh _ _ b hb
    · exact h b hb
  intro b hb
  unfold accTexts at hb
  simp only [List.mem_append] at hb
  rcases hb with ((hb | hb) | hb) | hb
  · exact ht _ (bigE_byte _) b hb
  · exact ht _ (bigE_byte _) b hb
  · exact ht _ ha.2.2.2.2.1 b hb
  · exact ht _ ha.2.2.2.2.2 b hb
theorem ra_list {a : Acc} (ha : a.ok) (W : World) : Calls Tryz.prog 173 #[.string (textB (accTexts a))] W fun e w' => e = .returned (.string (textB (encAcc a))) ∧ Below W.heap.size W w' := by
  have h := rlist_any (textB (accTexts a)) W (by rw [textB_size]; have := (ra_len ha).2.2.2.2.2.2; omega)
  rw [bytesOf_textB (ra_byte ha)] at h
  exact h

set_option maxRecDepth 100000 in
set_option maxHeartbeats 6400000 in
theorem rencacc_any (a : Acc) (ha : a.ok) (w : World) :
    Calls Tryz.prog 120 #[.agg (accL a).toArray] w fun e w' => e = .returned (.string (textB (encAcc a))) ∧ Below w.heap.size w w' := by
  have HS0 : Hid (∀ t, (w.alloc (.cells (accL a).toArray t)).rangeAt w.heap.size 0 (accL a)) := fun t j v hv => by
    rw [Nat.zero_add, World.cell?_alloc_new]
    simpa using hv
  generalize hA : (accL a).toArray = A at HS0 ⊢
  go_enter Tryz.func120, Tryz.ntmps120
  go_wp2_with fail
  refine wp_region_any (by kernel_rfl) ?_
  change wpAny _ _ _ _ _ _ _ (World.drew _)
  obtain ⟨f, hf⟩ : ∃ f : Nat → Value, f = fun i => (raVals a w.heap.size).getD i undef := ⟨_, rfl⟩
  refine wpAny_all_steady _ { tmps := #[.agg A, .pointer (some ⟨w.heap.size, 0, none⟩), f 20, f 0, f 1, f 2, f 3, f 4, f 5, f 6, f 7, f 8, f 9, f 10, f 11, f 12, f 13, f 14, f 15, f 16, f 17, f 18, f 19], defers := [] } f (fun W => Below w.heap.size w W ∧ w.heap.size < W.heap.size ∧ W.rangeAt w.heap.size 0 (accL a)) (by kernel_rfl) (by kernel_rfl) ?_ _ ?_ (by kernel_rfl) ?_
  · intro i o ho listed b W hsat hdeps hS
    have hi : i < 21 := (Array.getElem?_eq_some_iff.1 ho).1
    have t1 : b.tmps[1]? = some (.pointer (some ⟨w.heap.size, 0, none⟩)) := (hsat.rest 1 (fun i _ => noDst_of (by kernel_rfl) i)).trans rfl
    match i, hi with
    | 0, _ =>
      obtain rfl := Option.some.inj ho
      have hv : f 0 = .pointer (some ⟨w.heap.size, 0, none⟩) := by rw [hf]; rfl
      rw [hv]
      clear ho hf hdeps hsat
      go_simp
    | 1, _ =>
      obtain rfl := Option.some.inj ho
      have hv : f 1 = .int .u64 (a.nonce : Int) := by rw [hf]; rfl
      have v0 : f 0 = .pointer (some ⟨w.heap.size, 0, none⟩) := by rw [hf]; rfl
      have t3 : b.tmps[3]? = some (.pointer (some ⟨w.heap.size, 0, none⟩)) := (hsat.done 0 3 (hdeps ⟨0, .data⟩ (by simp) rfl) rfl (by simp)).trans (congrArg some v0)
      rw [hv]
      clear ho hf hdeps hsat
      have c0 := hS.2.2 0 _ (by rfl)
      rw [Nat.zero_add] at c0
      go_simp
    | 2, _ =>
      obtain rfl := Option.some.inj ho
      have hv : f 2 = .string (textB (bigE a.nonce)) := by rw [hf]; rfl
      have v1 : f 1 = .int .u64 (a.nonce : Int) := by rw [hf]; rfl
      have t4 : b.tmps[4]? = some (.int .u64 (a.nonce : Int)) := (hsat.done 1 4 (hdeps ⟨1, .data⟩ (by simp) rfl) rfl (by simp)).trans (congrArg some v1)
      rw [hv]
      clear ho hf hdeps hsat
      go_simp
      go_at_call 175
      refine (big_any a.nonce ha.1 W).mono ?_
      rintro e w1 ⟨rfl, hb1⟩
      exact ⟨rfl, ra_step hS hb1⟩
    | 3, _ =>
      obtain rfl := Option.some.inj ho
      have hv : f 3 = .string (textB (accT1 a)) := by rw [hf]; rfl
      have v2 : f 2 = .string (textB (bigE a.nonce)) := by rw [hf]; rfl
      have t5 : b.tmps[5]? = some (.string (textB (bigE a.nonce))) := (hsat.done 2 5 (hdeps ⟨2, .data⟩ (by simp) rfl) rfl (by simp)).trans (congrArg some v2)
      rw [hv]
      clear ho hf hdeps hsat
      go_simp
      go_at_call 174
      refine (ra_text (bigE a.nonce) (bigE_byte _) (by have := bigE_le a.nonce; omega) W).mono ?_
      rintro e w1 ⟨rfl, hb1⟩
      exact ⟨rfl, ra_step hS hb1⟩
    | 4, _ =>
      obtain rfl := Option.some.inj ho
      have hv : f 4 = .pointer (some ⟨w.heap.size, 1, none⟩) := by rw [hf]; rfl
      rw [hv]
      clear ho hf hdeps hsat
      go_simp
    | 5, _ =>
      obtain rfl := Option.some.inj ho
      have hv : f 5 = .int .u64 (a.bal : Int) := by rw [hf]; rfl
      have v4 : f 4 = .pointer (some ⟨w.heap.size, 1, none⟩) := by rw [hf]; rfl
      have t7 : b.tmps[7]? = some (.pointer (some ⟨w.heap.size, 1, none⟩)) := (hsat.done 4 7 (hdeps ⟨4, .data⟩ (by simp) rfl) rfl (by simp)).trans (congrArg some v4)
      rw [hv]
      clear ho hf hdeps hsat
      have c0 := hS.2.2 1 _ (by rfl)
      rw [Nat.zero_add] at c0
      go_simp
    | 6, _ =>
      obtain rfl := Option.some.inj ho
      have hv : f 6 = .string (textB (bigE a.bal)) := by rw [hf]; rfl
      have v5 : f 5 = .int .u64 (a.bal : Int) := by rw [hf]; rfl
      have t8 : b.tmps[8]? = some (.int .u64 (a.bal : Int)) := (hsat.done 5 8 (hdeps ⟨5, .data⟩ (by simp) rfl) rfl (by simp)).trans (congrArg some v5)
      rw [hv]
      clear ho hf hdeps hsat
      go_simp
      go_at_call 175
      refine (big_any a.bal ha.2.1 W).mono ?_
      rintro e w1 ⟨rfl, hb1⟩
      exact ⟨rfl, ra_step hS hb1⟩
    | 7, _ =>
      obtain rfl := Option.some.inj ho
      have hv : f 7 = .string (textB (textCode (bigE a.bal))) := by rw [hf]; rfl
      have v6 : f 6 = .string (textB (bigE a.bal)) := by rw [hf]; rfl
      have t9 : b.tmps[9]? = some (.string (textB (bigE a.bal))) := (hsat.done 6 9 (hdeps ⟨6, .data⟩ (by simp) rfl) rfl (by simp)).trans (congrArg some v6)
      rw [hv]
      clear ho hf hdeps hsat
      go_simp
      go_at_call 174
      refine (ra_text (bigE a.bal) (bigE_byte _) (by have := bigE_le a.bal; omega) W).mono ?_
      rintro e w1 ⟨rfl, hb1⟩
      exact ⟨rfl, ra_step hS hb1⟩
    | 8, _ =>
      obtain rfl := Option.some.inj ho
      have hv : f 8 = .string (textB (accT2 a)) := by rw [hf]; rfl
      have v3 : f 3 = .string (textB (accT1 a)) := by rw [hf]; rfl
      have t6 : b.tmps[6]? = some (.string (textB (accT1 a))) := (hsat.done 3 6 (hdeps ⟨3, .data⟩ (by simp) rfl) rfl (by simp)).trans (congrArg some v3)
      have v7 : f 7 = .string (textB (textCode (bigE a.bal))) := by rw [hf]; rfl
      have t10 : b.tmps[10]? = some (.string (textB (textCode (bigE a.bal)))) := (hsat.done 7 10 (hdeps ⟨7, .data⟩ (by simp) rfl) rfl (by simp)).trans (congrArg some v7)
      rw [hv]
      clear ho hf hdeps hsat
      have hadd : Sem.run Tryz.prog (Op.stringOp .add (textB (accT1 a)) (textB (textCode (bigE a.bal)))) W = .ok (.string (textB (accT2 a))) W := add_text _ _ (by have := ra_len ha; omega) W
      go_simp
    | 9, _ =>
      obtain rfl := Option.some.inj ho
      have hv : f 9 = .pointer (some ⟨w.heap.size, 2, none⟩) := by rw [hf]; rfl
      rw [hv]
      clear ho hf hdeps hsat
      go_simp
    | 10, _ =>
      obtain rfl := Option.some.inj ho
      have hv : f 10 = .agg (a.root.map encB).toArray := by rw [hf]; rfl
      have v9 : f 9 = .pointer (some ⟨w.heap.size, 2, none⟩) := by rw [hf]; rfl
      have t12 : b.tmps[12]? = some (.pointer (some ⟨w.heap.size, 2, none⟩)) := (hsat.done 9 12 (hdeps ⟨9, .data⟩ (by simp) rfl) rfl (by simp)).trans (congrArg some v9)
      rw [hv]
      clear ho hf hdeps hsat
      refine wp_load_mid 34 (.tmp 12) rfl w.heap.size 2 (by simp only [Act.eval, Array.getD_eq_getD_getElem?, t12, Option.getD_some]) (a.root.map encB) _ (ra_rng hS.2.2 ha).1 Tryz.underlying34 rfl (by rw [size28, List.length_map]; rw [ha.2.2.1]) ?_
      exact ⟨rfl, hS⟩
    | 11, _ =>
      obtain rfl := Option.some.inj ho
      have hv : f 11 = .string (textB a.root) := by rw [hf]; rfl
      have v10 : f 10 = .agg (a.root.map encB).toArray := by rw [hf]; rfl
      have t13 : b.tmps[13]? = some (.agg (a.root.map encB).toArray) := (hsat.done 10 13 (hdeps ⟨10, .data⟩ (by simp) rfl) rfl (by simp)).trans (congrArg some v10)
      rw [hv]
      clear ho hf hdeps hsat
      go_simp
      go_at_call 176
      refine (letters_any a.root ha.2.2.1 W).mono ?_
      rintro e w1 ⟨rfl, hb1⟩
      exact ⟨rfl, ra_step hS hb1⟩
    | 12, _ =>
      obtain rfl := Option.some.inj ho
      have hv : f 12 = .string (textB (textCode a.root)) := by rw [hf]; rfl
      have v11 : f 11 = .string (textB a.root) := by rw [hf]; rfl
      have t14 : b.tmps[14]? = some (.string (textB a.root)) := (hsat.done 11 14 (hdeps ⟨11, .data⟩ (by simp) rfl) rfl (by simp)).trans (congrArg some v11)
      rw [hv]
      clear ho hf hdeps hsat
      go_simp
      go_at_call 174
      refine (ra_text a.root ha.2.2.2.2.1 (by have := ha.2.2.1; omega) W).mono ?_
      rintro e w1 ⟨rfl, hb1⟩
      exact ⟨rfl, ra_step hS hb1⟩
    | 13, _ =>
      obtain rfl := Option.some.inj ho
      have hv : f 13 = .string (textB (accT3 a)) := by rw [hf]; rfl
      have v8 : f 8 = .string (textB (accT2 a)) := by rw [hf]; rfl
      have t11 : b.tmps[11]? = some (.string (textB (accT2 a))) := (hsat.done 8 11 (hdeps ⟨8, .data⟩ (by simp) rfl) rfl (by simp)).trans (congrArg some v8)
      have v12 : f 12 = .string (textB (textCode a.root)) := by rw [hf]; rfl
      have t15 : b.tmps[15]? = some (.string (textB (textCode a.root))) := (hsat.done 12 15 (hdeps ⟨12, .data⟩ (by simp) rfl) rfl (by simp)).trans (congrArg some v12)
      rw [hv]
      clear ho hf hdeps hsat
      have hadd : Sem.run Tryz.prog (Op.stringOp .add (textB (accT2 a)) (textB (textCode a.root))) W = .ok (.string (textB (accT3 a))) W := add_text _ _ (by have := ra_len ha; omega) W
      go_simp
    | 14, _ =>
      obtain rfl := Option.some.inj ho
      have hv : f 14 = .pointer (some ⟨w.heap.size, 34, none⟩) := by rw [hf]; rfl
      rw [hv]
      clear ho hf hdeps hsat
      go_simp
    | 15, _ =>
      obtain rfl := Option.some.inj ho
      have hv : f 15 = .agg (a.code.map encB).toArray := by rw [hf]; rfl
      have v14 : f 14 = .pointer (some ⟨w.heap.size, 34, none⟩) := by rw [hf]; rfl
      have t17 : b.tmps[17]? = some (.pointer (some ⟨w.heap.size, 34, none⟩)) := (hsat.done 14 17 (hdeps ⟨14, .data⟩ (by simp) rfl) rfl (by simp)).trans (congrArg some v14)
      rw [hv]
      clear ho hf hdeps hsat
      refine wp_load_mid 34 (.tmp 17) rfl w.heap.size 34 (by simp only [Act.eval, Array.getD_eq_getD_getElem?, t17, Option.getD_some]) (a.code.map encB) _ (ra_rng hS.2.2 ha).2 Tryz.underlying34 rfl (by rw [size28, List.length_map]; rw [ha.2.2.2.1]) ?_
      exact ⟨rfl, hS⟩
    | 16, _ =>
      obtain rfl := Option.some.inj ho
      have hv : f 16 = .string (textB a.code) := by rw [hf]; rfl
      have v15 : f 15 = .agg (a.code.map encB).toArray := by rw [hf]; rfl
      have t18 : b.tmps[18]? = some (.agg (a.code.map encB).toArray) := (hsat.done 15 18 (hdeps ⟨15, .data⟩ (by simp) rfl) rfl (by simp)).trans (congrArg some v15)
      rw [hv]
      clear ho hf hdeps hsat
      go_simp
      go_at_call 176
      refine (letters_any a.code ha.2.2.2.1 W).mono ?_
      rintro e w1 ⟨rfl, hb1⟩
      exact ⟨rfl, ra_step hS hb1⟩
    | 17, _ =>
      obtain rfl := Option.some.inj ho
      have hv : f 17 = .string (textB (textCode a.code)) := by rw [hf]; rfl
      have v16 : f 16 = .string (textB a.code) := by rw [hf]; rfl
      have t19 : b.tmps[19]? = some (.string (textB a.code)) := (hsat.done 16 19 (hdeps ⟨16, .data⟩ (by simp) rfl) rfl (by simp)).trans (congrArg some v16)
      rw [hv]
      clear ho hf hdeps hsat
      go_simp
      go_at_call 174
      refine (ra_text a.code ha.2.2.2.2.2 (by have := ha.2.2.2.1; omega) W).mono ?_
      rintro e w1 ⟨rfl, hb1⟩
      exact ⟨rfl, ra_step hS hb1⟩
    | 18, _ =>
      obtain rfl := Option.some.inj ho
      have hv : f 18 = .string (textB (accTexts a)) := by rw [hf]; rfl
      have v13 : f 13 = .string (textB (accT3 a)) := by rw [hf]; rfl
      have t16 : b.tmps[16]? = some (.string (textB (accT3 a))) := (hsat.done 13 16 (hdeps ⟨13, .data⟩ (by simp) rfl) rfl (by simp)).trans (congrArg some v13)
      have v17 : f 17 = .string (textB (textCode a.code)) := by rw [hf]; rfl
      have t20 : b.tmps[20]? = some (.string (textB (textCode a.code))) := (hsat.done 17 20 (hdeps ⟨17, .data⟩ (by simp) rfl) rfl (by simp)).trans (congrArg some v17)
      rw [hv]
      clear ho hf hdeps hsat
      have hadd : Sem.run Tryz.prog (Op.stringOp .add (textB (accT3 a)) (textB (textCode a.code))) W = .ok (.string (textB (accTexts a))) W := add_text _ _ (by have := ra_len ha; omega) W
      go_simp
    | 19, _ =>
      obtain rfl := Option.some.inj ho
      have hv : f 19 = .string (textB (encAcc a)) := by rw [hf]; rfl
      have v18 : f 18 = .string (textB (accTexts a)) := by rw [hf]; rfl
      have t21 : b.tmps[21]? = some (.string (textB (accTexts a))) := (hsat.done 18 21 (hdeps ⟨18, .data⟩ (by simp) rfl) rfl (by simp)).trans (congrArg some v18)
      rw [hv]
      clear ho hf hdeps hsat
      go_simp
      go_at_call 173
      refine (ra_list ha W).mono ?_
      rintro e w1 ⟨rfl, hb1⟩
      exact ⟨rfl, ra_step hS hb1⟩
    | 20, _ =>
      obtain rfl := Option.some.inj ho
      have hv : f 20 = .string (textB (encAcc a)) := by rw [hf]; rfl
      have v19 : f 19 = .string (textB (encAcc a)) := by rw [hf]; rfl
      have t22 : b.tmps[22]? = some (.string (textB (encAcc a))) := (hsat.done 19 22 (hdeps ⟨19, .data⟩ (by simp) rfl) rfl (by simp)).trans (congrArg some v19)
      rw [hv]
      clear ho hf hdeps hsat
      go_simp
    | n + 21, h => omega
  · exact ⟨((Below.refl _ _).alloc (Nat.le_refl _) _).drew, by simp, HS0.out _⟩
  · rename_i K hK
    rintro W ⟨hb, _, _⟩
    have A1 : Aside (Below w.heap.size w W) := hb
    have h20 : f 20 = .string (textB (encAcc a)) := by rw [hf]; rfl
    clear hb hf
    change K _ _
    refine hK _ _ ?_
    rw [h20]
    go_wp2
    go_ret
    exact ⟨rfl, A1.out⟩
end Go.Proofs.YtjiikjpnlgogfaaGreatDoor
