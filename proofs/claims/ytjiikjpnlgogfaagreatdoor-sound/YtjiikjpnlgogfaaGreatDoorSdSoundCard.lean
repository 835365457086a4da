/-
  Proved: for every two texts, every three numbers and every row of texts, the call of twigskeep.Sound at the named commit returns true and leaves its arguments as they were: whatever proof is accepted for a map's root, its answer is the map's own, or Extract gives two different texts with one digest.
  Conditions: the listed package-level variables hold what the program's text lays (the card ties them).
-/
import Derived.Test.YtjiikjpnlgogfaaGreatDoorSdSoW
import Derived.Test.YtjiikjpnlgogfaaGreatDoorSdCdG
import Derived.Test.YtjiikjpnlgogfaaGreatDoorCards
import Derived.Test.YtjiikjpnlgogfaaGreatDoorTie
namespace Go.Proofs.YtjiikjpnlgogfaaGreatDoor
open Go.ChangeShapes Go.WideShapes Go.ChangeAt Go.RowKit
abbrev argsW : Array Value := #[.string ⟨#[]⟩, .string ⟨#[]⟩, .int .i64 0, .int .i64 0, .int .i64 0, .slice none 0 0]
theorem laid_met (os : Os) : laidMetH Tryz.prog Rows.soundRow.laid ((laidWorld os).forCall (fun _ _ => 0) ⟨#[], argsW, []⟩).memory :=
 laidMetH_of_parts (laidMet_of_run' 8 (by kernel_rfl) (by kernel_rfl)) (by kernel_rfl)
theorem reads (os : Os) {H : Type} (enc : TypeId × Value → H) : ∃ places, DataW.whole enc Tryz.prog ((laidWorld os).forCall (fun _ _ => 0) ⟨#[], argsW, []⟩).memory Tryz.f10.params.toList Rows.soundSpec.vars false argsW.toList 8 = some ([.lit (.string []), .lit (.string []), .lit (.int .i64 0), .lit (.int .i64 0), .lit (.int .i64 0), .nil], [], places) :=
 ⟨[], by kernel_rfl⟩
theorem params_ok {W : World} (hL : laidMetH Tryz.prog Rows.soundRow.laid W) : (∃ sent, Faults W sent) ∧ typeAt W ∧ Tabs W := by
 have h0 : laidMet Tryz.prog (("twigs/digest.turns", Rows.laid_twigs_digest_turns) :: ("twigs/digest.roundKeys", Rows.laid_twigs_digest_roundKeys) :: ([1, 2, 3, 4, 5, 6, 7, 8, 9, 10, 11, 12, 13].map fun n => (errName n, errText n))) W := hL.1
 exact ⟨faults_of_list (by decide) (by decide) h0.tail.tail, typeAt_of (hs := [("errors.errorType", Rows.laid_errors_errorType)]) (List.mem_singleton.2 rfl) hL.2, tabs_of_list h0⟩
set_option maxRecDepth 100000 in
theorem sound_contract (H : Type) (enc : TypeId × Value → H) (W : World) (base : Nat) (args : Array Value) (ds gs : List (DataW H)) (before : List MemPlace)
  (hval : ∀ (j : Nat) t v, Tryz.f10.params[j]? = some t → args[j]? = some v → Value.okWide Tryz.prog W .any base t v)
  (hW : DataW.Whole enc Tryz.prog Tryz.f10.params.toList Rows.soundSpec.vars false W args.toList ds gs before) (hL : laidMetH Tryz.prog Rows.soundRow.laid W) :
  Calls Tryz.prog 10 args W fun e W' => ∃ v, e = .returned v ∧ Rows.soundSpec.post enc Tryz.prog Tryz.f10 false true false false W args v W' := by
 obtain ⟨⟨sent, hF⟩, hT, hTab⟩ := params_ok hL
 have hM : 16 ≤ W.heap.size := by
  have h1 := World.block_lt_of_cell? W _ (hTab.1 0 (by omega))
  have h2 := World.block_lt_of_cell? W _ (hTab.2 0 (by omega))
  simp only at h1 h2
  omega
 have hW' := hW
 obtain ⟨p, q, hA0, hV, rfl, hfz, hnd⟩ := hW
 have hA : DataW.TrodAll enc Tryz.prog W 0 (fun _ => true) true Tryz.f10.params.toList args.toList ds p := hA0
 rw [Tryz.params10] at hA hval
 obtain ⟨v0, vs0, d0, ds0, p0, q0, hargs0, rfl, rfl, h0, r0⟩ := trodAll_cons hA
 obtain ⟨v1, vs1, d1, ds1, p1, q1, hargs1, rfl, rfl, h1, r1⟩ := trodAll_cons r0
 obtain ⟨v2, vs2, d2, ds2, p2, q2, hargs2, rfl, rfl, h2, r2⟩ := trodAll_cons r1
 obtain ⟨v3, vs3, d3, ds3, p3, q3, hargs3, rfl, rfl, h3, r3⟩ := trodAll_cons r2
 obtain ⟨v4, vs4, d4, ds4, p4, q4, hargs4, rfl, rfl, h4, r4⟩ := trodAll_cons r3
 obtain ⟨v5, vs5, d5, ds5, p5, q5, hargs5, rfl, rfl, h5, r5⟩ := trodAll_cons r4
 obtain ⟨rfl, rfl, rfl⟩ := trodAll_nil r5
 obtain rfl : args = #[v0, v1, v2, v3, v4, v5] := by cases args; simp_all
 obtain ⟨rfl, rfl⟩ := trodVars_none hV
 have hlt : ∀ x ∈ p0 ++ (p1 ++ (p2 ++ (p3 ++ (p4 ++ (p5 ++ []))))), x.block < W.heap.size := fun x hx => by simpa using hW'.lt x (by simpa using hx)
 have k0 := h0
 have k1 := h1
 have k2 := h2
 have k3 := h3
 have k4 := h4
 have k5 := h5
 obtain ⟨s0, rfl⟩ := okWide_string Tryz.underlying9 (hval 0 9 v0 rfl rfl)
 obtain ⟨s1, rfl⟩ := okWide_string Tryz.underlying9 (hval 1 9 v1 rfl rfl)
 obtain ⟨n2, rfl⟩ := okWide_int Tryz.underlying3 (hval 2 3 v2 rfl rfl)
 obtain ⟨n3, rfl⟩ := okWide_int Tryz.underlying3 (hval 3 3 v3 rfl rfl)
 obtain ⟨n4, rfl⟩ := okWide_int Tryz.underlying3 (hval 4 3 v4 rfl rfl)
 have o5 := hval 5 52 v5 rfl rfl
 obtain ⟨a0, len, cap, rfl⟩ := okWide_slice Tryz.underlying52 o5
 obtain ⟨f0, g0⟩ := h0
 obtain ⟨f1, g1⟩ := h1
 obtain ⟨f2, g2⟩ := h2
 obtain ⟨f3, g3⟩ := h3
 obtain ⟨f4, g4⟩ := h4
 obtain ⟨f5, g5⟩ := h5
 obtain ⟨s0', hs0', _, hz0⟩ := DataW.trod_string Tryz.underlying9 g0
 obtain ⟨s1', hs1', _, hz1⟩ := DataW.trod_string Tryz.underlying9 g1
 obtain ⟨m2, e2, _, w2⟩ := DataW.trod_int Tryz.underlying3 g2
 obtain ⟨m3, e3, _, w3⟩ := DataW.trod_int Tryz.underlying3 g3
 obtain ⟨m4, e4, _, w4⟩ := DataW.trod_int Tryz.underlying3 g4
 obtain ⟨la, rfl, hrow, hpa, hla⟩ := strs_of_trod o5 g5
 have es0 : s0 = s0' := by simpa [Value.cells] using hs0'
 subst es0
 have es1 : s1 = s1' := by simpa [Value.cells] using hs1'
 subst es1
 have en2 : n2 = m2 := by simpa [Value.cells] using e2
 have en3 : n3 = m3 := by simpa [Value.cells] using e3
 have en4 : n4 = m4 := by simpa [Value.cells] using e4
 subst en2 en3 en4
 have b2 := bounds_i64 w2
 have b3 := bounds_i64 w3
 have b4 := bounds_i64 w4
 have fin : ∀ W' : World, Below W.heap.size W W' → Rows.soundSpec.post enc Tryz.prog Tryz.f10 false true false false W #[.string s0, .string s1, .int .i64 n2, .int .i64 n3, .int .i64 n4, .slice a0 la.length cap] (.bool true) W' := by
  intro W' hnx
  refine ⟨[d0, d1, d2, d3, d4, d5], [], _, [] ++ [], p0 ++ (p1 ++ (p2 ++ (p3 ++ (p4 ++ (p5 ++ []))))), [], hW', ?_, ?_, ?_, hnx.frame _, fun h => by cases h⟩
  ·exact trodAll_cons_mk (shut_bool Tryz.underlying4 true) trodAll_mk0
  ·exact trodAll_cons_mk (Below.trod laidOut (by kernel_rfl) (of_decide_eq_true (by kernel_rfl)) k0 hnx (fun x hx => hlt x (by simp [hx])))
    (trodAll_cons_mk (Below.trod laidOut (by kernel_rfl) (of_decide_eq_true (by kernel_rfl)) k1 hnx (fun x hx => hlt x (by simp [hx])))
     (trodAll_cons_mk (Below.trod laidOut (by kernel_rfl) (of_decide_eq_true (by kernel_rfl)) k2 hnx (fun x hx => hlt x (by simp [hx])))
      (trodAll_cons_mk (Below.trod laidOut (by kernel_rfl) (of_decide_eq_true (by kernel_rfl)) k3 hnx (fun x hx => hlt x (by simp [hx])))
       (trodAll_cons_mk (Below.trod laidOut (by kernel_rfl) (of_decide_eq_true (by kernel_rfl)) k4 hnx (fun x hx => hlt x (by simp [hx])))
        (trodAll_cons_mk (Below.trod laidOut (by kernel_rfl) (of_decide_eq_true (by kernel_rfl)) k5 hnx (fun x hx => hlt x (by simp [hx]))) trodAll_mk0)))))
  ·rfl
 have hwk := sound_walk s0 s1 n2 n3 n4 a0 la cap W sent ⟨hF, hTab, hM, fun n hn => hF.low hn, fun n hn => (hF.plain n hn).lt⟩ hT (World.block_lt_of_cell? W _ hT) (by unfold maxLen at hz0; omega) (by unfold maxLen at hz1; omega) ⟨by omega, by omega⟩ ⟨by omega, by omega⟩ ⟨by omega, by omega⟩ hrow hpa hla
 refine hwk.mono fun e W' ⟨he, hnx⟩ => ?_
 subst he
 exact ⟨_, rfl, fin _ hnx⟩
set_option maxRecDepth 100000 in
theorem lifted (os : Os) (started : os.Started) (H : Type) (enc : TypeId × Value → H) (F : Stop.Interp) :
  ReturnsInHanded {} Tryz.checked os 10 .any ((OpenSpec.ofChange Rows.soundSpec).preRow enc Tryz.prog Tryz.f10 Rows.soundRow.domain false Rows.soundRow.laid) (((OpenSpec.ofChange Rows.soundSpec).at F).post enc Tryz.prog Tryz.f10 false true false false) := by
 obtain ⟨places, hx⟩ := reads os enc
 refine returnsInHanded_of_row (C := Tryz.checked) (s := OpenSpec.ofChange Rows.soundSpec) own started (by kernel_rfl) Tryz.func10
  (witness_row_at (enc := enc) (C := Tryz.checked) false (laidWorld os) argsW rfl (by kernel_rfl) (by kernel_rfl) (by kernel_rfl)
   (OpenSpec.preRow_of_cond 8 hx (by kernel_rfl) (fun k hk => by cases hk) (by kernel_rfl) (laid_met os))) ?_
 intro W base args ds gs before hval hW _ _ _ hL _ _
 exact sound_contract H enc W base args ds gs before hval hW hL
theorem said : Rows.SoundSaid :=
 OpenClaim.holds_of_cond 10 Tryz.f10 rfl rfl rfl rfl rfl rfl rfl ⟨rfl, rfl, rfl, rfl, rfl⟩ rfl rfl rfl rfl rfl (by as_aux_lemma => kernel_rfl) Tryz.func10 closedSound
  (of_decide_eq_true (by as_aux_lemma => kernel_rfl)) (by unfold Func.isWrapper; first | (rw [if_pos (by decide +kernel)]; kernel_rfl) | (rw [if_neg (by decide +kernel)]; exact ⟨rfl, rfl⟩))
  (fun os started H enc _ F => by rw [OpenClaim.pre_eq_preRow]; exact lifted os started H enc F)
theorem plain (f : FuncId) (fn : Func) (hf : Tryz.pinned.checked.prog.funcNamed "twigs/twigskeep.Sound" = some f) (hfn : Tryz.pinned.checked.prog.funcs[f]? = some fn) :
  Rows.soundCard.stood.looks = Tryz.pinned.checked.prog.looks [] ∧ ∀ (j : Nat) t, fn.params[j]? = some t → Tryz.pinned.checked.prog.wantsStandIn t = false := by
 obtain rfl : f = 10 := Option.some.inj ((show Tryz.prog.funcNamed "twigs/twigskeep.Sound" = some 10 by kernel_rfl).symm.trans hf) |>.symm
 obtain rfl : fn = Tryz.f10 := (Option.some.inj (Tryz.func10.symm.trans hfn)).symm
 refine ⟨by kernel_rfl, fun j t ht => ?_⟩
 rw [Tryz.params10] at ht
 have hm : t = 52 ∨ t = 9 ∨ t = 3 := by
  rcases j with _ | _ | _ | _ | _ | _ | j
  ·exact .inr (.inl (Option.some.inj ht).symm)
  ·exact .inr (.inl (Option.some.inj ht).symm)
  ·exact .inr (.inr (Option.some.inj ht).symm)
  ·exact .inr (.inr (Option.some.inj ht).symm)
  ·exact .inr (.inr (Option.some.inj ht).symm)
  ·exact .inl (Option.some.inj ht).symm
  ·simp at ht
 rcases hm with rfl | rfl | rfl
 ·exact (show Tryz.prog.wantsStandIn 52 = false by kernel_rfl)
 ·exact (show Tryz.prog.wantsStandIn 9 = false by kernel_rfl)
 ·exact (show Tryz.prog.wantsStandIn 3 = false by kernel_rfl)
theorem sound_card : Rows.SoundCardSaid :=
 Claim7.holds_tied_plain_at .later [] _ _ _ _ said (fun _ h => by cases h) (by as_aux_lemma => kernel_rfl) (fun _ h => by cases h) sound_row_tie rfl ⟨rfl, rfl⟩ (by as_aux_lemma => kernel_rfl) rfl plain (by as_aux_lemma => kernel_rfl)
end Go.Proofs.YtjiikjpnlgogfaaGreatDoor
