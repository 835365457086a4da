/-
  Proved: Carried: a part takes each move as the whole does, or says that it does not show it and stays as it was.
  Conditions: the listed package-level variables hold what the program's text lays (the card ties them).
-/
import Derived.Test.YtcglpladmeelaaaGreatDoorCxCaW
import Derived.Test.YtcglpladmeelaaaGreatDoorCxCdG
import Derived.Test.YtcglpladmeelaaaGreatDoorCards
import Derived.Test.YtcglpladmeelaaaGreatDoorTie
namespace Go.Proofs.YtcglpladmeelaaaGreatDoor
open Go.ChangeShapes Go.WideShapes Go.ChangeAt Go.RowKit
set_option maxRecDepth 100000
set_option maxHeartbeats 25600000
abbrev argsW : Array Value := #[.string ⟨#[]⟩, .string ⟨#[]⟩, .slice none 0 0]
theorem laid_met (os : Os) : laidMetH Tryz.prog Rows.carriedRow.laid ((laidWorld os).forCall (fun _ _ => 0) ⟨#[], argsW, []⟩).memory :=
 laidMetH_of_parts (laidMet_of_run' 8 (by kernel_rfl) (by kernel_rfl)) (by kernel_rfl)
theorem reads (os : Os) {H : Type} (enc : TypeId × Value -> H) : ∃ places, DataW.whole enc Tryz.prog ((laidWorld os).forCall (fun _ _ => 0) ⟨#[], argsW, []⟩).memory Tryz.f3.params.toList Rows.carriedSpec.vars false argsW.toList 8 = some ([.lit (.string []), .lit (.string []), .nil], [], places) :=
 ⟨[], by kernel_rfl⟩
theorem params_ok {W : World} (hL : laidMetH Tryz.prog Rows.carriedRow.laid W) : (∃ sent, Faults W sent) /\ typeAt W /\ Tabs W /\ Bru W := by
 have a : laidMet Tryz.prog (("math/bits.deBruijn32tab", Rows.laid_math_bits_deBruijn32tab) :: ("twigs/digest.turns", Rows.laid_twigs_digest_turns) :: ("twigs/digest.roundKeys", Rows.laid_twigs_digest_roundKeys) :: ([1, 2, 3, 4, 5, 6, 7, 8, 9, 10, 11, 12, 13].map fun n => (errName n, errText n))) W := hL.1
 exact ⟨faults_of_list (by decide) (by decide) a.tail.tail.tail, typeAt_of (hs := [("errors.errorType", Rows.laid_errors_errorType)]) (List.mem_singleton.2 rfl) hL.2, tabs_of_list a.tail, bru_of_list a⟩
theorem carried_contract (H : Type) (enc : TypeId × Value -> H) (W : World) (base : Nat) (args : Array Value) (ds gs : List (DataW H)) (before : List MemPlace)
  (hval : ∀ (j : Nat) t v, Tryz.f3.params[j]? = some t -> args[j]? = some v -> Value.okWide Tryz.prog W .any base t v)
  (hW : DataW.Whole enc Tryz.prog Tryz.f3.params.toList Rows.carriedSpec.vars false W args.toList ds gs before) (hL : laidMetH Tryz.prog Rows.carriedRow.laid W) :
  Calls Tryz.prog 3 args W fun e W' => ∃ v, e = .returned v /\ Rows.carriedSpec.post enc Tryz.prog Tryz.f3 false true false false W args v W' := by
 obtain ⟨⟨C, s⟩, L, b, r⟩ := params_ok hL
 have hM : 15 <= W.heap.size := by
  have i := World.block_lt_of_cell? W _ (b.1 0 (by omega))
  have k := World.block_lt_of_cell? W _ (b.2 0 (by omega))
  simp only at i k
  omega
 have m := hW
 obtain ⟨p, q, K, hV, rfl, ag, ah⟩ := hW
 have J : DataW.TrodAll enc Tryz.prog W 0 (fun _ => true) true Tryz.f3.params.toList args.toList ds p := K
 rw [Tryz.params3] at J hval
 obtain ⟨Y, ai, d0, ab, U, q0, N, rfl, rfl, I, r0⟩ := trodAll_cons J
 obtain ⟨Z, aj, d1, ac, V, q1, O, rfl, rfl, i, r1⟩ := trodAll_cons r0
 obtain ⟨v2, ak, d2, ae, X, q2, P, rfl, rfl, k, r2⟩ := trodAll_cons r1
 obtain ⟨rfl, rfl, rfl⟩ := trodAll_nil r2
 obtain rfl : args = #[Y, Z, v2] := by cases args; simp_all
 obtain ⟨rfl, rfl⟩ := trodVars_none hV
 have g : ∀ x ∈ U ++ (V ++ (X ++ [])), x.block < W.heap.size := fun x c => by simpa using m.lt x (by simpa using c)
 have k0 := I
 have k1 := i
 have k2 := k
 obtain ⟨z, rfl⟩ := okWide_string Tryz.underlying9 (hval 0 9 Y rfl rfl)
 obtain ⟨B, rfl⟩ := okWide_string Tryz.underlying9 (hval 1 9 Z rfl rfl)
 have T := hval 2 22 v2 rfl rfl
 obtain ⟨D, aa, d, rfl⟩ := okWide_slice Tryz.underlying22 T
 obtain ⟨f0, g0⟩ := I
 obtain ⟨f1, g1⟩ := i
 obtain ⟨f2, g2⟩ := k
 obtain ⟨s0', w, _, R⟩ := DataW.trod_string Tryz.underlying9 g0
 have E : z = s0' := by simpa [Value.cells] using w
 subst E
 obtain ⟨s1', y, _, S⟩ := DataW.trod_string Tryz.underlying9 g1
 have F : B = s1' := by simpa [Value.cells] using y
 subst F
 obtain ⟨o, rfl, l⟩ := moves_of_trod T g2
 have G : ∀ W' : World, Below W.heap.size W W' -> Rows.carriedSpec.post enc Tryz.prog Tryz.f3 false true false false W #[.string z, .string B, .slice D o.length d] (.bool true) W' := by
  intro W' a
  refine ⟨[d0, d1, d2], [], _, [] ++ [], U ++ (V ++ (X ++ [])), [], m, ?_, ?_, ?_, a.frame _, fun h => by cases h⟩
  ·exact trodAll_cons_mk (shut_bool Tryz.underlying4 true) trodAll_mk0
  ·exact trodAll_cons_mk (Below.trod laidOut (by kernel_rfl) (of_decide_eq_true (by kernel_rfl)) k0 a (fun x c => g x (by simp [c]))) (trodAll_cons_mk (Below.trod laidOut (by kernel_rfl) (of_decide_eq_true (by kernel_rfl)) k1 a (fun x c => g x (by simp [c]))) (trodAll_cons_mk (Below.trod laidOut (by kernel_rfl) (of_decide_eq_true (by kernel_rfl)) k2 a (fun x c => g x (by simp [c]))) trodAll_mk0))
  ·rfl
 have Q := carried_walk z B D o d W C ⟨s, b, hM, fun n u => s.low u, fun n u => (s.plain n u).lt⟩ r L (World.block_lt_of_cell? W _ L) (by unfold maxLen at R; omega) (by unfold maxLen at S; omega) l
 refine Q.mono fun e W' ⟨he, a⟩ => ?_
 subst he
 exact ⟨_, rfl, G _ a⟩
theorem lifted (os : Os) (started : os.Started) (H : Type) (enc : TypeId × Value -> H) (F : Stop.Interp) :
  ReturnsInHanded {} Tryz.checked os 3 .any ((OpenSpec.ofChange Rows.carriedSpec).preRow enc Tryz.prog Tryz.f3 Rows.carriedRow.domain false Rows.carriedRow.laid) (((OpenSpec.ofChange Rows.carriedSpec).at F).post enc Tryz.prog Tryz.f3 false true false false) := by
 obtain ⟨e, m⟩ := reads os enc
 refine returnsInHanded_of_row (C := Tryz.checked) (s := OpenSpec.ofChange Rows.carriedSpec) own started (by kernel_rfl) Tryz.func3
  (witness_row_at (enc := enc) (C := Tryz.checked) false (laidWorld os) argsW rfl (by kernel_rfl) (by kernel_rfl) (by kernel_rfl)
   (OpenSpec.preRow_of_cond 8 m (by kernel_rfl) (fun k l => by cases l) (by kernel_rfl) (laid_met os))) ?_
 intro W c b g h a d j _ _ _ i _ _
 exact carried_contract H enc W c b g h a d j i
theorem said : Rows.CarriedSaid :=
 OpenClaim.holds_of_cond 3 Tryz.f3 rfl rfl rfl rfl rfl rfl rfl ⟨rfl, rfl, rfl, rfl, rfl⟩ rfl rfl rfl rfl rfl (by as_aux_lemma => kernel_rfl) Tryz.func3 closedCarried
  (of_decide_eq_true (by as_aux_lemma => kernel_rfl)) (by unfold Func.isWrapper; first | (rw [if_pos (by decide +kernel)]; kernel_rfl) | (rw [if_neg (by decide +kernel)]; exact ⟨rfl, rfl⟩))
  (fun os started H enc _ F => by rw [OpenClaim.pre_eq_preRow]; exact lifted os started H enc F)
theorem plain (f : FuncId) (fn : Func) (hf : Tryz.pinned.checked.prog.funcNamed "twigs/twigskeep.Carried" = some f) (hfn : Tryz.pinned.checked.prog.funcs[f]? = some fn) :
  Rows.carriedCard.stood.looks = Tryz.pinned.checked.prog.looks [] /\ ∀ (j : Nat) t, fn.params[j]? = some t -> Tryz.pinned.checked.prog.wantsStandIn t = false := by
 obtain rfl : f = 3 := Option.some.inj ((show Tryz.prog.funcNamed "twigs/twigskeep.Carried" = some 3 by kernel_rfl).symm.trans hf) |>.symm
 obtain rfl : fn = Tryz.f3 := (Option.some.inj (Tryz.func3.symm.trans hfn)).symm
 refine ⟨by kernel_rfl, fun j t a => ?_⟩
 rw [Tryz.params3] at a
 have b : t = 9 \/ t = 22 := by
  rcases j with _ | _ | _ | j
  ·exact (.inl (Option.some.inj a).symm)
  ·exact (.inl (Option.some.inj a).symm)
  ·exact (.inr (Option.some.inj a).symm)
  ·simp at a
 rcases b with rfl | rfl
 ·exact (show Tryz.prog.wantsStandIn 9 = false by kernel_rfl)
 ·exact (show Tryz.prog.wantsStandIn 22 = false by kernel_rfl)
theorem carried_card : Rows.CarriedCardSaid :=
 Claim7.holds_tied_plain_at .later [] _ _ _ _ said (fun _ h => by cases h) (by as_aux_lemma => kernel_rfl) (fun _ h => by cases h) carried_row_tie rfl ⟨rfl, rfl⟩ (by as_aux_lemma => kernel_rfl) rfl plain (by as_aux_lemma => kernel_rfl)
end Go.Proofs.YtcglpladmeelaaaGreatDoor
