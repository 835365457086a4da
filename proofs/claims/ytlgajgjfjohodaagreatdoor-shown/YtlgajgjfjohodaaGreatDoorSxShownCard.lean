/-
  Proved: Shown: a part of all keys takes a new value for each, and goes back to the empty map; a witness of no key shows nothing.
  Conditions: the listed package-level variables hold what the program's text lays (the card ties them).
-/
import Derived.Test.YtlgajgjfjohodaaGreatDoorSxShW
import Derived.Test.YtlgajgjfjohodaaGreatDoorSxCdG
import Derived.Test.YtlgajgjfjohodaaGreatDoorCards
import Derived.Test.YtlgajgjfjohodaaGreatDoorTie
namespace Go.Proofs.YtlgajgjfjohodaaGreatDoor
open Go.ChangeShapes Go.WideShapes Go.ChangeAt Go.RowKit
set_option maxRecDepth 100000
set_option maxHeartbeats 25600000
abbrev argsW : Array Value := #[.string ⟨#[]⟩, .int .i64 0]
theorem laid_met (os : Os) : laidMetH Tryz.prog Rows.shownRow.laid ((laidWorld os).forCall (fun _ _ => 0) ⟨#[], argsW, []⟩).memory :=
 laidMetH_of_parts (laidMet_of_run' 8 (by kernel_rfl) (by kernel_rfl)) (by kernel_rfl)
theorem reads (os : Os) {H : Type} (enc : TypeId × Value -> H) : ∃ places, DataW.whole enc Tryz.prog ((laidWorld os).forCall (fun _ _ => 0) ⟨#[], argsW, []⟩).memory Tryz.f3.params.toList Rows.shownSpec.vars false argsW.toList 8 = some ([.lit (.string []), .lit (.int .i64 0)], [], places) :=
 ⟨[], by kernel_rfl⟩
theorem params_ok {W : World} (hL : laidMetH Tryz.prog Rows.shownRow.laid W) : (∃ sent, Faults W sent) /\ typeAt W /\ Tabs W /\ Bru W := by
 have a : laidMet Tryz.prog (("math/bits.deBruijn32tab", Rows.laid_math_bits_deBruijn32tab) :: ("twigs/digest.turns", Rows.laid_twigs_digest_turns) :: ("twigs/digest.roundKeys", Rows.laid_twigs_digest_roundKeys) :: ([1, 2, 3, 4, 5, 6, 7, 8, 9, 10, 11, 12, 13].map fun n => (errName n, errText n))) W := hL.1
 exact ⟨faults_of_list (by decide) (by decide) a.tail.tail.tail, typeAt_of (hs := [("errors.errorType", Rows.laid_errors_errorType)]) (List.mem_singleton.2 rfl) hL.2, tabs_of_list a.tail, bru_of_list a⟩
theorem shown_contract (H : Type) (enc : TypeId × Value -> H) (W : World) (base : Nat) (args : Array Value) (ds gs : List (DataW H)) (before : List MemPlace)
  (hval : ∀ (j : Nat) t v, Tryz.f3.params[j]? = some t -> args[j]? = some v -> Value.okWide Tryz.prog W .any base t v)
  (hW : DataW.Whole enc Tryz.prog Tryz.f3.params.toList Rows.shownSpec.vars false W args.toList ds gs before) (hL : laidMetH Tryz.prog Rows.shownRow.laid W) :
  Calls Tryz.prog 3 args W fun e W' => ∃ v, e = .returned v /\ Rows.shownSpec.post enc Tryz.prog Tryz.f3 false true false false W args v W' := by
 obtain ⟨⟨u, l⟩, E, b, k⟩ := params_ok hL
 have V : 15 <= W.heap.size := by
  have d := World.block_lt_of_cell? W _ (b.1 0 (by omega))
  have U := World.block_lt_of_cell? W _ (b.2 0 (by omega))
  simp only at d U
  omega
 have g := hW
 obtain ⟨p, q, D, X, rfl, ac, ae⟩ := hW
 have C : DataW.TrodAll enc Tryz.prog W 0 (fun _ => true) true Tryz.f3.params.toList args.toList ds p := D
 rw [Tryz.params3] at C hval
 obtain ⟨N, ag, P, aa, K, q0, F, rfl, rfl, B, r0⟩ := trodAll_cons C
 obtain ⟨O, ah, Q, ab, L, q1, G, rfl, rfl, d, r1⟩ := trodAll_cons r0
 obtain ⟨rfl, rfl, rfl⟩ := trodAll_nil r1
 obtain rfl : args = #[N, O] := by cases args; simp_all
 obtain ⟨rfl, rfl⟩ := trodVars_none X
 have i : ∀ x ∈ K ++ (L ++ []), x.block < W.heap.size := fun x c => by simpa using g.lt x (by simpa using c)
 have Z := B
 have k1 := d
 obtain ⟨s, rfl⟩ := okWide_string Tryz.underlying9 (hval 0 9 N rfl rfl)
 obtain ⟨r, rfl⟩ := okWide_int Tryz.underlying3 (hval 1 3 O rfl rfl)
 obtain ⟨f0, S⟩ := B
 obtain ⟨f1, T⟩ := d
 obtain ⟨s0', o, _, J⟩ := DataW.trod_string Tryz.underlying9 S
 have y : s = s0' := by simpa [Value.cells] using o
 subst y
 obtain ⟨m1, R, _, w1⟩ := DataW.trod_int Tryz.underlying3 T
 have w : r = m1 := by simpa [Value.cells] using R
 subst w
 have b1 := bounds_i64 w1
 have z : ∀ W' : World, Below W.heap.size W W' -> Rows.shownSpec.post enc Tryz.prog Tryz.f3 false true false false W #[.string s, .int .i64 r] (.bool true) W' := by
  intro W' a
  refine ⟨[P, Q], [], _, [] ++ [], K ++ (L ++ []), [], g, ?_, ?_, ?_, a.frame _, fun h => by cases h⟩
  ·exact trodAll_cons_mk (shut_bool Tryz.underlying4 true) trodAll_mk0
  ·exact trodAll_cons_mk (Below.trod laidOut (by kernel_rfl) (of_decide_eq_true (by kernel_rfl)) Z a (fun x c => i x (by simp [c]))) (trodAll_cons_mk (Below.trod laidOut (by kernel_rfl) (of_decide_eq_true (by kernel_rfl)) k1 a (fun x c => i x (by simp [c]))) trodAll_mk0)
  ·rfl
 have I := shown_walk s r W u ⟨l, b, V, fun n m => l.low m, fun n m => (l.plain n m).lt⟩ k E (World.block_lt_of_cell? W _ E) (by unfold maxLen at J; omega) ⟨by omega, by omega⟩
 refine I.mono fun e W' ⟨Y, a⟩ => ?_
 subst Y
 exact ⟨_, rfl, z _ a⟩
theorem lifted (os : Os) (started : os.Started) (H : Type) (enc : TypeId × Value -> H) (F : Stop.Interp) :
  ReturnsInHanded {} Tryz.checked os 3 .any ((OpenSpec.ofChange Rows.shownSpec).preRow enc Tryz.prog Tryz.f3 Rows.shownRow.domain false Rows.shownRow.laid) (((OpenSpec.ofChange Rows.shownSpec).at F).post enc Tryz.prog Tryz.f3 false true false false) := by
 obtain ⟨e, m⟩ := reads os enc
 refine returnsInHanded_of_row (C := Tryz.checked) (s := OpenSpec.ofChange Rows.shownSpec) own started (by kernel_rfl) Tryz.func3
  (witness_row_at (enc := enc) (C := Tryz.checked) false (laidWorld os) argsW rfl (by kernel_rfl) (by kernel_rfl) (by kernel_rfl)
   (OpenSpec.preRow_of_cond 8 m (by kernel_rfl) (fun k l => by cases l) (by kernel_rfl) (laid_met os))) ?_
 intro W c b g h a d j _ _ _ i _ _
 exact shown_contract H enc W c b g h a d j i
theorem said : Rows.ShownSaid :=
 OpenClaim.holds_of_cond 3 Tryz.f3 rfl rfl rfl rfl rfl rfl rfl ⟨rfl, rfl, rfl, rfl, rfl⟩ rfl rfl rfl rfl rfl (by as_aux_lemma => kernel_rfl) Tryz.func3 closedShown
  (of_decide_eq_true (by as_aux_lemma => kernel_rfl)) (by unfold Func.isWrapper; first | (rw [if_pos (by decide +kernel)]; kernel_rfl) | (rw [if_neg (by decide +kernel)]; exact ⟨rfl, rfl⟩))
  (fun os started H enc _ F => by rw [OpenClaim.pre_eq_preRow]; exact lifted os started H enc F)
theorem plain (f : FuncId) (fn : Func) (hf : Tryz.pinned.checked.prog.funcNamed "twigs/twigskeep.Shown" = some f) (hfn : Tryz.pinned.checked.prog.funcs[f]? = some fn) :
  Rows.shownCard.stood.looks = Tryz.pinned.checked.prog.looks [] /\ ∀ (j : Nat) t, fn.params[j]? = some t -> Tryz.pinned.checked.prog.wantsStandIn t = false := by
 obtain rfl : f = 3 := Option.some.inj ((show Tryz.prog.funcNamed "twigs/twigskeep.Shown" = some 3 by kernel_rfl).symm.trans hf) |>.symm
 obtain rfl : fn = Tryz.f3 := (Option.some.inj (Tryz.func3.symm.trans hfn)).symm
 refine ⟨by kernel_rfl, fun j t a => ?_⟩
 rw [Tryz.params3] at a
 have b : t = 9 \/ t = 3 := by
  rcases j with _ | _ | j
  ·exact (.inl (Option.some.inj a).symm)
  ·exact (.inr (Option.some.inj a).symm)
  ·simp at a
 rcases b with rfl | rfl
 ·exact (show Tryz.prog.wantsStandIn 9 = false by kernel_rfl)
 ·exact (show Tryz.prog.wantsStandIn 3 = false by kernel_rfl)
theorem shown_card : Rows.ShownCardSaid :=
 Claim7.holds_tied_plain_at .later [] _ _ _ _ said (fun _ h => by cases h) (by as_aux_lemma => kernel_rfl) (fun _ h => by cases h) shown_row_tie rfl ⟨rfl, rfl⟩ (by as_aux_lemma => kernel_rfl) rfl plain (by as_aux_lemma => kernel_rfl)
end Go.Proofs.YtlgajgjfjohodaaGreatDoor
