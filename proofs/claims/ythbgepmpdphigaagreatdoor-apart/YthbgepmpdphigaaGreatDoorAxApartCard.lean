/-
  Proved: Apart: what happens to one tree or hasher is nothing to another; lists that were told are the caller's.
  Conditions: the listed package-level variables hold what the program's text lays (the card ties them).
-/
import Derived.Test.YthbgepmpdphigaaGreatDoorAxApW
import Derived.Test.YthbgepmpdphigaaGreatDoorAxCdG
import Derived.Test.YthbgepmpdphigaaGreatDoorCards
import Derived.Test.YthbgepmpdphigaaGreatDoorTie
namespace Go.Proofs.YthbgepmpdphigaaGreatDoor
open Go.ChangeShapes Go.WideShapes Go.ChangeAt Go.RowKit
set_option maxRecDepth 100000
set_option maxHeartbeats 25600000
abbrev argsW : Array Value := #[.string ⟨#[]⟩, .string ⟨#[]⟩, .string ⟨#[]⟩]
theorem Qut (os : Os) : laidMetH Tryz.prog Rows.apartRow.laid ((laidWorld os).forCall (fun _ _ => 0) ⟨#[], argsW, []⟩).memory :=
 laidMetH_of_parts (laidMet_of_run' 8 (by kernel_rfl) (by kernel_rfl)) (by kernel_rfl)
theorem QAd (os : Os) {H : Type} (enc : TypeId × Value -> H) : ∃ places, DataW.whole enc Tryz.prog ((laidWorld os).forCall (fun _ _ => 0) ⟨#[], argsW, []⟩).memory Tryz.f3.params.toList Rows.apartSpec.vars false argsW.toList 8 = some ([.lit (.string []), .lit (.string []), .lit (.string [])], [], places) :=
 ⟨[], by kernel_rfl⟩
theorem Qrj {W : World} (hL : laidMetH Tryz.prog Rows.apartRow.laid W) : (∃ sent, Faults W sent) /\ typeAt W /\ Tabs W /\ Bru W := by
 have a : laidMet Tryz.prog (("math/bits.deBruijn32tab", Rows.laid_math_bits_deBruijn32tab) :: ("twigs/digest.turns", Rows.laid_twigs_digest_turns) :: ("twigs/digest.roundKeys", Rows.laid_twigs_digest_roundKeys) :: ([1, 2, 3, 4, 5, 6, 7, 8, 9, 10, 11, 12, 13].map fun n => (errName n, errText n))) W := hL.1
 exact ⟨Qij (by decide) (by decide) a.tail.tail.tail, Qro (hs := [("errors.errorType", Rows.laid_errors_errorType)]) (List.mem_singleton.2 rfl) hL.2, Ql5 a.tail, Qne a⟩
theorem Qii (H : Type) (enc : TypeId × Value -> H) (W : World) (base : Nat) (args : Array Value) (ds gs : List (DataW H)) (before : List MemPlace)
  (hval : ∀ (j : Nat) t v, Tryz.f3.params[j]? = some t -> args[j]? = some v -> Value.okWide Tryz.prog W .any base t v)
  (hW : DataW.Whole enc Tryz.prog Tryz.f3.params.toList Rows.apartSpec.vars false W args.toList ds gs before) (hL : laidMetH Tryz.prog Rows.apartRow.laid W) :
  Calls Tryz.prog 3 args W fun e W' => ∃ v, e = .returned v /\ Rows.apartSpec.post enc Tryz.prog Tryz.f3 false true false false W args v W' := by
 obtain ⟨⟨B, m⟩, K, b, l⟩ := Qrj hL
 have hM : 15 <= W.heap.size := by
  have g := World.block_lt_of_cell? W _ (b.1 0 (by omega))
  have i := World.block_lt_of_cell? W _ (b.2 0 (by omega))
  simp only at g i
  omega
 have k := hW
 obtain ⟨p, q, J, hV, rfl, ae, ag⟩ := hW
 have I : DataW.TrodAll enc Tryz.prog W 0 (fun _ => true) true Tryz.f3.params.toList args.toList ds p := J
 rw [Tryz.params3] at I hval
 obtain ⟨V, ai, Z, aa, S, q0, L, rfl, rfl, G, r0⟩ := trodAll_cons I
 obtain ⟨X, aj, d1, ab, T, q1, N, rfl, rfl, g, r1⟩ := trodAll_cons r0
 obtain ⟨Y, ak, d2, ac, U, q2, O, rfl, rfl, i, r2⟩ := trodAll_cons r1
 obtain ⟨rfl, rfl, rfl⟩ := trodAll_nil r2
 obtain rfl : args = #[V, X, Y] := by cases args; simp_all
 obtain ⟨rfl, rfl⟩ := trodVars_none hV
 have d : ∀ x ∈ S ++ (T ++ (U ++ [])), x.block < W.heap.size := fun x c => by simpa using k.lt x (by simpa using c)
 have k0 := G
 have k1 := g
 have k2 := i
 obtain ⟨w, rfl⟩ := okWide_string Tryz.underlying9 (hval 0 9 V rfl rfl)
 obtain ⟨y, rfl⟩ := okWide_string Tryz.underlying9 (hval 1 9 X rfl rfl)
 obtain ⟨z, rfl⟩ := okWide_string Tryz.underlying9 (hval 2 9 Y rfl rfl)
 obtain ⟨f0, g0⟩ := G
 obtain ⟨f1, g1⟩ := g
 obtain ⟨f2, g2⟩ := i
 obtain ⟨s0', r, _, Q⟩ := DataW.trod_string Tryz.underlying9 g0
 have C : w = s0' := by simpa [Value.cells] using r
 subst C
 obtain ⟨s1', s, _, R⟩ := DataW.trod_string Tryz.underlying9 g1
 have D : y = s1' := by simpa [Value.cells] using s
 subst D
 obtain ⟨s2', u, _, ah⟩ := DataW.trod_string Tryz.underlying9 g2
 have E : z = s2' := by simpa [Value.cells] using u
 subst E
 have F : ∀ W' : World, Below W.heap.size W W' -> Rows.apartSpec.post enc Tryz.prog Tryz.f3 false true false false W #[.string w, .string y, .string z] (.bool true) W' := by
  intro W' a
  refine ⟨[Z, d1, d2], [], _, [] ++ [], S ++ (T ++ (U ++ [])), [], k, ?_, ?_, ?_, a.frame _, fun h => by cases h⟩
  ·exact trodAll_cons_mk (shut_bool Tryz.underlying4 true) trodAll_mk0
  ·exact trodAll_cons_mk (Below.trod Qnc (by kernel_rfl) (of_decide_eq_true (by kernel_rfl)) k0 a (fun x c => d x (by simp [c]))) (trodAll_cons_mk (Below.trod Qnc (by kernel_rfl) (of_decide_eq_true (by kernel_rfl)) k1 a (fun x c => d x (by simp [c]))) (trodAll_cons_mk (Below.trod Qnc (by kernel_rfl) (of_decide_eq_true (by kernel_rfl)) k2 a (fun x c => d x (by simp [c]))) trodAll_mk0))
  ·rfl
 have P := Qq3 w y z W B ⟨m, b, hM, fun n o => m.low o, fun n o => (m.plain n o).lt⟩ l K (World.block_lt_of_cell? W _ K) (by unfold maxLen at Q; omega) (by unfold maxLen at R; omega)
 refine P.mono fun e W' ⟨he, a⟩ => ?_
 subst he
 exact ⟨_, rfl, F _ a⟩
theorem Qz5 (os : Os) (started : os.Started) (H : Type) (enc : TypeId × Value -> H) (F : Stop.Interp) :
  ReturnsInHanded {} Tryz.checked os 3 .any ((OpenSpec.ofChange Rows.apartSpec).preRow enc Tryz.prog Tryz.f3 Rows.apartRow.domain false Rows.apartRow.laid) (((OpenSpec.ofChange Rows.apartSpec).at F).post enc Tryz.prog Tryz.f3 false true false false) := by
 obtain ⟨e, m⟩ := QAd os enc
 refine returnsInHanded_of_row (C := Tryz.checked) (s := OpenSpec.ofChange Rows.apartSpec) own started (by kernel_rfl) Tryz.func3
  (witness_row_at (enc := enc) (C := Tryz.checked) false (laidWorld os) argsW rfl (by kernel_rfl) (by kernel_rfl) (by kernel_rfl)
   (OpenSpec.preRow_of_cond 8 m (by kernel_rfl) (fun k l => by cases l) (by kernel_rfl) (Qut os))) ?_
 intro W c b g h a d j _ _ _ i _ _
 exact Qii H enc W c b g h a d j i
theorem said : Rows.ApartSaid :=
 OpenClaim.holds_of_cond 3 Tryz.f3 rfl rfl rfl rfl rfl rfl rfl ⟨rfl, rfl, rfl, rfl, rfl⟩ rfl rfl rfl rfl rfl (by as_aux_lemma => kernel_rfl) Tryz.func3 Qnd
  (of_decide_eq_true (by as_aux_lemma => kernel_rfl)) (by unfold Func.isWrapper; first | (rw [if_pos (by decide +kernel)]; kernel_rfl) | (rw [if_neg (by decide +kernel)]; exact ⟨rfl, rfl⟩))
  (fun os started H enc _ F => by rw [OpenClaim.pre_eq_preRow]; exact Qz5 os started H enc F)
theorem plain (f : FuncId) (fn : Func) (hf : Tryz.pinned.checked.prog.funcNamed "twigs/twigskeep.Apart" = some f) (hfn : Tryz.pinned.checked.prog.funcs[f]? = some fn) :
  Rows.apartCard.stood.looks = Tryz.pinned.checked.prog.looks [] /\ ∀ (j : Nat) t, fn.params[j]? = some t -> Tryz.pinned.checked.prog.wantsStandIn t = false := by
 obtain rfl : f = 3 := Option.some.inj ((show Tryz.prog.funcNamed "twigs/twigskeep.Apart" = some 3 by kernel_rfl).symm.trans hf) |>.symm
 obtain rfl : fn = Tryz.f3 := (Option.some.inj (Tryz.func3.symm.trans hfn)).symm
 refine ⟨by kernel_rfl, fun j t a => ?_⟩
 rw [Tryz.params3] at a
 have b : t = 9 := by
  rcases j with _ | _ | _ | j
  ·exact (Option.some.inj a).symm
  ·exact (Option.some.inj a).symm
  ·exact (Option.some.inj a).symm
  ·simp at a
 rcases b with rfl
 ·exact (show Tryz.prog.wantsStandIn 9 = false by kernel_rfl)
theorem apart_card : Rows.ApartCardSaid :=
 Claim7.holds_tied_plain_at .later [] _ _ _ _ said (fun _ h => by cases h) (by as_aux_lemma => kernel_rfl) (fun _ h => by cases h) apart_row_tie rfl ⟨rfl, rfl⟩ (by as_aux_lemma => kernel_rfl) rfl plain (by as_aux_lemma => kernel_rfl)
end Go.Proofs.YthbgepmpdphigaaGreatDoor
