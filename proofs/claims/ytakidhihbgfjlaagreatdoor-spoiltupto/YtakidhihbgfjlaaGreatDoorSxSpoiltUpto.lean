/-
  Proved: Spoilt: what Open accepts for a map's root, whatever it is, is the witness of what it gives, and answers as the map does, or that it is not there, or Extract gives two texts with one digest; else it gives nothing, and the fault lies within; for arguments of at most 1048576 bytes together.
  Conditions: the listed package-level variables hold what the program's text lays (the card ties them).
-/
import Derived.Test.YtakidhihbgfjlaaGreatDoorSxSpW
import Derived.Test.YtakidhihbgfjlaaGreatDoorSxCdG
import Derived.Test.YtakidhihbgfjlaaGreatDoorCards
import Derived.Test.YtakidhihbgfjlaaGreatDoorTie
namespace Go.Proofs.YtakidhihbgfjlaaGreatDoor
open Go.ChangeShapes Go.WideShapes Go.ChangeAt Go.RowKit
set_option maxRecDepth 100000
set_option maxHeartbeats 25600000
abbrev argsW : Array Value := #[.string ⟨#[]⟩, .string ⟨#[]⟩, .int .i64 0, .int .i64 0, .string ⟨#[]⟩]
theorem Qyn (os : Os) : laidMetH Tryz.prog Rows.spoiltUptoRow.laid ((laidWorld os).forCall (fun _ _ => 0) ⟨#[], argsW, []⟩).memory :=
 laidMetH_of_parts (laidMet_of_run' 8 (by kernel_rfl) (by kernel_rfl)) (by kernel_rfl)
theorem QDp (os : Os) {H : Type} (enc : TypeId × Value -> H) : ∃ places, DataW.whole enc Tryz.prog ((laidWorld os).forCall (fun _ _ => 0) ⟨#[], argsW, []⟩).memory Tryz.f3.params.toList Rows.spoiltSpec.vars false argsW.toList 8 = some ([.lit (.string []), .lit (.string []), .lit (.int .i64 0), .lit (.int .i64 0), .lit (.string [])], [], places) :=
 ⟨[], by kernel_rfl⟩
theorem Qvn {W : World} (hL : laidMetH Tryz.prog Rows.spoiltUptoRow.laid W) : (∃ sent, Faults W sent) /\ typeAt W /\ Tabs W /\ Bru W := by
 have a : laidMet Tryz.prog (("math/bits.deBruijn32tab", Rows.laid_math_bits_deBruijn32tab) :: ("twigs/digest.turns", Rows.laid_twigs_digest_turns) :: ("twigs/digest.roundKeys", Rows.laid_twigs_digest_roundKeys) :: ([1, 2, 3, 4, 5, 6, 7, 8, 9, 10, 11, 12, 13].map fun n => (errName n, errText n))) W := hL.1
 exact ⟨Qj5 (by decide) (by decide) a.tail.tail.tail, Qt1 (hs := [("errors.errorType", Rows.laid_errors_errorType)]) (List.mem_singleton.2 rfl) hL.2, Qmc a.tail, Qoc a⟩
theorem Qiq (H : Type) (enc : TypeId × Value -> H) (W : World) (base : Nat) (args : Array Value) (ds gs : List (DataW H)) (before : List MemPlace)
  (hval : ∀ (j : Nat) t v, Tryz.f3.params[j]? = some t -> args[j]? = some v -> Value.okWide Tryz.prog W .any base t v)
  (hW : DataW.Whole enc Tryz.prog Tryz.f3.params.toList Rows.spoiltSpec.vars false W args.toList ds gs before) (hL : laidMetH Tryz.prog Rows.spoiltUptoRow.laid W) (hk : Rows.uptoSmall H (ds ++ gs) = true) :
  Calls Tryz.prog 3 args W fun e W' => ∃ v, e = .returned v /\ Rows.spoiltSpec.post enc Tryz.prog Tryz.f3 false true false false W args v W' := by
 obtain ⟨⟨F, s⟩, Y, d, r⟩ := Qvn hL
 have hM : 15 <= W.heap.size := by
  have k := World.block_lt_of_cell? W _ (d.1 0 (by omega))
  have l := World.block_lt_of_cell? W _ (d.2 0 (by omega))
  simp only at k l
  omega
 have m := hW
 obtain ⟨p, q, X, hV, rfl, au, aw⟩ := hW
 have V : DataW.TrodAll enc Tryz.prog W 0 (fun _ => true) true Tryz.f3.params.toList args.toList ds p := X
 rw [Tryz.params3] at V hval
 obtain ⟨v0, ay, G, am, p0, q0, Z, rfl, rfl, S, r0⟩ := trodAll_cons V
 obtain ⟨v1, az, I, ao, p1, q1, aa, rfl, rfl, k, r1⟩ := trodAll_cons r0
 obtain ⟨v2, b7, J, ap, p2, q2, ac, rfl, rfl, l, r2⟩ := trodAll_cons r1
 obtain ⟨v3, ba, K, aq, p3, q3, ae, rfl, rfl, T, r3⟩ := trodAll_cons r2
 obtain ⟨v4, bc, o, ar, p4, q4, ag, rfl, rfl, U, r4⟩ := trodAll_cons r3
 obtain ⟨rfl, rfl, rfl⟩ := trodAll_nil r4
 obtain rfl : args = #[v0, v1, v2, v3, v4] := by cases args; simp_all
 obtain ⟨rfl, rfl⟩ := trodVars_none hV
 have c : ∀ x ∈ p0 ++ (p1 ++ (p2 ++ (p3 ++ (p4 ++ [])))), x.block < W.heap.size := fun x a => by simpa using m.lt x (by simpa using a)
 have k0 := S
 have k1 := k
 have k2 := l
 have k3 := T
 have k4 := U
 obtain ⟨D, rfl⟩ := okWide_string Tryz.underlying9 (hval 0 9 v0 rfl rfl)
 obtain ⟨E, rfl⟩ := okWide_string Tryz.underlying9 (hval 1 9 v1 rfl rfl)
 obtain ⟨B, rfl⟩ := okWide_int Tryz.underlying3 (hval 2 3 v2 rfl rfl)
 obtain ⟨C, rfl⟩ := okWide_int Tryz.underlying3 (hval 3 3 v3 rfl rfl)
 obtain ⟨g, rfl⟩ := okWide_string Tryz.underlying9 (hval 4 9 v4 rfl rfl)
 obtain ⟨f0, g0⟩ := S
 obtain ⟨f1, g1⟩ := k
 obtain ⟨f2, g2⟩ := l
 obtain ⟨f3, g3⟩ := T
 obtain ⟨f4, g4⟩ := U
 obtain ⟨s0', w, _, ak⟩ := DataW.trod_string Tryz.underlying9 g0
 have O : D = s0' := by simpa [Value.cells] using w
 subst O
 obtain ⟨s1', y, _, al⟩ := DataW.trod_string Tryz.underlying9 g1
 have P : E = s1' := by simpa [Value.cells] using y
 subst P
 obtain ⟨m2, e2, _, w2⟩ := DataW.trod_int Tryz.underlying3 g2
 have L : B = m2 := by simpa [Value.cells] using e2
 subst L
 have b2 := bounds_i64 w2
 obtain ⟨m3, e3, _, w3⟩ := DataW.trod_int Tryz.underlying3 g3
 have N : C = m3 := by simpa [Value.cells] using e3
 subst N
 have b3 := bounds_i64 w3
 obtain ⟨s4', z, ah, ax⟩ := DataW.trod_string Tryz.underlying9 g4
 have Q : g = s4' := by simpa [Value.cells] using z
 subst Q
 have R : ∀ W' : World, Below W.heap.size W W' -> Rows.spoiltSpec.post enc Tryz.prog Tryz.f3 false true false false W #[.string D, .string E, .int .i64 B, .int .i64 C, .string g] (.bool true) W' := by
  intro W' b
  refine ⟨[G, I, J, K, o], [], _, [] ++ [], p0 ++ (p1 ++ (p2 ++ (p3 ++ (p4 ++ [])))), [], m, ?_, ?_, ?_, b.frame _, fun h => by cases h⟩
  ·exact trodAll_cons_mk (shut_bool Tryz.underlying4 true) trodAll_mk0
  ·exact trodAll_cons_mk (Below.trod Qh6 (by kernel_rfl) (of_decide_eq_true (by kernel_rfl)) k0 b (fun x a => c x (by simp [a]))) (trodAll_cons_mk (Below.trod Qh6 (by kernel_rfl) (of_decide_eq_true (by kernel_rfl)) k1 b (fun x a => c x (by simp [a]))) (trodAll_cons_mk (Below.trod Qh6 (by kernel_rfl) (of_decide_eq_true (by kernel_rfl)) k2 b (fun x a => c x (by simp [a]))) (trodAll_cons_mk (Below.trod Qh6 (by kernel_rfl) (of_decide_eq_true (by kernel_rfl)) k3 b (fun x a => c x (by simp [a]))) (trodAll_cons_mk (Below.trod Qh6 (by kernel_rfl) (of_decide_eq_true (by kernel_rfl)) k4 b (fun x a => c x (by simp [a]))) trodAll_mk0))))
  ·rfl
 have ai : g.size <= 1048576 := by
  have a : o = .lit (.string g.data.toList) := (Prod.mk.inj ah).1
  have i : Rows.uptoBulkAll [G, I, J, K, o] <= 1048576 := by
   have := of_decide_eq_true hk
   simpa using this
  rw [a] at i
  simp only [Rows.uptoBulkAll, Rows.uptoBulk] at i
  have : g.data.toList.length = g.size := rfl
  omega
 have aj := Qpb D E B C g W F ⟨s, d, hM, fun n u => s.low u, fun n u => (s.plain n u).lt⟩ r Y (World.block_lt_of_cell? W _ Y) (by unfold maxLen at ak; omega) (by unfold maxLen at al; omega) ai ⟨by omega, by omega⟩ ⟨by omega, by omega⟩
 refine aj.mono fun e W' ⟨he, b⟩ => ?_
 subst he
 exact ⟨_, rfl, R _ b⟩
theorem QCz (os : Os) (started : os.Started) (H : Type) (enc : TypeId × Value -> H) (F : Stop.Interp) :
  ReturnsInHanded {} Tryz.checked os 3 .any ((Rows.OpenSpec.upto Rows.spoiltSpec).preRow enc Tryz.prog Tryz.f3 Rows.spoiltUptoRow.domain false Rows.spoiltUptoRow.laid) (((Rows.OpenSpec.upto Rows.spoiltSpec).at F).post enc Tryz.prog Tryz.f3 false true false false) := by
 obtain ⟨g, n⟩ := QDp os enc
 refine returnsInHanded_of_row (C := Tryz.checked) (s := Rows.OpenSpec.upto Rows.spoiltSpec) own started (by kernel_rfl) Tryz.func3
  (witness_row_at (enc := enc) (C := Tryz.checked) false (laidWorld os) argsW rfl (by kernel_rfl) (by kernel_rfl) (by kernel_rfl)
   (OpenSpec.preRow_of_cond 8 n (by kernel_rfl) (fun k m => by cases m; kernel_rfl) (by kernel_rfl) (Qyn os))) ?_
 intro W d c h i a e l _ b _ j _ _
 exact Qiq H enc W d c h i a e l j (b _ rfl)
theorem said : Rows.SpoiltUptoSaid :=
 OpenClaim.holds_of_cond 3 Tryz.f3 rfl rfl rfl rfl rfl rfl rfl ⟨rfl, rfl, rfl, rfl, rfl⟩ rfl rfl rfl rfl rfl (by as_aux_lemma => kernel_rfl) Tryz.func3 Qmd
  (of_decide_eq_true (by as_aux_lemma => kernel_rfl)) (by unfold Func.isWrapper; first | (rw [if_pos (by decide +kernel)]; kernel_rfl) | (rw [if_neg (by decide +kernel)]; exact ⟨rfl, rfl⟩))
  (fun os started H enc _ F => by rw [OpenClaim.pre_eq_preRow]; exact QCz os started H enc F)
theorem plain (f : FuncId) (fn : Func) (hf : Tryz.pinned.checked.prog.funcNamed "twigs/twigskeep.Spoilt" = some f) (hfn : Tryz.pinned.checked.prog.funcs[f]? = some fn) :
  Rows.spoiltUptoCard.stood.looks = Tryz.pinned.checked.prog.looks [] /\ ∀ (j : Nat) t, fn.params[j]? = some t -> Tryz.pinned.checked.prog.wantsStandIn t = false := by
 obtain rfl : f = 3 := Option.some.inj ((show Tryz.prog.funcNamed "twigs/twigskeep.Spoilt" = some 3 by kernel_rfl).symm.trans hf) |>.symm
 obtain rfl : fn = Tryz.f3 := (Option.some.inj (Tryz.func3.symm.trans hfn)).symm
 refine ⟨by kernel_rfl, fun j t a => ?_⟩
 rw [Tryz.params3] at a
 have b : t = 9 \/ t = 3 := by
  rcases j with _ | _ | _ | _ | _ | j
  ·exact (.inl (Option.some.inj a).symm)
  ·exact (.inl (Option.some.inj a).symm)
  ·exact (.inr (Option.some.inj a).symm)
  ·exact (.inr (Option.some.inj a).symm)
  ·exact (.inl (Option.some.inj a).symm)
  ·simp at a
 rcases b with rfl | rfl
 ·exact (show Tryz.prog.wantsStandIn 9 = false by kernel_rfl)
 ·exact (show Tryz.prog.wantsStandIn 3 = false by kernel_rfl)
theorem spoilt_upto : Rows.SpoiltUptoCardSaid :=
 Claim7.holds_tied_plain_at .later [] _ _ _ _ said (fun _ h => by cases h) (by as_aux_lemma => kernel_rfl) (fun _ h => by cases h) spoiltUpto_row_tie rfl ⟨rfl, rfl⟩ (by as_aux_lemma => kernel_rfl) rfl plain (by as_aux_lemma => kernel_rfl)
end Go.Proofs.YtakidhihbgfjlaaGreatDoor
