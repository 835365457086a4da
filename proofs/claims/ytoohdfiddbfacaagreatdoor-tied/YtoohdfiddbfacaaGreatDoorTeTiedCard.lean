/-
  Proved: for every three texts, every address, every three numbers and every row of texts, the call of twigskeep.Tied at the named commit returns true and leaves its arguments as they were: whatever two proofs are accepted for the root of a map of accounts, the answer is what the account's own map has (nothing, if there is no account), or Extract gives two different texts with one digest, for the first proof or for the second.
  Conditions: the listed package-level variables hold what the program's text lays (the card ties them).
-/
import Derived.Test.YtoohdfiddbfacaaGreatDoorTeTiW
import Derived.Test.YtoohdfiddbfacaaGreatDoorTeCdG
import Derived.Test.YtoohdfiddbfacaaGreatDoorCards
import Derived.Test.YtoohdfiddbfacaaGreatDoorTie
namespace Go.Proofs.YtoohdfiddbfacaaGreatDoor
open Go.ChangeShapes Go.WideShapes Go.ChangeAt Go.RowKit
set_option maxRecDepth 100000
set_option maxHeartbeats 25600000
abbrev argsW : Array Value := #[.string ⟨#[]⟩, .string ⟨#[]⟩, .agg #[.int .u8 0, .int .u8 0, .int .u8 0, .int .u8 0, .int .u8 0, .int .u8 0, .int .u8 0, .int .u8 0, .int .u8 0, .int .u8 0, .int .u8 0, .int .u8 0, .int .u8 0, .int .u8 0, .int .u8 0, .int .u8 0, .int .u8 0, .int .u8 0, .int .u8 0, .int .u8 0], .string ⟨#[]⟩, .int .i64 0, .int .i64 0, .int .i64 0, .slice none 0 0]
theorem laid_met (os : Os) : laidMetH Tryz.prog Rows.tiedRow.laid ((laidWorld os).forCall (fun _ _ => 0) ⟨#[], argsW, []⟩).memory :=
 laidMetH_of_parts (laidMet_of_run' 8 (by kernel_rfl) (by kernel_rfl)) (by kernel_rfl)
theorem reads (os : Os) {H : Type} (enc : TypeId × Value -> H) : ∃ places, DataW.whole enc Tryz.prog ((laidWorld os).forCall (fun _ _ => 0) ⟨#[], argsW, []⟩).memory Tryz.f3.params.toList Rows.tiedSpec.vars false argsW.toList 8 = some ([.lit (.string []), .lit (.string []), .agg [.lit (.int .u8 0), .lit (.int .u8 0), .lit (.int .u8 0), .lit (.int .u8 0), .lit (.int .u8 0), .lit (.int .u8 0), .lit (.int .u8 0), .lit (.int .u8 0), .lit (.int .u8 0), .lit (.int .u8 0), .lit (.int .u8 0), .lit (.int .u8 0), .lit (.int .u8 0), .lit (.int .u8 0), .lit (.int .u8 0), .lit (.int .u8 0), .lit (.int .u8 0), .lit (.int .u8 0), .lit (.int .u8 0), .lit (.int .u8 0)], .lit (.string []), .lit (.int .i64 0), .lit (.int .i64 0), .lit (.int .i64 0), .nil], [], places) :=
 ⟨[], by kernel_rfl⟩
theorem params_ok {W : World} (hL : laidMetH Tryz.prog Rows.tiedRow.laid W) : (∃ sent, Faults W sent) /\ typeAt W /\ Tabs W := by
 have a : laidMet Tryz.prog (("twigs/digest.turns", Rows.laid_twigs_digest_turns) :: ("twigs/digest.roundKeys", Rows.laid_twigs_digest_roundKeys) :: ([1, 2, 3, 4, 5, 6, 7, 8, 9, 10, 11, 12, 13].map fun n => (errName n, errText n))) W := hL.1
 exact ⟨faults_of_list (by decide) (by decide) a.tail.tail, typeAt_of (hs := [("errors.errorType", Rows.laid_errors_errorType)]) (List.mem_singleton.2 rfl) hL.2, tabs_of_list a⟩
theorem cells26 : Tryz.prog.cellsOf 23 = 20 := by kernel_rfl
theorem cells5 : Tryz.prog.cellsOf 5 = 1 := by kernel_rfl
theorem adr_of_trod {H : Type} {enc : TypeId × Value -> H} {W : World} {base : Nat} {sp : Nat -> Bool} {held : Bool} {fuel : Nat} {cs : List Value} {x : DataW H × List MemPlace} (h : DataW.trod enc Tryz.prog W base sp held fuel 23 cs = some x) :
  ∃ root : List Nat, root.length = 20 /\ (∀ b ∈ root, b < 256) /\ cs = root.map encB := by
 obtain ⟨t, m, _, _, l, r, q⟩ := DataW.trod_array Tryz.underlying23 h
 rw [cells26] at l
 have f : ∀ i, i < 20 -> ∃ n : Nat, n < 256 /\ cs[i]? = some (encB n) := by
  intro i d
  have p := q i d
  rw [cells5, Nat.mul_one, List.getElem?_eq_getElem (by rw [r]; exact d)] at p
  obtain ⟨z, e, _, s⟩ := DataW.trod_int Tryz.underlying5 p
  have k := bounds_u8 s
  refine ⟨z.toNat, by omega, ?_⟩
  have j : (cs.drop i)[0]? = some (.int .u8 z) := by
   rw [<- List.getElem?_take_of_lt (show 0 < 1 by omega), e]
   rfl
  rw [List.getElem?_drop, Nat.add_zero] at j
  rw [j]
  congr 2
  omega
 refine ⟨cs.map (fun v => match v with | .int _ z => z.toNat | _ => 0), by rw [List.length_map, l], ?_, ?_⟩
 ·intro b k
  obtain ⟨v, g, rfl⟩ := List.mem_map.1 k
  obtain ⟨i, c, rfl⟩ := List.getElem_of_mem g
  obtain ⟨n, o, a⟩ := f i (by omega)
  rw [List.getElem?_eq_getElem c, Option.some.injEq] at a
  rw [a]
  simpa using o
 ·rw [List.map_map]
  conv => lhs; rw [<- List.map_id cs]
  apply List.map_congr_left
  intro v g
  obtain ⟨i, c, rfl⟩ := List.getElem_of_mem g
  obtain ⟨n, o, a⟩ := f i (by omega)
  rw [List.getElem?_eq_getElem c, Option.some.injEq] at a
  rw [a]
  simp
theorem tied_contract (H : Type) (enc : TypeId × Value -> H) (W : World) (base : Nat) (args : Array Value) (ds gs : List (DataW H)) (before : List MemPlace)
  (hval : ∀ (j : Nat) t v, Tryz.f3.params[j]? = some t -> args[j]? = some v -> Value.okWide Tryz.prog W .any base t v)
  (hW : DataW.Whole enc Tryz.prog Tryz.f3.params.toList Rows.tiedSpec.vars false W args.toList ds gs before) (hL : laidMetH Tryz.prog Rows.tiedRow.laid W) :
  Calls Tryz.prog 3 args W fun e W' => ∃ v, e = .returned v /\ Rows.tiedSpec.post enc Tryz.prog Tryz.f3 false true false false W args v W' := by
 obtain ⟨⟨N, s⟩, hT, d⟩ := params_ok hL
 have hM : 15 <= W.heap.size := by
  have i := World.block_lt_of_cell? W _ (d.1 0 (by omega))
  have l := World.block_lt_of_cell? W _ (d.2 0 (by omega))
  simp only at i l
  omega
 have o := hW
 obtain ⟨p, q, aa, hV, rfl, bi, bj⟩ := hW
 have hA : DataW.TrodAll enc Tryz.prog W 0 (fun _ => true) true Tryz.f3.params.toList args.toList ds p := aa
 rw [Tryz.params3] at hA hval
 obtain ⟨v0, bk, d0, aw, p0, q0, ac, rfl, rfl, Y, r0⟩ := trodAll_cons hA
 obtain ⟨v1, bl, d1, ay, p1, q1, ae, rfl, rfl, i, r1⟩ := trodAll_cons r0
 obtain ⟨O, bm, d2, az, p2, q2, ag, rfl, rfl, l, r2⟩ := trodAll_cons r1
 obtain ⟨v3, bn, d3, b9, p3, q3, ah, rfl, rfl, Z, r3⟩ := trodAll_cons r2
 obtain ⟨v4, bo, d4, ba, p4, q4, ai, rfl, rfl, h4, r4⟩ := trodAll_cons r3
 obtain ⟨v5, bp, d5, bc, p5, q5, aj, rfl, rfl, h5, r5⟩ := trodAll_cons r4
 obtain ⟨v6, bq, d6, bf, p6, q6, ak, rfl, rfl, h6, r6⟩ := trodAll_cons r5
 obtain ⟨v7, bx, d7, bg, p7, q7, al, rfl, rfl, h7, r7⟩ := trodAll_cons r6
 obtain ⟨rfl, rfl, rfl⟩ := trodAll_nil r7
 obtain rfl : args = #[v0, v1, O, v3, v4, v5, v6, v7] := by cases args; simp_all
 obtain ⟨rfl, rfl⟩ := trodVars_none hV
 have c : ∀ x ∈ p0 ++ (p1 ++ (p2 ++ (p3 ++ (p4 ++ (p5 ++ (p6 ++ (p7 ++ []))))))), x.block < W.heap.size := fun x b => by simpa using o.lt x (by simpa using b)
 have k0 := Y
 have k1 := i
 have k2 := l
 have k3 := Z
 have k4 := h4
 have k5 := h5
 have k6 := h6
 have k7 := h7
 obtain ⟨J, rfl⟩ := okWide_string Tryz.underlying9 (hval 0 9 v0 rfl rfl)
 obtain ⟨K, rfl⟩ := okWide_string Tryz.underlying9 (hval 1 9 v1 rfl rfl)
 obtain ⟨x2, rfl⟩ : ∃ xs, O = .agg xs := by
  have h := hval 2 23 O rfl rfl
  simp only [Value.okWide, Tryz.underlying23] at h
  obtain ⟨cs, i, _⟩ := h
  exact ⟨cs, i⟩
 obtain ⟨L, rfl⟩ := okWide_string Tryz.underlying9 (hval 3 9 v3 rfl rfl)
 obtain ⟨F, rfl⟩ := okWide_int Tryz.underlying3 (hval 4 3 v4 rfl rfl)
 obtain ⟨G, rfl⟩ := okWide_int Tryz.underlying3 (hval 5 3 v5 rfl rfl)
 obtain ⟨I, rfl⟩ := okWide_int Tryz.underlying3 (hval 6 3 v6 rfl rfl)
 have o7 := hval 7 24 v7 rfl rfl
 obtain ⟨P, au, k, rfl⟩ := okWide_slice Tryz.underlying24 o7
 obtain ⟨f0, g0⟩ := Y
 obtain ⟨f1, g1⟩ := i
 obtain ⟨f2, g2⟩ := l
 obtain ⟨f3, g3⟩ := Z
 obtain ⟨f4, g4⟩ := h4
 obtain ⟨f5, g5⟩ := h5
 obtain ⟨f6, g6⟩ := h6
 obtain ⟨f7, g7⟩ := h7
 obtain ⟨s0', C, _, ap⟩ := DataW.trod_string Tryz.underlying9 g0
 have T : J = s0' := by simpa [Value.cells] using C
 subst T
 obtain ⟨s1', D, _, aq⟩ := DataW.trod_string Tryz.underlying9 g1
 have U : K = s1' := by simpa [Value.cells] using D
 subst U
 obtain ⟨g, z, _, y⟩ := adr_of_trod g2
 have ao : x2 = (g.map encB).toArray := by
  have : x2.toList = g.map encB := y
  rw [<- this]
 subst ao
 obtain ⟨s3', E, _, ar⟩ := DataW.trod_string Tryz.underlying9 g3
 have V : L = s3' := by simpa [Value.cells] using E
 subst V
 obtain ⟨m4, e4, _, w4⟩ := DataW.trod_int Tryz.underlying3 g4
 have Q : F = m4 := by simpa [Value.cells] using e4
 subst Q
 have b4 := bounds_i64 w4
 obtain ⟨m5, e5, _, w5⟩ := DataW.trod_int Tryz.underlying3 g5
 have R : G = m5 := by simpa [Value.cells] using e5
 subst R
 have b5 := bounds_i64 w5
 obtain ⟨m6, e6, _, w6⟩ := DataW.trod_int Tryz.underlying3 g6
 have S : I = m6 := by simpa [Value.cells] using e6
 subst S
 have b6 := bounds_i64 w6
 obtain ⟨r, rfl, m, B, u⟩ := strs_of_trod o7 g7
 have X : ∀ W' : World, Below W.heap.size W W' -> Rows.tiedSpec.post enc Tryz.prog Tryz.f3 false true false false W #[.string J, .string K, .agg (g.map encB).toArray, .string L, .int .i64 F, .int .i64 G, .int .i64 I, .slice P r.length k] (.bool true) W' := by
  intro W' a
  refine ⟨[d0, d1, d2, d3, d4, d5, d6, d7], [], _, [] ++ [], p0 ++ (p1 ++ (p2 ++ (p3 ++ (p4 ++ (p5 ++ (p6 ++ (p7 ++ []))))))), [], o, ?_, ?_, ?_, a.frame _, fun h => by cases h⟩
  ·exact trodAll_cons_mk (shut_bool Tryz.underlying4 true) trodAll_mk0
  ·exact trodAll_cons_mk (Below.trod laidOut (by kernel_rfl) (of_decide_eq_true (by kernel_rfl)) k0 a (fun x b => c x (by simp [b]))) (trodAll_cons_mk (Below.trod laidOut (by kernel_rfl) (of_decide_eq_true (by kernel_rfl)) k1 a (fun x b => c x (by simp [b]))) (trodAll_cons_mk (Below.trod laidOut (by kernel_rfl) (of_decide_eq_true (by kernel_rfl)) k2 a (fun x b => c x (by simp [b]))) (trodAll_cons_mk (Below.trod laidOut (by kernel_rfl) (of_decide_eq_true (by kernel_rfl)) k3 a (fun x b => c x (by simp [b]))) (trodAll_cons_mk (Below.trod laidOut (by kernel_rfl) (of_decide_eq_true (by kernel_rfl)) k4 a (fun x b => c x (by simp [b]))) (trodAll_cons_mk (Below.trod laidOut (by kernel_rfl) (of_decide_eq_true (by kernel_rfl)) k5 a (fun x b => c x (by simp [b]))) (trodAll_cons_mk (Below.trod laidOut (by kernel_rfl) (of_decide_eq_true (by kernel_rfl)) k6 a (fun x b => c x (by simp [b]))) (trodAll_cons_mk (Below.trod laidOut (by kernel_rfl) (of_decide_eq_true (by kernel_rfl)) k7 a (fun x b => c x (by simp [b]))) trodAll_mk0)))))))
  ·rfl
 have am := tied_walk J K g L F G I P r k W N ⟨s, d, hM, fun n w => s.low w, fun n w => (s.plain n w).lt⟩ hT (World.block_lt_of_cell? W _ hT) (by unfold maxLen at ap; omega) (by unfold maxLen at aq; omega) (by unfold maxLen at ar; omega) z ⟨by omega, by omega⟩ ⟨by omega, by omega⟩ ⟨by omega, by omega⟩ m B u
 refine am.mono fun e W' ⟨he, a⟩ => ?_
 subst he
 exact ⟨_, rfl, X _ a⟩
theorem lifted (os : Os) (started : os.Started) (H : Type) (enc : TypeId × Value -> H) (F : Stop.Interp) :
  ReturnsInHanded {} Tryz.checked os 3 .any ((OpenSpec.ofChange Rows.tiedSpec).preRow enc Tryz.prog Tryz.f3 Rows.tiedRow.domain false Rows.tiedRow.laid) (((OpenSpec.ofChange Rows.tiedSpec).at F).post enc Tryz.prog Tryz.f3 false true false false) := by
 obtain ⟨e, m⟩ := reads os enc
 refine returnsInHanded_of_row (C := Tryz.checked) (s := OpenSpec.ofChange Rows.tiedSpec) own started (by kernel_rfl) Tryz.func3
  (witness_row_at (enc := enc) (C := Tryz.checked) false (laidWorld os) argsW rfl (by kernel_rfl) (by kernel_rfl) (by kernel_rfl)
   (OpenSpec.preRow_of_cond 8 m (by kernel_rfl) (fun k l => by cases l) (by kernel_rfl) (laid_met os))) ?_
 intro W c b g h a d j _ _ _ i _ _
 exact tied_contract H enc W c b g h a d j i
theorem said : Rows.TiedSaid :=
 OpenClaim.holds_of_cond 3 Tryz.f3 rfl rfl rfl rfl rfl rfl rfl ⟨rfl, rfl, rfl, rfl, rfl⟩ rfl rfl rfl rfl rfl (by as_aux_lemma => kernel_rfl) Tryz.func3 closedTied
  (of_decide_eq_true (by as_aux_lemma => kernel_rfl)) (by unfold Func.isWrapper; first | (rw [if_pos (by decide +kernel)]; kernel_rfl) | (rw [if_neg (by decide +kernel)]; exact ⟨rfl, rfl⟩))
  (fun os started H enc _ F => by rw [OpenClaim.pre_eq_preRow]; exact lifted os started H enc F)
theorem plain (f : FuncId) (fn : Func) (hf : Tryz.pinned.checked.prog.funcNamed "twigs/twigskeep.Tied" = some f) (hfn : Tryz.pinned.checked.prog.funcs[f]? = some fn) :
  Rows.tiedCard.stood.looks = Tryz.pinned.checked.prog.looks [] /\ ∀ (j : Nat) t, fn.params[j]? = some t -> Tryz.pinned.checked.prog.wantsStandIn t = false := by
 obtain rfl : f = 3 := Option.some.inj ((show Tryz.prog.funcNamed "twigs/twigskeep.Tied" = some 3 by kernel_rfl).symm.trans hf) |>.symm
 obtain rfl : fn = Tryz.f3 := (Option.some.inj (Tryz.func3.symm.trans hfn)).symm
 refine ⟨by kernel_rfl, fun j t a => ?_⟩
 rw [Tryz.params3] at a
 have b : t = 9 \/ t = 23 \/ t = 3 \/ t = 24 := by
  rcases j with _ | _ | _ | _ | _ | _ | _ | _ | j
  ·exact (.inl (Option.some.inj a).symm)
  ·exact (.inl (Option.some.inj a).symm)
  ·exact (.inr (.inl (Option.some.inj a).symm))
  ·exact (.inl (Option.some.inj a).symm)
  ·exact (.inr (.inr (.inl (Option.some.inj a).symm)))
  ·exact (.inr (.inr (.inl (Option.some.inj a).symm)))
  ·exact (.inr (.inr (.inl (Option.some.inj a).symm)))
  ·exact (.inr (.inr (.inr (Option.some.inj a).symm)))
  ·simp at a
 rcases b with rfl | rfl | rfl | rfl
 ·exact (show Tryz.prog.wantsStandIn 9 = false by kernel_rfl)
 ·exact (show Tryz.prog.wantsStandIn 23 = false by kernel_rfl)
 ·exact (show Tryz.prog.wantsStandIn 3 = false by kernel_rfl)
 ·exact (show Tryz.prog.wantsStandIn 24 = false by kernel_rfl)
theorem tied_card : Rows.TiedCardSaid :=
 Claim7.holds_tied_plain_at .later [] _ _ _ _ said (fun _ h => by cases h) (by as_aux_lemma => kernel_rfl) (fun _ h => by cases h) tied_row_tie rfl ⟨rfl, rfl⟩ (by as_aux_lemma => kernel_rfl) rfl plain (by as_aux_lemma => kernel_rfl)
end Go.Proofs.YtoohdfiddbfacaaGreatDoor
