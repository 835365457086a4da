/-
  Proved: for every three texts and every two addresses, the call of twigskeep.Storage at the named commit returns true and leaves its arguments as they were: two honest proofs, of an account in a map of accounts and of a slot in the account's own map, are accepted by VerifyStorage, and say what that map has; where the map of accounts has no such account, its proof alone is accepted and says that nothing is found, and a second proof beside it is refused.
  Conditions: the listed package-level variables hold what the program's text lays (the card ties them).
-/
import Derived.Test.YtjiikjpnlgogfaaGreatDoorSgStW
import Derived.Test.YtjiikjpnlgogfaaGreatDoorSgCdG
import Derived.Test.YtjiikjpnlgogfaaGreatDoorCards
import Derived.Test.YtjiikjpnlgogfaaGreatDoorTie
namespace Go.Proofs.YtjiikjpnlgogfaaGreatDoor
open Go.ChangeShapes Go.WideShapes Go.ChangeAt Go.RowKit
abbrev argsW : Array Value := #[.string ⟨#[]⟩, .string ⟨#[]⟩, .agg #[.int .u8 0, .int .u8 0, .int .u8 0, .int .u8 0, .int .u8 0, .int .u8 0, .int .u8 0, .int .u8 0, .int .u8 0, .int .u8 0, .int .u8 0, .int .u8 0, .int .u8 0, .int .u8 0, .int .u8 0, .int .u8 0, .int .u8 0, .int .u8 0, .int .u8 0, .int .u8 0], .agg #[.int .u8 0, .int .u8 0, .int .u8 0, .int .u8 0, .int .u8 0, .int .u8 0, .int .u8 0, .int .u8 0, .int .u8 0, .int .u8 0, .int .u8 0, .int .u8 0, .int .u8 0, .int .u8 0, .int .u8 0, .int .u8 0, .int .u8 0, .int .u8 0, .int .u8 0, .int .u8 0], .string ⟨#[]⟩]
theorem laid_met (os : Os) : laidMetH Tryz.prog Rows.storageRow.laid ((laidWorld os).forCall (fun _ _ => 0) ⟨#[], argsW, []⟩).memory :=
 laidMetH_of_parts (laidMet_of_run' 8 (by kernel_rfl) (by kernel_rfl)) (by kernel_rfl)
theorem reads (os : Os) {H : Type} (enc : TypeId × Value → H) : ∃ places, DataW.whole enc Tryz.prog ((laidWorld os).forCall (fun _ _ => 0) ⟨#[], argsW, []⟩).memory Tryz.f11.params.toList Rows.storageSpec.vars false argsW.toList 8 = some ([.lit (.string []), .lit (.string []), .agg [.lit (.int .u8 0), .lit (.int .u8 0), .lit (.int .u8 0), .lit (.int .u8 0), .lit (.int .u8 0), .lit (.int .u8 0), .lit (.int .u8 0), .lit (.int .u8 0), .lit (.int .u8 0), .lit (.int .u8 0), .lit (.int .u8 0), .lit (.int .u8 0), .lit (.int .u8 0), .lit (.int .u8 0), .lit (.int .u8 0), .lit (.int .u8 0), .lit (.int .u8 0), .lit (.int .u8 0), .lit (.int .u8 0), .lit (.int .u8 0)], .agg [.lit (.int .u8 0), .lit (.int .u8 0), .lit (.int .u8 0), .lit (.int .u8 0), .lit (.int .u8 0), .lit (.int .u8 0), .lit (.int .u8 0), .lit (.int .u8 0), .lit (.int .u8 0), .lit (.int .u8 0), .lit (.int .u8 0), .lit (.int .u8 0), .lit (.int .u8 0), .lit (.int .u8 0), .lit (.int .u8 0), .lit (.int .u8 0), .lit (.int .u8 0), .lit (.int .u8 0), .lit (.int .u8 0), .lit (.int .u8 0)], .lit (.string [])], [], places) :=
 ⟨[], by kernel_rfl⟩
theorem params_ok {W : World} (hL : laidMetH Tryz.prog Rows.storageRow.laid W) : (∃ sent, Faults W sent) ∧ typeAt W ∧ Tabs W := by
 have h0 : laidMet Tryz.prog (("twigs/digest.turns", Rows.laid_twigs_digest_turns) :: ("twigs/digest.roundKeys", Rows.laid_twigs_digest_roundKeys) :: ([1, 2, 3, 4, 5, 6, 7, 8, 9, 10, 11, 12, 13].map fun n => (errName n, errText n))) W := hL.1
 exact ⟨faults_of_list (by decide) (by decide) h0.tail.tail, typeAt_of (hs := [("errors.errorType", Rows.laid_errors_errorType)]) (List.mem_singleton.2 rfl) hL.2, tabs_of_list h0⟩
theorem cells26 : Tryz.prog.cellsOf 80 = 20 := by kernel_rfl
theorem cells5 : Tryz.prog.cellsOf 5 = 1 := by kernel_rfl
theorem adr_of_trod {H : Type} {enc : TypeId × Value → H} {W : World} {base : Nat} {sp : Nat → Bool} {held : Bool} {fuel : Nat} {cs : List Value} {x : DataW H × List MemPlace} (h : DataW.trod enc Tryz.prog W base sp held fuel 80 cs = some x) :
  ∃ root : List Nat, root.length = 20 ∧ (∀ b ∈ root, b < 256) ∧ cs = root.map encB := by
 obtain ⟨xs, m, _, _, hl, hx, hi⟩ := DataW.trod_array Tryz.underlying80 h
 rw [cells26] at hl
 have key : ∀ i, i < 20 → ∃ n : Nat, n < 256 ∧ cs[i]? = some (encB n) := by
  intro i hi20
  have hq := hi i hi20
  rw [cells5, Nat.mul_one, List.getElem?_eq_getElem (by rw [hx]; exact hi20)] at hq
  obtain ⟨z, e, _, wf⟩ := DataW.trod_int Tryz.underlying5 hq
  have hb := bounds_u8 wf
  refine ⟨z.toNat, by omega, ?_⟩
  have e1 : (cs.drop i)[0]? = some (.int .u8 z) := by
   rw [← List.getElem?_take_of_lt (show 0 < 1 by omega), e]
   rfl
  rw [List.getElem?_drop, Nat.add_zero] at e1
  rw [e1]
  congr 2
  omega
 refine ⟨cs.map (fun v => match v with | .int _ z => z.toNat | _ => 0), by rw [List.length_map, hl], ?_, ?_⟩
 ·intro b hb
  obtain ⟨v, hv, rfl⟩ := List.mem_map.1 hb
  obtain ⟨i, hi', rfl⟩ := List.getElem_of_mem hv
  obtain ⟨n, hn, he⟩ := key i (by omega)
  rw [List.getElem?_eq_getElem hi', Option.some.injEq] at he
  rw [he]
  simpa using hn
 ·rw [List.map_map]
  conv => lhs; rw [← List.map_id cs]
  apply List.map_congr_left
  intro v hv
  obtain ⟨i, hi', rfl⟩ := List.getElem_of_mem hv
  obtain ⟨n, hn, he⟩ := key i (by omega)
  rw [List.getElem?_eq_getElem hi', Option.some.injEq] at he
  rw [he]
  simp
set_option maxRecDepth 100000 in
theorem storage_contract (H : Type) (enc : TypeId × Value → H) (W : World) (base : Nat) (args : Array Value) (ds gs : List (DataW H)) (before : List MemPlace)
  (hval : ∀ (j : Nat) t v, Tryz.f11.params[j]? = some t → args[j]? = some v → Value.okWide Tryz.prog W .any base t v)
  (hW : DataW.Whole enc Tryz.prog Tryz.f11.params.toList Rows.storageSpec.vars false W args.toList ds gs before) (hL : laidMetH Tryz.prog Rows.storageRow.laid W) :
  Calls Tryz.prog 11 args W fun e W' => ∃ v, e = .returned v ∧ Rows.storageSpec.post enc Tryz.prog Tryz.f11 false true false false W args v W' := by
 obtain ⟨⟨sent, hF⟩, hT, hTab⟩ := params_ok hL
 have hM : 16 ≤ W.heap.size := by
  have h1 := World.block_lt_of_cell? W _ (hTab.1 0 (by omega))
  have h2 := World.block_lt_of_cell? W _ (hTab.2 0 (by omega))
  simp only at h1 h2
  omega
 have hW' := hW
 obtain ⟨p, q, hA0, hV, rfl, hfz, hnd⟩ := hW
 have hA : DataW.TrodAll enc Tryz.prog W 0 (fun _ => true) true Tryz.f11.params.toList args.toList ds p := hA0
 rw [Tryz.params11] at hA hval
 obtain ⟨v0, vs0, d0, ds0, p0, q0, hargs0, rfl, rfl, h0, r0⟩ := trodAll_cons hA
 obtain ⟨v1, vs1, d1, ds1, p1, q1, hargs1, rfl, rfl, h1, r1⟩ := trodAll_cons r0
 obtain ⟨v2, vs2, d2, ds2, p2, q2, hargs2, rfl, rfl, h2, r2⟩ := trodAll_cons r1
 obtain ⟨v3, vs3, d3, ds3, p3, q3, hargs3, rfl, rfl, h3, r3⟩ := trodAll_cons r2
 obtain ⟨v4, vs4, d4, ds4, p4, q4, hargs4, rfl, rfl, h4, r4⟩ := trodAll_cons r3
 obtain ⟨rfl, rfl, rfl⟩ := trodAll_nil r4
 obtain rfl : args = #[v0, v1, v2, v3, v4] := by cases args; simp_all
 obtain ⟨rfl, rfl⟩ := trodVars_none hV
 have hlt : ∀ x ∈ p0 ++ (p1 ++ (p2 ++ (p3 ++ (p4 ++ [])))), x.block < W.heap.size := fun x hx => by simpa using hW'.lt x (by simpa using hx)
 have k0 := h0
 have k1 := h1
 have k2 := h2
 have k3 := h3
 have k4 := h4
 obtain ⟨s0, rfl⟩ := okWide_string Tryz.underlying9 (hval 0 9 v0 rfl rfl)
 obtain ⟨s1, rfl⟩ := okWide_string Tryz.underlying9 (hval 1 9 v1 rfl rfl)
 obtain ⟨xs, rfl⟩ : ∃ xs, v2 = .agg xs := by
  have h := hval 2 80 v2 rfl rfl
  simp only [Value.okWide, Tryz.underlying80] at h
  obtain ⟨cs, h1, _⟩ := h
  exact ⟨cs, h1⟩
 obtain ⟨ys, rfl⟩ : ∃ xs, v3 = .agg xs := by
  have h := hval 3 80 v3 rfl rfl
  simp only [Value.okWide, Tryz.underlying80] at h
  obtain ⟨cs, h1, _⟩ := h
  exact ⟨cs, h1⟩
 obtain ⟨s4, rfl⟩ := okWide_string Tryz.underlying9 (hval 4 9 v4 rfl rfl)
 obtain ⟨f0, g0⟩ := h0
 obtain ⟨f1, g1⟩ := h1
 obtain ⟨f2, g2⟩ := h2
 obtain ⟨f3, g3⟩ := h3
 obtain ⟨f4, g4⟩ := h4
 obtain ⟨s0', hs0', _, hz0⟩ := DataW.trod_string Tryz.underlying9 g0
 obtain ⟨s1', hs1', _, hz1⟩ := DataW.trod_string Tryz.underlying9 g1
 obtain ⟨s4', hs4', _, hz4⟩ := DataW.trod_string Tryz.underlying9 g4
 obtain ⟨ow, hol, _, hoc⟩ := adr_of_trod g2
 obtain ⟨nb, hnl, _, hnc⟩ := adr_of_trod g3
 have es0 : s0 = s0' := by simpa [Value.cells] using hs0'
 subst es0
 have es1 : s1 = s1' := by simpa [Value.cells] using hs1'
 subst es1
 have es4 : s4 = s4' := by simpa [Value.cells] using hs4'
 subst es4
 have hxs : xs = (ow.map encB).toArray := by
  have : xs.toList = ow.map encB := hoc
  rw [← this]
 subst hxs
 have hys : ys = (nb.map encB).toArray := by
  have : ys.toList = nb.map encB := hnc
  rw [← this]
 subst hys
 have fin : ∀ W' : World, Below W.heap.size W W' → Rows.storageSpec.post enc Tryz.prog Tryz.f11 false true false false W #[.string s0, .string s1, .agg (ow.map encB).toArray, .agg (nb.map encB).toArray, .string s4] (.bool true) W' := by
  intro W' hnx
  refine ⟨[d0, d1, d2, d3, d4], [], _, [] ++ [], p0 ++ (p1 ++ (p2 ++ (p3 ++ (p4 ++ [])))), [], hW', ?_, ?_, ?_, hnx.frame _, fun h => by cases h⟩
  ·exact trodAll_cons_mk (shut_bool Tryz.underlying4 true) trodAll_mk0
  ·exact trodAll_cons_mk (Below.trod laidOut (by kernel_rfl) (of_decide_eq_true (by kernel_rfl)) k0 hnx (fun x hx => hlt x (by simp [hx])))
    (trodAll_cons_mk (Below.trod laidOut (by kernel_rfl) (of_decide_eq_true (by kernel_rfl)) k1 hnx (fun x hx => hlt x (by simp [hx])))
     (trodAll_cons_mk (Below.trod laidOut (by kernel_rfl) (of_decide_eq_true (by kernel_rfl)) k2 hnx (fun x hx => hlt x (by simp [hx])))
      (trodAll_cons_mk (Below.trod laidOut (by kernel_rfl) (of_decide_eq_true (by kernel_rfl)) k3 hnx (fun x hx => hlt x (by simp [hx])))
       (trodAll_cons_mk (Below.trod laidOut (by kernel_rfl) (of_decide_eq_true (by kernel_rfl)) k4 hnx (fun x hx => hlt x (by simp [hx]))) trodAll_mk0))))
  ·rfl
 have hwk := storage_walk s0 s1 ow nb s4 W sent ⟨hF, hTab, hM, fun n hn => hF.low hn, fun n hn => (hF.plain n hn).lt⟩ hT (World.block_lt_of_cell? W _ hT) (by unfold maxLen at hz0; omega) (by unfold maxLen at hz1; omega) (by unfold maxLen at hz4; omega) hol hnl
 refine hwk.mono fun e W' ⟨he, hnx⟩ => ?_
 subst he
 exact ⟨_, rfl, fin _ hnx⟩
set_option maxRecDepth 100000 in
theorem lifted (os : Os) (started : os.Started) (H : Type) (enc : TypeId × Value → H) (F : Stop.Interp) :
  ReturnsInHanded {} Tryz.checked os 11 .any ((OpenSpec.ofChange Rows.storageSpec).preRow enc Tryz.prog Tryz.f11 Rows.storageRow.domain false Rows.storageRow.laid) (((OpenSpec.ofChange Rows.storageSpec).at F).post enc Tryz.prog Tryz.f11 false true false false) := by
 obtain ⟨places, hx⟩ := reads os enc
 refine returnsInHanded_of_row (C := Tryz.checked) (s := OpenSpec.ofChange Rows.storageSpec) own started (by kernel_rfl) Tryz.func11
  (witness_row_at (enc := enc) (C := Tryz.checked) false (laidWorld os) argsW rfl (by kernel_rfl) (by kernel_rfl) (by kernel_rfl)
   (OpenSpec.preRow_of_cond 8 hx (by kernel_rfl) (fun k hk => by cases hk) (by kernel_rfl) (laid_met os))) ?_
 intro W base args ds gs before hval hW _ _ _ hL _ _
 exact storage_contract H enc W base args ds gs before hval hW hL
theorem said : Rows.StorageSaid :=
 OpenClaim.holds_of_cond 11 Tryz.f11 rfl rfl rfl rfl rfl rfl rfl ⟨rfl, rfl, rfl, rfl, rfl⟩ rfl rfl rfl rfl rfl (by as_aux_lemma => kernel_rfl) Tryz.func11 closedStorage
  (of_decide_eq_true (by as_aux_lemma => kernel_rfl)) (by unfold Func.isWrapper; first | (rw [if_pos (by decide +kernel)]; kernel_rfl) | (rw [if_neg (by decide +kernel)]; exact ⟨rfl, rfl⟩))
  (fun os started H enc _ F => by rw [OpenClaim.pre_eq_preRow]; exact lifted os started H enc F)
theorem plain (f : FuncId) (fn : Func) (hf : Tryz.pinned.checked.prog.funcNamed "twigs/twigskeep.Storage" = some f) (hfn : Tryz.pinned.checked.prog.funcs[f]? = some fn) :
  Rows.storageCard.stood.looks = Tryz.pinned.checked.prog.looks [] ∧ ∀ (j : Nat) t, fn.params[j]? = some t → Tryz.pinned.checked.prog.wantsStandIn t = false := by
 obtain rfl : f = 11 := Option.some.inj ((show Tryz.prog.funcNamed "twigs/twigskeep.Storage" = some 11 by kernel_rfl).symm.trans hf) |>.symm
 obtain rfl : fn = Tryz.f11 := (Option.some.inj (Tryz.func11.symm.trans hfn)).symm
 refine ⟨by kernel_rfl, fun j t ht => ?_⟩
 rw [Tryz.params11] at ht
 have hm : t = 80 ∨ t = 9 := by
  rcases j with _ | _ | _ | _ | _ | j
  ·exact .inr (Option.some.inj ht).symm
  ·exact .inr (Option.some.inj ht).symm
  ·exact .inl (Option.some.inj ht).symm
  ·exact .inl (Option.some.inj ht).symm
  ·exact .inr (Option.some.inj ht).symm
  ·simp at ht
 rcases hm with rfl | rfl
 ·exact (show Tryz.prog.wantsStandIn 80 = false by kernel_rfl)
 ·exact (show Tryz.prog.wantsStandIn 9 = false by kernel_rfl)
theorem storage_card : Rows.StorageCardSaid :=
 Claim7.holds_tied_plain_at .later [] _ _ _ _ said (fun _ h => by cases h) (by as_aux_lemma => kernel_rfl) (fun _ h => by cases h) storage_row_tie rfl ⟨rfl, rfl⟩ (by as_aux_lemma => kernel_rfl) rfl plain (by as_aux_lemma => kernel_rfl)
end Go.Proofs.YtjiikjpnlgogfaaGreatDoor
