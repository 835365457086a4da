/-
  Proved: for every key, every two numbers and every text, the call of twigskeep.Laid at the named commit returns true and leaves its arguments as they were: the root of a map of no key, of one, of up to sixteen that part at one place is the one that codes and digests alone give.
  Conditions: the listed package-level variables hold what the program's text lays (the card ties them).
-/
import Derived.Test.YtjiikjpnlgogfaaGreatDoorLaW
import Derived.Test.YtjiikjpnlgogfaaGreatDoorLaidClosed
import Derived.Test.YtjiikjpnlgogfaaGreatDoorErrTab
import Derived.Test.YtjiikjpnlgogfaaGreatDoorCards
import Derived.Test.YtjiikjpnlgogfaaGreatDoorTie
namespace Go.Proofs.YtjiikjpnlgogfaaGreatDoor
open Go.ChangeShapes Go.WideShapes Go.ChangeAt Go.RowKit

abbrev argsW : Array Value := #[.agg #[.int .u8 0, .int .u8 0, .int .u8 0, .int .u8 0, .int .u8 0, .int .u8 0, .int .u8 0, .int .u8 0, .int .u8 0, .int .u8 0, .int .u8 0, .int .u8 0, .int .u8 0, .int .u8 0, .int .u8 0, .int .u8 0, .int .u8 0, .int .u8 0, .int .u8 0, .int .u8 0, .int .u8 0, .int .u8 0, .int .u8 0, .int .u8 0, .int .u8 0, .int .u8 0, .int .u8 0, .int .u8 0, .int .u8 0, .int .u8 0, .int .u8 0, .int .u8 0], .int .i64 0, .int .i64 0, .string ⟨#[]⟩]
theorem laid_met (os : Os) : laidMetH Tryz.prog Rows.laidRow.laid ((laidWorld os).forCall (fun _ _ => 0) ⟨#[], argsW, []⟩).memory :=
  laidMetH_of_parts (laidMet_of_run' 8 (by kernel_rfl) (by kernel_rfl)) (by kernel_rfl)
theorem reads (os : Os) {H : Type} (enc : TypeId × Value → H) : ∃ places, DataW.whole enc Tryz.prog ((laidWorld os).forCall (fun _ _ => 0) ⟨#[], argsW, []⟩).memory Tryz.f6.params.toList Rows.laidSpec.vars false argsW.toList 8 = some ([.agg [.lit (.int .u8 0), .lit (.int .u8 0), .lit (.int .u8 0), .lit (.int .u8 0), .lit (.int .u8 0), .lit (.int .u8 0), .lit (.int .u8 0), .lit (.int .u8 0), .lit (.int .u8 0), .lit (.int .u8 0), .lit (.int .u8 0), .lit (.int .u8 0), .lit (.int .u8 0), .lit (.int .u8 0), .lit (.int .u8 0), .lit (.int .u8 0), .lit (.int .u8 0), .lit (.int .u8 0), .lit (.int .u8 0), .lit (.int .u8 0), .lit (.int .u8 0), .lit (.int .u8 0), .lit (.int .u8 0), .lit (.int .u8 0), .lit (.int .u8 0), .lit (.int .u8 0), .lit (.int .u8 0), .lit (.int .u8 0), .lit (.int .u8 0), .lit (.int .u8 0), .lit (.int .u8 0), .lit (.int .u8 0)], .lit (.int .i64 0), .lit (.int .i64 0), .lit (.string [])], [], places) :=
  ⟨[], by kernel_rfl⟩

theorem params_ok {W : World} (hL : laidMetH Tryz.prog Rows.laidRow.laid W) : (∃ sent, Faults W sent) ∧ typeAt W ∧ Tabs W := by
  have h0 : laidMet Tryz.prog (("twigs/digest.turns", Rows.laid_twigs_digest_turns) :: ("twigs/digest.roundKeys", Rows.laid_twigs_digest_roundKeys) :: ([1, 2, 3, 4, 5, 6, 7, 8, 9, 10, 11, 12, 13].map fun n => (errName n, errText n))) W := hL.1
  exact ⟨faults_of_list (by decide) (by decide) h0.tail.tail, typeAt_of (hs := [("errors.errorType", Rows.laid_errors_errorType)]) (List.mem_singleton.2 rfl) hL.2, tabs_of_list h0⟩

theorem cells26 : Tryz.prog.cellsOf 26 = 32 := by kernel_rfl
theorem cells5 : Tryz.prog.cellsOf 5 = 1 := by kernel_rfl
/-- WHAT READING A KEY GIVES: its 32 bytes. -/
theorem key_of_trod {H : Type} {enc : TypeId × Value → H} {W : World} {base : Nat} {sp : Nat → Bool} {held : Bool} {fuel : Nat} {cs : List Value} {x : DataW H × List MemPlace} (h : DataW.trod enc Tryz.prog W base sp held fuel 26 cs = some x) :
    ∃ root : List Nat, root.length = 32 ∧ (∀ b ∈ root, b < 256) ∧ cs = root.map encB := by
  obtain ⟨xs, m, _, _, hl, hx, hi⟩ := DataW.trod_array Tryz.underlying26 h
  rw [cells26] at hl
  have key : ∀ i, i < 32 → ∃ n : Nat, n < 256 ∧ cs[i]? = some (encB n) := by
    intro i hi32
    have hq := hi i hi32
    rw [cells5, Nat.mul_one, List.getElem?_eq_getElem (by rw [hx]; exact hi32)] at hq
    obtain ⟨z, e, _, wf⟩ := DataW.trod_int Tryz.underlying5 hq
    have hb := bounds_u8 wf
    refine ⟨z.toNat, by omega, ?_⟩
    have e1 : (cs.drop i)[0]? = some (.int .u8 z) := by
      rw [← List.getElem?_take_of_lt (show 0 < 1 by omega), e]
      rfl
    rw [List.getElem?_drop, Nat.add_zero] at e1
    rw [e1]
    congr 2
    omega
  refine ⟨cs.map (fun v => match v with | .int _ z => z.toNat | _ => 0), by rw [List.length_map, hl], ?_, ?_⟩
  · intro b hb
    obtain ⟨v, hv, rfl⟩ := List.mem_map.1 hb
    obtain ⟨i, hi', rfl⟩ := List.getElem_of_mem hv
    obtain ⟨n, hn, he⟩ := key i (by omega)
    rw [List.getElem?_eq_getElem hi', Option.some.injEq] at he
    rw [he]
    simpa using hn
  · rw [List.map_map]
    conv => lhs; rw [← List.map_id cs]
    apply List.map_congr_left
    intro v hv
    obtain ⟨i, hi', rfl⟩ := List.getElem_of_mem hv
    obtain ⟨n, hn, he⟩ := key i (by omega)
    rw [List.getElem?_eq_getElem hi', Option.some.injEq] at he
    rw [he]
    simp

set_option maxRecDepth 100000 in
/-- WHAT THE WALK GIVES, FOR EVERY ARGUMENT AND EVERY WORLD THAT HOLDS THE LISTED VARIABLES. -/
theorem laid_contract (H : Type) (enc : TypeId × Value → H) (W : World) (base : Nat) (args : Array Value) (ds gs : List (DataW H)) (before : List MemPlace)
    (hval : ∀ (j : Nat) t v, Tryz.f6.params[j]? = some t → args[j]? = some v → Value.okWide Tryz.prog W .any base t v)
    (hW : DataW.Whole enc Tryz.prog Tryz.f6.params.toList Rows.laidSpec.vars false W args.toList ds gs before) (hL : laidMetH Tryz.prog Rows.laidRow.laid W) :
    Calls Tryz.prog 6 args W fun e W' => ∃ v, e = .returned v ∧ Rows.laidSpec.post enc Tryz.prog Tryz.f6 false true false false W args v W' := by
  obtain ⟨⟨sent, hF⟩, hT, hTab⟩ := params_ok hL
  have hM : 16 ≤ W.heap.size := by
    have h1 := World.block_lt_of_cell? W _ (hTab.1 0 (by omega))
    have h2 := World.block_lt_of_cell? W _ (hTab.2 0 (by omega))
    simp only at h1 h2
    omega
  have hW' := hW
  obtain ⟨p, q, hA0, hV, rfl, hfz, hnd⟩ := hW
  have hA : DataW.TrodAll enc Tryz.prog W 0 (fun _ => true) true Tryz.f6.params.toList args.toList ds p := hA0
  rw [Tryz.params6] at hA hval
  obtain ⟨v0, vs0, d0, ds0, p0, q0, hargs0, rfl, rfl, h0, r0⟩ := trodAll_cons hA
  obtain ⟨v1, vs1, d1, ds1, p1, q1, hargs1, rfl, rfl, h1, r1⟩ := trodAll_cons r0
  obtain ⟨v2, vs2, d2, ds2, p2, q2, hargs2, rfl, rfl, h2, r2⟩ := trodAll_cons r1
  obtain ⟨v3, vs3, d3, ds3, p3, q3, hargs3, rfl, rfl, h3, r3⟩ := trodAll_cons r2
  obtain ⟨rfl, rfl, rfl⟩ := trodAll_nil r3
  obtain rfl : args = #[v0, v1, v2, v3] := by cases args; simp_all
  obtain ⟨rfl, rfl⟩ := trodVars_none hV
  have hlt : ∀ x ∈ p0 ++ (p1 ++ (p2 ++ (p3 ++ []))), x.block < W.heap.size := fun x hx => by simpa using hW'.lt x (by simpa using hx)
  have k0 := h0
  have k1 := h1
  have k2 := h2
  have k3 := h3
  obtain ⟨xs, rfl⟩ : ∃ xs, v0 = .agg xs := by
    have h := hval 0 26 v0 rfl rfl
    simp only [Value.okWide, Tryz.underlying26] at h
    obtain ⟨cs, h1, _⟩ := h
    exact ⟨cs, h1⟩
  obtain ⟨n1, rfl⟩ := okWide_int Tryz.underlying3 (hval 1 3 v1 rfl rfl)
  obtain ⟨n2, rfl⟩ := okWide_int Tryz.underlying3 (hval 2 3 v2 rfl rfl)
  obtain ⟨s, rfl⟩ := okWide_string Tryz.underlying9 (hval 3 9 v3 rfl rfl)
  obtain ⟨f0, g0⟩ := h0
  obtain ⟨f1, g1⟩ := h1
  obtain ⟨f2, g2⟩ := h2
  obtain ⟨f3, g3⟩ := h3
  obtain ⟨s', hs', _, hsz⟩ := DataW.trod_string Tryz.underlying9 g3
  obtain ⟨m1, e1, _, w1⟩ := DataW.trod_int Tryz.underlying3 g1
  obtain ⟨m2, e2, _, w2⟩ := DataW.trod_int Tryz.underlying3 g2
  obtain ⟨root, hrl, hrb, hcs⟩ := key_of_trod g0
  have es : s = s' := by simpa [Value.cells] using hs'
  subst es
  have en1 : n1 = m1 := by simpa [Value.cells] using e1
  have en2 : n2 = m2 := by simpa [Value.cells] using e2
  subst en1 en2
  have b1 := bounds_i64 w1
  have b2 := bounds_i64 w2
  have hxs : xs = (root.map encB).toArray := by
    have : xs.toList = root.map encB := hcs
    rw [← this]
  subst hxs
  have fin : ∀ W' : World, Below W.heap.size W W' → Rows.laidSpec.post enc Tryz.prog Tryz.f6 false true false false W #[.agg (root.map encB).toArray, .int .i64 n1, .int .i64 n2, .string s] (.bool true) W' := by
    intro W' hnx
    refine ⟨[d0, d1, d2, d3], [], _, [] ++ [], p0 ++ (p1 ++ (p2 ++ (p3 ++ []))), [], hW', ?_, ?_, ?_, hnx.frame _, fun h => by cases h⟩
    · exact trodAll_cons_mk (shut_bool Tryz.underlying4 true) trodAll_mk0
    · exact trodAll_cons_mk (Below.trod laidOut (by kernel_rfl) (of_decide_eq_true (by kernel_rfl)) k0 hnx (fun x hx => hlt x (by simp [hx])))
        (trodAll_cons_mk (Below.trod laidOut (by kernel_rfl) (of_decide_eq_true (by kernel_rfl)) k1 hnx (fun x hx => hlt x (by simp [hx])))
          (trodAll_cons_mk (Below.trod laidOut (by kernel_rfl) (of_decide_eq_true (by kernel_rfl)) k2 hnx (fun x hx => hlt x (by simp [hx])))
            (trodAll_cons_mk (Below.trod laidOut (by kernel_rfl) (of_decide_eq_true (by kernel_rfl)) k3 hnx (fun x hx => hlt x (by simp [hx]))) trodAll_mk0)))
    · rfl
  have hwk := laid_walk root.toArray n1 n2 s W sent hF hT hTab hM (by simpa using hrl) (fun j => by
    by_cases hj : j < root.length
    · rw [getElem!_pos root.toArray j (by simpa using hj)]
      exact hrb _ (by simp)
    · rw [getElem!_neg root.toArray j (by simpa using hj)]
      decide) (by omega) (by omega) (by omega) (by omega) (by unfold maxLen at hsz; omega)
  refine hwk.mono fun e W' ⟨he, hnx⟩ => ?_
  subst he
  exact ⟨_, rfl, fin _ hnx⟩

set_option maxRecDepth 100000 in
/-- THE ROW's STEP. -/
theorem lifted (os : Os) (started : os.Started) (H : Type) (enc : TypeId × Value → H) (F : Stop.Interp) :
    ReturnsInHanded {} Tryz.checked os 6 .any ((OpenSpec.ofChange Rows.laidSpec).preRow enc Tryz.prog Tryz.f6 Rows.laidRow.domain false Rows.laidRow.laid) (((OpenSpec.ofChange Rows.laidSpec).at F).post enc Tryz.prog Tryz.f6 false true false false) := by
  obtain ⟨places, hx⟩ := reads os enc
  refine returnsInHanded_of_row (C := Tryz.checked) (s := OpenSpec.ofChange Rows.laidSpec) own started (by kernel_rfl) Tryz.func6
    (witness_row_at (enc := enc) (C := Tryz.checked) false (laidWorld os) argsW rfl (by kernel_rfl) (by kernel_rfl) (by kernel_rfl)
      (OpenSpec.preRow_of_cond 8 hx (by kernel_rfl) (fun k hk => by cases hk) (by kernel_rfl) (laid_met os))) ?_
  intro W base args ds gs before hval hW _ _ _ hL _ _
  exact laid_contract H enc W base args ds gs before hval hW hL

theorem said : Rows.LaidSaid :=
  OpenClaim.holds_of_cond 6 Tryz.f6 rfl rfl rfl rfl rfl rfl rfl ⟨rfl, rfl, rfl, rfl, rfl⟩ rfl rfl rfl rfl rfl (by as_aux_lemma => kernel_rfl) Tryz.func6 closedLaid
    (of_decide_eq_true (by as_aux_lemma => kernel_rfl)) (by unfold Func.isWrapper; first | (rw [if_pos (by decide +kernel)]; kernel_rfl) | (rw [if_neg (by decide +kernel)]; exact ⟨rfl, rfl⟩))
    (fun os started H enc _ F => by rw [OpenClaim.pre_eq_preRow]; exact lifted os started H enc F)

/-- No parameter wants a stand-in; the program's own looks are as the card says: what the card asks. -/
theorem plain (f : FuncId) (fn : Func) (hf : Tryz.pinned.checked.prog.funcNamed "twigs/twigskeep.Laid" = some f) (hfn : Tryz.pinned.checked.prog.funcs[f]? = some fn) :
    Rows.laidCard.stood.looks = Tryz.pinned.checked.prog.looks [] ∧ ∀ (j : Nat) t, fn.params[j]? = some t → Tryz.pinned.checked.prog.wantsStandIn t = false := by
  obtain rfl : f = 6 := Option.some.inj ((show Tryz.prog.funcNamed "twigs/twigskeep.Laid" = some 6 by kernel_rfl).symm.trans hf) |>.symm
  obtain rfl : fn = Tryz.f6 := (Option.some.inj (Tryz.func6.symm.trans hfn)).symm
  refine ⟨by kernel_rfl, fun j t ht => ?_⟩
  rw [Tryz.params6] at ht
  have hm : t = 26 ∨ t = 3 ∨ t = 9 := by
    have := Array.mem_of_getElem? ht
    simp at this
    omega
  rcases hm with rfl | rfl | rfl
  · exact (show Tryz.prog.wantsStandIn 26 = false by kernel_rfl)
  · exact (show Tryz.prog.wantsStandIn 3 = false by kernel_rfl)
  · exact (show Tryz.prog.wantsStandIn 9 = false by kernel_rfl)

/-- THE CARD. -/
theorem laid_card : Rows.LaidCardSaid :=
  Claim7.holds_tied_plain_at .later [] _ _ _ _ said (fun _ h => by cases h) (by as_aux_lemma => kernel_rfl) (fun _ h => by cases h) laid_row_tie rfl ⟨rfl, rfl⟩ (by as_aux_lemma => kernel_rfl) rfl plain (by as_aux_lemma => kernel_rfl)
end Go.Proofs.YtjiikjpnlgogfaaGreatDoor
