/-
  Proved: for every script of steps that together hold at most 1048576 values and letters, the call of twigslaw.Maps at the named commit returns true and leaves its argument as it was: every Put, Delete, Get, Root on several maps answers as the document says, and behind the last step so does the root of every map.
  Conditions: the second form's bound on what comes in; the listed package-level variables hold what the program's text lays (the card ties them).
-/
import Derived.Test.YtjiikjpnlgogfaaGreatDoorMqMapD
import Derived.Test.YtjiikjpnlgogfaaGreatDoorMqCdG
import Derived.Test.YtjiikjpnlgogfaaGreatDoorCards
import Derived.Test.YtjiikjpnlgogfaaGreatDoorTie
import Derived.Deep.Slices
namespace Go.Proofs.YtjiikjpnlgogfaaGreatDoor
open Go.ChangeShapes Go.WideShapes Go.ChangeAt Go.RowKit

theorem cellsOp : Tryz.prog.cellsOf 102 = 160 := by kernel_rfl
theorem cells9 : Tryz.prog.cellsOf 9 = 1 := by kernel_rfl

theorem bulk_pos {H : Type} (d : DataW H) : 1 ≤ Rows.uptoBulk d := by
  cases d with
  | lit l => cases l <;> simp [Rows.uptoBulk]
  | _ => simp [Rows.uptoBulk]
theorem bulkAll_length {H : Type} : ∀ l : List (DataW H), l.length ≤ Rows.uptoBulkAll l := by
  intro l
  induction l with
  | nil => simp [Rows.uptoBulkAll]
  | cons e l ih =>
    rw [Rows.uptoBulkAll, List.length_cons]
    have := bulk_pos e
    omega

theorem part_cell {cs : List Value} {o n j : Nat} {l : List Value} (h : (cs.drop o).take n = l) (hj : j < l.length) : cs.toArray[o + j]? = l[j]? := by
  have hn : l.length ≤ n := by
    rw [← h, List.length_take]
    exact Nat.min_le_left _ _
  have e : ((cs.drop o).take n)[j]? = (cs.drop o)[j]? := List.getElem?_take_of_lt (by omega)
  rw [h, List.getElem?_drop] at e
  rw [e]
  simp

theorem cells26 : Tryz.prog.cellsOf 26 = 32 := by kernel_rfl
theorem cells5 : Tryz.prog.cellsOf 5 = 1 := by kernel_rfl
/-- WHAT READING A KEY GIVES: its 32 bytes. -/
theorem key_of_trod {H : Type} {enc : TypeId × Value → H} {W : World} {base : Nat} {sp : Nat → Bool} {held : Bool} {fuel : Nat} {cs : List Value} {x : DataW H × List MemPlace} (h : DataW.trod enc Tryz.prog W base sp held fuel 26 cs = some x) :
    ∃ root : List Nat, root.length = 32 ∧ (∀ b ∈ root, b < 256) ∧ cs = root.map encB := by
  obtain ⟨xs, m, _, _, hl, hx, hi⟩ := DataW.trod_array Tryz.underlying26 h
  rw [cells26] at hl
  have key : ∀ i, i < 32 → ∃ n : Nat, n < 256 ∧ cs[i]? = some (encB n) := by
    intro i hi32
    have hq := hi i hi32
    rw [cells5, Nat.mul_one, List.getElem?_eq_getElem (by rw [hx]; exact hi32)] at hq
    obtain ⟨z, e, _, wf⟩ := DataW.trod_int Tryz.underlying5 hq
    have hb := bounds_u8 wf
    refine ⟨z.toNat, by omega, ?_⟩
    have e1 : (cs.drop i)[0]? = some (.int .u8 z) := by
      rw [← List.getElem?_take_of_lt (show 0 < 1 by omega), e]
      rfl
    rw [List.getElem?_drop, Nat.add_zero] at e1
    rw [e1]
    congr 2
    omega
  refine ⟨cs.map (fun v => match v with | .int _ z => z.toNat | _ => 0), by rw [List.length_map, hl], ?_, ?_⟩
  · intro b hb
    obtain ⟨v, hv, rfl⟩ := List.mem_map.1 hb
    obtain ⟨i, hi', rfl⟩ := List.getElem_of_mem hv
    obtain ⟨n, hn, he⟩ := key i (by omega)
    rw [List.getElem?_eq_getElem hi', Option.some.injEq] at he
    rw [he]
    simpa using hn
  · rw [List.map_map]
    conv => lhs; rw [← List.map_id cs]
    apply List.map_congr_left
    intro v hv
    obtain ⟨i, hi', rfl⟩ := List.getElem_of_mem hv
    obtain ⟨n, hn, he⟩ := key i (by omega)
    rw [List.getElem?_eq_getElem hi', Option.some.injEq] at he
    rw [he]
    simp


/-- WHAT READING A STEP GIVES. -/
theorem opk_of_trod {H : Type} {enc : TypeId × Value → H} {W : World} {base : Nat} {sp : Nat → Bool} {held : Bool} {fuel : Nat} {cs : List Value} {x : DataW H × List MemPlace} (h : DataW.trod enc Tryz.prog W base sp held fuel 102 cs = some x) :
    ∃ kd a K s, OpK cs.toArray kd a K s ∧ (-9223372036854775808 ≤ a ∧ a < 9223372036854775808) := by
  obtain ⟨xs, n, _, rfl, hl, hlen, hf⟩ := DataW.trod_struct Tryz.underlying102 h
  have hx : ∀ i, i < 12 → ∃ y, xs[i]? = some y := fun i hi => ⟨xs[i]'(by rw [hlen]; show i < 12; omega), List.getElem?_eq_getElem _⟩
  obtain ⟨y0, hy0⟩ := hx 0 (by omega)
  obtain ⟨y1, hy1⟩ := hx 1 (by omega)
  obtain ⟨y2, hy2⟩ := hx 2 (by omega)
  obtain ⟨y5, hy5⟩ := hx 5 (by omega)
  have f0 : DataW.trod enc Tryz.prog W base sp held n 3 ((cs.drop 0).take (Tryz.prog.cellsOf 3)) = xs[0]? := hf 0 _ rfl
  have f1 : DataW.trod enc Tryz.prog W base sp held n 3 ((cs.drop 1).take (Tryz.prog.cellsOf 3)) = xs[1]? := hf 1 _ rfl
  have f2 : DataW.trod enc Tryz.prog W base sp held n 26 ((cs.drop 2).take (Tryz.prog.cellsOf 26)) = xs[2]? := hf 2 _ rfl
  have f5 : DataW.trod enc Tryz.prog W base sp held n 9 ((cs.drop 67).take (Tryz.prog.cellsOf 9)) = xs[5]? := hf 5 _ rfl
  rw [hy0] at f0
  rw [hy1] at f1
  rw [hy2] at f2
  rw [hy5] at f5
  obtain ⟨kd, e0, _, _⟩ := DataW.trod_int Tryz.underlying3 f0
  obtain ⟨a, e1, _, w1⟩ := DataW.trod_int Tryz.underlying3 f1
  obtain ⟨K, hKl, hKb, e2⟩ := key_of_trod f2
  obtain ⟨s, e5, _, _⟩ := DataW.trod_string Tryz.underlying9 f5
  rw [cells3] at e0 e1
  rw [cells9] at e5
  have hb := bounds_i64 w1
  refine ⟨kd, a, K.toArray, s, ⟨by rw [List.size_toArray, hl, cellsOp], part_cell (j := 0) e0 (by simp), part_cell (j := 0) e1 (by simp), fun j hj => ?_, part_cell (j := 0) e5 (by simp), by simpa using hKl, fun j => ?_⟩, by omega, by omega⟩
  · have hj' : j < K.length := by simpa using hj
    rw [part_cell e2 (by simpa using hj'), List.getElem?_map, List.getElem?_eq_getElem hj']
    simp
  · by_cases hj : j < K.length
    · rw [getElem!_pos K.toArray j (by simpa using hj)]
      exact hKb _ (by simp)
    · rw [getElem!_neg K.toArray j (by simpa using hj)]
      decide

set_option maxHeartbeats 800000 in
theorem mapsL_any (adr : Option Addr) (n cap : Nat) (w : World) (sent : Nat → Addr) (hF : Faults w sent) (hT : Tabs w) (hM : 16 ≤ w.heap.size) (hn : n ≤ 1048576) (hS : ScriptM w adr n) :
    Calls Tryz.prog 5 #[.slice adr n cap] w fun e w' => e = .returned (.bool true) ∧ Below w.heap.size w w' := by
  have HP := Hid.hide (playsM_any adr n cap w sent hF hT hM hn hS)
  clear hT hF hn hS hM
  go_enter Tryz.func5, Tryz.ntmps5
  go_wp2_with fail
  refine HP.out.mono ?_
  rintro e w1 ⟨rfl, hb⟩
  have HB : Hid (Below w.heap.size w w1) := hb
  clear hb
  go_wp2
  go_ret
  exact ⟨rfl, HB.out⟩

theorem laid_met (os : Os) : laidMetH Tryz.prog Rows.mapsUptoRow.laid ((laidWorld os).forCall (fun _ _ => 0) ⟨#[], #[.slice none 0 0], []⟩).memory :=
  laidMetH_of_parts (laidMet_of_run' 8 (by kernel_rfl) (by kernel_rfl)) (by kernel_rfl)
theorem reads (os : Os) {H : Type} (enc : TypeId × Value → H) : ∃ places, DataW.whole enc Tryz.prog ((laidWorld os).forCall (fun _ _ => 0) ⟨#[], #[.slice none 0 0], []⟩).memory Tryz.f5.params.toList Rows.mapsSpec.vars false #[Value.slice none 0 0].toList 8 = some ([.nil], [], places) :=
  ⟨[], by kernel_rfl⟩

theorem params_ok {W : World} (hL : laidMetH Tryz.prog Rows.mapsUptoRow.laid W) : (∃ sent, Faults W sent) ∧ Tabs W := by
  have h : laidMet Tryz.prog (("math/bits.deBruijn32tab", Rows.laid_math_bits_deBruijn32tab) :: ("twigs/digest.turns", Rows.laid_twigs_digest_turns) :: ("twigs/digest.roundKeys", Rows.laid_twigs_digest_roundKeys) :: ([1, 2, 3, 4, 5, 6, 7, 8, 9, 10, 11, 12, 13].map fun n => (errName n, errText n))) W := hL.1
  exact ⟨faults_of_list (by decide) (by decide) h.tail.tail.tail, tabs_of_list h.tail⟩

set_option maxRecDepth 100000 in
/-- WHAT THE WALK GIVES, FOR EVERY ARGUMENT WITHIN THE BOUND AND EVERY WORLD THAT HOLDS THE TABLES. -/
theorem maps_contract (H : Type) (enc : TypeId × Value → H) (W : World) (base : Nat) (args : Array Value) (ds gs : List (DataW H)) (before : List MemPlace)
    (hval : ∀ (j : Nat) t v, Tryz.f5.params[j]? = some t → args[j]? = some v → Value.okWide Tryz.prog W .any base t v)
    (hW : DataW.Whole enc Tryz.prog Tryz.f5.params.toList Rows.mapsSpec.vars false W args.toList ds gs before) (hL : laidMetH Tryz.prog Rows.mapsUptoRow.laid W) (hk : Rows.uptoSmall H (ds ++ gs) = true) :
    Calls Tryz.prog 5 args W fun e W' => ∃ v, e = .returned v ∧ Rows.mapsSpec.post enc Tryz.prog Tryz.f5 false true false false W args v W' := by
  obtain ⟨⟨sent, hF⟩, hT⟩ := params_ok hL
  have hM : 16 ≤ W.heap.size := by
    have h1 := World.block_lt_of_cell? W _ (hT.1 0 (by omega))
    have h2 := World.block_lt_of_cell? W _ (hT.2 0 (by omega))
    simp only at h1 h2
    omega
  have hW' := hW
  obtain ⟨p, q, hA0, hV, rfl, hfz, hnd⟩ := hW
  have hA : DataW.TrodAll enc Tryz.prog W 0 (fun _ => true) true Tryz.f5.params.toList args.toList ds p := hA0
  rw [Tryz.params5] at hA hval
  obtain ⟨v0, vs0, d0, ds0, p0, q0, hargs, rfl, rfl, h0, r0⟩ := trodAll_cons hA
  obtain ⟨rfl, rfl, rfl⟩ := trodAll_nil r0
  obtain rfl : args = #[v0] := by cases args; simp_all
  obtain ⟨rfl, rfl⟩ := trodVars_none hV
  obtain ⟨a0, len, cap, rfl⟩ := okWide_slice Tryz.underlying22 (hval 0 22 v0 rfl rfl)
  have h0k := h0
  obtain ⟨fuel, hf⟩ := h0
  clear hA0
  simp only [List.append_nil] at hW' hk
  have hlt : ∀ x ∈ p0, x.block < W.heap.size := fun x hx => by simpa using hW'.lt x hx
  have fin : ∀ W' : World, Below W.heap.size W W' → Rows.mapsSpec.post enc Tryz.prog Tryz.f5 false true false false W #[.slice a0 len cap] (.bool true) W' := by
    intro W' hnx
    refine ⟨[d0], [], _, [] ++ [], p0 ++ [], [], hW', ?_, ?_, ?_, hnx.frame _, fun h => by cases h⟩
    · exact trodAll_cons_mk (shut_bool Tryz.underlying4 true) trodAll_mk0
    · exact trodAll_cons_mk (Below.trod laidOut (by kernel_rfl) (of_decide_eq_true (by kernel_rfl)) h0k hnx hlt) trodAll_mk0
    · rfl
  rcases Go.Deep.open_slice Tryz.underlying22 hf with ⟨hcs, hx⟩ | ⟨a, len', cap', m, n, D, Pl, hcs, _, hlc, hcm, hm, hx, hel⟩
  · simp [Value.cells] at hcs
    obtain ⟨rfl, rfl, rfl⟩ := hcs
    refine (mapsL_any none 0 0 W sent hF hT hM (by omega) (fun i hi => by omega)).mono fun e W' ⟨he, hnx⟩ => ?_
    subst he
    exact ⟨_, rfl, fin _ hnx⟩
  · simp [Value.cells] at hcs
    obtain ⟨rfl, rfl, rfl⟩ := hcs
    simp only [if_true] at hm
    subst hm
    simp only [Prod.mk.injEq] at hx
    obtain ⟨rfl, rfl⟩ := hx
    have hbulk : Rows.uptoBulkAll [DataW.slice (H := H) ((List.range len).map D) ((List.range (m - len)).map fun j => D (len + j))] ≤ 1048576 := of_decide_eq_true hk
    simp only [Rows.uptoBulkAll, Rows.uptoBulk] at hbulk
    have hb1 := bulkAll_length ((List.range len).map D)
    rw [List.length_map, List.length_range] at hb1
    have hS : ScriptM W (some a) len := by
      intro i hi
      obtain ⟨cs, hc1, hc2⟩ := hel i (by omega)
      obtain ⟨_, hcl, hcc⟩ := World.cells?_some hc1
      obtain ⟨kd, aa, K, s, hop, hab⟩ := opk_of_trod hc2
      rw [cellsOp] at hcl hcc
      obtain ⟨b, off, spot⟩ := a
      obtain ⟨cs0, hc01, _⟩ := hel 0 (by omega)
      obtain ⟨_, hcl0, hcc0⟩ := World.cells?_some hc01
      rw [cellsOp] at hcl0 hcc0
      have hv00 := hcc0 0 (by omega)
      rw [List.getElem?_eq_getElem (by omega)] at hv00
      have hspot : spot = none := by simpa [Addr.add] using World.cell?_spot hv00
      subst hspot
      have hc0 := hcc 0 (by omega)
      have hv0 : cs[0]? = some (.int .i64 kd) := by have := hop.k; simpa using this
      rw [hv0] at hc0
      have hbW : b < W.heap.size := by
        have := World.block_lt_of_cell? W _ hc0
        simpa [Addr.add_mid] using this
      refine ⟨b, off, cs.toArray, kd, aa, K, s, rfl, hbW, hop, hab, fun j v hv => ?_⟩
      have hj : j < 160 := by
        have := (List.getElem?_eq_some_iff.1 hv).1
        simpa [hcl] using this
      have hcj := hcc j hj
      rw [Addr.add_mid, Addr.add_mid] at hcj
      rw [hcj, ← hv]
    refine (mapsL_any (some a) len m W sent hF hT hM (by omega) hS).mono fun e W' ⟨he, hnx⟩ => ?_
    subst he
    exact ⟨_, rfl, fin _ hnx⟩
end Go.Proofs.YtjiikjpnlgogfaaGreatDoor

namespace Go.Proofs.YtjiikjpnlgogfaaGreatDoor
open Go.ChangeShapes Go.WideShapes Go.ChangeAt Go.RowKit

set_option maxRecDepth 100000 in
/-- THE SECOND FORM's STEP. -/
theorem liftedUpto (os : Os) (started : os.Started) (H : Type) (enc : TypeId × Value → H) (F : Stop.Interp) :
    ReturnsInHanded {} Tryz.checked os 5 .any ((Rows.OpenSpec.upto Rows.mapsSpec).preRow enc Tryz.prog Tryz.f5 Rows.mapsUptoRow.domain false Rows.mapsUptoRow.laid) (((Rows.OpenSpec.upto Rows.mapsSpec).at F).post enc Tryz.prog Tryz.f5 false true false false) := by
  obtain ⟨places, hx⟩ := reads os enc
  refine returnsInHanded_of_row (C := Tryz.checked) (s := Rows.OpenSpec.upto Rows.mapsSpec) own started (by kernel_rfl) Tryz.func5
    (witness_row_at (enc := enc) (C := Tryz.checked) false (laidWorld os) #[.slice none 0 0] rfl (by kernel_rfl) (by kernel_rfl) (by kernel_rfl)
      (OpenSpec.preRow_of_cond 8 hx (by kernel_rfl) (fun k hk => by cases hk; kernel_rfl) (by kernel_rfl) (laid_met os))) ?_
  intro W base args ds gs before hval hW _ hcond _ hL _ _
  exact maps_contract H enc W base args ds gs before hval hW hL (hcond _ rfl)
end Go.Proofs.YtjiikjpnlgogfaaGreatDoor

namespace Go.Proofs.YtjiikjpnlgogfaaGreatDoor
open Go.ChangeShapes Go.WideShapes Go.ChangeAt Go.RowKit

theorem saidUpto : Rows.MapsUptoSaid :=
  OpenClaim.holds_of_cond 5 Tryz.f5 rfl rfl rfl rfl rfl rfl rfl ⟨rfl, rfl, rfl, rfl, rfl⟩ rfl rfl rfl rfl rfl (by as_aux_lemma => kernel_rfl) Tryz.func5 closedMaps
    (of_decide_eq_true (by as_aux_lemma => kernel_rfl)) (by unfold Func.isWrapper; first | (rw [if_pos (by decide +kernel)]; kernel_rfl) | (rw [if_neg (by decide +kernel)]; exact ⟨rfl, rfl⟩))
    (fun os started H enc _ F => by rw [OpenClaim.pre_eq_preRow]; exact liftedUpto os started H enc F)
end Go.Proofs.YtjiikjpnlgogfaaGreatDoor

namespace Go.Proofs.YtjiikjpnlgogfaaGreatDoor
open Go.ChangeShapes Go.WideShapes Go.ChangeAt Go.RowKit
/-- No parameter wants a stand-in; the program's own looks are as the card says: what the card asks. -/
theorem plain (f : FuncId) (fn : Func) (hf : Tryz.pinned.checked.prog.funcNamed "twigs/twigslaw.Maps" = some f) (hfn : Tryz.pinned.checked.prog.funcs[f]? = some fn) :
    Rows.mapsUptoCard.stood.looks = Tryz.pinned.checked.prog.looks [] ∧ ∀ (j : Nat) t, fn.params[j]? = some t → Tryz.pinned.checked.prog.wantsStandIn t = false := by
  obtain rfl : f = 5 := Option.some.inj ((show Tryz.prog.funcNamed "twigs/twigslaw.Maps" = some 5 by kernel_rfl).symm.trans hf) |>.symm
  obtain rfl : fn = Tryz.f5 := (Option.some.inj (Tryz.func5.symm.trans hfn)).symm
  refine ⟨by kernel_rfl, fun j t ht => ?_⟩
  rw [Tryz.params5] at ht
  obtain rfl : t = 22 := by simpa using Array.mem_of_getElem? ht
  exact (show Tryz.prog.wantsStandIn 22 = false by kernel_rfl)

/-- THE SECOND FORM's CARD. -/
theorem maps_upto : Rows.MapsUptoCardSaid :=
  Claim7.holds_tied_plain_at .later [] _ _ _ _ saidUpto (fun _ h => by cases h) (by as_aux_lemma => kernel_rfl) (fun _ h => by cases h) mapsUpto_row_tie rfl ⟨rfl, rfl⟩ (by as_aux_lemma => kernel_rfl) rfl plain (by as_aux_lemma => kernel_rfl)
end Go.Proofs.YtjiikjpnlgogfaaGreatDoor
