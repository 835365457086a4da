/-
  Proved: for every list of texts that together hold at most 1048576 values and letters, the call of twigskeep.Pieces at the named commit returns true and leaves its argument as it was: the two digests that the document names are given, and at each point a hasher's sum is the digest of its pieces together.
  Conditions: the second form's bound on what comes in; the two tables of the digest hold what the program's text lays (the card ties them).
-/
import Derived.Test.YtjiikjpnlgogfaaDoorTab
import Derived.Test.YtjiikjpnlgogfaaDoorCards
import Derived.Test.YtjiikjpnlgogfaaDoorTie
import Derived.Deep.DeepHandedRow
namespace Go.Proofs.YtjiikjpnlgogfaaDoor
open Go.ChangeShapes Go.WideShapes Go.ChangeAt Go.RowKit

theorem own : ownKnob Tryd.prog.godebug = none := by kernel_rfl
theorem laidOut : laidOutB Tryd.prog = true := by kernel_rfl
theorem cells9 : Tryd.prog.cellsOf 9 = 1 := by kernel_rfl

theorem bulk_strs {H : Type} (l : List ByteArray) : Rows.uptoBulkAll (strs (H := H) l) = (l.map (·.size)).sum + l.length := by
  induction l with
  | nil => rfl
  | cons s l ih =>
    have e : s.data.toList.length = s.size := by rw [Array.length_toList]; rfl
    show Rows.uptoBulkAll (DataW.lit (.string s.data.toList) :: strs (H := H) l) = _
    rw [Rows.uptoBulkAll, ih]
    simp only [Rows.uptoBulk, List.map_cons, List.sum_cons, List.length_cons]
    omega

theorem size_foldl (l : List ByteArray) : ∀ a : ByteArray, (l.foldl (fun a b => a ++ b) a).size = a.size + (l.map (·.size)).sum := by
  induction l with
  | nil => intro a; simp
  | cons s l ih =>
    intro a
    rw [List.foldl_cons, ih, ByteArray.size_append]
    simp only [List.map_cons, List.sum_cons]
    omega
theorem catS_size (l : List ByteArray) : (catS l).size = (l.map (·.size)).sum := by
  unfold catS
  rw [size_foldl]
  have e : (⟨#[]⟩ : ByteArray).size = 0 := rfl
  omega
theorem sum_take (l : List Nat) (k : Nat) : (l.take k).sum ≤ l.sum := by
  induction l generalizing k with
  | nil => simp
  | cons x l ih =>
    cases k with
    | zero => simp
    | succ k =>
      simp only [List.take_succ_cons, List.sum_cons]
      have := ih k
      omega

/-- WHAT THE BOUND GIVES: the texts together are short, and there are not many. -/
theorem short {H : Type} {ss : List ByteArray} {len : Nat} (hk : Rows.uptoSmall H [.slice (strs (ss.take len)) (strs (ss.drop len))] = true) (hl : len ≤ ss.length) :
    len ≤ 1048576 ∧ ∀ k, k ≤ len → (catS (ss.take k)).size ≤ 1048576 := by
  have h : Rows.uptoBulkAll [DataW.slice (H := H) (strs (ss.take len)) (strs (ss.drop len))] ≤ 1048576 := of_decide_eq_true hk
  simp only [Rows.uptoBulkAll, Rows.uptoBulk] at h
  rw [bulk_strs, bulk_strs] at h
  have h1 : (ss.take len).length = len := by rw [List.length_take]; omega
  refine ⟨by omega, fun k hk' => ?_⟩
  rw [catS_size]
  have e : ss.take k = (ss.take len).take k := by rw [List.take_take, Nat.min_eq_left hk']
  rw [e, List.map_take]
  have := sum_take ((ss.take len).map (·.size)) k
  omega

set_option maxRecDepth 100000 in
/-- WHAT THE WALK GIVES, FOR EVERY ARGUMENT WITHIN THE BOUND AND EVERY WORLD THAT HOLDS THE TABLES. -/
theorem pieces_contract (H : Type) (enc : TypeId × Value → H) (W : World) (base : Nat) (args : Array Value) (ds gs : List (DataW H)) (before : List MemPlace)
    (hval : ∀ (j : Nat) t v, Tryd.f3.params[j]? = some t → args[j]? = some v → Value.okWide Tryd.prog W .any base t v)
    (hW : DataW.Whole enc Tryd.prog Tryd.f3.params.toList Rows.piecesSpec.vars false W args.toList ds gs before) (hL : laidMetH Tryd.prog Rows.piecesRow.laid W) (hk : Rows.uptoSmall H (ds ++ gs) = true) :
    Calls Tryd.prog 3 args W fun e W' => ∃ v, e = .returned v ∧ Rows.piecesSpec.post enc Tryd.prog Tryd.f3 false true false false W args v W' := by
  have hT := tabs_of_laid hL
  have hw10 : 16 ≤ W.heap.size := by
    have := World.block_lt_of_cell? W _ (hT.1 0 (by omega))
    simp only at this
    omega
  have hW' := hW
  obtain ⟨p, q, hA0, hV, rfl, hfz, hnd⟩ := hW
  have hA : DataW.TrodAll enc Tryd.prog W 0 (fun _ => true) true Tryd.f3.params.toList args.toList ds p := hA0
  rw [Tryd.params3] at hA hval
  obtain ⟨v0, vs0, d0, ds0, p0, q0, hargs, rfl, rfl, h0, r0⟩ := trodAll_cons hA
  obtain ⟨rfl, rfl, rfl⟩ := trodAll_nil r0
  obtain rfl : args = #[v0] := by cases args; simp_all
  obtain ⟨rfl, rfl⟩ := trodVars_none hV
  obtain ⟨a0, len, cap, rfl⟩ := okWide_slice Tryd.underlying22 (hval 0 22 v0 rfl rfl)
  have h0k := h0
  obtain ⟨fuel, hf⟩ := h0
  clear hA0
  simp only [List.append_nil] at hW' hk
  have hlt : ∀ x ∈ p0, x.block < W.heap.size := fun x hx => by simpa using hW'.lt x hx
  have fin : ∀ W' : World, Below W.heap.size W W' → Rows.piecesSpec.post enc Tryd.prog Tryd.f3 false true false false W #[.slice a0 len cap] (.bool true) W' := by
    intro W' hnx
    refine ⟨[d0], [], _, [] ++ [], p0 ++ [], [], hW', ?_, ?_, ?_, hnx.frame _, fun h => by cases h⟩
    · exact trodAll_cons_mk (shut_bool Tryd.underlying4 true) trodAll_mk0
    · exact trodAll_cons_mk (Below.trod laidOut (by kernel_rfl) (of_decide_eq_true (by kernel_rfl)) h0k hnx hlt) trodAll_mk0
    · rfl
  rcases open_strings Tryd.underlying22 Tryd.underlying9 cells9 hf with ⟨hcs, hx⟩ | ⟨a, len', cap', ss, hcs, _, hl, hm, hz, hx, hcell, hws⟩
  · simp [Value.cells] at hcs
    obtain ⟨rfl, rfl, rfl⟩ := hcs
    refine (pieces_any none 0 0 [] W hT hw10 (by simp) (by omega) (fun k hk0 => by omega) (fun k hk0 => by rw [catS_size]; simp)).mono fun e W' ⟨he, hnx⟩ => ?_
    subst he
    exact ⟨_, rfl, fin _ hnx⟩
  · simp [Value.cells] at hcs
    obtain ⟨rfl, rfl, rfl⟩ := hcs
    simp only [Prod.mk.injEq] at hx
    obtain ⟨rfl, rfl⟩ := hx
    simp only [if_true] at hz
    obtain ⟨hs1, hs2⟩ := short hk (by omega)
    have hcells : ∀ k, k < len → ∃ sb so, some a = some (⟨sb, so, none⟩ : Addr) ∧ W.cell? ⟨sb, so + k, none⟩ = some (.string (ss.getD k ⟨#[]⟩)) ∧ sb < W.heap.size := by
      intro k hk0
      obtain ⟨b, off, spot⟩ := a
      have hspot : spot = none := by simpa [Addr.add] using World.cell?_spot (hcell 0 (by omega))
      subst hspot
      have hbW : b < W.heap.size := hlt (.cell b off) (MemPlace.mem_row.2 ⟨0, by omega, by simp⟩)
      refine ⟨b, off, rfl, ?_, hbW⟩
      have := hcell k (by omega)
      rw [Addr.add_mid] at this
      exact this
    refine (pieces_any (some a) len cap ss W hT hw10 (by omega) hs1 hcells hs2).mono fun e W' ⟨he, hnx⟩ => ?_
    subst he
    exact ⟨_, rfl, fin _ hnx⟩

/-- The two tables as their initialisers lay them. -/
def setTurns : Obj → Obj
  | .cells _ t frozen => .cells #[.int .i64 0, .int .i64 36, .int .i64 3, .int .i64 41, .int .i64 18, .int .i64 1, .int .i64 44, .int .i64 10, .int .i64 45, .int .i64 2, .int .i64 62, .int .i64 6, .int .i64 43, .int .i64 15, .int .i64 61, .int .i64 28, .int .i64 55, .int .i64 25, .int .i64 21, .int .i64 56, .int .i64 27, .int .i64 20, .int .i64 39, .int .i64 8, .int .i64 14] t frozen
  | o => o
def setKeys : Obj → Obj
  | .cells _ t frozen => .cells #[.int .u64 1, .int .u64 32898, .int .u64 9223372036854808714, .int .u64 9223372039002292224, .int .u64 32907, .int .u64 2147483649, .int .u64 9223372039002292353, .int .u64 9223372036854808585, .int .u64 138, .int .u64 136, .int .u64 2147516425, .int .u64 2147483658, .int .u64 2147516555, .int .u64 9223372036854775947, .int .u64 9223372036854808713, .int .u64 9223372036854808579, .int .u64 9223372036854808578, .int .u64 9223372036854775936, .int .u64 32778, .int .u64 9223372039002259466, .int .u64 9223372039002292353, .int .u64 9223372036854808704, .int .u64 2147483649, .int .u64 9223372039002292232] t frozen
  | o => o
/-- A WORLD FOR THE WITNESS: the settled one, the two tables holding what their initialisers lay. -/
noncomputable def laidWorld (os : Os) : World :=
  { World.holding Tryd.prog os ⟨#[], #[], []⟩ with heap := ((World.holding Tryd.prog os ⟨#[], #[], []⟩).heap.modify 15 setTurns).modify 13 setKeys }
theorem laid_met (os : Os) : laidMet Tryd.prog Rows.piecesRow.laid ((laidWorld os).forCall (fun _ _ => 0) ⟨#[], #[.slice none 0 0], []⟩).memory :=
  laidMet_of_run' 8 (by kernel_rfl) (by kernel_rfl)
theorem reads (os : Os) {H : Type} (enc : TypeId × Value → H) : ∃ places, DataW.whole enc Tryd.prog ((laidWorld os).forCall (fun _ _ => 0) ⟨#[], #[.slice none 0 0], []⟩).memory Tryd.f3.params.toList Rows.piecesSpec.vars false #[Value.slice none 0 0].toList 8 = some ([.nil], [], places) :=
  ⟨[], by kernel_rfl⟩

set_option maxRecDepth 100000 in
/-- THE SECOND FORM's STEP. -/
theorem liftedUpto (os : Os) (started : os.Started) (H : Type) (enc : TypeId × Value → H) (F : Stop.Interp) :
    ReturnsInHanded {} Tryd.checked os 3 .any ((Rows.OpenSpec.upto Rows.piecesSpec).preRow enc Tryd.prog Tryd.f3 Rows.piecesUptoRow.domain false Rows.piecesUptoRow.laid) (((Rows.OpenSpec.upto Rows.piecesSpec).at F).post enc Tryd.prog Tryd.f3 false true false false) := by
  obtain ⟨places, hx⟩ := reads os enc
  refine returnsInHanded_of_row (C := Tryd.checked) (s := Rows.OpenSpec.upto Rows.piecesSpec) own started (by kernel_rfl) Tryd.func3
    (witness_row_at (enc := enc) (C := Tryd.checked) false (laidWorld os) #[.slice none 0 0] rfl (by kernel_rfl) (by kernel_rfl) (by kernel_rfl)
      (OpenSpec.preRow_of_cond 8 hx (by kernel_rfl) (fun k hk => by cases hk; kernel_rfl) (by kernel_rfl) (laid_met os))) ?_
  intro W base args ds gs before hval hW _ hcond _ hL _ _
  exact pieces_contract H enc W base args ds gs before hval hW hL (hcond _ rfl)

theorem saidUpto : Rows.PiecesUptoSaid :=
  OpenClaim.holds_of_cond 3 Tryd.f3 rfl rfl rfl rfl rfl rfl rfl ⟨rfl, rfl, rfl, rfl, rfl⟩ rfl rfl rfl rfl rfl (by kernel_rfl) Tryd.func3 (by kernel_rfl)
    (of_decide_eq_true (by kernel_rfl)) (by unfold Func.isWrapper; first | (rw [if_pos (by decide +kernel)]; kernel_rfl) | (rw [if_neg (by decide +kernel)]; exact ⟨rfl, rfl⟩))
    (fun os started H enc _ F => by rw [OpenClaim.pre_eq_preRow]; exact liftedUpto os started H enc F)

/-- No parameter wants a stand-in; the program's own looks are as the card says: what the card asks. -/
theorem plain (f : FuncId) (fn : Func) (hf : Tryd.pinned.checked.prog.funcNamed "twigs/twigskeep.Pieces" = some f) (hfn : Tryd.pinned.checked.prog.funcs[f]? = some fn) :
    Rows.piecesUptoCard.stood.looks = Tryd.pinned.checked.prog.looks [] ∧ ∀ (j : Nat) t, fn.params[j]? = some t → Tryd.pinned.checked.prog.wantsStandIn t = false := by
  obtain rfl : f = 3 := Option.some.inj ((show Tryd.prog.funcNamed "twigs/twigskeep.Pieces" = some 3 by kernel_rfl).symm.trans hf) |>.symm
  obtain rfl : fn = Tryd.f3 := (Option.some.inj (Tryd.func3.symm.trans hfn)).symm
  refine ⟨by kernel_rfl, fun j t ht => ?_⟩
  rw [Tryd.params3] at ht
  obtain rfl : t = 22 := by simpa using Array.mem_of_getElem? ht
  exact (show Tryd.prog.wantsStandIn 22 = false by kernel_rfl)

/-- THE SECOND FORM's CARD. -/
theorem pieces_upto : Rows.PiecesUptoCardSaid :=
  Claim7.holds_tied_plain_at .later [] _ _ _ _ saidUpto (fun _ h => by cases h) (by kernel_rfl) (fun _ h => by cases h) piecesUpto_row_tie rfl ⟨rfl, rfl⟩ (by kernel_rfl) rfl plain (by kernel_rfl)
end Go.Proofs.YtjiikjpnlgogfaaDoor
