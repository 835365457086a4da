/-
  The contract of twigslaw.Digests, for every argument within the bound.
-/
import Derived.Test.YtjiikjpnlgogfaaGreatDoorDigests
import Derived.Test.YtjiikjpnlgogfaaGreatDoorWit
import Derived.Deep.Slices
namespace Go.Proofs.YtjiikjpnlgogfaaGreatDoor
open Go.ChangeShapes Go.WideShapes Go.ChangeAt Go.RowKit

theorem cellsOp : Tryz.prog.cellsOf 102 = 160 := by kernel_rfl
theorem cells9 : Tryz.prog.cellsOf 9 = 1 := by kernel_rfl

theorem bulk_pos {H : Type} (d : DataW H) : 1 ≤ Rows.uptoBulk d := by
  cases d with
  | lit l => cases l <;> simp [Rows.uptoBulk]
  | _ => simp [Rows.uptoBulk]
theorem bulkAll_mem {H : Type} {d : DataW H} : ∀ {l : List (DataW H)}, d ∈ l → Rows.uptoBulk d ≤ Rows.uptoBulkAll l := by
  intro l
  induction l with
  | nil => intro h; cases h
  | cons e l ih =>
    intro h
    rw [Rows.uptoBulkAll]
    rcases List.mem_cons.1 h with rfl | h
    · omega
    · have := ih h
      omega
theorem bulkAll_length {H : Type} : ∀ l : List (DataW H), l.length ≤ Rows.uptoBulkAll l := by
  intro l
  induction l with
  | nil => simp [Rows.uptoBulkAll]
  | cons e l ih =>
    rw [Rows.uptoBulkAll, List.length_cons]
    have := bulk_pos e
    omega

theorem first_cell {cs : List Value} {o : Nat} {v : Value} (h : (cs.drop o).take 1 = [v]) : cs.toArray[o]? = some v := by
  have e : (cs.drop o)[0]? = some v := by
    rw [← List.getElem?_take_of_lt (show 0 < 1 by omega), h]
    rfl
  rw [List.getElem?_drop, Nat.add_zero] at e
  simpa using e

/-- WHAT READING A STEP GIVES: its kind, its number, its text. -/
theorem op_of_trod {H : Type} {enc : TypeId × Value → H} {W : World} {base : Nat} {sp : Nat → Bool} {held : Bool} {fuel : Nat} {cs : List Value} {x : DataW H × List MemPlace} (h : DataW.trod enc Tryz.prog W base sp held fuel 102 cs = some x) :
    ∃ kd a s, OpC cs.toArray kd a s ∧ s.size ≤ Rows.uptoBulk x.1 ∧ -9223372036854775808 ≤ kd ∧ kd < 9223372036854775808 ∧ -9223372036854775808 ≤ a ∧ a < 9223372036854775808 := by
  obtain ⟨xs, n, _, rfl, hl, hlen, hf⟩ := DataW.trod_struct Tryz.underlying102 h
  have hx : ∀ i, i < 6 → ∃ y, xs[i]? = some y := fun i hi => ⟨xs[i]'(by rw [hlen]; show i < 12; omega), List.getElem?_eq_getElem _⟩
  obtain ⟨y0, hy0⟩ := hx 0 (by omega)
  obtain ⟨y1, hy1⟩ := hx 1 (by omega)
  obtain ⟨y5, hy5⟩ := hx 5 (by omega)
  have f0 : DataW.trod enc Tryz.prog W base sp held n 3 ((cs.drop 0).take (Tryz.prog.cellsOf 3)) = xs[0]? := hf 0 _ rfl
  have f1 : DataW.trod enc Tryz.prog W base sp held n 3 ((cs.drop 1).take (Tryz.prog.cellsOf 3)) = xs[1]? := hf 1 _ rfl
  have f5 : DataW.trod enc Tryz.prog W base sp held n 9 ((cs.drop 67).take (Tryz.prog.cellsOf 9)) = xs[5]? := hf 5 _ rfl
  rw [hy0] at f0
  rw [hy1] at f1
  rw [hy5] at f5
  obtain ⟨kd, e0, _, w0⟩ := DataW.trod_int Tryz.underlying3 f0
  obtain ⟨a, e1, _, w1⟩ := DataW.trod_int Tryz.underlying3 f1
  obtain ⟨s, e5, x5, _⟩ := DataW.trod_string Tryz.underlying9 f5
  rw [cells3] at e0 e1
  rw [cells9] at e5
  have b0 := bounds_i64 w0
  have b1 := bounds_i64 w1
  refine ⟨kd, a, s, ⟨by rw [List.size_toArray, hl, cellsOp], first_cell e0, first_cell e1, first_cell e5⟩, ?_, b0.1, by omega, b1.1, by omega⟩
  have hm : y5.1 ∈ xs.map (·.1) := List.mem_map.2 ⟨y5, List.mem_of_getElem? hy5, rfl⟩
  have := bulkAll_mem hm
  rw [x5] at this
  simp only [Rows.uptoBulk] at this ⊢
  have e : s.data.toList.length = s.size := by rw [Array.length_toList]; rfl
  omega

theorem laid_met (os : Os) : laidMetH Tryz.prog Rows.digestsUptoRow.laid ((laidWorld os).forCall (fun _ _ => 0) ⟨#[], #[.slice none 0 0], []⟩).memory :=
  laidMetH_of_parts (laidMet_of_run' 8 (by kernel_rfl) (by kernel_rfl)) (by kernel_rfl)
theorem reads (os : Os) {H : Type} (enc : TypeId × Value → H) : ∃ places, DataW.whole enc Tryz.prog ((laidWorld os).forCall (fun _ _ => 0) ⟨#[], #[.slice none 0 0], []⟩).memory Tryz.f3.params.toList Rows.digestsSpec.vars false #[Value.slice none 0 0].toList 8 = some ([.nil], [], places) :=
  ⟨[], by kernel_rfl⟩

set_option maxRecDepth 100000 in
/-- WHAT THE WALK GIVES, FOR EVERY ARGUMENT WITHIN THE BOUND AND EVERY WORLD THAT HOLDS THE TABLES. -/
theorem digests_contract (H : Type) (enc : TypeId × Value → H) (W : World) (base : Nat) (args : Array Value) (ds gs : List (DataW H)) (before : List MemPlace)
    (hval : ∀ (j : Nat) t v, Tryz.f3.params[j]? = some t → args[j]? = some v → Value.okWide Tryz.prog W .any base t v)
    (hW : DataW.Whole enc Tryz.prog Tryz.f3.params.toList Rows.digestsSpec.vars false W args.toList ds gs before) (hL : laidMetH Tryz.prog Rows.digestsRow.laid W) (hk : Rows.uptoSmall H (ds ++ gs) = true) :
    Calls Tryz.prog 3 args W fun e W' => ∃ v, e = .returned v ∧ Rows.digestsSpec.post enc Tryz.prog Tryz.f3 false true false false W args v W' := by
  have hT : Tabs W := tabs_of_list (laidMet.tail (x := ("math/bits.deBruijn32tab", Rows.laid_math_bits_deBruijn32tab)) hL.1)
  have hwM : 16 ≤ W.heap.size := by
    have := World.block_lt_of_cell? W _ (hT.1 0 (by omega))
    simp only at this
    omega
  have hW' := hW
  obtain ⟨p, q, hA0, hV, rfl, hfz, hnd⟩ := hW
  have hA : DataW.TrodAll enc Tryz.prog W 0 (fun _ => true) true Tryz.f3.params.toList args.toList ds p := hA0
  rw [Tryz.params3] at hA hval
  obtain ⟨v0, vs0, d0, ds0, p0, q0, hargs, rfl, rfl, h0, r0⟩ := trodAll_cons hA
  obtain ⟨rfl, rfl, rfl⟩ := trodAll_nil r0
  obtain rfl : args = #[v0] := by cases args; simp_all
  obtain ⟨rfl, rfl⟩ := trodVars_none hV
  obtain ⟨a0, len, cap, rfl⟩ := okWide_slice Tryz.underlying22 (hval 0 22 v0 rfl rfl)
  have h0k := h0
  obtain ⟨fuel, hf⟩ := h0
  clear hA0
  simp only [List.append_nil] at hW' hk
  have hlt : ∀ x ∈ p0, x.block < W.heap.size := fun x hx => by simpa using hW'.lt x hx
  have fin : ∀ W' : World, Below W.heap.size W W' → Rows.digestsSpec.post enc Tryz.prog Tryz.f3 false true false false W #[.slice a0 len cap] (.bool true) W' := by
    intro W' hnx
    refine ⟨[d0], [], _, [] ++ [], p0 ++ [], [], hW', ?_, ?_, ?_, hnx.frame _, fun h => by cases h⟩
    · exact trodAll_cons_mk (shut_bool Tryz.underlying4 true) trodAll_mk0
    · exact trodAll_cons_mk (Below.trod laidOut (by kernel_rfl) (of_decide_eq_true (by kernel_rfl)) h0k hnx hlt) trodAll_mk0
    · rfl
  rcases Go.Deep.open_slice Tryz.underlying22 hf with ⟨hcs, hx⟩ | ⟨a, len', cap', m, n, D, Pl, hcs, _, hlc, hcm, hm, hx, hel⟩
  · simp [Value.cells] at hcs
    obtain ⟨rfl, rfl, rfl⟩ := hcs
    refine (digests_any none 0 0 W hT hwM (by omega) (fun i hi => by omega)).mono fun e W' ⟨he, hnx⟩ => ?_
    subst he
    exact ⟨_, rfl, fin _ hnx⟩
  · simp [Value.cells] at hcs
    obtain ⟨rfl, rfl, rfl⟩ := hcs
    simp only [if_true] at hm
    subst hm
    simp only [Prod.mk.injEq] at hx
    obtain ⟨rfl, rfl⟩ := hx
    have hbulk : Rows.uptoBulkAll [DataW.slice (H := H) ((List.range len).map D) ((List.range (m - len)).map fun j => D (len + j))] ≤ 1048576 := of_decide_eq_true hk
    simp only [Rows.uptoBulkAll, Rows.uptoBulk] at hbulk
    have hb1 := bulkAll_length ((List.range len).map D)
    rw [List.length_map, List.length_range] at hb1
    have hS : Script W (some a) len := by
      intro i hi
      obtain ⟨cs, hc1, hc2⟩ := hel i (by omega)
      obtain ⟨_, hcl, hcc⟩ := World.cells?_some hc1
      obtain ⟨kd, aa, s, hop, hsz, b1, b2, b3, b4⟩ := op_of_trod hc2
      have hmem : D i ∈ (List.range len).map D := List.mem_map.2 ⟨i, List.mem_range.2 hi, rfl⟩
      have hb2 := bulkAll_mem hmem
      simp only at hsz
      rw [cellsOp] at hcl hcc
      obtain ⟨b, off, spot⟩ := a
      obtain ⟨cs0, hc01, _⟩ := hel 0 (by omega)
      obtain ⟨_, hcl0, hcc0⟩ := World.cells?_some hc01
      rw [cellsOp] at hcl0 hcc0
      have hv00 := hcc0 0 (by omega)
      rw [List.getElem?_eq_getElem (by omega)] at hv00
      have hspot : spot = none := by simpa [Addr.add] using World.cell?_spot hv00
      subst hspot
      have hc0 := hcc 0 (by omega)
      have hv0 : cs[0]? = some (.int .i64 kd) := by have := hop.k; simpa using this
      rw [hv0] at hc0
      have hbW : b < W.heap.size := by
        have := World.block_lt_of_cell? W _ hc0
        simpa [Addr.add_mid] using this
      refine ⟨b, off, cs.toArray, kd, aa, s, rfl, hbW, hop, by omega, b1, b2, b3, b4, fun j v hv => ?_⟩
      have hj : j < 160 := by
        have := (List.getElem?_eq_some_iff.1 hv).1
        simpa [hcl] using this
      have hcj := hcc j hj
      rw [Addr.add_mid, Addr.add_mid] at hcj
      rw [hcj, ← hv]
    refine (digests_any (some a) len m W hT hwM (by omega) hS).mono fun e W' ⟨he, hnx⟩ => ?_
    subst he
    exact ⟨_, rfl, fin _ hnx⟩
end Go.Proofs.YtjiikjpnlgogfaaGreatDoor
