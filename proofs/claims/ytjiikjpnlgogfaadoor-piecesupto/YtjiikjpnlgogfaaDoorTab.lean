/-
  What the listed variables give: the cells of the two tables of the digest.
-/
import Derived.Test.YtjiikjpnlgogfaaDoorPieces
import Derived.ProofKit
import Derived.OpenShut
import Derived.Lib.LaidTab
import Derived.Stop.LaidErr
namespace Go.Proofs.YtjiikjpnlgogfaaDoor
open Go.ChangeShapes Go.WideShapes Go.ChangeAt Go.RowKit

theorem gTurns : Tryd.prog.globalNamed "twigs/digest.turns" = some 15 := by kernel_rfl
theorem gTurnsType : (Tryd.prog.globals[15]?).map (·.type) = some 152 := by kernel_rfl
theorem gKeys : Tryd.prog.globalNamed "twigs/digest.roundKeys" = some 13 := by kernel_rfl
theorem gKeysType : (Tryd.prog.globals[13]?).map (·.type) = some 120 := by kernel_rfl
theorem cells113 : Tryd.prog.cellsOf 120 = 24 := by kernel_rfl
theorem cells144 : Tryd.prog.cellsOf 151 = 5 := by kernel_rfl
theorem cells145 : Tryd.prog.cellsOf 152 = 25 := by kernel_rfl
theorem cells32 : Tryd.prog.cellsOf 32 = 1 := by kernel_rfl
theorem cells3 : Tryd.prog.cellsOf 3 = 1 := by kernel_rfl

def turnRow : Nat → List Int
  | 0 => [0, 36, 3, 41, 18]
  | 1 => [1, 44, 10, 45, 2]
  | 2 => [62, 6, 43, 15, 61]
  | 3 => [28, 55, 25, 21, 56]
  | 4 => [27, 20, 39, 8, 14]
  | _ => []

theorem turns_cells {cs : List Value} (h : ∀ i, i < 5 → (cs.drop (i * 5)).take 5 = (turnRow i).map fun z => Value.int .i64 z) (j : Nat) (hj : j < 25) : cs[j]? = some (.int .i64 ((turnsT[j]! : Nat) : Int)) := by
  have e : cs[j]? = ((cs.drop (j / 5 * 5)).take 5)[j % 5]? := by
    rw [List.getElem?_take, if_pos (by omega), List.getElem?_drop]
    congr 1
    omega
  rw [e, h (j / 5) (by omega)]
  have all : ∀ i : Fin 25, (turnRow (i.val / 5))[i.val % 5]? = some ((turnsT[i.val]! : Nat) : Int) := by decide +kernel
  rw [List.getElem?_map, all ⟨j, hj⟩]
  rfl

theorem trod_agg_row {H : Type} {enc : TypeId × Value → H} {P : Program} {w : World} {base : Nat} {sp : Nat → Bool} {held : Bool} {fuel : Nat} {t e : TypeId} {n m c : Nat} {cs : List Value} {rows : List (DataW H)} {p : List MemPlace}
    (ht : P.underlying t = some (.array n e)) (hn : n = m) (hc : P.cellsOf e = c) (h : DataW.trod enc P w base sp held fuel t cs = some (.agg rows, p)) (i : Nat) (hi : i < m) (d : DataW H) (hd : rows[i]? = some d) :
    ∃ f q, DataW.trod enc P w base sp held f e ((cs.drop (i * c)).take c) = some (d, q) := by
  subst hn
  obtain ⟨xs, f, _, hx, _, hl, hr⟩ := DataW.trod_array ht h
  simp only [Prod.mk.injEq, DataW.agg.injEq] at hx
  obtain ⟨e1, _⟩ := hx
  have hri := hr i hi
  rw [hc] at hri
  rw [e1, List.getElem?_map] at hd
  cases hq : xs[i]? with
  | none => rw [hq] at hd; cases hd
  | some y =>
    rw [hq] at hd hri
    simp only [Option.map_some, Option.some.injEq] at hd
    exact ⟨f, y.2, by rw [hri, ← hd]⟩

/-- WHAT THE ROW's LIST GIVES. -/
theorem tabs_of_laid {W : World} (h : laidMetH Tryd.prog Rows.piecesRow.laid W) : Tabs W := by
  have h' : laidMet Tryd.prog Rows.piecesRow.laid W := h
  refine ⟨?_, ?_⟩
  · obtain ⟨ps, ⟨g', t', cs, fuel, p, q, hg', ht', hvar, hd, _, _⟩, _⟩ := h'
    obtain rfl := Option.some.inj (gTurns.symm.trans hg')
    obtain rfl := Option.some.inj (gTurnsType.symm.trans ht')
    have rows : ∀ i, i < 5 → (cs.toList.drop (i * 5)).take 5 = (turnRow i).map fun z => Value.int .i64 z := by
      intro i hi
      match i, hi with
      | 0, _ =>
        obtain ⟨f, q, hq⟩ := trod_agg_row Tryd.underlying152 rfl cells144 hd 0 (by omega) (Lib.tabData .i64 (turnRow 0)) rfl
        exact Lib.cells_of_tab Tryd.underlying151 Tryd.underlying3 cells3 cells144 hq
      | 1, _ =>
        obtain ⟨f, q, hq⟩ := trod_agg_row Tryd.underlying152 rfl cells144 hd 1 (by omega) (Lib.tabData .i64 (turnRow 1)) rfl
        exact Lib.cells_of_tab Tryd.underlying151 Tryd.underlying3 cells3 cells144 hq
      | 2, _ =>
        obtain ⟨f, q, hq⟩ := trod_agg_row Tryd.underlying152 rfl cells144 hd 2 (by omega) (Lib.tabData .i64 (turnRow 2)) rfl
        exact Lib.cells_of_tab Tryd.underlying151 Tryd.underlying3 cells3 cells144 hq
      | 3, _ =>
        obtain ⟨f, q, hq⟩ := trod_agg_row Tryd.underlying152 rfl cells144 hd 3 (by omega) (Lib.tabData .i64 (turnRow 3)) rfl
        exact Lib.cells_of_tab Tryd.underlying151 Tryd.underlying3 cells3 cells144 hq
      | 4, _ =>
        obtain ⟨f, q, hq⟩ := trod_agg_row Tryd.underlying152 rfl cells144 hd 4 (by omega) (Lib.tabData .i64 (turnRow 4)) rfl
        exact Lib.cells_of_tab Tryd.underlying151 Tryd.underlying3 cells3 cells144 hq
    intro j hj
    have hc := World.var?_cell gTurns hvar j
    rw [hc]
    have := turns_cells rows j hj
    simpa using this
  · intro j hj
    have ht : Lib.TabIs Tryd.prog W "twigs/digest.roundKeys" .u64 [1, 32898, 9223372036854808714, 9223372039002292224, 32907, 2147483649, 9223372039002292353, 9223372036854808585, 138, 136, 2147516425, 2147483658, 2147516555, 9223372036854775947, 9223372036854808713, 9223372036854808579, 9223372036854808578, 9223372036854775936, 32778, 9223372039002259466, 9223372039002292353, 9223372036854808704, 2147483649, 9223372039002292232] :=
      Lib.tabIs_of_head (rest := []) gKeys gKeysType Tryd.underlying120 Tryd.underlying32 cells32 cells113 h'.tail
    rw [ht.cell gKeys j hj]
    have all : ∀ i : Fin 24, ([1, 32898, 9223372036854808714, 9223372039002292224, 32907, 2147483649, 9223372039002292353, 9223372036854808585, 138, 136, 2147516425, 2147483658, 2147516555, 9223372036854775947, 9223372036854808713, 9223372036854808579, 9223372036854808578, 9223372036854775936, 32778, 9223372039002259466, 9223372039002292353, 9223372036854808704, 2147483649, 9223372039002292232] : List Int).getD i.val 0 = ((keysT[i.val]! : Nat) : Int) := by decide +kernel
    rw [all ⟨j, hj⟩]
end Go.Proofs.YtjiikjpnlgogfaaDoor
