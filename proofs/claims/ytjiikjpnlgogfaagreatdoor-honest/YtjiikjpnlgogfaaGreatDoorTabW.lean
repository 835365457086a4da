/-
  What the listed variables give: the cells of the two tables of the digest.
  A world that holds the listed variables as the program's text lays them: for the witness that a row asks.
-/
import Derived.Test.YtjiikjpnlgogfaaGreatDoorRows
import Derived.Test.YtjiikjpnlgogfaaGreatDoorRotG
import Derived.ProofKit
import Derived.OpenShut
import Derived.Lib.LaidTab
import Derived.Stop.LaidErr
import Derived.LaidHandle
import Derived.Deep.DeepHandedRow
namespace Go.Proofs.YtjiikjpnlgogfaaGreatDoor
open Go.ChangeShapes Go.WideShapes Go.ChangeAt Go.RowKit

theorem gTurns : Tryz.prog.globalNamed "twigs/digest.turns" = some 15 := by kernel_rfl
theorem gTurnsType : (Tryz.prog.globals[15]?).map (·.type) = some 276 := by kernel_rfl
theorem gKeys : Tryz.prog.globalNamed "twigs/digest.roundKeys" = some 13 := by kernel_rfl
theorem gKeysType : (Tryz.prog.globals[13]?).map (·.type) = some 277 := by kernel_rfl
theorem cells113 : Tryz.prog.cellsOf 277 = 24 := by kernel_rfl
theorem cells144 : Tryz.prog.cellsOf 275 = 5 := by kernel_rfl
theorem cells145 : Tryz.prog.cellsOf 276 = 25 := by kernel_rfl
theorem cells32 : Tryz.prog.cellsOf 83 = 1 := by kernel_rfl
theorem cells3 : Tryz.prog.cellsOf 3 = 1 := by kernel_rfl

def turnRow : Nat → List Int
  | 0 => [0, 36, 3, 41, 18]
  | 1 => [1, 44, 10, 45, 2]
  | 2 => [62, 6, 43, 15, 61]
  | 3 => [28, 55, 25, 21, 56]
  | 4 => [27, 20, 39, 8, 14]
  | _ => []

theorem turns_cells {cs : List Value} (h : ∀ i, i < 5 → (cs.drop (i * 5)).take 5 = (turnRow i).map fun z => Value.int .i64 z) (j : Nat) (hj : j < 25) : cs[j]? = some (.int .i64 ((turnsT[j]! : Nat) : Int)) := by
  have e : cs[j]? = ((cs.drop (j / 5 * 5)).take 5)[j % 5]? := by
    rw [List.getElem?_take, if_pos (by omega), List.getElem?_drop]
    congr 1
    omega
  rw [e, h (j / 5) (by omega)]
  have all : ∀ i : Fin 25, (turnRow (i.val / 5))[i.val % 5]? = some ((turnsT[i.val]! : Nat) : Int) := by decide +kernel
  rw [List.getElem?_map, all ⟨j, hj⟩]
  rfl

theorem trod_agg_row {H : Type} {enc : TypeId × Value → H} {P : Program} {w : World} {base : Nat} {sp : Nat → Bool} {held : Bool} {fuel : Nat} {t e : TypeId} {n m c : Nat} {cs : List Value} {rows : List (DataW H)} {p : List MemPlace}
    (ht : P.underlying t = some (.array n e)) (hn : n = m) (hc : P.cellsOf e = c) (h : DataW.trod enc P w base sp held fuel t cs = some (.agg rows, p)) (i : Nat) (hi : i < m) (d : DataW H) (hd : rows[i]? = some d) :
    ∃ f q, DataW.trod enc P w base sp held f e ((cs.drop (i * c)).take c) = some (d, q) := by
  subst hn
  obtain ⟨xs, f, _, hx, _, hl, hr⟩ := DataW.trod_array ht h
  simp only [Prod.mk.injEq, DataW.agg.injEq] at hx
  obtain ⟨e1, _⟩ := hx
  have hri := hr i hi
  rw [hc] at hri
  rw [e1, List.getElem?_map] at hd
  cases hq : xs[i]? with
  | none => rw [hq] at hd; cases hd
  | some y =>
    rw [hq] at hd hri
    simp only [Option.map_some, Option.some.injEq] at hd
    exact ⟨f, y.2, by rw [hri, ← hd]⟩

/-- WHAT A ROW's LIST GIVES that begins with the two tables. -/
theorem tabs_of_list {rest : List (String × DataW Unit)} {W : World} (h' : laidMet Tryz.prog (("twigs/digest.turns", Rows.laid_twigs_digest_turns) :: ("twigs/digest.roundKeys", Rows.laid_twigs_digest_roundKeys) :: rest) W) : Tabs W := by
  refine ⟨?_, ?_⟩
  · obtain ⟨ps, ⟨g', t', cs, fuel, p, q, hg', ht', hvar, hd, _, _⟩, _⟩ := h'
    obtain rfl := Option.some.inj (gTurns.symm.trans hg')
    obtain rfl := Option.some.inj (gTurnsType.symm.trans ht')
    have rows : ∀ i, i < 5 → (cs.toList.drop (i * 5)).take 5 = (turnRow i).map fun z => Value.int .i64 z := by
      intro i hi
      match i, hi with
      | 0, _ =>
        obtain ⟨f, q, hq⟩ := trod_agg_row Tryz.underlying276 rfl cells144 hd 0 (by omega) (Lib.tabData .i64 (turnRow 0)) rfl
        exact Lib.cells_of_tab Tryz.underlying275 Tryz.underlying3 cells3 cells144 hq
      | 1, _ =>
        obtain ⟨f, q, hq⟩ := trod_agg_row Tryz.underlying276 rfl cells144 hd 1 (by omega) (Lib.tabData .i64 (turnRow 1)) rfl
        exact Lib.cells_of_tab Tryz.underlying275 Tryz.underlying3 cells3 cells144 hq
      | 2, _ =>
        obtain ⟨f, q, hq⟩ := trod_agg_row Tryz.underlying276 rfl cells144 hd 2 (by omega) (Lib.tabData .i64 (turnRow 2)) rfl
        exact Lib.cells_of_tab Tryz.underlying275 Tryz.underlying3 cells3 cells144 hq
      | 3, _ =>
        obtain ⟨f, q, hq⟩ := trod_agg_row Tryz.underlying276 rfl cells144 hd 3 (by omega) (Lib.tabData .i64 (turnRow 3)) rfl
        exact Lib.cells_of_tab Tryz.underlying275 Tryz.underlying3 cells3 cells144 hq
      | 4, _ =>
        obtain ⟨f, q, hq⟩ := trod_agg_row Tryz.underlying276 rfl cells144 hd 4 (by omega) (Lib.tabData .i64 (turnRow 4)) rfl
        exact Lib.cells_of_tab Tryz.underlying275 Tryz.underlying3 cells3 cells144 hq
    intro j hj
    have hc := World.var?_cell gTurns hvar j
    rw [hc]
    have := turns_cells rows j hj
    simpa using this
  · intro j hj
    have ht : Lib.TabIs Tryz.prog W "twigs/digest.roundKeys" .u64 [1, 32898, 9223372036854808714, 9223372039002292224, 32907, 2147483649, 9223372039002292353, 9223372036854808585, 138, 136, 2147516425, 2147483658, 2147516555, 9223372036854775947, 9223372036854808713, 9223372036854808579, 9223372036854808578, 9223372036854775936, 32778, 9223372039002259466, 9223372039002292353, 9223372036854808704, 2147483649, 9223372039002292232] :=
      Lib.tabIs_of_head (rest := rest) gKeys gKeysType Tryz.underlying277 Tryz.underlying83 cells32 cells113 h'.tail
    rw [ht.cell gKeys j hj]
    have all : ∀ i : Fin 24, ([1, 32898, 9223372036854808714, 9223372039002292224, 32907, 2147483649, 9223372039002292353, 9223372036854808585, 138, 136, 2147516425, 2147483658, 2147516555, 9223372036854775947, 9223372036854808713, 9223372036854808579, 9223372036854808578, 9223372036854775936, 32778, 9223372039002259466, 9223372039002292353, 9223372036854808704, 2147483649, 9223372039002292232] : List Int).getD i.val 0 = ((keysT[i.val]! : Nat) : Int) := by decide +kernel
    rw [all ⟨j, hj⟩]
end Go.Proofs.YtjiikjpnlgogfaaGreatDoor

namespace Go.Proofs.YtjiikjpnlgogfaaGreatDoor
open Go.ChangeShapes Go.WideShapes Go.ChangeAt Go.RowKit

theorem own : ownKnob Tryz.prog.godebug = none := by kernel_rfl
theorem laidOut : laidOutB Tryz.prog = true := by kernel_rfl

def setTurns : Obj → Obj
  | .cells _ t frozen => .cells #[.int .i64 0, .int .i64 36, .int .i64 3, .int .i64 41, .int .i64 18, .int .i64 1, .int .i64 44, .int .i64 10, .int .i64 45, .int .i64 2, .int .i64 62, .int .i64 6, .int .i64 43, .int .i64 15, .int .i64 61, .int .i64 28, .int .i64 55, .int .i64 25, .int .i64 21, .int .i64 56, .int .i64 27, .int .i64 20, .int .i64 39, .int .i64 8, .int .i64 14] t frozen
  | o => o
def setBruijn : Obj → Obj
  | .cells _ t frozen => .cells #[.int .u8 0, .int .u8 1, .int .u8 28, .int .u8 2, .int .u8 29, .int .u8 14, .int .u8 24, .int .u8 3, .int .u8 30, .int .u8 22, .int .u8 20, .int .u8 15, .int .u8 25, .int .u8 17, .int .u8 4, .int .u8 8, .int .u8 31, .int .u8 27, .int .u8 13, .int .u8 23, .int .u8 21, .int .u8 19, .int .u8 16, .int .u8 7, .int .u8 26, .int .u8 12, .int .u8 18, .int .u8 6, .int .u8 11, .int .u8 5, .int .u8 10, .int .u8 9] t frozen
  | o => o
def setKeys : Obj → Obj
  | .cells _ t frozen => .cells #[.int .u64 1, .int .u64 32898, .int .u64 9223372036854808714, .int .u64 9223372039002292224, .int .u64 32907, .int .u64 2147483649, .int .u64 9223372039002292353, .int .u64 9223372036854808585, .int .u64 138, .int .u64 136, .int .u64 2147516425, .int .u64 2147483658, .int .u64 2147516555, .int .u64 9223372036854775947, .int .u64 9223372036854808713, .int .u64 9223372036854808579, .int .u64 9223372036854808578, .int .u64 9223372036854775936, .int .u64 32778, .int .u64 9223372039002259466, .int .u64 9223372039002292353, .int .u64 9223372036854808704, .int .u64 2147483649, .int .u64 9223372039002292232] t frozen
  | o => o
abbrev txtLong : ByteArray := { data := #[109, 111, 114, 101, 32, 98, 121, 116, 101, 115, 32, 116, 104, 97, 110, 32, 116, 104, 101, 114, 101, 32, 109, 97, 121, 32, 98, 101] }
abbrev txtShort : ByteArray := { data := #[105, 116, 32, 101, 110, 100, 115, 32, 116, 111, 111, 32, 101, 97, 114, 108, 121] }
abbrev txtRest : ByteArray := { data := #[115, 111, 109, 101, 116, 104, 105, 110, 103, 32, 105, 115, 32, 108, 101, 102, 116, 32, 98, 101, 104, 105, 110, 100, 32, 116, 104, 101, 32, 101, 110, 100] }
abbrev txtDeep : ByteArray := { data := #[108, 105, 115, 116, 115, 32, 97, 114, 101, 32, 116, 111, 111, 32, 100, 101, 101, 112, 32, 105, 110, 32, 111, 110, 101, 32, 97, 110, 111, 116, 104, 101, 114] }
abbrev txtNibble : ByteArray := { data := #[97, 32, 98, 121, 116, 101, 32, 111, 102, 32, 116, 104, 101, 32, 112, 97, 116, 104, 32, 105, 115, 32, 97, 98, 111, 118, 101, 32, 49, 53] }
abbrev txtValue : ByteArray := { data := #[97, 32, 118, 97, 108, 117, 101, 32, 104, 97, 115, 32, 110, 111, 32, 98, 121, 116, 101, 32, 111, 114, 32, 116, 111, 111, 32, 109, 97, 110, 121] }
abbrev txtAccount : ByteArray := { data := #[116, 104, 105, 115, 32, 105, 115, 32, 110, 111, 32, 97, 99, 99, 111, 117, 110, 116] }
abbrev txtForm : ByteArray := { data := #[105, 116, 32, 119, 111, 117, 108, 100, 32, 98, 101, 32, 119, 114, 105, 116, 116, 101, 110, 32, 111, 116, 104, 101, 114, 119, 105, 115, 101] }
abbrev txtDigest : ByteArray := { data := #[97, 110, 111, 116, 104, 101, 114, 32, 100, 105, 103, 101, 115, 116, 32, 105, 115, 32, 119, 97, 110, 116, 101, 100] }
abbrev txtNode : ByteArray := { data := #[116, 104, 105, 115, 32, 104, 97, 115, 32, 110, 111, 116, 32, 116, 104, 101, 32, 102, 111, 114, 109, 32, 111, 102, 32, 97, 32, 110, 111, 100, 101] }
abbrev txtStub : ByteArray := { data := #[97, 32, 110, 111, 100, 101, 32, 105, 115, 32, 110, 101, 101, 100, 101, 100, 32, 111, 102, 32, 119, 104, 105, 99, 104, 32, 116, 104, 101, 32, 100, 105, 103, 101, 115, 116, 32, 97, 108, 111, 110, 101, 32, 105, 115, 32, 107, 110, 111, 119, 110] }
abbrev txtOp : ByteArray := { data := #[116, 104, 105, 115, 32, 105, 115, 32, 110, 111, 32, 111, 112, 101, 114, 97, 116, 105, 111, 110] }
abbrev txtStack : ByteArray := { data := #[116, 104, 101, 114, 101, 32, 97, 114, 101, 32, 116, 111, 111, 32, 102, 101, 119, 32, 110, 111, 100, 101, 115, 44, 32, 111, 114, 32, 116, 111, 111, 32, 109, 97, 110, 121] }
def errBlocks : Array Obj := #[.cells #[.string txtLong] 452, .cells #[.string txtShort] 452, .cells #[.string txtRest] 452, .cells #[.string txtDeep] 452, .cells #[.string txtNibble] 452, .cells #[.string txtValue] 452, .cells #[.string txtAccount] 452, .cells #[.string txtForm] 452, .cells #[.string txtDigest] 452, .cells #[.string txtNode] 452, .cells #[.string txtStub] 452, .cells #[.string txtOp] 452, .cells #[.string txtStack] 452]
noncomputable def low : Nat := (World.holding Tryz.prog default ⟨#[], #[], []⟩).heap.size
noncomputable section
def setLong : Obj → Obj
  | .cells _ t frozen => .cells #[.iface 423 (.pointer (some ⟨low + 0, 0, none⟩))] t frozen
  | o => o
def setShort : Obj → Obj
  | .cells _ t frozen => .cells #[.iface 423 (.pointer (some ⟨low + 1, 0, none⟩))] t frozen
  | o => o
def setRest : Obj → Obj
  | .cells _ t frozen => .cells #[.iface 423 (.pointer (some ⟨low + 2, 0, none⟩))] t frozen
  | o => o
def setDeep : Obj → Obj
  | .cells _ t frozen => .cells #[.iface 423 (.pointer (some ⟨low + 3, 0, none⟩))] t frozen
  | o => o
def setNibble : Obj → Obj
  | .cells _ t frozen => .cells #[.iface 423 (.pointer (some ⟨low + 4, 0, none⟩))] t frozen
  | o => o
def setValue : Obj → Obj
  | .cells _ t frozen => .cells #[.iface 423 (.pointer (some ⟨low + 5, 0, none⟩))] t frozen
  | o => o
def setAccount : Obj → Obj
  | .cells _ t frozen => .cells #[.iface 423 (.pointer (some ⟨low + 6, 0, none⟩))] t frozen
  | o => o
def setForm : Obj → Obj
  | .cells _ t frozen => .cells #[.iface 423 (.pointer (some ⟨low + 7, 0, none⟩))] t frozen
  | o => o
def setDigest : Obj → Obj
  | .cells _ t frozen => .cells #[.iface 423 (.pointer (some ⟨low + 8, 0, none⟩))] t frozen
  | o => o
def setNode : Obj → Obj
  | .cells _ t frozen => .cells #[.iface 423 (.pointer (some ⟨low + 9, 0, none⟩))] t frozen
  | o => o
def setStub : Obj → Obj
  | .cells _ t frozen => .cells #[.iface 423 (.pointer (some ⟨low + 10, 0, none⟩))] t frozen
  | o => o
def setOp : Obj → Obj
  | .cells _ t frozen => .cells #[.iface 423 (.pointer (some ⟨low + 11, 0, none⟩))] t frozen
  | o => o
def setStack : Obj → Obj
  | .cells _ t frozen => .cells #[.iface 423 (.pointer (some ⟨low + 12, 0, none⟩))] t frozen
  | o => o
def setHandle : Obj → Obj
  | .cells _ t frozen => .cells #[.iface 313 (.agg #[typeHandle Tryz.prog 114])] t frozen
  | o => o
/-- A WORLD FOR THE WITNESS. -/
def laidWorld (os : Os) : World :=
  { World.holding Tryz.prog os ⟨errBlocks, #[], []⟩ with heap := (((((((((((((((((World.holding Tryz.prog os ⟨errBlocks, #[], []⟩).heap.modify 15 setTurns).modify 13 setKeys).modify 12 setHandle).modify 0 setLong).modify 1 setShort).modify 2 setRest).modify 3 setDeep).modify 4 setNibble).modify 9 setValue).modify 11 setAccount).modify 14 setForm).modify 5 setDigest).modify 6 setNode).modify 10 setStub).modify 7 setOp).modify 8 setStack).modify 16 setBruijn }
end
end Go.Proofs.YtjiikjpnlgogfaaGreatDoor
