/-
  A world that holds the errors of package fault and the handle of errors.As as the program's text lays them: for the witness that a row asks.
-/
import Derived.Test.YtjiikjpnlgogfaaDoorErrTab
import Derived.LaidHandle
import Derived.Deep.DeepHandedRow
namespace Go.Proofs.YtjiikjpnlgogfaaDoor
open Go.ChangeShapes Go.WideShapes Go.ChangeAt Go.RowKit

theorem own : ownKnob Tryd.prog.godebug = none := by kernel_rfl
theorem laidOut : laidOutB Tryd.prog = true := by kernel_rfl

abbrev txtLong : ByteArray := { data := #[109, 111, 114, 101, 32, 98, 121, 116, 101, 115, 32, 116, 104, 97, 110, 32, 116, 104, 101, 114, 101, 32, 109, 97, 121, 32, 98, 101] }
abbrev txtShort : ByteArray := { data := #[105, 116, 32, 101, 110, 100, 115, 32, 116, 111, 111, 32, 101, 97, 114, 108, 121] }
abbrev txtRest : ByteArray := { data := #[115, 111, 109, 101, 116, 104, 105, 110, 103, 32, 105, 115, 32, 108, 101, 102, 116, 32, 98, 101, 104, 105, 110, 100, 32, 116, 104, 101, 32, 101, 110, 100] }
abbrev txtDeep : ByteArray := { data := #[108, 105, 115, 116, 115, 32, 97, 114, 101, 32, 116, 111, 111, 32, 100, 101, 101, 112, 32, 105, 110, 32, 111, 110, 101, 32, 97, 110, 111, 116, 104, 101, 114] }
abbrev txtNibble : ByteArray := { data := #[97, 32, 98, 121, 116, 101, 32, 111, 102, 32, 116, 104, 101, 32, 112, 97, 116, 104, 32, 105, 115, 32, 97, 98, 111, 118, 101, 32, 49, 53] }
abbrev txtValue : ByteArray := { data := #[97, 32, 118, 97, 108, 117, 101, 32, 104, 97, 115, 32, 110, 111, 32, 98, 121, 116, 101, 32, 111, 114, 32, 116, 111, 111, 32, 109, 97, 110, 121] }
abbrev txtAccount : ByteArray := { data := #[116, 104, 105, 115, 32, 105, 115, 32, 110, 111, 32, 97, 99, 99, 111, 117, 110, 116] }
abbrev txtForm : ByteArray := { data := #[105, 116, 32, 119, 111, 117, 108, 100, 32, 98, 101, 32, 119, 114, 105, 116, 116, 101, 110, 32, 111, 116, 104, 101, 114, 119, 105, 115, 101] }
abbrev txtDigest : ByteArray := { data := #[97, 110, 111, 116, 104, 101, 114, 32, 100, 105, 103, 101, 115, 116, 32, 105, 115, 32, 119, 97, 110, 116, 101, 100] }
abbrev txtNode : ByteArray := { data := #[116, 104, 105, 115, 32, 104, 97, 115, 32, 110, 111, 116, 32, 116, 104, 101, 32, 102, 111, 114, 109, 32, 111, 102, 32, 97, 32, 110, 111, 100, 101] }
abbrev txtStub : ByteArray := { data := #[97, 32, 110, 111, 100, 101, 32, 105, 115, 32, 110, 101, 101, 100, 101, 100, 32, 111, 102, 32, 119, 104, 105, 99, 104, 32, 116, 104, 101, 32, 100, 105, 103, 101, 115, 116, 32, 97, 108, 111, 110, 101, 32, 105, 115, 32, 107, 110, 111, 119, 110] }
abbrev txtOp : ByteArray := { data := #[116, 104, 105, 115, 32, 105, 115, 32, 110, 111, 32, 111, 112, 101, 114, 97, 116, 105, 111, 110] }
abbrev txtStack : ByteArray := { data := #[116, 104, 101, 114, 101, 32, 97, 114, 101, 32, 116, 111, 111, 32, 102, 101, 119, 32, 110, 111, 100, 101, 115, 44, 32, 111, 114, 32, 116, 111, 111, 32, 109, 97, 110, 121] }
def errBlocks : Array Obj := #[.cells #[.string txtLong] 195, .cells #[.string txtShort] 195, .cells #[.string txtRest] 195, .cells #[.string txtDeep] 195, .cells #[.string txtNibble] 195, .cells #[.string txtValue] 195, .cells #[.string txtAccount] 195, .cells #[.string txtForm] 195, .cells #[.string txtDigest] 195, .cells #[.string txtNode] 195, .cells #[.string txtStub] 195, .cells #[.string txtOp] 195, .cells #[.string txtStack] 195]
noncomputable def low : Nat := (World.holding Tryd.prog default ⟨#[], #[], []⟩).heap.size
noncomputable section
def setLong : Obj → Obj
  | .cells _ t frozen => .cells #[.iface 174 (.pointer (some ⟨low + 0, 0, none⟩))] t frozen
  | o => o
def setShort : Obj → Obj
  | .cells _ t frozen => .cells #[.iface 174 (.pointer (some ⟨low + 1, 0, none⟩))] t frozen
  | o => o
def setRest : Obj → Obj
  | .cells _ t frozen => .cells #[.iface 174 (.pointer (some ⟨low + 2, 0, none⟩))] t frozen
  | o => o
def setDeep : Obj → Obj
  | .cells _ t frozen => .cells #[.iface 174 (.pointer (some ⟨low + 3, 0, none⟩))] t frozen
  | o => o
def setNibble : Obj → Obj
  | .cells _ t frozen => .cells #[.iface 174 (.pointer (some ⟨low + 4, 0, none⟩))] t frozen
  | o => o
def setValue : Obj → Obj
  | .cells _ t frozen => .cells #[.iface 174 (.pointer (some ⟨low + 5, 0, none⟩))] t frozen
  | o => o
def setAccount : Obj → Obj
  | .cells _ t frozen => .cells #[.iface 174 (.pointer (some ⟨low + 6, 0, none⟩))] t frozen
  | o => o
def setForm : Obj → Obj
  | .cells _ t frozen => .cells #[.iface 174 (.pointer (some ⟨low + 7, 0, none⟩))] t frozen
  | o => o
def setDigest : Obj → Obj
  | .cells _ t frozen => .cells #[.iface 174 (.pointer (some ⟨low + 8, 0, none⟩))] t frozen
  | o => o
def setNode : Obj → Obj
  | .cells _ t frozen => .cells #[.iface 174 (.pointer (some ⟨low + 9, 0, none⟩))] t frozen
  | o => o
def setStub : Obj → Obj
  | .cells _ t frozen => .cells #[.iface 174 (.pointer (some ⟨low + 10, 0, none⟩))] t frozen
  | o => o
def setOp : Obj → Obj
  | .cells _ t frozen => .cells #[.iface 174 (.pointer (some ⟨low + 11, 0, none⟩))] t frozen
  | o => o
def setStack : Obj → Obj
  | .cells _ t frozen => .cells #[.iface 174 (.pointer (some ⟨low + 12, 0, none⟩))] t frozen
  | o => o
def setHandle : Obj → Obj
  | .cells _ t frozen => .cells #[.iface 154 (.agg #[typeHandle Tryd.prog 75])] t frozen
  | o => o
/-- A WORLD FOR THE WITNESS. -/
def laidWorld (os : Os) : World :=
  { World.holding Tryd.prog os ⟨errBlocks, #[], []⟩ with heap := ((((((((((((((World.holding Tryd.prog os ⟨errBlocks, #[], []⟩).heap.modify 14 setHandle).modify 1 setLong).modify 2 setShort).modify 3 setRest).modify 0 setDeep).modify 4 setNibble).modify 9 setValue).modify 11 setAccount).modify 12 setForm).modify 5 setDigest).modify 6 setNode).modify 10 setStub).modify 7 setOp).modify 8 setStack }
end
end Go.Proofs.YtjiikjpnlgogfaaDoor
