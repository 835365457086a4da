/-
  What the listed variables give: the cells of the two tables of the digest.
  A world that holds the listed variables as the program's text lays them: for the witness that a row asks.
  The closed facts of the row of twigskeep.Sound, one by one.
  A row of texts, read as an argument.
  What the listed variables give: the errors of package fault, each in its variable and apart from the others; and the handle that errors.As asks for.
-/
import Derived.Test.YtjiikjpnlgogfaaGreatDoorRows
import Derived.Test.YtjiikjpnlgogfaaGreatDoorSdRotG
import Derived.ProofKit
import Derived.OpenShut
import Derived.Lib.LaidTab
import Derived.Stop.LaidErr
import Derived.LaidHandle
import Derived.Deep.DeepHandedRow
import Derived.Test.YtjiikjpnlgogfaaGreatDoorSdVeC
import Derived.Deep.Slices
import Derived.Test.YtjiikjpnlgogfaaGreatDoorSdSmaG
import Derived.Stop.LaidTwo
import Derived.LaidSub
namespace Go.Proofs.YtjiikjpnlgogfaaGreatDoor
open Go.ChangeShapes Go.WideShapes Go.ChangeAt Go.RowKit
theorem gTurns : Tryz.prog.globalNamed "twigs/digest.turns" = some 15 := by kernel_rfl
theorem gTurnsType : (Tryz.prog.globals[15]?).map (·.type) = some 276 := by kernel_rfl
theorem gKeys : Tryz.prog.globalNamed "twigs/digest.roundKeys" = some 13 := by kernel_rfl
theorem gKeysType : (Tryz.prog.globals[13]?).map (·.type) = some 277 := by kernel_rfl
theorem cells113 : Tryz.prog.cellsOf 277 = 24 := by kernel_rfl
theorem cells144 : Tryz.prog.cellsOf 275 = 5 := by kernel_rfl
theorem cells32 : Tryz.prog.cellsOf 83 = 1 := by kernel_rfl
theorem cells3 : Tryz.prog.cellsOf 3 = 1 := by kernel_rfl
def turnRow : Nat → List Int
 | 0 => [0, 36, 3, 41, 18]
 | 1 => [1, 44, 10, 45, 2]
 | 2 => [62, 6, 43, 15, 61]
 | 3 => [28, 55, 25, 21, 56]
 | 4 => [27, 20, 39, 8, 14]
 | _ => []
theorem turns_cells {cs : List Value} (h : ∀ i, i < 5 → (cs.drop (i * 5)).take 5 = (turnRow i).map fun z => Value.int .i64 z) (j : Nat) (hj : j < 25) : cs[j]? = some (.int .i64 ((turnsT[j]! : Nat) : Int)) := by
 have e : cs[j]? = ((cs.drop (j / 5 * 5)).take 5)[j % 5]? := by
  rw [List.getElem?_take, if_pos (by omega), List.getElem?_drop]
  congr 1
  omega
 rw [e, h (j / 5) (by omega)]
 have all : ∀ i : Fin 25, (turnRow (i.val / 5))[i.val % 5]? = some ((turnsT[i.val]! : Nat) : Int) := by decide +kernel
 rw [List.getElem?_map, all ⟨j, hj⟩]
 rfl
theorem trod_agg_row {H : Type} {enc : TypeId × Value → H} {P : Program} {w : World} {base : Nat} {sp : Nat → Bool} {held : Bool} {fuel : Nat} {t e : TypeId} {n m c : Nat} {cs : List Value} {rows : List (DataW H)} {p : List MemPlace}
  (ht : P.underlying t = some (.array n e)) (hn : n = m) (hc : P.cellsOf e = c) (h : DataW.trod enc P w base sp held fuel t cs = some (.agg rows, p)) (i : Nat) (hi : i < m) (d : DataW H) (hd : rows[i]? = some d) :
  ∃ f q, DataW.trod enc P w base sp held f e ((cs.drop (i * c)).take c) = some (d, q) := by
 subst hn
 obtain ⟨xs, f, _, hx, _, hl, hr⟩ := DataW.trod_array ht h
 simp only [Prod.mk.injEq, DataW.agg.injEq] at hx
 obtain ⟨e1, _⟩ := hx
 have hri := hr i hi
 rw [hc] at hri
 rw [e1, List.getElem?_map] at hd
 cases hq : xs[i]? with
 | none => rw [hq] at hd; cases hd
 | some y =>
  rw [hq] at hd hri
  simp only [Option.map_some, Option.some.injEq] at hd
  exact ⟨f, y.2, by rw [hri, ← hd]⟩
theorem tabs_of_list {rest : List (String × DataW Unit)} {W : World} (h' : laidMet Tryz.prog (("twigs/digest.turns", Rows.laid_twigs_digest_turns) :: ("twigs/digest.roundKeys", Rows.laid_twigs_digest_roundKeys) :: rest) W) : Tabs W := by
 refine ⟨?_, ?_⟩
 ·obtain ⟨ps, ⟨g', t', cs, fuel, p, q, hg', ht', hvar, hd, _, _⟩, _⟩ := h'
  obtain rfl := Option.some.inj (gTurns.symm.trans hg')
  obtain rfl := Option.some.inj (gTurnsType.symm.trans ht')
  have rows : ∀ i, i < 5 → (cs.toList.drop (i * 5)).take 5 = (turnRow i).map fun z => Value.int .i64 z := by
   intro i hi
   match i, hi with
   | 0, _ =>
    obtain ⟨f, q, hq⟩ := trod_agg_row Tryz.underlying276 rfl cells144 hd 0 (by omega) (Lib.tabData .i64 (turnRow 0)) rfl
    exact Lib.cells_of_tab Tryz.underlying275 Tryz.underlying3 cells3 cells144 hq
   | 1, _ =>
    obtain ⟨f, q, hq⟩ := trod_agg_row Tryz.underlying276 rfl cells144 hd 1 (by omega) (Lib.tabData .i64 (turnRow 1)) rfl
    exact Lib.cells_of_tab Tryz.underlying275 Tryz.underlying3 cells3 cells144 hq
   | 2, _ =>
    obtain ⟨f, q, hq⟩ := trod_agg_row Tryz.underlying276 rfl cells144 hd 2 (by omega) (Lib.tabData .i64 (turnRow 2)) rfl
    exact Lib.cells_of_tab Tryz.underlying275 Tryz.underlying3 cells3 cells144 hq
   | 3, _ =>
    obtain ⟨f, q, hq⟩ := trod_agg_row Tryz.underlying276 rfl cells144 hd 3 (by omega) (Lib.tabData .i64 (turnRow 3)) rfl
    exact Lib.cells_of_tab Tryz.underlying275 Tryz.underlying3 cells3 cells144 hq
   | 4, _ =>
    obtain ⟨f, q, hq⟩ := trod_agg_row Tryz.underlying276 rfl cells144 hd 4 (by omega) (Lib.tabData .i64 (turnRow 4)) rfl
    exact Lib.cells_of_tab Tryz.underlying275 Tryz.underlying3 cells3 cells144 hq
  intro j hj
  have hc := World.var?_cell gTurns hvar j
  rw [hc]
  have := turns_cells rows j hj
  simpa using this
 ·intro j hj
  have ht : Lib.TabIs Tryz.prog W "twigs/digest.roundKeys" .u64 [1, 32898, 9223372036854808714, 9223372039002292224, 32907, 2147483649, 9223372039002292353, 9223372036854808585, 138, 136, 2147516425, 2147483658, 2147516555, 9223372036854775947, 9223372036854808713, 9223372036854808579, 9223372036854808578, 9223372036854775936, 32778, 9223372039002259466, 9223372039002292353, 9223372036854808704, 2147483649, 9223372039002292232] :=
   Lib.tabIs_of_head (rest := rest) gKeys gKeysType Tryz.underlying277 Tryz.underlying83 cells32 cells113 h'.tail
  rw [ht.cell gKeys j hj]
  have all : ∀ i : Fin 24, ([1, 32898, 9223372036854808714, 9223372039002292224, 32907, 2147483649, 9223372039002292353, 9223372036854808585, 138, 136, 2147516425, 2147483658, 2147516555, 9223372036854775947, 9223372036854808713, 9223372036854808579, 9223372036854808578, 9223372036854775936, 32778, 9223372039002259466, 9223372039002292353, 9223372036854808704, 2147483649, 9223372039002292232] : List Int).getD i.val 0 = ((keysT[i.val]! : Nat) : Int) := by decide +kernel
  rw [all ⟨j, hj⟩]
end Go.Proofs.YtjiikjpnlgogfaaGreatDoor
namespace Go.Proofs.YtjiikjpnlgogfaaGreatDoor
open Go.ChangeShapes Go.WideShapes Go.ChangeAt Go.RowKit
theorem own : ownKnob Tryz.prog.godebug = none := by kernel_rfl
theorem laidOut : laidOutB Tryz.prog = true := by kernel_rfl
def setTurns : Obj → Obj
 | .cells _ t frozen => .cells #[.int .i64 0, .int .i64 36, .int .i64 3, .int .i64 41, .int .i64 18, .int .i64 1, .int .i64 44, .int .i64 10, .int .i64 45, .int .i64 2, .int .i64 62, .int .i64 6, .int .i64 43, .int .i64 15, .int .i64 61, .int .i64 28, .int .i64 55, .int .i64 25, .int .i64 21, .int .i64 56, .int .i64 27, .int .i64 20, .int .i64 39, .int .i64 8, .int .i64 14] t frozen
 | o => o
def setBruijn : Obj → Obj
 | .cells _ t frozen => .cells #[.int .u8 0, .int .u8 1, .int .u8 28, .int .u8 2, .int .u8 29, .int .u8 14, .int .u8 24, .int .u8 3, .int .u8 30, .int .u8 22, .int .u8 20, .int .u8 15, .int .u8 25, .int .u8 17, .int .u8 4, .int .u8 8, .int .u8 31, .int .u8 27, .int .u8 13, .int .u8 23, .int .u8 21, .int .u8 19, .int .u8 16, .int .u8 7, .int .u8 26, .int .u8 12, .int .u8 18, .int .u8 6, .int .u8 11, .int .u8 5, .int .u8 10, .int .u8 9] t frozen
 | o => o
def setKeys : Obj → Obj
 | .cells _ t frozen => .cells #[.int .u64 1, .int .u64 32898, .int .u64 9223372036854808714, .int .u64 9223372039002292224, .int .u64 32907, .int .u64 2147483649, .int .u64 9223372039002292353, .int .u64 9223372036854808585, .int .u64 138, .int .u64 136, .int .u64 2147516425, .int .u64 2147483658, .int .u64 2147516555, .int .u64 9223372036854775947, .int .u64 9223372036854808713, .int .u64 9223372036854808579, .int .u64 9223372036854808578, .int .u64 9223372036854775936, .int .u64 32778, .int .u64 9223372039002259466, .int .u64 9223372039002292353, .int .u64 9223372036854808704, .int .u64 2147483649, .int .u64 9223372039002292232] t frozen
 | o => o
abbrev txtLong : ByteArray := { data := #[109, 111, 114, 101, 32, 98, 121, 116, 101, 115, 32, 116, 104, 97, 110, 32, 116, 104, 101, 114, 101, 32, 109, 97, 121, 32, 98, 101] }
abbrev txtShort : ByteArray := { data := #[105, 116, 32, 101, 110, 100, 115, 32, 116, 111, 111, 32, 101, 97, 114, 108, 121] }
abbrev txtRest : ByteArray := { data := #[115, 111, 109, 101, 116, 104, 105, 110, 103, 32, 105, 115, 32, 108, 101, 102, 116, 32, 98, 101, 104, 105, 110, 100, 32, 116, 104, 101, 32, 101, 110, 100] }
abbrev txtDeep : ByteArray := { data := #[108, 105, 115, 116, 115, 32, 97, 114, 101, 32, 116, 111, 111, 32, 100, 101, 101, 112, 32, 105, 110, 32, 111, 110, 101, 32, 97, 110, 111, 116, 104, 101, 114] }
abbrev txtNibble : ByteArray := { data := #[97, 32, 98, 121, 116, 101, 32, 111, 102, 32, 116, 104, 101, 32, 112, 97, 116, 104, 32, 105, 115, 32, 97, 98, 111, 118, 101, 32, 49, 53] }
abbrev txtValue : ByteArray := { data := #[97, 32, 118, 97, 108, 117, 101, 32, 104, 97, 115, 32, 110, 111, 32, 98, 121, 116, 101, 32, 111, 114, 32, 116, 111, 111, 32, 109, 97, 110, 121] }
abbrev txtAccount : ByteArray := { data := #[116, 104, 105, 115, 32, 105, 115, 32, 110, 111, 32, 97, 99, 99, 111, 117, 110, 116] }
abbrev txtForm : ByteArray := { data := #[105, 116, 32, 119, 111, 117, 108, 100, 32, 98, 101, 32, 119, 114, 105, 116, 116, 101, 110, 32, 111, 116, 104, 101, 114, 119, 105, 115, 101] }
abbrev txtDigest : ByteArray := { data := #[97, 110, 111, 116, 104, 101, 114, 32, 100, 105, 103, 101, 115, 116, 32, 105, 115, 32, 119, 97, 110, 116, 101, 100] }
abbrev txtNode : ByteArray := { data := #[116, 104, 105, 115, 32, 104, 97, 115, 32, 110, 111, 116, 32, 116, 104, 101, 32, 102, 111, 114, 109, 32, 111, 102, 32, 97, 32, 110, 111, 100, 101] }
abbrev txtStub : ByteArray := { data := #[97, 32, 110, 111, 100, 101, 32, 105, 115, 32, 110, 101, 101, 100, 101, 100, 32, 111, 102, 32, 119, 104, 105, 99, 104, 32, 116, 104, 101, 32, 100, 105, 103, 101, 115, 116, 32, 97, 108, 111, 110, 101, 32, 105, 115, 32, 107, 110, 111, 119, 110] }
abbrev txtOp : ByteArray := { data := #[116, 104, 105, 115, 32, 105, 115, 32, 110, 111, 32, 111, 112, 101, 114, 97, 116, 105, 111, 110] }
abbrev txtStack : ByteArray := { data := #[116, 104, 101, 114, 101, 32, 97, 114, 101, 32, 116, 111, 111, 32, 102, 101, 119, 32, 110, 111, 100, 101, 115, 44, 32, 111, 114, 32, 116, 111, 111, 32, 109, 97, 110, 121] }
def errBlocks : Array Obj := #[.cells #[.string txtLong] 452, .cells #[.string txtShort] 452, .cells #[.string txtRest] 452, .cells #[.string txtDeep] 452, .cells #[.string txtNibble] 452, .cells #[.string txtValue] 452, .cells #[.string txtAccount] 452, .cells #[.string txtForm] 452, .cells #[.string txtDigest] 452, .cells #[.string txtNode] 452, .cells #[.string txtStub] 452, .cells #[.string txtOp] 452, .cells #[.string txtStack] 452]
noncomputable def low : Nat := (World.holding Tryz.prog default ⟨#[], #[], []⟩).heap.size
noncomputable section
def setLong : Obj → Obj
 | .cells _ t frozen => .cells #[.iface 423 (.pointer (some ⟨low + 0, 0, none⟩))] t frozen
 | o => o
def setShort : Obj → Obj
 | .cells _ t frozen => .cells #[.iface 423 (.pointer (some ⟨low + 1, 0, none⟩))] t frozen
 | o => o
def setRest : Obj → Obj
 | .cells _ t frozen => .cells #[.iface 423 (.pointer (some ⟨low + 2, 0, none⟩))] t frozen
 | o => o
def setDeep : Obj → Obj
 | .cells _ t frozen => .cells #[.iface 423 (.pointer (some ⟨low + 3, 0, none⟩))] t frozen
 | o => o
def setNibble : Obj → Obj
 | .cells _ t frozen => .cells #[.iface 423 (.pointer (some ⟨low + 4, 0, none⟩))] t frozen
 | o => o
def setValue : Obj → Obj
 | .cells _ t frozen => .cells #[.iface 423 (.pointer (some ⟨low + 5, 0, none⟩))] t frozen
 | o => o
def setAccount : Obj → Obj
 | .cells _ t frozen => .cells #[.iface 423 (.pointer (some ⟨low + 6, 0, none⟩))] t frozen
 | o => o
def setForm : Obj → Obj
 | .cells _ t frozen => .cells #[.iface 423 (.pointer (some ⟨low + 7, 0, none⟩))] t frozen
 | o => o
def setDigest : Obj → Obj
 | .cells _ t frozen => .cells #[.iface 423 (.pointer (some ⟨low + 8, 0, none⟩))] t frozen
 | o => o
def setNode : Obj → Obj
 | .cells _ t frozen => .cells #[.iface 423 (.pointer (some ⟨low + 9, 0, none⟩))] t frozen
 | o => o
def setStub : Obj → Obj
 | .cells _ t frozen => .cells #[.iface 423 (.pointer (some ⟨low + 10, 0, none⟩))] t frozen
 | o => o
def setOp : Obj → Obj
 | .cells _ t frozen => .cells #[.iface 423 (.pointer (some ⟨low + 11, 0, none⟩))] t frozen
 | o => o
def setStack : Obj → Obj
 | .cells _ t frozen => .cells #[.iface 423 (.pointer (some ⟨low + 12, 0, none⟩))] t frozen
 | o => o
def setHandle : Obj → Obj
 | .cells _ t frozen => .cells #[.iface 313 (.agg #[typeHandle Tryz.prog 114])] t frozen
 | o => o
def laidWorld (os : Os) : World :=
 { World.holding Tryz.prog os ⟨errBlocks, #[], []⟩ with heap := (((((((((((((((((World.holding Tryz.prog os ⟨errBlocks, #[], []⟩).heap.modify 15 setTurns).modify 13 setKeys).modify 12 setHandle).modify 0 setLong).modify 1 setShort).modify 2 setRest).modify 3 setDeep).modify 4 setNibble).modify 9 setValue).modify 11 setAccount).modify 14 setForm).modify 5 setDigest).modify 6 setNode).modify 10 setStub).modify 7 setOp).modify 8 setStack).modify 16 setBruijn }
end
end Go.Proofs.YtjiikjpnlgogfaaGreatDoor
namespace Go.Proofs.YtjiikjpnlgogfaaGreatDoor
open Go.ChangeShapes Go.WideShapes Go.ChangeAt Go.RowKit
set_option maxHeartbeats 16000000 in
theorem closedSound : joinedFacts Tryz.prog 10 Tryz.f10 (OpenSpec.ofChange Rows.soundSpec).bare Rows.soundRow = true := by
 unfold joinedFacts
 simp only [Bool.and_eq_true]
 repeat' apply And.intro
 all_goals (as_aux_lemma => kernel_rfl)
end Go.Proofs.YtjiikjpnlgogfaaGreatDoor
namespace Go.Proofs.YtjiikjpnlgogfaaGreatDoor
open Go.ChangeShapes Go.WideShapes Go.ChangeAt Go.RowKit
theorem cells9 : Tryz.prog.cellsOf 9 = 1 := by kernel_rfl
set_option maxRecDepth 100000 in
theorem strs_of_trod {H : Type} {enc : TypeId × Value → H} {W : World} {base fuel : Nat} {a0 : Option Addr} {len cap : Nat} {x : DataW H × List MemPlace} (hv : Value.okWide Tryz.prog W .any base 52 (.slice a0 len cap)) (h : DataW.trod enc Tryz.prog W 0 (fun _ => true) true fuel 52 [.slice a0 len cap] = some x) :
  ∃ la : List ByteArray, len = la.length ∧ StrRow W a0 la cap ∧ (∀ a, a0 = some a → a.block < W.heap.size) ∧ la.length ≤ 9223372036854775807 := by
 rcases Go.Deep.open_slice Tryz.underlying52 h with ⟨hcs, hx⟩ | ⟨a, len', cap', m, n, D, Pl, hcs, _, hlc, hcm, hm, hx, hel⟩
 ·simp at hcs
  obtain ⟨rfl, rfl, rfl⟩ := hcs
  exact ⟨[], rfl, .inl ⟨rfl, rfl, rfl⟩, by simp, by simp⟩
 ·simp at hcs
  obtain ⟨rfl, rfl, rfl⟩ := hcs
  simp only [if_true] at hm
  subst hm
  simp only [Value.okWide, Tryz.underlying52, Cell.okWide, Cell.ok] at hv
  obtain ⟨_, _, _, hsp, row, cells, hsh, _⟩ := hv
  obtain ⟨b, off, spot⟩ := a
  simp only at hsp hsh
  subst hsp
  have hbW : b < W.heap.size := by
   cases hb : W.heap[b]? with
   | none => simp [World.shape?, hb] at hsh
   | some o => exact (Array.getElem?_eq_some_iff.1 hb).1
  have hc : ∀ i, i < len → ∃ s : ByteArray, W.cell? ⟨b, off + i, none⟩ = some (.string s) := fun i hi => by
   obtain ⟨cs, hc1, hc2⟩ := hel i (by omega)
   obtain ⟨_, hcl, hcc⟩ := World.cells?_some hc1
   rw [cells9] at hcl hcc
   obtain ⟨s, hs, _, _⟩ := DataW.trod_string Tryz.underlying9 hc2
   have h0 := hcc 0 (by omega)
   rw [Addr.add_mid, Addr.add_mid, hs] at h0
   exact ⟨s, by simpa using h0⟩
  obtain ⟨f, hf⟩ : ∃ f : Nat → ByteArray, ∀ i, i < len → W.cell? ⟨b, off + i, none⟩ = some (.string (f i)) := by
   refine ⟨fun i => if hi : i < len then Classical.choose (hc i hi) else ⟨#[]⟩, fun i hi => ?_⟩
   simp only [dif_pos hi]
   exact Classical.choose_spec (hc i hi)
  unfold maxLen at hcm
  refine ⟨(List.range len).map f, by simp, .inr ⟨b, off, rfl, by simp; omega, fun _ => hbW, fun j u hu => ?_⟩, fun a ha => by obtain rfl := Option.some.inj ha; exact hbW, by simp; omega⟩
  rw [List.map_map, List.getElem?_map] at hu
  by_cases hj : j < len
  ·rw [List.getElem?_range hj] at hu
   rw [hf j hj]
   simpa using hu
  ·rw [List.getElem?_eq_none (by simp; omega)] at hu
   cases hu
end Go.Proofs.YtjiikjpnlgogfaaGreatDoor
namespace Go.Proofs.YtjiikjpnlgogfaaGreatDoor
open Go.ChangeShapes Go.WideShapes Go.ChangeAt Go.RowKit
abbrev sentD (text : List UInt8) : DataW Unit := .iface "*errors.errorString" (.ptr (.agg [.lit (.string text)]))
theorem sentinels {P : Program} {w : World} {ti tp te ts : TypeId} {ms : Array (String × TypeId)} {f : Field}
  (hi : P.underlying ti = some (.interface ms)) (hrow : ∀ u, P.typeName? 3 u = some "*errors.errorString" → u = tp)
  (hp : P.underlying tp = some (.pointer te)) (he : P.underlying te = some (.struct #[f])) (hft : f.type = ts) (hfo : f.offset = 0) (hs : P.underlying ts = some .string) (hc : P.cellsOf te = 1) (hcs : P.cellsOf ts = 1) :
  ∀ (L : List (String × Nat × List UInt8)) (ps : List MemPlace), (∀ x ∈ L, P.globalNamed x.1 = some x.2.1 ∧ (P.globals[x.2.1]?).map (·.type) = some ti) →
   DataW.LaidVars P w (L.map fun x => (x.1, sentD x.2.2)) ps → ps.Nodup →
   (∀ b off, MemPlace.cell b off ∈ ps → (∃ c t, w.heap[b]? = some (.cells c t (0, 0))) ∧ ∀ u v, w.cell? ⟨b, off, none⟩ = some (.iface u v) → Value.okWide P w .any 0 u v) →
   ∃ as_ : List Addr, as_.length = L.length ∧ as_.Nodup ∧ (∀ a ∈ as_, MemPlace.cell a.block a.off ∈ ps) ∧
    ∀ (i : Nat) (x : String × Nat × List UInt8) (a : Addr), L[i]? = some x → as_[i]? = some a → w.var? P x.1 = some #[.iface tp (.pointer (some a))] ∧ Plain w a.block
 | [], ps, _, _, _, _ => ⟨[], rfl, List.nodup_nil, ⟨fun _ h => (by cases h), fun _ _ _ h => (by cases h)⟩⟩
 | (n, g, text) :: L, ps, hL, hv, hnd, hrows => by
  obtain ⟨g0, t0, cs0, f0, p0, q0, hg0, ht0, hv0, hd0, hq, rfl⟩ := hv
  obtain ⟨hg, ht⟩ := hL _ (List.mem_cons_self ..)
  obtain rfl := Option.some.inj (hg.symm.trans hg0)
  obtain rfl := Option.some.inj (ht.symm.trans ht0)
  obtain ⟨l0⟩ := cs0
  have ok0 : ∀ u v, l0 = [.iface u v] → Value.okWide P w .any 0 u v := fun u v e => by
   subst e
   exact (hrows g 0 (by simp [MemPlace.row])).2 u v (by simpa using World.var?_cell hg0 hv0 0)
  obtain ⟨a0, s0, rfl, hc0, hs0, hz0, rfl⟩ := errorString_of_trod hi hrow hp he hft hfo hs hc hcs hd0 ok0
  have hm0 : MemPlace.cell a0.block a0.off ∈ MemPlace.row a0 1 := by simp [MemPlace.row]
  have hnq := (List.nodup_append.1 hnd).2.1
  obtain ⟨as_, h1, h2, h3, h4⟩ := sentinels hi hrow hp he hft hfo hs hc hcs L q0 (fun x hx => hL x (List.mem_cons_of_mem _ hx)) hq hnq (fun b off hm => hrows b off (List.mem_append_right _ hm))
  refine ⟨a0 :: as_, by simp [h1], List.nodup_cons.2 ⟨fun hin => ?_, h2⟩, ?_, ?_⟩
  ·exact (List.nodup_append.1 hnd).2.2 _ (List.mem_append_right _ hm0) _ (h3 a0 hin) rfl
  ·intro a ha
   rcases List.mem_cons.1 ha with rfl | ha
   ·exact List.mem_append_left _ (List.mem_append_right _ hm0)
   ·exact List.mem_append_right _ (h3 a ha)
  ·intro i x a hx ha
   cases i with
   | zero =>
    simp only [List.getElem?_cons_zero, Option.some.injEq] at hx ha
    subst hx ha
    exact ⟨hv0, (hrows a0.block a0.off (List.mem_append_left _ (List.mem_append_right _ hm0))).1⟩
   | succ i => exact h4 i x a (by simpa using hx) (by simpa using ha)
def errText : Nat → DataW Unit
 | 1 => Rows.laid_twigs_fault_Long
 | 2 => Rows.laid_twigs_fault_Short
 | 3 => Rows.laid_twigs_fault_Form
 | 4 => Rows.laid_twigs_fault_Rest
 | 5 => Rows.laid_twigs_fault_Deep
 | 6 => Rows.laid_twigs_fault_Nibble
 | 7 => Rows.laid_twigs_fault_Digest
 | 8 => Rows.laid_twigs_fault_Node
 | 9 => Rows.laid_twigs_fault_Op
 | 10 => Rows.laid_twigs_fault_Stack
 | 11 => Rows.laid_twigs_fault_Value
 | 12 => Rows.laid_twigs_fault_Stub
 | _ => Rows.laid_twigs_fault_Account
def errName : Nat → String
 | 1 => "twigs/fault.Long"
 | 2 => "twigs/fault.Short"
 | 3 => "twigs/fault.Form"
 | 4 => "twigs/fault.Rest"
 | 5 => "twigs/fault.Deep"
 | 6 => "twigs/fault.Nibble"
 | 7 => "twigs/fault.Digest"
 | 8 => "twigs/fault.Node"
 | 9 => "twigs/fault.Op"
 | 10 => "twigs/fault.Stack"
 | 11 => "twigs/fault.Value"
 | 12 => "twigs/fault.Stub"
 | _ => "twigs/fault.Account"
def sentText : DataW Unit → List UInt8
 | .iface _ (.ptr (.agg [.lit (.string t)])) => t
 | _ => []
theorem gNamed : ∀ n ∈ nums, Tryz.prog.globalNamed (errName n) = some (gOf n) ∧ (Tryz.prog.globals[gOf n]?).map (·.type) = some 114 := by
 intro n hn
 simp only [nums, List.mem_cons, List.not_mem_nil, or_false] at hn
 rcases hn with rfl | rfl | rfl | rfl | rfl | rfl | rfl | rfl | rfl | rfl | rfl | rfl | rfl <;> exact ⟨by kernel_rfl, by kernel_rfl⟩
theorem cellsErr : Tryz.prog.cellsOf 452 = 1 := by kernel_rfl
theorem cellsStr : Tryz.prog.cellsOf 9 = 1 := by kernel_rfl
theorem starErr : "*" ++ "errors.errorString" = "*errors.errorString" := by decide
theorem uErr (u : TypeId) (h : Tryz.prog.typeName? 3 u = some "*errors.errorString") : u = 423 :=
 typeName_ptr_named (nm := "errors.errorString") (by rw [starErr]; kernel_rfl) (by kernel_rfl) (by decide) u (by rw [starErr]; exact h)
theorem faults_of_list {order : List Nat} {W : World} (hall : ∀ n ∈ nums, n ∈ order) (hin : ∀ n ∈ order, n ∈ nums) (h : laidMet Tryz.prog (order.map fun n => (errName n, errText n)) W) : ∃ sent, Faults W sent := by
 obtain ⟨ps, hv, hnd, hrows⟩ := h
 have hT : ∀ n ∈ nums, errText n = sentD (sentText (errText n)) := by
  intro n hn
  simp only [nums, List.mem_cons, List.not_mem_nil, or_false] at hn
  rcases hn with rfl | rfl | rfl | rfl | rfl | rfl | rfl | rfl | rfl | rfl | rfl | rfl | rfl <;> rfl
 have e : (order.map fun n => (errName n, errText n)) = (order.map fun n => (errName n, gOf n, sentText (errText n))).map fun x => (x.1, sentD x.2.2) := by
  rw [List.map_map]
  refine List.map_congr_left fun n hn => ?_
  show (errName n, errText n) = (errName n, sentD (sentText (errText n)))
  rw [← hT n (hin n hn)]
 rw [e] at hv
 obtain ⟨as_, h1, h2, _, h4⟩ := sentinels Tryz.underlying114 uErr Tryz.underlying423 Tryz.underlying452 rfl rfl Tryz.underlying9 cellsErr cellsStr _ ps (fun x hx => by
  obtain ⟨n, hn, rfl⟩ := List.mem_map.1 hx
  exact gNamed n (hin n hn)) hv hnd hrows
 rw [List.length_map] at h1
 refine ⟨fun n => (as_[order.idxOf n]?).getD default, ⟨?_, ?_, ?_⟩⟩
 all_goals
  have idx : ∀ n ∈ nums, ∃ a, as_[order.idxOf n]? = some a ∧ W.var? Tryz.prog (errName n) = some #[.iface 423 (.pointer (some a))] ∧ Plain W a.block := by
   intro n hn
   have hlt := List.idxOf_lt_length_of_mem (hall n hn)
   refine ⟨as_[order.idxOf n]'(by omega), List.getElem?_eq_getElem _, ?_⟩
   have hx : (order.map fun n => (errName n, gOf n, sentText (errText n)))[order.idxOf n]? = some (errName n, gOf n, sentText (errText n)) := by
    rw [List.getElem?_map, List.getElem?_eq_getElem hlt, List.getElem_idxOf]
    rfl
   exact h4 _ _ _ hx (List.getElem?_eq_getElem _)
 ·intro n hn
  obtain ⟨a, ha, hv, _⟩ := idx n hn
  rw [ha]
  exact World.var?_cell (gNamed n hn).1 hv 0
 ·intro n hn
  obtain ⟨a, ha, _, hp⟩ := idx n hn
  rw [ha]
  exact hp
 ·intro m hm n hn hne
  obtain ⟨a, ha, _, _⟩ := idx m hm
  obtain ⟨b, hb, _, _⟩ := idx n hn
  rw [ha, hb]
  intro hab
  simp only [Option.getD_some] at hab
  subst hab
  obtain ⟨i1, e1⟩ := List.getElem?_eq_some_iff.1 ha
  obtain ⟨i2, e2⟩ := List.getElem?_eq_some_iff.1 hb
  have := (List.getElem_inj h2).1 (e1.trans e2.symm)
  have hm' := List.getElem_idxOf (List.idxOf_lt_length_of_mem (hall m hm))
  have hn' := List.getElem_idxOf (List.idxOf_lt_length_of_mem (hall n hn))
  apply hne
  rw [← hm', ← hn']
  simp only [this]
theorem oneError : (List.range Tryz.prog.types.size).all (fun u => !(Tryz.prog.rowNamed u [101, 114, 114, 111, 114]) || u == 114) = true := by kernel_rfl
theorem cutR : (Tryz.prog.cutTypes.find? (·.1 == "internal/reflectlite.rtype")).map (·.2) = some 313 := by kernel_rfl
theorem gErrType : Tryz.prog.globalNamed "errors.errorType" = some 12 := by kernel_rfl
theorem nGlobals : Tryz.prog.globals.size = 17 := by kernel_rfl
theorem typeAt_of {W : World} {hs : List (String × DataW Unit)} (hm : ("errors.errorType", Rows.laid_errors_errorType) ∈ hs) (h : handlesMet Tryz.prog hs W) : typeAt W := by
 obtain ⟨name, u, ty, e1, e2, e3, e4, e5⟩ : ∃ name u ty, (Rows.laid_errors_errorType : DataW Unit).handleName? = some name ∧ (Tryz.prog.cutTypes.find? (·.1 == "internal/reflectlite.rtype")).map (·.2) = some u ∧ ty < Tryz.prog.types.size ∧ Tryz.prog.rowNamed ty name = true ∧ W.var? Tryz.prog "errors.errorType" = some #[.iface u (.agg #[typeHandle Tryz.prog ty])] := h _ hm
 obtain rfl : u = 313 := (Option.some.inj (cutR.symm.trans e2)).symm
 obtain rfl : name = [101, 114, 114, 111, 114] := (Option.some.inj ((show (Rows.laid_errors_errorType : DataW Unit).handleName? = some [101, 114, 114, 111, 114] by kernel_rfl).symm.trans e1)).symm
 have := List.all_eq_true.1 oneError ty (List.mem_range.2 e3)
 rw [e4] at this
 obtain rfl : ty = 114 := by simpa using this
 have hc := World.var?_cell gErrType e5 0
 refine hc.trans ?_
 unfold typeHandle
 rw [nGlobals]
 rfl
end Go.Proofs.YtjiikjpnlgogfaaGreatDoor
