/-
  What the listed variables give: the cells of the two tables of the digest.
-/
import Derived.Test.YtakidhihbgfjlaaGreatDoorRows
import Derived.Test.YtakidhihbgfjlaaGreatDoorSxRotG
import Derived.ProofKit
import Derived.OpenShut
import Derived.Lib.LaidTab
import Derived.Stop.LaidErr
import Derived.LaidHandle
import Derived.Deep.DeepHandedRow
import Derived.Test.YtakidhihbgfjlaaGreatDoorSxOcG
import Derived.Test.YtakidhihbgfjlaaGreatDoorSxSmaG
import Derived.Stop.LaidTwo
import Derived.LaidSub
namespace Go.Proofs.YtakidhihbgfjlaaGreatDoor
open Go.ChangeShapes Go.WideShapes Go.ChangeAt Go.RowKit
set_option maxRecDepth 100000
set_option maxHeartbeats 25600000
theorem gTurns : Tryz.prog.globalNamed "twigs/digest.turns" = some 14 := by kernel_rfl
theorem gTurnsType : (Tryz.prog.globals[14]?).map (·.type) = some 238 := by kernel_rfl
theorem QBw : Tryz.prog.globalNamed "twigs/digest.roundKeys" = some 13 := by kernel_rfl
theorem Qsy : (Tryz.prog.globals[13]?).map (·.type) = some 221 := by kernel_rfl
theorem Qwq : Tryz.prog.cellsOf 221 = 24 := by kernel_rfl
theorem Qbx : Tryz.prog.cellsOf 237 = 5 := by kernel_rfl
theorem QA0 : Tryz.prog.cellsOf 141 = 1 := by kernel_rfl
theorem Qmb : Tryz.prog.cellsOf 3 = 1 := by kernel_rfl
def turnRow : Nat -> List Int
 | 0 => [0, 36, 3, 41, 18]
 | 1 => [1, 44, 10, 45, 2]
 | 2 => [62, 6, 43, 15, 61]
 | 3 => [28, 55, 25, 21, 56]
 | 4 => [27, 20, 39, 8, 14]
 | _ => []
variable {cs : List Value}
theorem Qob (h : ∀ i, i < 5 -> (cs.drop (i * 5)).take 5 = (turnRow i).map fun z => Value.int .i64 z) (j : Nat) (hj : j < 25) : cs[j]? = some (.int .i64 ((turnsT[j]! : Nat) : Int)) := by
 have e : cs[j]? = ((cs.drop (j / 5 * 5)).take 5)[j % 5]? := by
  rw [List.getElem?_take, if_pos (by omega), List.getElem?_drop]
  congr 1
  omega
 rw [e, h (j / 5) (by omega)]
 have a : ∀ i : Fin 25, (turnRow (i.val / 5))[i.val % 5]? = some ((turnsT[i.val]! : Nat) : Int) := by decide +kernel
 rw [List.getElem?_map, a ⟨j, hj⟩]
 rfl
theorem Qbz {H : Type} {enc : TypeId × Value -> H} {P : Program} {w : World} {base : Nat} {sp : Nat -> Bool} {held : Bool} {fuel : Nat} {t e : TypeId} {n m c : Nat} {rows : List (DataW H)} {p : List MemPlace}
  (ht : P.underlying t = some (.array n e)) (hn : n = m) (hc : P.cellsOf e = c) (h : DataW.trod enc P w base sp held fuel t cs = some (.agg rows, p)) (i : Nat) (hi : i < m) (d : DataW H) (hd : rows[i]? = some d) :
  ∃ f q, DataW.trod enc P w base sp held f e ((cs.drop (i * c)).take c) = some (d, q) := by
 subst hn
 obtain ⟨k, f, _, b, _, l, j⟩ := DataW.trod_array ht h
 simp only [Prod.mk.injEq, DataW.agg.injEq] at b
 obtain ⟨g, _⟩ := b
 have a := j i hi
 rw [hc] at a
 rw [g, List.getElem?_map] at hd
 cases hq : k[i]? with
 | none => rw [hq] at hd; cases hd
 | some y =>
  rw [hq] at hd a
  simp only [Option.map_some, Option.some.injEq] at hd
  exact ⟨f, y.2, by rw [a, <- hd]⟩
variable {rest : List (String × DataW Unit)} {W : World}
theorem Qmc (h' : laidMet Tryz.prog (("twigs/digest.turns", Rows.laid_twigs_digest_turns) :: ("twigs/digest.roundKeys", Rows.laid_twigs_digest_roundKeys) :: rest) W) : Tabs W := by
 refine ⟨?_, ?_⟩
 ·obtain ⟨t, ⟨s, u, l, m, p, q, h, k, d, b, _, _⟩, _⟩ := h'
  obtain rfl := Option.some.inj (gTurns.symm.trans h)
  obtain rfl := Option.some.inj (gTurnsType.symm.trans k)
  have e : ∀ i, i < 5 -> (l.toList.drop (i * 5)).take 5 = (turnRow i).map fun z => Value.int .i64 z := by
   intro i o
   match i, o with
   | 0, _ =>
    obtain ⟨f, q, a⟩ := Qbz Tryz.underlying238 rfl Qbx b 0 (by omega) (Lib.tabData .i64 (turnRow 0)) rfl
    exact Lib.cells_of_tab Tryz.underlying237 Tryz.underlying3 Qmb Qbx a
   | 1, _ =>
    obtain ⟨f, q, a⟩ := Qbz Tryz.underlying238 rfl Qbx b 1 (by omega) (Lib.tabData .i64 (turnRow 1)) rfl
    exact Lib.cells_of_tab Tryz.underlying237 Tryz.underlying3 Qmb Qbx a
   | 2, _ =>
    obtain ⟨f, q, a⟩ := Qbz Tryz.underlying238 rfl Qbx b 2 (by omega) (Lib.tabData .i64 (turnRow 2)) rfl
    exact Lib.cells_of_tab Tryz.underlying237 Tryz.underlying3 Qmb Qbx a
   | 3, _ =>
    obtain ⟨f, q, a⟩ := Qbz Tryz.underlying238 rfl Qbx b 3 (by omega) (Lib.tabData .i64 (turnRow 3)) rfl
    exact Lib.cells_of_tab Tryz.underlying237 Tryz.underlying3 Qmb Qbx a
   | 4, _ =>
    obtain ⟨f, q, a⟩ := Qbz Tryz.underlying238 rfl Qbx b 4 (by omega) (Lib.tabData .i64 (turnRow 4)) rfl
    exact Lib.cells_of_tab Tryz.underlying237 Tryz.underlying3 Qmb Qbx a
  intro j c
  have n := World.var?_cell gTurns d j
  rw [n]
  have := Qob e j c
  simpa using this
 ·intro j c
  have r : Lib.TabIs Tryz.prog W "twigs/digest.roundKeys" .u64 [1, 32898, 9223372036854808714, 9223372039002292224, 32907, 2147483649, 9223372039002292353, 9223372036854808585, 138, 136, 2147516425, 2147483658, 2147516555, 9223372036854775947, 9223372036854808713, 9223372036854808579, 9223372036854808578, 9223372036854775936, 32778, 9223372039002259466, 9223372039002292353, 9223372036854808704, 2147483649, 9223372039002292232] :=
   Lib.tabIs_of_head (rest := rest) QBw Qsy Tryz.underlying221 Tryz.underlying141 QA0 Qwq h'.tail
  rw [r.cell QBw j c]
  have g : ∀ i : Fin 24, ([1, 32898, 9223372036854808714, 9223372039002292224, 32907, 2147483649, 9223372039002292353, 9223372036854808585, 138, 136, 2147516425, 2147483658, 2147516555, 9223372036854775947, 9223372036854808713, 9223372036854808579, 9223372036854808578, 9223372036854775936, 32778, 9223372039002259466, 9223372039002292353, 9223372036854808704, 2147483649, 9223372039002292232] : List Int).getD i.val 0 = ((keysT[i.val]! : Nat) : Int) := by decide +kernel
  rw [g ⟨j, c⟩]
theorem own : ownKnob Tryz.prog.godebug = none := by kernel_rfl
theorem Qh6 : laidOutB Tryz.prog = true := by kernel_rfl
def setTurns : Obj -> Obj
 | .cells _ t frozen => .cells #[.int .i64 0, .int .i64 36, .int .i64 3, .int .i64 41, .int .i64 18, .int .i64 1, .int .i64 44, .int .i64 10, .int .i64 45, .int .i64 2, .int .i64 62, .int .i64 6, .int .i64 43, .int .i64 15, .int .i64 61, .int .i64 28, .int .i64 55, .int .i64 25, .int .i64 21, .int .i64 56, .int .i64 27, .int .i64 20, .int .i64 39, .int .i64 8, .int .i64 14] t frozen
 | o => o
def setBruijn : Obj -> Obj
 | .cells _ t frozen => .cells #[.int .u8 0, .int .u8 1, .int .u8 28, .int .u8 2, .int .u8 29, .int .u8 14, .int .u8 24, .int .u8 3, .int .u8 30, .int .u8 22, .int .u8 20, .int .u8 15, .int .u8 25, .int .u8 17, .int .u8 4, .int .u8 8, .int .u8 31, .int .u8 27, .int .u8 13, .int .u8 23, .int .u8 21, .int .u8 19, .int .u8 16, .int .u8 7, .int .u8 26, .int .u8 12, .int .u8 18, .int .u8 6, .int .u8 11, .int .u8 5, .int .u8 10, .int .u8 9] t frozen
 | o => o
def setKeys : Obj -> Obj
 | .cells _ t frozen => .cells #[.int .u64 1, .int .u64 32898, .int .u64 9223372036854808714, .int .u64 9223372039002292224, .int .u64 32907, .int .u64 2147483649, .int .u64 9223372039002292353, .int .u64 9223372036854808585, .int .u64 138, .int .u64 136, .int .u64 2147516425, .int .u64 2147483658, .int .u64 2147516555, .int .u64 9223372036854775947, .int .u64 9223372036854808713, .int .u64 9223372036854808579, .int .u64 9223372036854808578, .int .u64 9223372036854775936, .int .u64 32778, .int .u64 9223372039002259466, .int .u64 9223372039002292353, .int .u64 9223372036854808704, .int .u64 2147483649, .int .u64 9223372039002292232] t frozen
 | o => o
abbrev txtLong : ByteArray := { data := #[109, 111, 114, 101, 32, 98, 121, 116, 101, 115, 32, 116, 104, 97, 110, 32, 116, 104, 101, 114, 101, 32, 109, 97, 121, 32, 98, 101] }
abbrev txtShort : ByteArray := { data := #[105, 116, 32, 101, 110, 100, 115, 32, 116, 111, 111, 32, 101, 97, 114, 108, 121] }
abbrev txtRest : ByteArray := { data := #[115, 111, 109, 101, 116, 104, 105, 110, 103, 32, 105, 115, 32, 108, 101, 102, 116, 32, 98, 101, 104, 105, 110, 100, 32, 116, 104, 101, 32, 101, 110, 100] }
abbrev txtDeep : ByteArray := { data := #[108, 105, 115, 116, 115, 32, 97, 114, 101, 32, 116, 111, 111, 32, 100, 101, 101, 112, 32, 105, 110, 32, 111, 110, 101, 32, 97, 110, 111, 116, 104, 101, 114] }
abbrev txtNibble : ByteArray := { data := #[97, 32, 98, 121, 116, 101, 32, 111, 102, 32, 116, 104, 101, 32, 112, 97, 116, 104, 32, 105, 115, 32, 97, 98, 111, 118, 101, 32, 49, 53] }
abbrev txtValue : ByteArray := { data := #[97, 32, 118, 97, 108, 117, 101, 32, 104, 97, 115, 32, 110, 111, 32, 98, 121, 116, 101, 32, 111, 114, 32, 116, 111, 111, 32, 109, 97, 110, 121] }
abbrev txtAccount : ByteArray := { data := #[116, 104, 105, 115, 32, 105, 115, 32, 110, 111, 32, 97, 99, 99, 111, 117, 110, 116] }
abbrev txtForm : ByteArray := { data := #[105, 116, 32, 119, 111, 117, 108, 100, 32, 98, 101, 32, 119, 114, 105, 116, 116, 101, 110, 32, 111, 116, 104, 101, 114, 119, 105, 115, 101] }
abbrev txtDigest : ByteArray := { data := #[97, 110, 111, 116, 104, 101, 114, 32, 100, 105, 103, 101, 115, 116, 32, 105, 115, 32, 119, 97, 110, 116, 101, 100] }
abbrev txtNode : ByteArray := { data := #[116, 104, 105, 115, 32, 104, 97, 115, 32, 110, 111, 116, 32, 116, 104, 101, 32, 102, 111, 114, 109, 32, 111, 102, 32, 97, 32, 110, 111, 100, 101] }
abbrev txtStub : ByteArray := { data := #[97, 32, 110, 111, 100, 101, 32, 105, 115, 32, 110, 101, 101, 100, 101, 100, 32, 111, 102, 32, 119, 104, 105, 99, 104, 32, 116, 104, 101, 32, 100, 105, 103, 101, 115, 116, 32, 97, 108, 111, 110, 101, 32, 105, 115, 32, 107, 110, 111, 119, 110] }
abbrev txtOp : ByteArray := { data := #[116, 104, 105, 115, 32, 105, 115, 32, 110, 111, 32, 111, 112, 101, 114, 97, 116, 105, 111, 110] }
abbrev txtStack : ByteArray := { data := #[116, 104, 101, 114, 101, 32, 97, 114, 101, 32, 116, 111, 111, 32, 102, 101, 119, 32, 110, 111, 100, 101, 115, 44, 32, 111, 114, 32, 116, 111, 111, 32, 109, 97, 110, 121] }
def errBlocks : Array Obj := #[.cells #[.string txtLong] 275, .cells #[.string txtShort] 275, .cells #[.string txtRest] 275, .cells #[.string txtDeep] 275, .cells #[.string txtNibble] 275, .cells #[.string txtValue] 275, .cells #[.string txtAccount] 275, .cells #[.string txtForm] 275, .cells #[.string txtDigest] 275, .cells #[.string txtNode] 275, .cells #[.string txtStub] 275, .cells #[.string txtOp] 275, .cells #[.string txtStack] 275]
noncomputable def low : Nat := (World.holding Tryz.prog default ⟨#[], #[], []⟩).heap.size
noncomputable section
def setLong : Obj -> Obj
 | .cells _ t frozen => .cells #[.iface 243 (.pointer (some ⟨low + 0, 0, none⟩))] t frozen
 | o => o
def setShort : Obj -> Obj
 | .cells _ t frozen => .cells #[.iface 243 (.pointer (some ⟨low + 1, 0, none⟩))] t frozen
 | o => o
def setRest : Obj -> Obj
 | .cells _ t frozen => .cells #[.iface 243 (.pointer (some ⟨low + 2, 0, none⟩))] t frozen
 | o => o
def setDeep : Obj -> Obj
 | .cells _ t frozen => .cells #[.iface 243 (.pointer (some ⟨low + 3, 0, none⟩))] t frozen
 | o => o
def setNibble : Obj -> Obj
 | .cells _ t frozen => .cells #[.iface 243 (.pointer (some ⟨low + 4, 0, none⟩))] t frozen
 | o => o
def setValue : Obj -> Obj
 | .cells _ t frozen => .cells #[.iface 243 (.pointer (some ⟨low + 5, 0, none⟩))] t frozen
 | o => o
def setAccount : Obj -> Obj
 | .cells _ t frozen => .cells #[.iface 243 (.pointer (some ⟨low + 6, 0, none⟩))] t frozen
 | o => o
def setForm : Obj -> Obj
 | .cells _ t frozen => .cells #[.iface 243 (.pointer (some ⟨low + 7, 0, none⟩))] t frozen
 | o => o
def setDigest : Obj -> Obj
 | .cells _ t frozen => .cells #[.iface 243 (.pointer (some ⟨low + 8, 0, none⟩))] t frozen
 | o => o
def setNode : Obj -> Obj
 | .cells _ t frozen => .cells #[.iface 243 (.pointer (some ⟨low + 9, 0, none⟩))] t frozen
 | o => o
def setStub : Obj -> Obj
 | .cells _ t frozen => .cells #[.iface 243 (.pointer (some ⟨low + 10, 0, none⟩))] t frozen
 | o => o
def setOp : Obj -> Obj
 | .cells _ t frozen => .cells #[.iface 243 (.pointer (some ⟨low + 11, 0, none⟩))] t frozen
 | o => o
def setStack : Obj -> Obj
 | .cells _ t frozen => .cells #[.iface 243 (.pointer (some ⟨low + 12, 0, none⟩))] t frozen
 | o => o
def setHandle : Obj -> Obj
 | .cells _ t frozen => .cells #[.iface 177 (.agg #[typeHandle Tryz.prog 62])] t frozen
 | o => o
def laidWorld (os : Os) : World :=
 { World.holding Tryz.prog os ⟨errBlocks, #[], []⟩ with heap := (((((((((((((((((World.holding Tryz.prog os ⟨errBlocks, #[], []⟩).heap.modify 14 setTurns).modify 13 setKeys).modify 12 setHandle).modify 0 setLong).modify 1 setShort).modify 2 setRest).modify 3 setDeep).modify 4 setNibble).modify 9 setValue).modify 11 setAccount).modify 15 setForm).modify 5 setDigest).modify 6 setNode).modify 10 setStub).modify 7 setOp).modify 8 setStack).modify 16 setBruijn }
end
theorem Qmd : joinedFacts Tryz.prog 3 Tryz.f3 (Rows.OpenSpec.upto Rows.spoiltSpec).bare Rows.spoiltUptoRow = true := by
 unfold joinedFacts
 simp only [Bool.and_eq_true]
 repeat' apply And.intro
 all_goals (as_aux_lemma => kernel_rfl)
theorem gBru : Tryz.prog.globalNamed "math/bits.deBruijn32tab" = some 16 := by kernel_rfl
theorem Qwr : (Tryz.prog.globals[16]?).map (·.type) = some 36 := by kernel_rfl
theorem Qsz : Tryz.prog.cellsOf 36 = 32 := by kernel_rfl
theorem QBx : Tryz.prog.cellsOf 5 = 1 := by kernel_rfl
theorem Qoc (h : laidMet Tryz.prog (("math/bits.deBruijn32tab", Rows.laid_math_bits_deBruijn32tab) :: rest) W) : Bru W := by
 intro j b
 have c : Lib.TabIs Tryz.prog W "math/bits.deBruijn32tab" .u8 [0, 1, 28, 2, 29, 14, 24, 3, 30, 22, 20, 15, 25, 17, 4, 8, 31, 27, 13, 23, 21, 19, 16, 7, 26, 12, 18, 6, 11, 5, 10, 9] :=
  Lib.tabIs_of_head (rest := rest) gBru Qwr Tryz.underlying36 Tryz.underlying5 QBx Qsz h
 rw [c.cell gBru j b]
 have a : ∀ i : Fin 32, ([0, 1, 28, 2, 29, 14, 24, 3, 30, 22, 20, 15, 25, 17, 4, 8, 31, 27, 13, 23, 21, 19, 16, 7, 26, 12, 18, 6, 11, 5, 10, 9] : List Int).getD i.val 0 = ((bruT[i.val]! : Nat) : Int) := by decide +kernel
 rw [a ⟨j, b⟩]
abbrev sentD (text : List UInt8) : DataW Unit := .iface "*errors.errorString" (.ptr (.agg [.lit (.string text)]))
theorem Qme {P : Program} {w : World} {ti tp te ts : TypeId} {ms : Array (String × TypeId)} {f : Field}
  (hi : P.underlying ti = some (.interface ms)) (hrow : ∀ u, P.typeName? 3 u = some "*errors.errorString" -> u = tp)
  (hp : P.underlying tp = some (.pointer te)) (he : P.underlying te = some (.struct #[f])) (hft : f.type = ts) (hfo : f.offset = 0) (hs : P.underlying ts = some .string) (hc : P.cellsOf te = 1) (hcs : P.cellsOf ts = 1) :
  ∀ (L : List (String × Nat × List UInt8)) (ps : List MemPlace), (∀ x ∈ L, P.globalNamed x.1 = some x.2.1 /\ (P.globals[x.2.1]?).map (·.type) = some ti) ->
   DataW.LaidVars P w (L.map fun x => (x.1, sentD x.2.2)) ps -> ps.Nodup ->
   (∀ b off, MemPlace.cell b off ∈ ps -> (∃ c t, w.heap[b]? = some (.cells c t (0, 0))) /\ ∀ u v, w.cell? ⟨b, off, none⟩ = some (.iface u v) -> Value.okWide P w .any 0 u v) ->
   ∃ as_ : List Addr, as_.length = L.length /\ as_.Nodup /\ (∀ a ∈ as_, MemPlace.cell a.block a.off ∈ ps) /\
    ∀ (i : Nat) (x : String × Nat × List UInt8) (a : Addr), L[i]? = some x -> as_[i]? = some a -> w.var? P x.1 = some #[.iface tp (.pointer (some a))] /\ Plain w a.block
 | [], ps, _, _, _, _ => ⟨[], rfl, List.nodup_nil, ⟨fun _ h => (by cases h), fun _ _ _ h => (by cases h)⟩⟩
 | (n, g, text) :: L, ps, hL, hv, hnd, hrows => by
  obtain ⟨g0, t0, cs0, f0, p0, q0, hg0, ht0, hv0, hd0, hq, rfl⟩ := hv
  obtain ⟨hg, ht⟩ := hL _ (List.mem_cons_self ..)
  obtain rfl := Option.some.inj (hg.symm.trans hg0)
  obtain rfl := Option.some.inj (ht.symm.trans ht0)
  obtain ⟨l0⟩ := cs0
  have ok0 : ∀ u v, l0 = [.iface u v] -> Value.okWide P w .any 0 u v := fun u v e => by
   subst e
   exact (hrows g 0 (by simp [MemPlace.row])).2 u v (by simpa using World.var?_cell hg0 hv0 0)
  obtain ⟨a0, s0, rfl, hc0, hs0, hz0, rfl⟩ := errorString_of_trod hi hrow hp he hft hfo hs hc hcs hd0 ok0
  have hm0 : MemPlace.cell a0.block a0.off ∈ MemPlace.row a0 1 := by simp [MemPlace.row]
  have hnq := (List.nodup_append.1 hnd).2.1
  obtain ⟨as_, h1, h2, h3, h4⟩ := Qme hi hrow hp he hft hfo hs hc hcs L q0 (fun x hx => hL x (List.mem_cons_of_mem _ hx)) hq hnq (fun b off hm => hrows b off (List.mem_append_right _ hm))
  refine ⟨a0 :: as_, by simp [h1], List.nodup_cons.2 ⟨fun hin => ?_, h2⟩, ?_, ?_⟩
  ·exact (List.nodup_append.1 hnd).2.2 _ (List.mem_append_right _ hm0) _ (h3 a0 hin) rfl
  ·intro a ha
   rcases List.mem_cons.1 ha with rfl | ha
   ·exact List.mem_append_left _ (List.mem_append_right _ hm0)
   ·exact List.mem_append_right _ (h3 a ha)
  ·intro i x a hx ha
   cases i with
   | zero =>
    simp only [List.getElem?_cons_zero, Option.some.injEq] at hx ha
    subst hx ha
    exact ⟨hv0, (hrows a0.block a0.off (List.mem_append_left _ (List.mem_append_right _ hm0))).1⟩
   | succ i => exact h4 i x a (by simpa using hx) (by simpa using ha)
def errText : Nat -> DataW Unit
 | 1 => Rows.laid_twigs_fault_Long
 | 2 => Rows.laid_twigs_fault_Short
 | 3 => Rows.laid_twigs_fault_Form
 | 4 => Rows.laid_twigs_fault_Rest
 | 5 => Rows.laid_twigs_fault_Deep
 | 6 => Rows.laid_twigs_fault_Nibble
 | 7 => Rows.laid_twigs_fault_Digest
 | 8 => Rows.laid_twigs_fault_Node
 | 9 => Rows.laid_twigs_fault_Op
 | 10 => Rows.laid_twigs_fault_Stack
 | 11 => Rows.laid_twigs_fault_Value
 | 12 => Rows.laid_twigs_fault_Stub
 | _ => Rows.laid_twigs_fault_Account
def errName : Nat -> String
 | 1 => "twigs/fault.Long"
 | 2 => "twigs/fault.Short"
 | 3 => "twigs/fault.Form"
 | 4 => "twigs/fault.Rest"
 | 5 => "twigs/fault.Deep"
 | 6 => "twigs/fault.Nibble"
 | 7 => "twigs/fault.Digest"
 | 8 => "twigs/fault.Node"
 | 9 => "twigs/fault.Op"
 | 10 => "twigs/fault.Stack"
 | 11 => "twigs/fault.Value"
 | 12 => "twigs/fault.Stub"
 | _ => "twigs/fault.Account"
def sentText : DataW Unit -> List UInt8
 | .iface _ (.ptr (.agg [.lit (.string t)])) => t
 | _ => []
theorem Qz7 : ∀ n ∈ nums, Tryz.prog.globalNamed (errName n) = some (gOf n) /\ (Tryz.prog.globals[gOf n]?).map (·.type) = some 62 := by
 intro n a
 simp only [nums, List.mem_cons, List.not_mem_nil, or_false] at a
 rcases a with rfl | rfl | rfl | rfl | rfl | rfl | rfl | rfl | rfl | rfl | rfl | rfl | rfl <;> exact ⟨by kernel_rfl, by kernel_rfl⟩
theorem Qws : Tryz.prog.cellsOf 275 = 1 := by kernel_rfl
theorem Qwt : Tryz.prog.cellsOf 9 = 1 := by kernel_rfl
theorem Qt0 : "*" ++ "errors.errorString" = "*errors.errorString" := by decide
theorem uErr (u : TypeId) (h : Tryz.prog.typeName? 3 u = some "*errors.errorString") : u = 243 :=
 typeName_ptr_named (nm := "errors.errorString") (by rw [Qt0]; kernel_rfl) (by kernel_rfl) (by decide) u (by rw [Qt0]; exact h)
theorem Qj5 {order : List Nat} (hall : ∀ n ∈ nums, n ∈ order) (hin : ∀ n ∈ order, n ∈ nums) (h : laidMet Tryz.prog (order.map fun n => (errName n, errText n)) W) : ∃ sent, Faults W sent := by
 obtain ⟨E, j, t, i⟩ := h
 have C : ∀ n ∈ nums, errText n = sentD (sentText (errText n)) := by
  intro n c
  simp only [nums, List.mem_cons, List.not_mem_nil, or_false] at c
  rcases c with rfl | rfl | rfl | rfl | rfl | rfl | rfl | rfl | rfl | rfl | rfl | rfl | rfl <;> rfl
 have e : (order.map fun n => (errName n, errText n)) = (order.map fun n => (errName n, gOf n, sentText (errText n))).map fun x => (x.1, sentD x.2.2) := by
  rw [List.map_map]
  refine List.map_congr_left fun n c => ?_
  show (errName n, errText n) = (errName n, sentD (sentText (errText n)))
  rw [<- C n (hin n c)]
 rw [e] at j
 obtain ⟨g, y, z, _, B⟩ := Qme Tryz.underlying62 uErr Tryz.underlying243 Tryz.underlying275 rfl rfl Tryz.underlying9 Qws Qwt _ E (fun x l => by
  obtain ⟨n, c, rfl⟩ := List.mem_map.1 l
  exact Qz7 n (hin n c)) j t i
 rw [List.length_map] at y
 refine ⟨fun n => (g[order.idxOf n]?).getD default, ⟨?_, ?_, ?_⟩⟩
 all_goals
  have d : ∀ n ∈ nums, ∃ a, g[order.idxOf n]? = some a /\ W.var? Tryz.prog (errName n) = some #[.iface 243 (.pointer (some a))] /\ Plain W a.block := by
   intro n c
   have p := List.idxOf_lt_length_of_mem (hall n c)
   refine ⟨g[order.idxOf n]'(by omega), List.getElem?_eq_getElem _, ?_⟩
   have l : (order.map fun n => (errName n, gOf n, sentText (errText n)))[order.idxOf n]? = some (errName n, gOf n, sentText (errText n)) := by
    rw [List.getElem?_map, List.getElem?_eq_getElem p, List.getElem_idxOf]
    rfl
   exact B _ _ _ l (List.getElem?_eq_getElem _)
 ·intro n c
  obtain ⟨a, f, j, _⟩ := d n c
  rw [f]
  exact World.var?_cell (Qz7 n c).1 j 0
 ·intro n c
  obtain ⟨a, f, _, D⟩ := d n c
  rw [f]
  exact D
 ·intro m q n c u
  obtain ⟨a, f, _, _⟩ := d m q
  obtain ⟨b, o, _, _⟩ := d n c
  rw [f, o]
  intro k
  simp only [Option.getD_some] at k
  subst k
  obtain ⟨F, v⟩ := List.getElem?_eq_some_iff.1 f
  obtain ⟨G, w⟩ := List.getElem?_eq_some_iff.1 o
  have := (List.getElem_inj z).1 (v.trans w.symm)
  have r := List.getElem_idxOf (List.idxOf_lt_length_of_mem (hall m q))
  have s := List.getElem_idxOf (List.idxOf_lt_length_of_mem (hall n c))
  apply u
  rw [<- r, <- s]
  simp only [this]
theorem Qwu : (List.range Tryz.prog.types.size).all (fun u => !(Tryz.prog.rowNamed u [101, 114, 114, 111, 114]) || u == 62) = true := by kernel_rfl
theorem cutR : (Tryz.prog.cutTypes.find? (·.1 == "internal/reflectlite.rtype")).map (·.2) = some 177 := by kernel_rfl
theorem Qwv : Tryz.prog.globalNamed "errors.errorType" = some 12 := by kernel_rfl
theorem Qww : Tryz.prog.globals.size = 17 := by kernel_rfl
theorem Qt1 {hs : List (String × DataW Unit)} (hm : ("errors.errorType", Rows.laid_errors_errorType) ∈ hs) (h : handlesMet Tryz.prog hs W) : typeAt W := by
 obtain ⟨a, u, b, c, d, e, f, g⟩ : ∃ a u b, (Rows.laid_errors_errorType : DataW Unit).handleName? = some a /\ (Tryz.prog.cutTypes.find? (·.1 == "internal/reflectlite.rtype")).map (·.2) = some u /\ b < Tryz.prog.types.size /\ Tryz.prog.rowNamed b a = true /\ W.var? Tryz.prog "errors.errorType" = some #[.iface u (.agg #[typeHandle Tryz.prog b])] := h _ hm
 obtain rfl : u = 177 := (Option.some.inj (cutR.symm.trans d)).symm
 obtain rfl : a = [101, 114, 114, 111, 114] := (Option.some.inj ((show (Rows.laid_errors_errorType : DataW Unit).handleName? = some [101, 114, 114, 111, 114] by kernel_rfl).symm.trans c)).symm
 have := List.all_eq_true.1 Qwu b (List.mem_range.2 e)
 rw [f] at this
 obtain rfl : b = 62 := by simpa using this
 have i := World.var?_cell Qwv g 0
 refine i.trans ?_
 unfold typeHandle
 rw [Qww]
 rfl
end Go.Proofs.YtakidhihbgfjlaaGreatDoor
