/-
  What the listed variables give: the errors of package fault, each in its variable and apart from the others; and the handle that errors.As asks for.
-/
import Derived.Test.YtjiikjpnlgogfaaGreatDoorRows
import Derived.Test.YtjiikjpnlgogfaaGreatDoorSmaG
import Derived.ProofKit
import Derived.OpenShut
import Derived.Stop.LaidTwo
import Derived.LaidSub
namespace Go.Proofs.YtjiikjpnlgogfaaGreatDoor
open Go.ChangeShapes Go.WideShapes Go.ChangeAt Go.RowKit

abbrev sentD (text : List UInt8) : DataW Unit := .iface "*errors.errorString" (.ptr (.agg [.lit (.string text)]))

/-- A list of errors that were each made by errors.New: their addresses, no two alike. -/
theorem sentinels {P : Program} {w : World} {ti tp te ts : TypeId} {ms : Array (String × TypeId)} {f : Field}
    (hi : P.underlying ti = some (.interface ms)) (hrow : ∀ u, P.typeName? 3 u = some "*errors.errorString" → u = tp)
    (hp : P.underlying tp = some (.pointer te)) (he : P.underlying te = some (.struct #[f])) (hft : f.type = ts) (hfo : f.offset = 0) (hs : P.underlying ts = some .string) (hc : P.cellsOf te = 1) (hcs : P.cellsOf ts = 1) :
    ∀ (L : List (String × Nat × List UInt8)) (ps : List MemPlace), (∀ x ∈ L, P.globalNamed x.1 = some x.2.1 ∧ (P.globals[x.2.1]?).map (·.type) = some ti) →
      DataW.LaidVars P w (L.map fun x => (x.1, sentD x.2.2)) ps → ps.Nodup →
      (∀ b off, MemPlace.cell b off ∈ ps → (∃ c t, w.heap[b]? = some (.cells c t (0, 0))) ∧ ∀ u v, w.cell? ⟨b, off, none⟩ = some (.iface u v) → Value.okWide P w .any 0 u v) →
      ∃ as_ : List Addr, as_.length = L.length ∧ as_.Nodup ∧ (∀ a ∈ as_, MemPlace.cell a.block a.off ∈ ps) ∧
        ∀ (i : Nat) (x : String × Nat × List UInt8) (a : Addr), L[i]? = some x → as_[i]? = some a → w.var? P x.1 = some #[.iface tp (.pointer (some a))] ∧ Plain w a.block
  | [], ps, _, _, _, _ => ⟨[], rfl, List.nodup_nil, ⟨fun _ h => (by cases h), fun _ _ _ h => (by cases h)⟩⟩
  | (n, g, text) :: L, ps, hL, hv, hnd, hrows => by
    obtain ⟨g0, t0, cs0, f0, p0, q0, hg0, ht0, hv0, hd0, hq, rfl⟩ := hv
    obtain ⟨hg, ht⟩ := hL _ (List.mem_cons_self ..)
    obtain rfl := Option.some.inj (hg.symm.trans hg0)
    obtain rfl := Option.some.inj (ht.symm.trans ht0)
    obtain ⟨l0⟩ := cs0
    have ok0 : ∀ u v, l0 = [.iface u v] → Value.okWide P w .any 0 u v := fun u v e => by
      subst e
      exact (hrows g 0 (by simp [MemPlace.row])).2 u v (by simpa using World.var?_cell hg0 hv0 0)
    obtain ⟨a0, s0, rfl, hc0, hs0, hz0, rfl⟩ := errorString_of_trod hi hrow hp he hft hfo hs hc hcs hd0 ok0
    have hm0 : MemPlace.cell a0.block a0.off ∈ MemPlace.row a0 1 := by simp [MemPlace.row]
    have hnq := (List.nodup_append.1 hnd).2.1
    obtain ⟨as_, h1, h2, h3, h4⟩ := sentinels hi hrow hp he hft hfo hs hc hcs L q0 (fun x hx => hL x (List.mem_cons_of_mem _ hx)) hq hnq (fun b off hm => hrows b off (List.mem_append_right _ hm))
    refine ⟨a0 :: as_, by simp [h1], List.nodup_cons.2 ⟨fun hin => ?_, h2⟩, ?_, ?_⟩
    · exact (List.nodup_append.1 hnd).2.2 _ (List.mem_append_right _ hm0) _ (h3 a0 hin) rfl
    · intro a ha
      rcases List.mem_cons.1 ha with rfl | ha
      · exact List.mem_append_left _ (List.mem_append_right _ hm0)
      · exact List.mem_append_right _ (h3 a ha)
    · intro i x a hx ha
      cases i with
      | zero =>
        simp only [List.getElem?_cons_zero, Option.some.injEq] at hx ha
        subst hx ha
        exact ⟨hv0, (hrows a0.block a0.off (List.mem_append_left _ (List.mem_append_right _ hm0))).1⟩
      | succ i => exact h4 i x a (by simpa using hx) (by simpa using ha)

/-- The errors' texts, by their numbers in package api. -/
def errText : Nat → DataW Unit
  | 1 => Rows.laid_twigs_fault_Long
  | 2 => Rows.laid_twigs_fault_Short
  | 3 => Rows.laid_twigs_fault_Form
  | 4 => Rows.laid_twigs_fault_Rest
  | 5 => Rows.laid_twigs_fault_Deep
  | 6 => Rows.laid_twigs_fault_Nibble
  | 7 => Rows.laid_twigs_fault_Digest
  | 8 => Rows.laid_twigs_fault_Node
  | 9 => Rows.laid_twigs_fault_Op
  | 10 => Rows.laid_twigs_fault_Stack
  | 11 => Rows.laid_twigs_fault_Value
  | 12 => Rows.laid_twigs_fault_Stub
  | _ => Rows.laid_twigs_fault_Account
def errName : Nat → String
  | 1 => "twigs/fault.Long"
  | 2 => "twigs/fault.Short"
  | 3 => "twigs/fault.Form"
  | 4 => "twigs/fault.Rest"
  | 5 => "twigs/fault.Deep"
  | 6 => "twigs/fault.Nibble"
  | 7 => "twigs/fault.Digest"
  | 8 => "twigs/fault.Node"
  | 9 => "twigs/fault.Op"
  | 10 => "twigs/fault.Stack"
  | 11 => "twigs/fault.Value"
  | 12 => "twigs/fault.Stub"
  | _ => "twigs/fault.Account"
def sentText : DataW Unit → List UInt8
  | .iface _ (.ptr (.agg [.lit (.string t)])) => t
  | _ => []

theorem gNamed : ∀ n ∈ nums, Tryz.prog.globalNamed (errName n) = some (gOf n) ∧ (Tryz.prog.globals[gOf n]?).map (·.type) = some 114 := by
  intro n hn
  simp only [nums, List.mem_cons, List.not_mem_nil, or_false] at hn
  rcases hn with rfl | rfl | rfl | rfl | rfl | rfl | rfl | rfl | rfl | rfl | rfl | rfl | rfl <;> exact ⟨by kernel_rfl, by kernel_rfl⟩
theorem cellsErr : Tryz.prog.cellsOf 452 = 1 := by kernel_rfl
theorem cellsStr : Tryz.prog.cellsOf 9 = 1 := by kernel_rfl
theorem starErr : "*" ++ "errors.errorString" = "*errors.errorString" := by decide
theorem uErr (u : TypeId) (h : Tryz.prog.typeName? 3 u = some "*errors.errorString") : u = 423 :=
  typeName_ptr_named (nm := "errors.errorString") (by rw [starErr]; kernel_rfl) (by kernel_rfl) (by decide) u (by rw [starErr]; exact h)

/-- WHAT A ROW's LIST GIVES: the list of the errors, whichever their order on it. -/
theorem faults_of_list {order : List Nat} {W : World} (hall : ∀ n ∈ nums, n ∈ order) (hin : ∀ n ∈ order, n ∈ nums) (h : laidMet Tryz.prog (order.map fun n => (errName n, errText n)) W) : ∃ sent, Faults W sent := by
  obtain ⟨ps, hv, hnd, hrows⟩ := h
  have hT : ∀ n ∈ nums, errText n = sentD (sentText (errText n)) := by
    intro n hn
    simp only [nums, List.mem_cons, List.not_mem_nil, or_false] at hn
    rcases hn with rfl | rfl | rfl | rfl | rfl | rfl | rfl | rfl | rfl | rfl | rfl | rfl | rfl <;> rfl
  have e : (order.map fun n => (errName n, errText n)) = (order.map fun n => (errName n, gOf n, sentText (errText n))).map fun x => (x.1, sentD x.2.2) := by
    rw [List.map_map]
    refine List.map_congr_left fun n hn => ?_
    show (errName n, errText n) = (errName n, sentD (sentText (errText n)))
    rw [← hT n (hin n hn)]
  rw [e] at hv
  obtain ⟨as_, h1, h2, _, h4⟩ := sentinels Tryz.underlying114 uErr Tryz.underlying423 Tryz.underlying452 rfl rfl Tryz.underlying9 cellsErr cellsStr _ ps (fun x hx => by
    obtain ⟨n, hn, rfl⟩ := List.mem_map.1 hx
    exact gNamed n (hin n hn)) hv hnd hrows
  rw [List.length_map] at h1
  refine ⟨fun n => (as_[order.idxOf n]?).getD default, ⟨?_, ?_, ?_⟩⟩
  all_goals
    have idx : ∀ n ∈ nums, ∃ a, as_[order.idxOf n]? = some a ∧ W.var? Tryz.prog (errName n) = some #[.iface 423 (.pointer (some a))] ∧ Plain W a.block := by
      intro n hn
      have hlt := List.idxOf_lt_length_of_mem (hall n hn)
      refine ⟨as_[order.idxOf n]'(by omega), List.getElem?_eq_getElem _, ?_⟩
      have hx : (order.map fun n => (errName n, gOf n, sentText (errText n)))[order.idxOf n]? = some (errName n, gOf n, sentText (errText n)) := by
        rw [List.getElem?_map, List.getElem?_eq_getElem hlt, List.getElem_idxOf]
        rfl
      exact h4 _ _ _ hx (List.getElem?_eq_getElem _)
  · intro n hn
    obtain ⟨a, ha, hv, _⟩ := idx n hn
    rw [ha]
    exact World.var?_cell (gNamed n hn).1 hv 0
  · intro n hn
    obtain ⟨a, ha, _, hp⟩ := idx n hn
    rw [ha]
    exact hp
  · intro m hm n hn hne
    obtain ⟨a, ha, _, _⟩ := idx m hm
    obtain ⟨b, hb, _, _⟩ := idx n hn
    rw [ha, hb]
    intro hab
    simp only [Option.getD_some] at hab
    subst hab
    obtain ⟨i1, e1⟩ := List.getElem?_eq_some_iff.1 ha
    obtain ⟨i2, e2⟩ := List.getElem?_eq_some_iff.1 hb
    have := (List.getElem_inj h2).1 (e1.trans e2.symm)
    have hm' := List.getElem_idxOf (List.idxOf_lt_length_of_mem (hall m hm))
    have hn' := List.getElem_idxOf (List.idxOf_lt_length_of_mem (hall n hn))
    apply hne
    rw [← hm', ← hn']
    simp only [this]

theorem oneError : (List.range Tryz.prog.types.size).all (fun u => !(Tryz.prog.rowNamed u [101, 114, 114, 111, 114]) || u == 114) = true := by kernel_rfl
theorem cutR : (Tryz.prog.cutTypes.find? (·.1 == "internal/reflectlite.rtype")).map (·.2) = some 313 := by kernel_rfl
theorem gErrType : Tryz.prog.globalNamed "errors.errorType" = some 12 := by kernel_rfl
theorem nGlobals : Tryz.prog.globals.size = 17 := by kernel_rfl
theorem typeAt_of {W : World} {hs : List (String × DataW Unit)} (hm : ("errors.errorType", Rows.laid_errors_errorType) ∈ hs) (h : handlesMet Tryz.prog hs W) : typeAt W := by
  obtain ⟨name, u, ty, e1, e2, e3, e4, e5⟩ : ∃ name u ty, (Rows.laid_errors_errorType : DataW Unit).handleName? = some name ∧ (Tryz.prog.cutTypes.find? (·.1 == "internal/reflectlite.rtype")).map (·.2) = some u ∧ ty < Tryz.prog.types.size ∧ Tryz.prog.rowNamed ty name = true ∧ W.var? Tryz.prog "errors.errorType" = some #[.iface u (.agg #[typeHandle Tryz.prog ty])] := h _ hm
  obtain rfl : u = 313 := (Option.some.inj (cutR.symm.trans e2)).symm
  obtain rfl : name = [101, 114, 114, 111, 114] := (Option.some.inj ((show (Rows.laid_errors_errorType : DataW Unit).handleName? = some [101, 114, 114, 111, 114] by kernel_rfl).symm.trans e1)).symm
  have := List.all_eq_true.1 oneError ty (List.mem_range.2 e3)
  rw [e4] at this
  obtain rfl : ty = 114 := by simpa using this
  have hc := World.var?_cell gErrType e5 0
  refine hc.trans ?_
  unfold typeHandle
  rw [nGlobals]
  rfl
end Go.Proofs.YtjiikjpnlgogfaaGreatDoor
