/-
  Proved: for every script of steps that together hold at most 1048576 values and letters, the call of twigslaw.Codes at the named commit returns true and leaves its argument as it was: every Encode, Decode, Pack, Unpack, EncodeAccount and DecodeAccount answers as the document says, and what Decode gave is its caller's own.
  Conditions: the second form's bound on what comes in; the listed package-level variables hold what the program's text lays (the card ties them).
-/
import Derived.Test.YtjiikjpnlgogfaaGreatDoorCodR
import Derived.Test.YtjiikjpnlgogfaaGreatDoorCards
import Derived.Test.YtjiikjpnlgogfaaGreatDoorTie
namespace Go.Proofs.YtjiikjpnlgogfaaGreatDoor
open Go.ChangeShapes Go.WideShapes Go.ChangeAt Go.RowKit

/-- No parameter wants a stand-in; the program's own looks are as the card says: what the card asks. -/
theorem plain (f : FuncId) (fn : Func) (hf : Tryz.pinned.checked.prog.funcNamed "twigs/twigslaw.Codes" = some f) (hfn : Tryz.pinned.checked.prog.funcs[f]? = some fn) :
    Rows.codesUptoCard.stood.looks = Tryz.pinned.checked.prog.looks [] ∧ ∀ (j : Nat) t, fn.params[j]? = some t → Tryz.pinned.checked.prog.wantsStandIn t = false := by
  obtain rfl : f = 4 := Option.some.inj ((show Tryz.prog.funcNamed "twigs/twigslaw.Codes" = some 4 by kernel_rfl).symm.trans hf) |>.symm
  obtain rfl : fn = Tryz.f4 := (Option.some.inj (Tryz.func4.symm.trans hfn)).symm
  refine ⟨by kernel_rfl, fun j t ht => ?_⟩
  rw [Tryz.params4] at ht
  obtain rfl : t = 22 := by simpa using Array.mem_of_getElem? ht
  exact (show Tryz.prog.wantsStandIn 22 = false by kernel_rfl)

/-- THE SECOND FORM's CARD. -/
theorem codes_upto : Rows.CodesUptoCardSaid :=
  Claim7.holds_tied_plain_at .later [] _ _ _ _ saidUpto (fun _ h => by cases h) (by as_aux_lemma => kernel_rfl) (fun _ h => by cases h) codesUpto_row_tie rfl ⟨rfl, rfl⟩ (by as_aux_lemma => kernel_rfl) rfl plain (by as_aux_lemma => kernel_rfl)
end Go.Proofs.YtjiikjpnlgogfaaGreatDoor
