/-
  Proved: for every script of steps that together hold at most 1048576 values and letters, the call of twigslaw.Digests at the named commit returns true and leaves its argument as it was: every Digest, and every Sum of hashers that are written to piece by piece, is the document's digest.
  Conditions: the second form's bound on what comes in; the listed package-level variables hold what the program's text lays (the card ties them).
-/
import Derived.Test.YtjiikjpnlgogfaaGreatDoorDigestsSaid
import Derived.Test.YtjiikjpnlgogfaaGreatDoorCards
import Derived.Test.YtjiikjpnlgogfaaGreatDoorTie
namespace Go.Proofs.YtjiikjpnlgogfaaGreatDoor
open Go.ChangeShapes Go.WideShapes Go.ChangeAt Go.RowKit

/-- No parameter wants a stand-in; the program's own looks are as the card says: what the card asks. -/
theorem plain (f : FuncId) (fn : Func) (hf : Tryz.pinned.checked.prog.funcNamed "twigs/twigslaw.Digests" = some f) (hfn : Tryz.pinned.checked.prog.funcs[f]? = some fn) :
    Rows.digestsUptoCard.stood.looks = Tryz.pinned.checked.prog.looks [] ∧ ∀ (j : Nat) t, fn.params[j]? = some t → Tryz.pinned.checked.prog.wantsStandIn t = false := by
  obtain rfl : f = 3 := Option.some.inj ((show Tryz.prog.funcNamed "twigs/twigslaw.Digests" = some 3 by kernel_rfl).symm.trans hf) |>.symm
  obtain rfl : fn = Tryz.f3 := (Option.some.inj (Tryz.func3.symm.trans hfn)).symm
  refine ⟨by kernel_rfl, fun j t ht => ?_⟩
  rw [Tryz.params3] at ht
  obtain rfl : t = 22 := by simpa using Array.mem_of_getElem? ht
  exact (show Tryz.prog.wantsStandIn 22 = false by kernel_rfl)

/-- THE SECOND FORM's CARD. -/
theorem digests_upto : Rows.DigestsUptoCardSaid :=
  Claim7.holds_tied_plain_at .later [] _ _ _ _ saidUpto (fun _ h => by cases h) (by as_aux_lemma => kernel_rfl) (fun _ h => by cases h) digestsUpto_row_tie rfl ⟨rfl, rfl⟩ (by as_aux_lemma => kernel_rfl) rfl plain (by as_aux_lemma => kernel_rfl)
end Go.Proofs.YtjiikjpnlgogfaaGreatDoor
