/-
  DERIVED. GIVEN WITH THE SEED: THE CARDS: each row of YtpfbdlnibdfcoaaGreatDoorRows.lean that lists a variable, with what it lists TIED to the program's text (the seventh form; the later family's looks); each row that meets fmt, with fmt's text TOLD by the authors' own Lean function (tested against real Go, not proved from fmt's source: count such statements apart). THE CARD IS WHAT COUNTS. Prove the row's statement (the work); the ties are given (YtpfbdlnibdfcoaaGreatDoorTie.lean); close each card by the builder's one call (the guide's Derived/Test/ToyasCard.lean, 'card_holds'). Laid BY PROGRAM, IN A SANDBOX (cutbox-door.mjs). By AI agents, Wed Nov 11 2026. No macro, syntax, notation, axiom, sorry.
-/
import Derived.Test.YtpfbdlnibdfcoaaGreatDoorRows
import GoSem.ClaimSeven
namespace Go.Proofs.YtpfbdlnibdfcoaaGreatDoor
namespace Rows

/-- THE TIED CARD OF 'twigslaw.Proofs'. -/
def proofsCard : Claim7 := { stood := { row := proofsRow, standIns := [], harness := (true, "c962d83368614c13d51c782a1ea7d6fc6d538d3e0bac3785f9912ce6ce4ca050"), looks := true }, kinds := [], alts := [], laidByText := true, laidKinds := [.data, .data, .data, .handle, .sentinel, .sentinel, .sentinel, .sentinel, .sentinel, .sentinel, .sentinel, .sentinel, .sentinel, .sentinel, .sentinel, .sentinel, .sentinel], laidTests := true, laidLooks := .later }
def ProofsCardSaid : Prop := Claim7.holds Tryz.pinned (.plain (OpenSpec.ofChange proofsSpec)) proofsCard

/-- THE SECOND FORM's CARD OF 'twigslaw.Proofs'. -/
def proofsUptoCard : Claim7 := { stood := { row := proofsUptoRow, standIns := [], harness := (true, "c962d83368614c13d51c782a1ea7d6fc6d538d3e0bac3785f9912ce6ce4ca050"), looks := true }, kinds := [], alts := [], laidByText := true, laidKinds := [.data, .data, .data, .handle, .sentinel, .sentinel, .sentinel, .sentinel, .sentinel, .sentinel, .sentinel, .sentinel, .sentinel, .sentinel, .sentinel, .sentinel, .sentinel], laidTests := true, laidLooks := .later }
def ProofsUptoCardSaid : Prop := Claim7.holds Tryz.pinned (.plain (OpenSpec.upto proofsSpec)) proofsUptoCard
end Rows
end Go.Proofs.YtpfbdlnibdfcoaaGreatDoor
