/-
  DERIVED. GIVEN WITH THE SEED: THE CARDS: each row of YtcglpladmeelaaaGreatDoorRows.lean that lists a variable, with what it lists TIED to the program's text (the seventh form; the later family's looks); each row that meets fmt, with fmt's text TOLD by the authors' own Lean function (tested against real Go, not proved from fmt's source: count such statements apart). THE CARD IS WHAT COUNTS. Prove the row's statement (the work); the ties are given (YtcglpladmeelaaaGreatDoorTie.lean); close each card by the builder's one call (the guide's Derived/Test/ToyasCard.lean, 'card_holds'). Laid BY PROGRAM, IN A SANDBOX (cutbox-door.mjs). By AI agents, Wed Nov 11 2026. No macro, syntax, notation, axiom, sorry.
-/
import Derived.Test.YtcglpladmeelaaaGreatDoorRows
import GoSem.ClaimSeven
namespace Go.Proofs.YtcglpladmeelaaaGreatDoor
namespace Rows

/-- THE TIED CARD OF 'twigskeep.Carried'. -/
def carriedCard : Claim7 := { stood := { row := carriedRow, standIns := [], harness := (true, "31b1028eae9a552929c10ffaf796cc941a6858dc644bb3e5b3866b2c23e9d270"), looks := true }, kinds := [], alts := [], laidByText := true, laidKinds := [.data, .data, .data, .handle, .sentinel, .sentinel, .sentinel, .sentinel, .sentinel, .sentinel, .sentinel, .sentinel, .sentinel, .sentinel, .sentinel, .sentinel, .sentinel], laidTests := true, laidLooks := .later }
def CarriedCardSaid : Prop := Claim7.holds Tryz.pinned (.plain (OpenSpec.ofChange carriedSpec)) carriedCard

/-- THE SECOND FORM's CARD OF 'twigskeep.Carried'. -/
def carriedUptoCard : Claim7 := { stood := { row := carriedUptoRow, standIns := [], harness := (true, "31b1028eae9a552929c10ffaf796cc941a6858dc644bb3e5b3866b2c23e9d270"), looks := true }, kinds := [], alts := [], laidByText := true, laidKinds := [.data, .data, .data, .handle, .sentinel, .sentinel, .sentinel, .sentinel, .sentinel, .sentinel, .sentinel, .sentinel, .sentinel, .sentinel, .sentinel, .sentinel, .sentinel], laidTests := true, laidLooks := .later }
def CarriedUptoCardSaid : Prop := Claim7.holds Tryz.pinned (.plain (OpenSpec.upto carriedSpec)) carriedUptoCard
end Rows
end Go.Proofs.YtcglpladmeelaaaGreatDoor
