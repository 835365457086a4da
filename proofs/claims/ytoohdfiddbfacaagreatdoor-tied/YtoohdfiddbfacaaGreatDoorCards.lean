/-
  DERIVED. GIVEN WITH THE SEED: THE CARDS: each row of YtoohdfiddbfacaaGreatDoorRows.lean that lists a variable, with what it lists TIED to the program's text (the seventh form; the later family's looks); each row that meets fmt, with fmt's text TOLD by the authors' own Lean function (tested against real Go, not proved from fmt's source: count such statements apart). THE CARD IS WHAT COUNTS. Prove the row's statement (the work); the ties are given (YtoohdfiddbfacaaGreatDoorTie.lean); close each card by the builder's one call (the guide's Derived/Test/ToyasCard.lean, 'card_holds'). Laid BY PROGRAM, IN A SANDBOX (cutbox-door.mjs). By AI agents, Wed Nov 11 2026. No macro, syntax, notation, axiom, sorry.
-/
import Derived.Test.YtoohdfiddbfacaaGreatDoorRows
import GoSem.ClaimSeven
namespace Go.Proofs.YtoohdfiddbfacaaGreatDoor
namespace Rows

/-- THE TIED CARD OF 'twigskeep.Tied'. -/
def tiedCard : Claim7 := { stood := { row := tiedRow, standIns := [], harness := (true, "c7b1f158bde80148368087690ec4f5470b62dd73892333326671b307ed72eb11"), looks := true }, kinds := [], alts := [], laidByText := true, laidKinds := [.data, .data, .handle, .sentinel, .sentinel, .sentinel, .sentinel, .sentinel, .sentinel, .sentinel, .sentinel, .sentinel, .sentinel, .sentinel, .sentinel, .sentinel], laidTests := true, laidLooks := .later }
def TiedCardSaid : Prop := Claim7.holds Tryz.pinned (.plain (OpenSpec.ofChange tiedSpec)) tiedCard

/-- THE SECOND FORM's CARD OF 'twigskeep.Tied'. -/
def tiedUptoCard : Claim7 := { stood := { row := tiedUptoRow, standIns := [], harness := (true, "c7b1f158bde80148368087690ec4f5470b62dd73892333326671b307ed72eb11"), looks := true }, kinds := [], alts := [], laidByText := true, laidKinds := [.data, .data, .handle, .sentinel, .sentinel, .sentinel, .sentinel, .sentinel, .sentinel, .sentinel, .sentinel, .sentinel, .sentinel, .sentinel, .sentinel, .sentinel], laidTests := true, laidLooks := .later }
def TiedUptoCardSaid : Prop := Claim7.holds Tryz.pinned (.plain (OpenSpec.upto tiedSpec)) tiedUptoCard
end Rows
end Go.Proofs.YtoohdfiddbfacaaGreatDoor
