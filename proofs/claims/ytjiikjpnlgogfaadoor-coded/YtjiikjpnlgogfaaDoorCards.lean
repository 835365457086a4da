/-
  DERIVED. GIVEN WITH THE SEED: THE CARDS: each row of YtjiikjpnlgogfaaDoorRows.lean that lists a variable, with what it lists TIED to the program's text (the seventh form; the later family's looks); each row that meets fmt, with fmt's text TOLD by the authors' own Lean function (tested against real Go, not proved from fmt's source: count such statements apart). THE CARD IS WHAT COUNTS. Prove the row's statement (the work); the ties are given (YtjiikjpnlgogfaaDoorTie.lean); close each card by the builder's one call (the guide's Derived/Test/ToyasCard.lean, 'card_holds'). Laid BY PROGRAM, IN A SANDBOX (cutbox-door.mjs). By AI agents, Wed Nov 11 2026. No macro, syntax, notation, axiom, sorry.
-/
import Derived.Test.YtjiikjpnlgogfaaDoorRows
import GoSem.ClaimSeven
namespace Go.Proofs.YtjiikjpnlgogfaaDoor
namespace Rows

/-- THE TIED CARD OF 'twigskeep.Pieces'. -/
def piecesCard : Claim7 := { stood := { row := piecesRow, standIns := [], harness := (true, "904714d7372e3cb1bfd8fd7d325c4a779e4e63a9ef56ca0e07ba02fb20707a3e"), looks := true }, kinds := [], alts := [], laidByText := true, laidKinds := [.data, .data], laidTests := true, laidLooks := .later }
def PiecesCardSaid : Prop := Claim7.holds Tryd.pinned (.plain (OpenSpec.ofChange piecesSpec)) piecesCard

/-- THE TIED CARD OF 'twigskeep.Coded'. -/
def codedCard : Claim7 := { stood := { row := codedRow, standIns := [], harness := (true, "904714d7372e3cb1bfd8fd7d325c4a779e4e63a9ef56ca0e07ba02fb20707a3e"), looks := true }, kinds := [], alts := [], laidByText := true, laidKinds := [.data, .data, .handle, .sentinel, .sentinel, .sentinel, .sentinel, .sentinel, .sentinel, .sentinel, .sentinel, .sentinel, .sentinel, .sentinel, .sentinel, .sentinel], laidTests := true, laidLooks := .later }
def CodedCardSaid : Prop := Claim7.holds Tryd.pinned (.plain (OpenSpec.ofChange codedSpec)) codedCard

/-- THE TIED CARD OF 'twigskeep.Canonical'. -/
def canonicalCard : Claim7 := { stood := { row := canonicalRow, standIns := [], harness := (true, "904714d7372e3cb1bfd8fd7d325c4a779e4e63a9ef56ca0e07ba02fb20707a3e"), looks := true }, kinds := [], alts := [], laidByText := true, laidKinds := [.handle, .sentinel, .sentinel, .sentinel, .sentinel, .sentinel, .sentinel, .sentinel, .sentinel, .sentinel, .sentinel, .sentinel, .sentinel, .sentinel], laidTests := true, laidLooks := .later }
def CanonicalCardSaid : Prop := Claim7.holds Tryd.pinned (.plain (OpenSpec.ofChange canonicalSpec)) canonicalCard

/-- THE SECOND FORM's CARD OF 'twigskeep.Pieces'. -/
def piecesUptoCard : Claim7 := { stood := { row := piecesUptoRow, standIns := [], harness := (true, "904714d7372e3cb1bfd8fd7d325c4a779e4e63a9ef56ca0e07ba02fb20707a3e"), looks := true }, kinds := [], alts := [], laidByText := true, laidKinds := [.data, .data], laidTests := true, laidLooks := .later }
def PiecesUptoCardSaid : Prop := Claim7.holds Tryd.pinned (.plain (OpenSpec.upto piecesSpec)) piecesUptoCard

/-- THE SECOND FORM's CARD OF 'twigskeep.Coded'. -/
def codedUptoCard : Claim7 := { stood := { row := codedUptoRow, standIns := [], harness := (true, "904714d7372e3cb1bfd8fd7d325c4a779e4e63a9ef56ca0e07ba02fb20707a3e"), looks := true }, kinds := [], alts := [], laidByText := true, laidKinds := [.data, .data, .handle, .sentinel, .sentinel, .sentinel, .sentinel, .sentinel, .sentinel, .sentinel, .sentinel, .sentinel, .sentinel, .sentinel, .sentinel, .sentinel], laidTests := true, laidLooks := .later }
def CodedUptoCardSaid : Prop := Claim7.holds Tryd.pinned (.plain (OpenSpec.upto codedSpec)) codedUptoCard

/-- THE SECOND FORM's CARD OF 'twigskeep.Canonical'. -/
def canonicalUptoCard : Claim7 := { stood := { row := canonicalUptoRow, standIns := [], harness := (true, "904714d7372e3cb1bfd8fd7d325c4a779e4e63a9ef56ca0e07ba02fb20707a3e"), looks := true }, kinds := [], alts := [], laidByText := true, laidKinds := [.handle, .sentinel, .sentinel, .sentinel, .sentinel, .sentinel, .sentinel, .sentinel, .sentinel, .sentinel, .sentinel, .sentinel, .sentinel, .sentinel], laidTests := true, laidLooks := .later }
def CanonicalUptoCardSaid : Prop := Claim7.holds Tryd.pinned (.plain (OpenSpec.upto canonicalSpec)) canonicalUptoCard
end Rows
end Go.Proofs.YtjiikjpnlgogfaaDoor
