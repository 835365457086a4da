/-
  DERIVED. GIVEN WITH THE SEED: THE PROGRAM's TIES (one call each: nine closed facts by the kernel) AND EACH ROW's TIE, after the 31st guide's Derived/Test/Toyas{Tie, Card}.lean. No idea stands in it: it is a product of the set-up. Laid BY PROGRAM, IN A SANDBOX (cutbox-door.mjs). By AI agents, Wed Nov 11 2026. No macro, syntax, notation, axiom, sorry.
-/
import Derived.Test.YtoohdfiddbfacaaGreatDoorRows
import Derived.LaidByTextLater
import Derived.SevenTiedAt
import Derived.LaidSub
import Derived.LaidOnce
namespace Go.Proofs.YtoohdfiddbfacaaGreatDoor
open Go
set_option maxRecDepth 100000
theorem seatTie1 : Tryz.prog.laidByTextLater [("twigs/digest.turns", Rows.laid_twigs_digest_turns), ("twigs/digest.roundKeys", Rows.laid_twigs_digest_roundKeys), ("errors.errorType", Rows.laid_errors_errorType), ("twigs/fault.Long", Rows.laid_twigs_fault_Long), ("twigs/fault.Short", Rows.laid_twigs_fault_Short), ("twigs/fault.Form", Rows.laid_twigs_fault_Form), ("twigs/fault.Rest", Rows.laid_twigs_fault_Rest), ("twigs/fault.Deep", Rows.laid_twigs_fault_Deep), ("twigs/fault.Nibble", Rows.laid_twigs_fault_Nibble), ("twigs/fault.Digest", Rows.laid_twigs_fault_Digest), ("twigs/fault.Node", Rows.laid_twigs_fault_Node), ("twigs/fault.Op", Rows.laid_twigs_fault_Op), ("twigs/fault.Stack", Rows.laid_twigs_fault_Stack), ("twigs/fault.Value", Rows.laid_twigs_fault_Value), ("twigs/fault.Stub", Rows.laid_twigs_fault_Stub), ("twigs/fault.Account", Rows.laid_twigs_fault_Account)] [.data, .data, .handle, .sentinel, .sentinel, .sentinel, .sentinel, .sentinel, .sentinel, .sentinel, .sentinel, .sentinel, .sentinel, .sentinel, .sentinel, .sentinel] true :=
  Program.laidByTextLater_by_one 278 8 26 (by kernel_rfl) (by kernel_rfl) (by kernel_rfl) (by kernel_rfl) (by kernel_rfl) (by kernel_rfl) (fun _ _ => by kernel_rfl)
theorem noOwnUnsafe : Tryz.pinned.checked.prog.headLifts.contains "ownunsafe" = false := by kernel_rfl
theorem tie : Tryz.prog.laidByTextLater [("twigs/digest.turns", Rows.laid_twigs_digest_turns), ("twigs/digest.roundKeys", Rows.laid_twigs_digest_roundKeys), ("errors.errorType", Rows.laid_errors_errorType), ("twigs/fault.Long", Rows.laid_twigs_fault_Long), ("twigs/fault.Short", Rows.laid_twigs_fault_Short), ("twigs/fault.Form", Rows.laid_twigs_fault_Form), ("twigs/fault.Rest", Rows.laid_twigs_fault_Rest), ("twigs/fault.Deep", Rows.laid_twigs_fault_Deep), ("twigs/fault.Nibble", Rows.laid_twigs_fault_Nibble), ("twigs/fault.Digest", Rows.laid_twigs_fault_Digest), ("twigs/fault.Node", Rows.laid_twigs_fault_Node), ("twigs/fault.Op", Rows.laid_twigs_fault_Op), ("twigs/fault.Stack", Rows.laid_twigs_fault_Stack), ("twigs/fault.Value", Rows.laid_twigs_fault_Value), ("twigs/fault.Stub", Rows.laid_twigs_fault_Stub), ("twigs/fault.Account", Rows.laid_twigs_fault_Account)] [.data, .data, .handle, .sentinel, .sentinel, .sentinel, .sentinel, .sentinel, .sentinel, .sentinel, .sentinel, .sentinel, .sentinel, .sentinel, .sentinel, .sentinel] true :=
  Program.laidByTextLater.sub seatTie1 ["twigs/digest.turns", "twigs/digest.roundKeys", "errors.errorType", "twigs/fault.Long", "twigs/fault.Short", "twigs/fault.Form", "twigs/fault.Rest", "twigs/fault.Deep", "twigs/fault.Nibble", "twigs/fault.Digest", "twigs/fault.Node", "twigs/fault.Op", "twigs/fault.Stack", "twigs/fault.Value", "twigs/fault.Stub", "twigs/fault.Account"] (by kernel_rfl) (by kernel_rfl)
theorem tied_row_tie : Rows.tiedRow.laidByTextAt .later Tryz.pinned [.data, .data, .handle, .sentinel, .sentinel, .sentinel, .sentinel, .sentinel, .sentinel, .sentinel, .sentinel, .sentinel, .sentinel, .sentinel, .sentinel, .sentinel] true :=
  OpenClaim.laidByTextAt_later rfl rfl tie noOwnUnsafe
theorem tiedUpto_row_tie : Rows.tiedUptoRow.laidByTextAt .later Tryz.pinned [.data, .data, .handle, .sentinel, .sentinel, .sentinel, .sentinel, .sentinel, .sentinel, .sentinel, .sentinel, .sentinel, .sentinel, .sentinel, .sentinel, .sentinel] true :=
  OpenClaim.laidByTextAt_later rfl rfl tie noOwnUnsafe
end Go.Proofs.YtoohdfiddbfacaaGreatDoor
