/-
  DERIVED. GIVEN WITH THE SEED: THE PROGRAM's TIES (one call each: nine closed facts by the kernel) AND EACH ROW's TIE, after the 31st guide's Derived/Test/Toyas{Tie, Card}.lean. No idea stands in it: it is a product of the set-up. Laid BY PROGRAM, IN A SANDBOX (cutbox-door.mjs). By AI agents, Wed Nov 11 2026. No macro, syntax, notation, axiom, sorry.
-/
import Derived.Test.YtjefjibmaokcnaaGreatDoorRows
import Derived.LaidByTextLater
import Derived.SevenTiedAt
import Derived.LaidSub
import Derived.LaidOnce
namespace Go.Proofs.YtjefjibmaokcnaaGreatDoor
open Go
set_option maxRecDepth 100000
theorem seatTie1 : Tryz.prog.laidByTextLater [("twigs/digest.turns", Rows.laid_twigs_digest_turns), ("twigs/digest.roundKeys", Rows.laid_twigs_digest_roundKeys), ("errors.errorType", Rows.laid_errors_errorType), ("twigs/fault.Long", Rows.laid_twigs_fault_Long), ("twigs/fault.Short", Rows.laid_twigs_fault_Short), ("twigs/fault.Form", Rows.laid_twigs_fault_Form), ("twigs/fault.Rest", Rows.laid_twigs_fault_Rest), ("twigs/fault.Deep", Rows.laid_twigs_fault_Deep), ("twigs/fault.Nibble", Rows.laid_twigs_fault_Nibble), ("twigs/fault.Digest", Rows.laid_twigs_fault_Digest), ("twigs/fault.Node", Rows.laid_twigs_fault_Node), ("twigs/fault.Value", Rows.laid_twigs_fault_Value), ("twigs/fault.Stub", Rows.laid_twigs_fault_Stub), ("twigs/fault.Account", Rows.laid_twigs_fault_Account)] [.data, .data, .handle, .sentinel, .sentinel, .sentinel, .sentinel, .sentinel, .sentinel, .sentinel, .sentinel, .sentinel, .sentinel, .sentinel] true :=
  Program.laidByTextLater_by_one 240 8 26 (by kernel_rfl) (by kernel_rfl) (by kernel_rfl) (by kernel_rfl) (by kernel_rfl) (by kernel_rfl) (fun _ _ => by kernel_rfl)
theorem noOwnUnsafe : Tryz.pinned.checked.prog.headLifts.contains "ownunsafe" = false := by kernel_rfl
theorem tie : Tryz.prog.laidByTextLater [("twigs/digest.turns", Rows.laid_twigs_digest_turns), ("twigs/digest.roundKeys", Rows.laid_twigs_digest_roundKeys), ("errors.errorType", Rows.laid_errors_errorType), ("twigs/fault.Long", Rows.laid_twigs_fault_Long), ("twigs/fault.Short", Rows.laid_twigs_fault_Short), ("twigs/fault.Form", Rows.laid_twigs_fault_Form), ("twigs/fault.Rest", Rows.laid_twigs_fault_Rest), ("twigs/fault.Deep", Rows.laid_twigs_fault_Deep), ("twigs/fault.Nibble", Rows.laid_twigs_fault_Nibble), ("twigs/fault.Digest", Rows.laid_twigs_fault_Digest), ("twigs/fault.Node", Rows.laid_twigs_fault_Node), ("twigs/fault.Value", Rows.laid_twigs_fault_Value), ("twigs/fault.Stub", Rows.laid_twigs_fault_Stub), ("twigs/fault.Account", Rows.laid_twigs_fault_Account)] [.data, .data, .handle, .sentinel, .sentinel, .sentinel, .sentinel, .sentinel, .sentinel, .sentinel, .sentinel, .sentinel, .sentinel, .sentinel] true :=
  Program.laidByTextLater.sub seatTie1 ["twigs/digest.turns", "twigs/digest.roundKeys", "errors.errorType", "twigs/fault.Long", "twigs/fault.Short", "twigs/fault.Form", "twigs/fault.Rest", "twigs/fault.Deep", "twigs/fault.Nibble", "twigs/fault.Digest", "twigs/fault.Node", "twigs/fault.Value", "twigs/fault.Stub", "twigs/fault.Account"] (by kernel_rfl) (by kernel_rfl)
theorem digests_row_tie : Rows.digestsRow.laidByTextAt .later Tryz.pinned [.data, .data, .handle, .sentinel, .sentinel, .sentinel, .sentinel, .sentinel, .sentinel, .sentinel, .sentinel, .sentinel, .sentinel, .sentinel] true :=
  OpenClaim.laidByTextAt_later rfl rfl tie noOwnUnsafe
theorem codes_row_tie : Rows.codesRow.laidByTextAt .later Tryz.pinned [.data, .data, .handle, .sentinel, .sentinel, .sentinel, .sentinel, .sentinel, .sentinel, .sentinel, .sentinel, .sentinel, .sentinel, .sentinel] true :=
  OpenClaim.laidByTextAt_later rfl rfl tie noOwnUnsafe
theorem maps_row_tie : Rows.mapsRow.laidByTextAt .later Tryz.pinned [.data, .data, .handle, .sentinel, .sentinel, .sentinel, .sentinel, .sentinel, .sentinel, .sentinel, .sentinel, .sentinel, .sentinel, .sentinel] true :=
  OpenClaim.laidByTextAt_later rfl rfl tie noOwnUnsafe
theorem laid_row_tie : Rows.laidRow.laidByTextAt .later Tryz.pinned [.data, .data, .handle, .sentinel, .sentinel, .sentinel, .sentinel, .sentinel, .sentinel, .sentinel, .sentinel, .sentinel, .sentinel, .sentinel] true :=
  OpenClaim.laidByTextAt_later rfl rfl tie noOwnUnsafe
theorem proofs_row_tie : Rows.proofsRow.laidByTextAt .later Tryz.pinned [.data, .data, .handle, .sentinel, .sentinel, .sentinel, .sentinel, .sentinel, .sentinel, .sentinel, .sentinel, .sentinel, .sentinel, .sentinel] true :=
  OpenClaim.laidByTextAt_later rfl rfl tie noOwnUnsafe
theorem honest_row_tie : Rows.honestRow.laidByTextAt .later Tryz.pinned [.data, .data, .handle, .sentinel, .sentinel, .sentinel, .sentinel, .sentinel, .sentinel, .sentinel, .sentinel, .sentinel, .sentinel, .sentinel] true :=
  OpenClaim.laidByTextAt_later rfl rfl tie noOwnUnsafe
theorem sound_row_tie : Rows.soundRow.laidByTextAt .later Tryz.pinned [.data, .data, .handle, .sentinel, .sentinel, .sentinel, .sentinel, .sentinel, .sentinel, .sentinel, .sentinel, .sentinel, .sentinel, .sentinel] true :=
  OpenClaim.laidByTextAt_later rfl rfl tie noOwnUnsafe
theorem storage_row_tie : Rows.storageRow.laidByTextAt .later Tryz.pinned [.data, .data, .handle, .sentinel, .sentinel, .sentinel, .sentinel, .sentinel, .sentinel, .sentinel, .sentinel, .sentinel, .sentinel, .sentinel] true :=
  OpenClaim.laidByTextAt_later rfl rfl tie noOwnUnsafe
theorem tie2 : Tryz.prog.laidByTextLater [("twigs/digest.turns", Rows.laid_twigs_digest_turns), ("twigs/digest.roundKeys", Rows.laid_twigs_digest_roundKeys), ("twigs/fault.Long", Rows.laid_twigs_fault_Long), ("twigs/fault.Short", Rows.laid_twigs_fault_Short), ("twigs/fault.Rest", Rows.laid_twigs_fault_Rest), ("twigs/fault.Deep", Rows.laid_twigs_fault_Deep), ("twigs/fault.Nibble", Rows.laid_twigs_fault_Nibble), ("twigs/fault.Digest", Rows.laid_twigs_fault_Digest), ("twigs/fault.Node", Rows.laid_twigs_fault_Node), ("twigs/fault.Value", Rows.laid_twigs_fault_Value), ("twigs/fault.Stub", Rows.laid_twigs_fault_Stub), ("twigs/fault.Account", Rows.laid_twigs_fault_Account)] [.data, .data, .sentinel, .sentinel, .sentinel, .sentinel, .sentinel, .sentinel, .sentinel, .sentinel, .sentinel, .sentinel] true :=
  Program.laidByTextLater.sub seatTie1 ["twigs/digest.turns", "twigs/digest.roundKeys", "twigs/fault.Long", "twigs/fault.Short", "twigs/fault.Rest", "twigs/fault.Deep", "twigs/fault.Nibble", "twigs/fault.Digest", "twigs/fault.Node", "twigs/fault.Value", "twigs/fault.Stub", "twigs/fault.Account"] (by kernel_rfl) (by kernel_rfl)
theorem orders_row_tie : Rows.ordersRow.laidByTextAt .later Tryz.pinned [.data, .data, .sentinel, .sentinel, .sentinel, .sentinel, .sentinel, .sentinel, .sentinel, .sentinel, .sentinel, .sentinel] true :=
  OpenClaim.laidByTextAt_later rfl rfl tie2 noOwnUnsafe
theorem digestsUpto_row_tie : Rows.digestsUptoRow.laidByTextAt .later Tryz.pinned [.data, .data, .handle, .sentinel, .sentinel, .sentinel, .sentinel, .sentinel, .sentinel, .sentinel, .sentinel, .sentinel, .sentinel, .sentinel] true :=
  OpenClaim.laidByTextAt_later rfl rfl tie noOwnUnsafe
theorem codesUpto_row_tie : Rows.codesUptoRow.laidByTextAt .later Tryz.pinned [.data, .data, .handle, .sentinel, .sentinel, .sentinel, .sentinel, .sentinel, .sentinel, .sentinel, .sentinel, .sentinel, .sentinel, .sentinel] true :=
  OpenClaim.laidByTextAt_later rfl rfl tie noOwnUnsafe
theorem mapsUpto_row_tie : Rows.mapsUptoRow.laidByTextAt .later Tryz.pinned [.data, .data, .handle, .sentinel, .sentinel, .sentinel, .sentinel, .sentinel, .sentinel, .sentinel, .sentinel, .sentinel, .sentinel, .sentinel] true :=
  OpenClaim.laidByTextAt_later rfl rfl tie noOwnUnsafe
theorem laidUpto_row_tie : Rows.laidUptoRow.laidByTextAt .later Tryz.pinned [.data, .data, .handle, .sentinel, .sentinel, .sentinel, .sentinel, .sentinel, .sentinel, .sentinel, .sentinel, .sentinel, .sentinel, .sentinel] true :=
  OpenClaim.laidByTextAt_later rfl rfl tie noOwnUnsafe
theorem ordersUpto_row_tie : Rows.ordersUptoRow.laidByTextAt .later Tryz.pinned [.data, .data, .sentinel, .sentinel, .sentinel, .sentinel, .sentinel, .sentinel, .sentinel, .sentinel, .sentinel, .sentinel] true :=
  OpenClaim.laidByTextAt_later rfl rfl tie2 noOwnUnsafe
theorem proofsUpto_row_tie : Rows.proofsUptoRow.laidByTextAt .later Tryz.pinned [.data, .data, .handle, .sentinel, .sentinel, .sentinel, .sentinel, .sentinel, .sentinel, .sentinel, .sentinel, .sentinel, .sentinel, .sentinel] true :=
  OpenClaim.laidByTextAt_later rfl rfl tie noOwnUnsafe
theorem honestUpto_row_tie : Rows.honestUptoRow.laidByTextAt .later Tryz.pinned [.data, .data, .handle, .sentinel, .sentinel, .sentinel, .sentinel, .sentinel, .sentinel, .sentinel, .sentinel, .sentinel, .sentinel, .sentinel] true :=
  OpenClaim.laidByTextAt_later rfl rfl tie noOwnUnsafe
theorem soundUpto_row_tie : Rows.soundUptoRow.laidByTextAt .later Tryz.pinned [.data, .data, .handle, .sentinel, .sentinel, .sentinel, .sentinel, .sentinel, .sentinel, .sentinel, .sentinel, .sentinel, .sentinel, .sentinel] true :=
  OpenClaim.laidByTextAt_later rfl rfl tie noOwnUnsafe
theorem storageUpto_row_tie : Rows.storageUptoRow.laidByTextAt .later Tryz.pinned [.data, .data, .handle, .sentinel, .sentinel, .sentinel, .sentinel, .sentinel, .sentinel, .sentinel, .sentinel, .sentinel, .sentinel, .sentinel] true :=
  OpenClaim.laidByTextAt_later rfl rfl tie noOwnUnsafe
end Go.Proofs.YtjefjibmaokcnaaGreatDoor
