/-
  NARROWER THAN 'FOR EVERY INPUT', by the rows' own cells (each row's printed sentence says how): Proofs: loops, laid.
  DERIVED. THE GIVEN ROWS OF THIS SEAT. 1 by the template 'for every input the law returns true; each argument reads behind the call as it read before'; 0 by the template 'total and deterministic' (their statements: YtpfbdlnibdfcoaaGreatDoorTotals.lean).
  GIVEN WITH THE SEED: the statements are not yours to turn. If you find one false, say at which input.
  Laid BY PROGRAM, IN A SANDBOX (cutbox-rows.mjs): the forced cells as the released guide's own fill.sh prints them over the translation bf5ad89958df5d69… (all of the seat's roots in one cut). By AI agents, Wed Nov 11 2026. No macro, syntax, notation, axiom, sorry.
-/
import Derived.Test.YtpfbdlnibdfcoaaGreatDoorChecked
import GoSem.Claim
import GoSem.ClaimJoined
import GoSem.ClaimMapViews
import Derived.JoinedTies
import Derived.KernelRfl
namespace Go.Proofs.YtpfbdlnibdfcoaaGreatDoor
/- THE CELL 'sum', in the pinned program and in every row, IS THE sha256 OF THE DUMP (.gsa) THAT YtpfbdlnibdfcoaaGreatDoorProg.lean LOADS. Nothing in Lean hashes anything: it is a label: what it is worth is what the hold of that sum in a sandbox is worth. -/
noncomputable def Tryz.pinned : Pinned := { name := "ytpfbdlnibdfcoaagreatdoor", sum := "bf5ad89958df5d6935d4030c6178459eab6b5edd382455f268ce62bd699d36e8", checked := Tryz.checked }
namespace Rows
def none {H : Type} : Left H := { results := [], args := [] }

/- WHAT THE LISTED PACKAGE-LEVEL VARIABLES READ AS WHEN THE CALL BEGINS. Each datum BY PROGRAM (the guide's laid-datum.mjs) off the statement by which the dump's own 'gosem.cut.vars' lays the variable. In a bare row this is a premise. The card (YtpfbdlnibdfcoaaGreatDoorCards.lean) ties it to the program's text. -/
def laid_math_bits_deBruijn32tab {H : Type} : DataW H := .agg [.lit (.int .u8 0), .lit (.int .u8 1), .lit (.int .u8 28), .lit (.int .u8 2), .lit (.int .u8 29), .lit (.int .u8 14), .lit (.int .u8 24), .lit (.int .u8 3), .lit (.int .u8 30), .lit (.int .u8 22), .lit (.int .u8 20), .lit (.int .u8 15), .lit (.int .u8 25), .lit (.int .u8 17), .lit (.int .u8 4), .lit (.int .u8 8), .lit (.int .u8 31), .lit (.int .u8 27), .lit (.int .u8 13), .lit (.int .u8 23), .lit (.int .u8 21), .lit (.int .u8 19), .lit (.int .u8 16), .lit (.int .u8 7), .lit (.int .u8 26), .lit (.int .u8 12), .lit (.int .u8 18), .lit (.int .u8 6), .lit (.int .u8 11), .lit (.int .u8 5), .lit (.int .u8 10), .lit (.int .u8 9)]
def laid_twigs_digest_turns {H : Type} : DataW H := .agg [.agg [.lit (.int .i64 0), .lit (.int .i64 36), .lit (.int .i64 3), .lit (.int .i64 41), .lit (.int .i64 18)], .agg [.lit (.int .i64 1), .lit (.int .i64 44), .lit (.int .i64 10), .lit (.int .i64 45), .lit (.int .i64 2)], .agg [.lit (.int .i64 62), .lit (.int .i64 6), .lit (.int .i64 43), .lit (.int .i64 15), .lit (.int .i64 61)], .agg [.lit (.int .i64 28), .lit (.int .i64 55), .lit (.int .i64 25), .lit (.int .i64 21), .lit (.int .i64 56)], .agg [.lit (.int .i64 27), .lit (.int .i64 20), .lit (.int .i64 39), .lit (.int .i64 8), .lit (.int .i64 14)]]
def laid_twigs_digest_roundKeys {H : Type} : DataW H := .agg [.lit (.int .u64 1), .lit (.int .u64 32898), .lit (.int .u64 9223372036854808714), .lit (.int .u64 9223372039002292224), .lit (.int .u64 32907), .lit (.int .u64 2147483649), .lit (.int .u64 9223372039002292353), .lit (.int .u64 9223372036854808585), .lit (.int .u64 138), .lit (.int .u64 136), .lit (.int .u64 2147516425), .lit (.int .u64 2147483658), .lit (.int .u64 2147516555), .lit (.int .u64 9223372036854775947), .lit (.int .u64 9223372036854808713), .lit (.int .u64 9223372036854808579), .lit (.int .u64 9223372036854808578), .lit (.int .u64 9223372036854775936), .lit (.int .u64 32778), .lit (.int .u64 9223372039002259466), .lit (.int .u64 9223372039002292353), .lit (.int .u64 9223372036854808704), .lit (.int .u64 2147483649), .lit (.int .u64 9223372039002292232)]
def laid_errors_errorType {H : Type} : DataW H := .iface "internal/reflectlite.rtype" (.agg [.ptr (.lit (.string [101, 114, 114, 111, 114]))])
def laid_twigs_fault_Long {H : Type} : DataW H := .iface "*errors.errorString" (.ptr (.agg [.lit (.string [109, 111, 114, 101, 32, 98, 121, 116, 101, 115, 32, 116, 104, 97, 110, 32, 116, 104, 101, 114, 101, 32, 109, 97, 121, 32, 98, 101])]))
def laid_twigs_fault_Short {H : Type} : DataW H := .iface "*errors.errorString" (.ptr (.agg [.lit (.string [105, 116, 32, 101, 110, 100, 115, 32, 116, 111, 111, 32, 101, 97, 114, 108, 121])]))
def laid_twigs_fault_Form {H : Type} : DataW H := .iface "*errors.errorString" (.ptr (.agg [.lit (.string [105, 116, 32, 119, 111, 117, 108, 100, 32, 98, 101, 32, 119, 114, 105, 116, 116, 101, 110, 32, 111, 116, 104, 101, 114, 119, 105, 115, 101])]))
def laid_twigs_fault_Rest {H : Type} : DataW H := .iface "*errors.errorString" (.ptr (.agg [.lit (.string [115, 111, 109, 101, 116, 104, 105, 110, 103, 32, 105, 115, 32, 108, 101, 102, 116, 32, 98, 101, 104, 105, 110, 100, 32, 116, 104, 101, 32, 101, 110, 100])]))
def laid_twigs_fault_Deep {H : Type} : DataW H := .iface "*errors.errorString" (.ptr (.agg [.lit (.string [108, 105, 115, 116, 115, 32, 97, 114, 101, 32, 116, 111, 111, 32, 100, 101, 101, 112, 32, 105, 110, 32, 111, 110, 101, 32, 97, 110, 111, 116, 104, 101, 114])]))
def laid_twigs_fault_Nibble {H : Type} : DataW H := .iface "*errors.errorString" (.ptr (.agg [.lit (.string [97, 32, 98, 121, 116, 101, 32, 111, 102, 32, 116, 104, 101, 32, 112, 97, 116, 104, 32, 105, 115, 32, 97, 98, 111, 118, 101, 32, 49, 53])]))
def laid_twigs_fault_Digest {H : Type} : DataW H := .iface "*errors.errorString" (.ptr (.agg [.lit (.string [97, 110, 111, 116, 104, 101, 114, 32, 100, 105, 103, 101, 115, 116, 32, 105, 115, 32, 119, 97, 110, 116, 101, 100])]))
def laid_twigs_fault_Node {H : Type} : DataW H := .iface "*errors.errorString" (.ptr (.agg [.lit (.string [116, 104, 105, 115, 32, 104, 97, 115, 32, 110, 111, 116, 32, 116, 104, 101, 32, 102, 111, 114, 109, 32, 111, 102, 32, 97, 32, 110, 111, 100, 101])]))
def laid_twigs_fault_Op {H : Type} : DataW H := .iface "*errors.errorString" (.ptr (.agg [.lit (.string [116, 104, 105, 115, 32, 105, 115, 32, 110, 111, 32, 111, 112, 101, 114, 97, 116, 105, 111, 110])]))
def laid_twigs_fault_Stack {H : Type} : DataW H := .iface "*errors.errorString" (.ptr (.agg [.lit (.string [116, 104, 101, 114, 101, 32, 97, 114, 101, 32, 116, 111, 111, 32, 102, 101, 119, 32, 110, 111, 100, 101, 115, 44, 32, 111, 114, 32, 116, 111, 111, 32, 109, 97, 110, 121])]))
def laid_twigs_fault_Value {H : Type} : DataW H := .iface "*errors.errorString" (.ptr (.agg [.lit (.string [97, 32, 118, 97, 108, 117, 101, 32, 104, 97, 115, 32, 110, 111, 32, 98, 121, 116, 101, 32, 111, 114, 32, 116, 111, 111, 32, 109, 97, 110, 121])]))
def laid_twigs_fault_Stub {H : Type} : DataW H := .iface "*errors.errorString" (.ptr (.agg [.lit (.string [97, 32, 110, 111, 100, 101, 32, 105, 115, 32, 110, 101, 101, 100, 101, 100, 32, 111, 102, 32, 119, 104, 105, 99, 104, 32, 116, 104, 101, 32, 100, 105, 103, 101, 115, 116, 32, 97, 108, 111, 110, 101, 32, 105, 115, 32, 107, 110, 111, 119, 110])]))
def laid_twigs_fault_Account {H : Type} : DataW H := .iface "*errors.errorString" (.ptr (.agg [.lit (.string [116, 104, 105, 115, 32, 105, 115, 32, 110, 111, 32, 97, 99, 99, 111, 117, 110, 116])]))

/-- 'twigslaw.Proofs': WHATEVER THE INPUT: true; the input reads as it did. -/
def proofsSpec : ChangeSpec := { name := "proofs", fn := fun _ => fun
  | [d] => { results := [.lit (.bool true)], args := [d] }
  | _ => none }
def proofsRow : OpenClaim := { program := "ytpfbdlnibdfcoaagreatdoor", sum := "bf5ad89958df5d6935d4030c6178459eab6b5edd382455f268ce62bd699d36e8", func := "twigs/twigslaw.Proofs", spec := "proofs", inPlace := ["internal/reflectlite.TypeOf", "internal/reflectlite.ValueOf", "(internal/reflectlite.Value).Type", "(internal/reflectlite.Value).IsNil", "(internal/reflectlite.Value).Elem", "(internal/reflectlite.Value).Set"], unfollowed := true, recurses := true, named := ["twigs/digest.roundKeys", "twigs/digest.turns", "twigs/fault.Deep", "twigs/fault.Long", "twigs/fault.Short", "twigs/fault.Rest", "twigs/fault.Nibble", "twigs/fault.Digest", "twigs/fault.Node", "twigs/fault.Op", "twigs/fault.Stack", "twigs/fault.Value", "twigs/fault.Stub", "twigs/fault.Account", "twigs/fault.Form", "errors.errorType", "math/bits.deBruijn32tab"], loops := true, plainKeys := false, apart := false, laid := [("math/bits.deBruijn32tab", laid_math_bits_deBruijn32tab), ("twigs/digest.turns", laid_twigs_digest_turns), ("twigs/digest.roundKeys", laid_twigs_digest_roundKeys), ("errors.errorType", laid_errors_errorType), ("twigs/fault.Long", laid_twigs_fault_Long), ("twigs/fault.Short", laid_twigs_fault_Short), ("twigs/fault.Form", laid_twigs_fault_Form), ("twigs/fault.Rest", laid_twigs_fault_Rest), ("twigs/fault.Deep", laid_twigs_fault_Deep), ("twigs/fault.Nibble", laid_twigs_fault_Nibble), ("twigs/fault.Digest", laid_twigs_fault_Digest), ("twigs/fault.Node", laid_twigs_fault_Node), ("twigs/fault.Op", laid_twigs_fault_Op), ("twigs/fault.Stack", laid_twigs_fault_Stack), ("twigs/fault.Value", laid_twigs_fault_Value), ("twigs/fault.Stub", laid_twigs_fault_Stub), ("twigs/fault.Account", laid_twigs_fault_Account)] }
def ProofsSaid : Prop := proofsRow.holds Tryz.pinned (OpenSpec.ofChange proofsSpec)

/-- ITS FALSE NEIGHBOUR: 'it returns false'. Refute it at one input. -/
def proofsWrong : ChangeSpec := { name := "proofs", fn := fun _ => fun
  | [d] => { results := [.lit (.bool false)], args := [d] }
  | _ => none }
def ProofsWrongFalsely : Prop := proofsRow.holds Tryz.pinned (OpenSpec.ofChange proofsWrong)

/- THE SECOND FORM. 'bulk': how many values and letters a reading holds, each counted each time it is reached (what is shared counts as often as it is met; a slice's spare places count too). A statement '..UptoSaid' is the law's where the arguments, and the package variables that the reading takes, are together of bulk at most 1048576: NARROWER than '..Said'. Prove '..Said' where nothing that the law and all that it calls make is longer than what came in: it says more and counts as full. Else prove '..UptoSaid'. A law counts once. -/
mutual
def uptoBulk {H : Type} : DataW H → Nat
  | .lit (.string bytes) => bytes.length + 1
  | .lit _ => 1
  | .nil => 1
  | .ptr d => uptoBulk d + 1
  | .slice elems spare => uptoBulkAll elems + uptoBulkAll spare + 1
  | .agg parts => uptoBulkAll parts + 1
  | .iface _ d => uptoBulk d + 1
  | .map entries => uptoBulkEntries entries + 1
  | .held _ => 1
def uptoBulkAll {H : Type} : List (DataW H) → Nat
  | [] => 0
  | d :: r => uptoBulk d + uptoBulkAll r
def uptoBulkEntries {H : Type} : List (Lit × DataW H) → Nat
  | [] => 0
  | x :: r => uptoBulkEntry x + uptoBulkEntries r
def uptoBulkEntry {H : Type} : Lit × DataW H → Nat
  | (.string bytes, d) => bytes.length + uptoBulk d + 1
  | (_, d) => uptoBulk d + 1
 end
def uptoSmall : (H : Type) → List (DataW H) → Bool := fun _ ds => decide (uptoBulkAll ds ≤ 1048576)
def OpenSpec.upto (s : _root_.Go.ChangeSpec) : _root_.Go.OpenSpec := { _root_.Go.OpenSpec.ofChange s with cond := some uptoSmall }

/-- 'twigslaw.Proofs', WHERE WHAT IT READS IS OF BULK AT MOST 1048576: true; the input reads as it did. -/
def proofsUptoRow : OpenClaim := { program := "ytpfbdlnibdfcoaagreatdoor", sum := "bf5ad89958df5d6935d4030c6178459eab6b5edd382455f268ce62bd699d36e8", func := "twigs/twigslaw.Proofs", spec := "proofs", inPlace := ["internal/reflectlite.TypeOf", "internal/reflectlite.ValueOf", "(internal/reflectlite.Value).Type", "(internal/reflectlite.Value).IsNil", "(internal/reflectlite.Value).Elem", "(internal/reflectlite.Value).Set"], unfollowed := true, recurses := true, named := ["twigs/digest.roundKeys", "twigs/digest.turns", "twigs/fault.Deep", "twigs/fault.Long", "twigs/fault.Short", "twigs/fault.Rest", "twigs/fault.Nibble", "twigs/fault.Digest", "twigs/fault.Node", "twigs/fault.Op", "twigs/fault.Stack", "twigs/fault.Value", "twigs/fault.Stub", "twigs/fault.Account", "twigs/fault.Form", "errors.errorType", "math/bits.deBruijn32tab"], loops := true, plainKeys := false, apart := false, laid := [("math/bits.deBruijn32tab", laid_math_bits_deBruijn32tab), ("twigs/digest.turns", laid_twigs_digest_turns), ("twigs/digest.roundKeys", laid_twigs_digest_roundKeys), ("errors.errorType", laid_errors_errorType), ("twigs/fault.Long", laid_twigs_fault_Long), ("twigs/fault.Short", laid_twigs_fault_Short), ("twigs/fault.Form", laid_twigs_fault_Form), ("twigs/fault.Rest", laid_twigs_fault_Rest), ("twigs/fault.Deep", laid_twigs_fault_Deep), ("twigs/fault.Nibble", laid_twigs_fault_Nibble), ("twigs/fault.Digest", laid_twigs_fault_Digest), ("twigs/fault.Node", laid_twigs_fault_Node), ("twigs/fault.Op", laid_twigs_fault_Op), ("twigs/fault.Stack", laid_twigs_fault_Stack), ("twigs/fault.Value", laid_twigs_fault_Value), ("twigs/fault.Stub", laid_twigs_fault_Stub), ("twigs/fault.Account", laid_twigs_fault_Account)], narrowed := true }
def ProofsUptoSaid : Prop := proofsUptoRow.holds Tryz.pinned (OpenSpec.upto proofsSpec)

end Rows
end Go.Proofs.YtpfbdlnibdfcoaaGreatDoor
