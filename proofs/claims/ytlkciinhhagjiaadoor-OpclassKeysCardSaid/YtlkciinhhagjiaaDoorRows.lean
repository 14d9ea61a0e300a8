/-
  NARROWER THAN 'FOR EVERY INPUT', by the rows' own cells (each row's printed sentence says how): RelChecks: laid · DiskCuts: laid · SlotsNothing: laid · OpclassKeys: laid.
  DERIVED. THE GIVEN ROWS OF THIS SEAT. 4 by the template 'for every input the law returns true; each argument reads behind the call as it read before'; 0 by the template 'total and deterministic' (their statements: YtlkciinhhagjiaaDoorTotals.lean).
  GIVEN WITH THE SEED: the statements are not yours to turn. If you find one false, say at which input.
  Laid BY PROGRAM, IN A SANDBOX (cutbox-rows.mjs): the forced cells as the released guide's own fill.sh prints them over the translation 56b0a36d609a34f3… (all of the seat's roots in one cut). By AI agents, Wed Nov 11 2026. No macro, syntax, notation, axiom, sorry.
-/
import Derived.Test.YtlkciinhhagjiaaDoorChecked
import GoSem.Claim
import GoSem.ClaimJoined
import GoSem.ClaimMapViews
import Derived.JoinedTies
import Derived.KernelRfl
namespace Go.Proofs.YtlkciinhhagjiaaDoor
/- THE CELL 'sum', in the pinned program and in every row, IS THE sha256 OF THE DUMP (.gsa) THAT YtlkciinhhagjiaaDoorProg.lean LOADS. Nothing in Lean hashes anything: it is a label: what it is worth is what the hold of that sum in a sandbox is worth. -/
noncomputable def Tryd.pinned : Pinned := { name := "ytlkciinhhagjiaadoor", sum := "56b0a36d609a34f3214df81f386c0fb216d416b06d60b8ddba0182b0f857cb6e", checked := Tryd.checked }
namespace Rows
def none {H : Type} : Left H := { results := [], args := [] }

/- WHAT THE LISTED PACKAGE-LEVEL VARIABLES READ AS WHEN THE CALL BEGINS. Each datum BY PROGRAM (the guide's laid-datum.mjs) off the statement by which the dump's own 'gosem.cut.vars' lays the variable. In a bare row this is a premise. The card (YtlkciinhhagjiaaDoorCards.lean) ties it to the program's text. -/
def laid_errors_errorType {H : Type} : DataW H := .iface "internal/reflectlite.rtype" (.agg [.ptr (.lit (.string [101, 114, 114, 111, 114]))])
def laid_pergola_frame_table {H : Type} : DataW H := .agg [.lit (.int .u32 0), .lit (.int .u32 498536548), .lit (.int .u32 997073096), .lit (.int .u32 651767980), .lit (.int .u32 1994146192), .lit (.int .u32 1802195444), .lit (.int .u32 1303535960), .lit (.int .u32 1342533948), .lit (.int .u32 3988292384), .lit (.int .u32 4027552580), .lit (.int .u32 3604390888), .lit (.int .u32 3412177804), .lit (.int .u32 2607071920), .lit (.int .u32 2262029012), .lit (.int .u32 2685067896), .lit (.int .u32 3183342108)]

/-- 'pergolalaw6.RelChecks': WHATEVER THE INPUT: true; the input reads as it did. -/
def relChecksSpec : ChangeSpec := { name := "relChecks", fn := fun _ => fun
  | [d1, d2] => { results := [.lit (.bool true)], args := [d1, d2] }
  | _ => none }
def relChecksRow : OpenClaim := { program := "ytlkciinhhagjiaadoor", sum := "56b0a36d609a34f3214df81f386c0fb216d416b06d60b8ddba0182b0f857cb6e", func := "pergola/pergolalaw6.RelChecks", spec := "relChecks", inPlace := ["internal/reflectlite.ValueOf", "(internal/reflectlite.Value).Type", "(internal/reflectlite.Value).IsNil", "internal/reflectlite.TypeOf", "(internal/reflectlite.Value).Elem", "(internal/reflectlite.Value).Set"], unfollowed := true, recurses := true, named := ["errors.errorType"], apart := false, laid := [("errors.errorType", laid_errors_errorType)] }
def RelChecksSaid : Prop := relChecksRow.holds Tryd.pinned (OpenSpec.ofChange relChecksSpec)

/-- ITS FALSE NEIGHBOUR: 'it returns false'. Refute it at one input. -/
def relChecksWrong : ChangeSpec := { name := "relChecks", fn := fun _ => fun
  | [d1, d2] => { results := [.lit (.bool false)], args := [d1, d2] }
  | _ => none }
def RelChecksWrongFalsely : Prop := relChecksRow.holds Tryd.pinned (OpenSpec.ofChange relChecksWrong)

/-- 'pergolalaw10.DiskCuts': WHATEVER THE INPUT: true; the input reads as it did. -/
def diskCutsSpec : ChangeSpec := { name := "diskCuts", fn := fun _ => fun
  | [d1, d2] => { results := [.lit (.bool true)], args := [d1, d2] }
  | _ => none }
def diskCutsRow : OpenClaim := { program := "ytlkciinhhagjiaadoor", sum := "56b0a36d609a34f3214df81f386c0fb216d416b06d60b8ddba0182b0f857cb6e", func := "pergola/pergolalaw10.DiskCuts", spec := "diskCuts", inPlace := ["internal/reflectlite.TypeOf", "internal/reflectlite.ValueOf", "(internal/reflectlite.Value).Type", "(internal/reflectlite.Value).IsNil", "(internal/reflectlite.Value).Elem", "(internal/reflectlite.Value).Set"], unfollowed := true, recurses := true, named := ["errors.errorType"], apart := false, laid := [("errors.errorType", laid_errors_errorType)] }
def DiskCutsSaid : Prop := diskCutsRow.holds Tryd.pinned (OpenSpec.ofChange diskCutsSpec)

/-- ITS FALSE NEIGHBOUR: 'it returns false'. Refute it at one input. -/
def diskCutsWrong : ChangeSpec := { name := "diskCuts", fn := fun _ => fun
  | [d1, d2] => { results := [.lit (.bool false)], args := [d1, d2] }
  | _ => none }
def DiskCutsWrongFalsely : Prop := diskCutsRow.holds Tryd.pinned (OpenSpec.ofChange diskCutsWrong)

/-- 'pergolalaw11.SlotsNothing': WHATEVER THE INPUT: true; the input reads as it did. -/
def slotsNothingSpec : ChangeSpec := { name := "slotsNothing", fn := fun _ => fun
  | [d] => { results := [.lit (.bool true)], args := [d] }
  | _ => none }
def slotsNothingRow : OpenClaim := { program := "ytlkciinhhagjiaadoor", sum := "56b0a36d609a34f3214df81f386c0fb216d416b06d60b8ddba0182b0f857cb6e", func := "pergola/pergolalaw11.SlotsNothing", spec := "slotsNothing", inPlace := ["internal/reflectlite.TypeOf"], unfollowed := true, recurses := true, named := ["pergola/frame.table"], apart := false, laid := [("pergola/frame.table", laid_pergola_frame_table)] }
def SlotsNothingSaid : Prop := slotsNothingRow.holds Tryd.pinned (OpenSpec.ofChange slotsNothingSpec)

/-- ITS FALSE NEIGHBOUR: 'it returns false'. Refute it at one input. -/
def slotsNothingWrong : ChangeSpec := { name := "slotsNothing", fn := fun _ => fun
  | [d] => { results := [.lit (.bool false)], args := [d] }
  | _ => none }
def SlotsNothingWrongFalsely : Prop := slotsNothingRow.holds Tryd.pinned (OpenSpec.ofChange slotsNothingWrong)

/-- 'pergolalaw16.OpclassKeys': WHATEVER THE INPUT: true; the input reads as it did. -/
def opclassKeysSpec : ChangeSpec := { name := "opclassKeys", fn := fun _ => fun
  | [d1, d2] => { results := [.lit (.bool true)], args := [d1, d2] }
  | _ => none }
def opclassKeysRow : OpenClaim := { program := "ytlkciinhhagjiaadoor", sum := "56b0a36d609a34f3214df81f386c0fb216d416b06d60b8ddba0182b0f857cb6e", func := "pergola/pergolalaw16.OpclassKeys", spec := "opclassKeys", inPlace := ["internal/reflectlite.TypeOf", "internal/reflectlite.ValueOf", "(internal/reflectlite.Value).Type", "(internal/reflectlite.Value).IsNil", "(internal/reflectlite.Value).Elem", "(internal/reflectlite.Value).Set"], unfollowed := true, recurses := true, named := ["errors.errorType"], apart := false, laid := [("errors.errorType", laid_errors_errorType)] }
def OpclassKeysSaid : Prop := opclassKeysRow.holds Tryd.pinned (OpenSpec.ofChange opclassKeysSpec)

/-- ITS FALSE NEIGHBOUR: 'it returns false'. Refute it at one input. -/
def opclassKeysWrong : ChangeSpec := { name := "opclassKeys", fn := fun _ => fun
  | [d1, d2] => { results := [.lit (.bool false)], args := [d1, d2] }
  | _ => none }
def OpclassKeysWrongFalsely : Prop := opclassKeysRow.holds Tryd.pinned (OpenSpec.ofChange opclassKeysWrong)

/- THE SECOND FORM. 'bulk': how many values and letters a reading holds, each counted each time it is reached (what is shared counts as often as it is met; a slice's spare places count too). A statement '..UptoSaid' is the law's where the arguments, and the package variables that the reading takes, are together of bulk at most 1048576: NARROWER than '..Said'. Prove '..Said' where nothing that the law and all that it calls make is longer than what came in: it says more and counts as full. Else prove '..UptoSaid'. A law counts once. -/
mutual
def uptoBulk {H : Type} : DataW H → Nat
  | .lit (.string bytes) => bytes.length + 1
  | .lit _ => 1
  | .nil => 1
  | .ptr d => uptoBulk d + 1
  | .slice elems spare => uptoBulkAll elems + uptoBulkAll spare + 1
  | .agg parts => uptoBulkAll parts + 1
  | .iface _ d => uptoBulk d + 1
  | .map entries => uptoBulkEntries entries + 1
  | .held _ => 1
def uptoBulkAll {H : Type} : List (DataW H) → Nat
  | [] => 0
  | d :: r => uptoBulk d + uptoBulkAll r
def uptoBulkEntries {H : Type} : List (Lit × DataW H) → Nat
  | [] => 0
  | x :: r => uptoBulkEntry x + uptoBulkEntries r
def uptoBulkEntry {H : Type} : Lit × DataW H → Nat
  | (.string bytes, d) => bytes.length + uptoBulk d + 1
  | (_, d) => uptoBulk d + 1
 end
def uptoSmall : (H : Type) → List (DataW H) → Bool := fun _ ds => decide (uptoBulkAll ds ≤ 1048576)
def OpenSpec.upto (s : _root_.Go.ChangeSpec) : _root_.Go.OpenSpec := { _root_.Go.OpenSpec.ofChange s with cond := some uptoSmall }

/-- 'pergolalaw6.RelChecks', WHERE WHAT IT READS IS OF BULK AT MOST 1048576: true; the input reads as it did. -/
def relChecksUptoRow : OpenClaim := { program := "ytlkciinhhagjiaadoor", sum := "56b0a36d609a34f3214df81f386c0fb216d416b06d60b8ddba0182b0f857cb6e", func := "pergola/pergolalaw6.RelChecks", spec := "relChecks", inPlace := ["internal/reflectlite.ValueOf", "(internal/reflectlite.Value).Type", "(internal/reflectlite.Value).IsNil", "internal/reflectlite.TypeOf", "(internal/reflectlite.Value).Elem", "(internal/reflectlite.Value).Set"], unfollowed := true, recurses := true, named := ["errors.errorType"], apart := false, laid := [("errors.errorType", laid_errors_errorType)], narrowed := true }
def RelChecksUptoSaid : Prop := relChecksUptoRow.holds Tryd.pinned (OpenSpec.upto relChecksSpec)

/-- 'pergolalaw10.DiskCuts', WHERE WHAT IT READS IS OF BULK AT MOST 1048576: true; the input reads as it did. -/
def diskCutsUptoRow : OpenClaim := { program := "ytlkciinhhagjiaadoor", sum := "56b0a36d609a34f3214df81f386c0fb216d416b06d60b8ddba0182b0f857cb6e", func := "pergola/pergolalaw10.DiskCuts", spec := "diskCuts", inPlace := ["internal/reflectlite.TypeOf", "internal/reflectlite.ValueOf", "(internal/reflectlite.Value).Type", "(internal/reflectlite.Value).IsNil", "(internal/reflectlite.Value).Elem", "(internal/reflectlite.Value).Set"], unfollowed := true, recurses := true, named := ["errors.errorType"], apart := false, laid := [("errors.errorType", laid_errors_errorType)], narrowed := true }
def DiskCutsUptoSaid : Prop := diskCutsUptoRow.holds Tryd.pinned (OpenSpec.upto diskCutsSpec)

/-- 'pergolalaw11.SlotsNothing', WHERE WHAT IT READS IS OF BULK AT MOST 1048576: true; the input reads as it did. -/
def slotsNothingUptoRow : OpenClaim := { program := "ytlkciinhhagjiaadoor", sum := "56b0a36d609a34f3214df81f386c0fb216d416b06d60b8ddba0182b0f857cb6e", func := "pergola/pergolalaw11.SlotsNothing", spec := "slotsNothing", inPlace := ["internal/reflectlite.TypeOf"], unfollowed := true, recurses := true, named := ["pergola/frame.table"], apart := false, laid := [("pergola/frame.table", laid_pergola_frame_table)], narrowed := true }
def SlotsNothingUptoSaid : Prop := slotsNothingUptoRow.holds Tryd.pinned (OpenSpec.upto slotsNothingSpec)

/-- 'pergolalaw16.OpclassKeys', WHERE WHAT IT READS IS OF BULK AT MOST 1048576: true; the input reads as it did. -/
def opclassKeysUptoRow : OpenClaim := { program := "ytlkciinhhagjiaadoor", sum := "56b0a36d609a34f3214df81f386c0fb216d416b06d60b8ddba0182b0f857cb6e", func := "pergola/pergolalaw16.OpclassKeys", spec := "opclassKeys", inPlace := ["internal/reflectlite.TypeOf", "internal/reflectlite.ValueOf", "(internal/reflectlite.Value).Type", "(internal/reflectlite.Value).IsNil", "(internal/reflectlite.Value).Elem", "(internal/reflectlite.Value).Set"], unfollowed := true, recurses := true, named := ["errors.errorType"], apart := false, laid := [("errors.errorType", laid_errors_errorType)], narrowed := true }
def OpclassKeysUptoSaid : Prop := opclassKeysUptoRow.holds Tryd.pinned (OpenSpec.upto opclassKeysSpec)

end Rows
end Go.Proofs.YtlkciinhhagjiaaDoor
