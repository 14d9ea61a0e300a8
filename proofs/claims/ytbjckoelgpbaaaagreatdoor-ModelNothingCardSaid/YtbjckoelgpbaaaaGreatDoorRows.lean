/-
  NARROWER THAN 'FOR EVERY INPUT', by the rows' own cells (each row's printed sentence says how): PoolNothing: laid · ModelNothing: laid · StageLimits: laid.
  DERIVED. THE GIVEN ROWS OF THIS SEAT. 3 by the template 'for every input the law returns true; each argument reads behind the call as it read before'; 0 by the template 'total and deterministic' (their statements: YtbjckoelgpbaaaaGreatDoorTotals.lean).
  GIVEN WITH THE SEED: the statements are not yours to turn. If you find one false, say at which input.
  Laid BY PROGRAM, IN A SANDBOX (cutbox-rows.mjs): the forced cells as the released guide's own fill.sh prints them over the translation 76c78df7d987581b… (all of the seat's roots in one cut). By AI agents, Wed Nov 11 2026. No macro, syntax, notation, axiom, sorry.
-/
import Derived.Test.YtbjckoelgpbaaaaGreatDoorChecked
import GoSem.Claim
import GoSem.ClaimJoined
import GoSem.ClaimMapViews
import Derived.JoinedTies
import Derived.KernelRfl
namespace Go.Proofs.YtbjckoelgpbaaaaGreatDoor
/- THE CELL 'sum', in the pinned program and in every row, IS THE sha256 OF THE DUMP (.gsa) THAT YtbjckoelgpbaaaaGreatDoorProg.lean LOADS. Nothing in Lean hashes anything: it is a label: what it is worth is what the hold of that sum in a sandbox is worth. -/
noncomputable def Tryz.pinned : Pinned := { name := "ytbjckoelgpbaaaagreatdoor", sum := "76c78df7d987581bc90e32439e47cb42496fb106337561e1fb87953a9506ad96", checked := Tryz.checked }
namespace Rows
def none {H : Type} : Left H := { results := [], args := [] }

/- WHAT THE LISTED PACKAGE-LEVEL VARIABLES READ AS WHEN THE CALL BEGINS. Each datum BY PROGRAM (the guide's laid-datum.mjs) off the statement by which the dump's own 'gosem.cut.vars' lays the variable. In a bare row this is a premise. The card (YtbjckoelgpbaaaaGreatDoorCards.lean) ties it to the program's text. -/
def laid_errors_errorType {H : Type} : DataW H := .iface "internal/reflectlite.rtype" (.agg [.ptr (.lit (.string [101, 114, 114, 111, 114]))])
def laid_pergola_frame_table {H : Type} : DataW H := .agg [.lit (.int .u32 0), .lit (.int .u32 498536548), .lit (.int .u32 997073096), .lit (.int .u32 651767980), .lit (.int .u32 1994146192), .lit (.int .u32 1802195444), .lit (.int .u32 1303535960), .lit (.int .u32 1342533948), .lit (.int .u32 3988292384), .lit (.int .u32 4027552580), .lit (.int .u32 3604390888), .lit (.int .u32 3412177804), .lit (.int .u32 2607071920), .lit (.int .u32 2262029012), .lit (.int .u32 2685067896), .lit (.int .u32 3183342108)]

/-- 'pergolalaw12.PoolNothing': WHATEVER THE INPUT: true; the input reads as it did. -/
def poolNothingSpec : ChangeSpec := { name := "poolNothing", fn := fun _ => fun
  | [d] => { results := [.lit (.bool true)], args := [d] }
  | _ => none }
def poolNothingRow : OpenClaim := { program := "ytbjckoelgpbaaaagreatdoor", sum := "76c78df7d987581bc90e32439e47cb42496fb106337561e1fb87953a9506ad96", func := "pergola/pergolalaw12.PoolNothing", spec := "poolNothing", inPlace := ["internal/reflectlite.TypeOf", "internal/reflectlite.ValueOf", "(internal/reflectlite.Value).Type", "(internal/reflectlite.Value).IsNil", "(internal/reflectlite.Value).Elem", "(internal/reflectlite.Value).Set"], unfollowed := true, recurses := true, named := ["pergola/frame.table", "errors.errorType"], apart := false, laid := [("errors.errorType", laid_errors_errorType), ("pergola/frame.table", laid_pergola_frame_table)] }
def PoolNothingSaid : Prop := poolNothingRow.holds Tryz.pinned (OpenSpec.ofChange poolNothingSpec)

/-- ITS FALSE NEIGHBOUR: 'it returns false'. Refute it at one input. -/
def poolNothingWrong : ChangeSpec := { name := "poolNothing", fn := fun _ => fun
  | [d] => { results := [.lit (.bool false)], args := [d] }
  | _ => none }
def PoolNothingWrongFalsely : Prop := poolNothingRow.holds Tryz.pinned (OpenSpec.ofChange poolNothingWrong)

/-- 'pergolalaw23.ModelNothing': WHATEVER THE INPUT: true; the input reads as it did. -/
def modelNothingSpec : ChangeSpec := { name := "modelNothing", fn := fun _ => fun
  | [d] => { results := [.lit (.bool true)], args := [d] }
  | _ => none }
def modelNothingRow : OpenClaim := { program := "ytbjckoelgpbaaaagreatdoor", sum := "76c78df7d987581bc90e32439e47cb42496fb106337561e1fb87953a9506ad96", func := "pergola/pergolalaw23.ModelNothing", spec := "modelNothing", inPlace := ["internal/reflectlite.TypeOf", "internal/reflectlite.ValueOf", "(internal/reflectlite.Value).Type", "(internal/reflectlite.Value).IsNil", "(internal/reflectlite.Value).Elem", "(internal/reflectlite.Value).Set"], unfollowed := true, recurses := true, named := ["errors.errorType"], apart := false, laid := [("errors.errorType", laid_errors_errorType)] }
def ModelNothingSaid : Prop := modelNothingRow.holds Tryz.pinned (OpenSpec.ofChange modelNothingSpec)

/-- ITS FALSE NEIGHBOUR: 'it returns false'. Refute it at one input. -/
def modelNothingWrong : ChangeSpec := { name := "modelNothing", fn := fun _ => fun
  | [d] => { results := [.lit (.bool false)], args := [d] }
  | _ => none }
def ModelNothingWrongFalsely : Prop := modelNothingRow.holds Tryz.pinned (OpenSpec.ofChange modelNothingWrong)

/-- 'pergolalaw24.StageLimits': WHATEVER THE INPUT: true; the input reads as it did. -/
def stageLimitsSpec : ChangeSpec := { name := "stageLimits", fn := fun _ => fun
  | [d1, d2] => { results := [.lit (.bool true)], args := [d1, d2] }
  | _ => none }
def stageLimitsRow : OpenClaim := { program := "ytbjckoelgpbaaaagreatdoor", sum := "76c78df7d987581bc90e32439e47cb42496fb106337561e1fb87953a9506ad96", func := "pergola/pergolalaw24.StageLimits", spec := "stageLimits", inPlace := ["maps.clone", "internal/reflectlite.TypeOf", "internal/reflectlite.ValueOf", "(internal/reflectlite.Value).Type", "(internal/reflectlite.Value).IsNil", "(internal/reflectlite.Value).Elem", "(internal/reflectlite.Value).Set"], unfollowed := true, recurses := true, named := ["errors.errorType"], apart := false, laid := [("errors.errorType", laid_errors_errorType)] }
def StageLimitsSaid : Prop := stageLimitsRow.holds Tryz.pinned (OpenSpec.ofChange stageLimitsSpec)

/-- ITS FALSE NEIGHBOUR: 'it returns false'. Refute it at one input. -/
def stageLimitsWrong : ChangeSpec := { name := "stageLimits", fn := fun _ => fun
  | [d1, d2] => { results := [.lit (.bool false)], args := [d1, d2] }
  | _ => none }
def StageLimitsWrongFalsely : Prop := stageLimitsRow.holds Tryz.pinned (OpenSpec.ofChange stageLimitsWrong)

/- THE SECOND FORM. 'bulk': how many values and letters a reading holds, each counted each time it is reached (what is shared counts as often as it is met; a slice's spare places count too). A statement '..UptoSaid' is the law's where the arguments, and the package variables that the reading takes, are together of bulk at most 1048576: NARROWER than '..Said'. Prove '..Said' where nothing that the law and all that it calls make is longer than what came in: it says more and counts as full. Else prove '..UptoSaid'. A law counts once. -/
mutual
def uptoBulk {H : Type} : DataW H → Nat
  | .lit (.string bytes) => bytes.length + 1
  | .lit _ => 1
  | .nil => 1
  | .ptr d => uptoBulk d + 1
  | .slice elems spare => uptoBulkAll elems + uptoBulkAll spare + 1
  | .agg parts => uptoBulkAll parts + 1
  | .iface _ d => uptoBulk d + 1
  | .map entries => uptoBulkEntries entries + 1
  | .held _ => 1
def uptoBulkAll {H : Type} : List (DataW H) → Nat
  | [] => 0
  | d :: r => uptoBulk d + uptoBulkAll r
def uptoBulkEntries {H : Type} : List (Lit × DataW H) → Nat
  | [] => 0
  | x :: r => uptoBulkEntry x + uptoBulkEntries r
def uptoBulkEntry {H : Type} : Lit × DataW H → Nat
  | (.string bytes, d) => bytes.length + uptoBulk d + 1
  | (_, d) => uptoBulk d + 1
 end
def uptoSmall : (H : Type) → List (DataW H) → Bool := fun _ ds => decide (uptoBulkAll ds ≤ 1048576)
def OpenSpec.upto (s : _root_.Go.ChangeSpec) : _root_.Go.OpenSpec := { _root_.Go.OpenSpec.ofChange s with cond := some uptoSmall }

/-- 'pergolalaw12.PoolNothing', WHERE WHAT IT READS IS OF BULK AT MOST 1048576: true; the input reads as it did. -/
def poolNothingUptoRow : OpenClaim := { program := "ytbjckoelgpbaaaagreatdoor", sum := "76c78df7d987581bc90e32439e47cb42496fb106337561e1fb87953a9506ad96", func := "pergola/pergolalaw12.PoolNothing", spec := "poolNothing", inPlace := ["internal/reflectlite.TypeOf", "internal/reflectlite.ValueOf", "(internal/reflectlite.Value).Type", "(internal/reflectlite.Value).IsNil", "(internal/reflectlite.Value).Elem", "(internal/reflectlite.Value).Set"], unfollowed := true, recurses := true, named := ["pergola/frame.table", "errors.errorType"], apart := false, laid := [("errors.errorType", laid_errors_errorType), ("pergola/frame.table", laid_pergola_frame_table)], narrowed := true }
def PoolNothingUptoSaid : Prop := poolNothingUptoRow.holds Tryz.pinned (OpenSpec.upto poolNothingSpec)

/-- 'pergolalaw23.ModelNothing', WHERE WHAT IT READS IS OF BULK AT MOST 1048576: true; the input reads as it did. -/
def modelNothingUptoRow : OpenClaim := { program := "ytbjckoelgpbaaaagreatdoor", sum := "76c78df7d987581bc90e32439e47cb42496fb106337561e1fb87953a9506ad96", func := "pergola/pergolalaw23.ModelNothing", spec := "modelNothing", inPlace := ["internal/reflectlite.TypeOf", "internal/reflectlite.ValueOf", "(internal/reflectlite.Value).Type", "(internal/reflectlite.Value).IsNil", "(internal/reflectlite.Value).Elem", "(internal/reflectlite.Value).Set"], unfollowed := true, recurses := true, named := ["errors.errorType"], apart := false, laid := [("errors.errorType", laid_errors_errorType)], narrowed := true }
def ModelNothingUptoSaid : Prop := modelNothingUptoRow.holds Tryz.pinned (OpenSpec.upto modelNothingSpec)

/-- 'pergolalaw24.StageLimits', WHERE WHAT IT READS IS OF BULK AT MOST 1048576: true; the input reads as it did. -/
def stageLimitsUptoRow : OpenClaim := { program := "ytbjckoelgpbaaaagreatdoor", sum := "76c78df7d987581bc90e32439e47cb42496fb106337561e1fb87953a9506ad96", func := "pergola/pergolalaw24.StageLimits", spec := "stageLimits", inPlace := ["maps.clone", "internal/reflectlite.TypeOf", "internal/reflectlite.ValueOf", "(internal/reflectlite.Value).Type", "(internal/reflectlite.Value).IsNil", "(internal/reflectlite.Value).Elem", "(internal/reflectlite.Value).Set"], unfollowed := true, recurses := true, named := ["errors.errorType"], apart := false, laid := [("errors.errorType", laid_errors_errorType)], narrowed := true }
def StageLimitsUptoSaid : Prop := stageLimitsUptoRow.holds Tryz.pinned (OpenSpec.upto stageLimitsSpec)

end Rows
end Go.Proofs.YtbjckoelgpbaaaaGreatDoor
