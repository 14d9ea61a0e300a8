/-
  NARROWER THAN 'FOR EVERY INPUT', by the rows' own cells (each row's printed sentence says how): RingAsks: laid · RingTurns: laid · RingEdges: laid · RelChecks: laid · FaultWraps: laid · FaultJoins: laid · EncObjects: laid · EncChanges: laid.
  DERIVED. THE GIVEN ROWS OF THIS SEAT. 8 by the template 'for every input the law returns true; each argument reads behind the call as it read before'; 0 by the template 'total and deterministic' (their statements: YtkodmfkchbbmiaaDoorTotals.lean).
  GIVEN WITH THE SEED: the statements are not yours to turn. If you find one false, say at which input.
  Laid BY PROGRAM, IN A SANDBOX (cutbox-rows.mjs): the forced cells as the released guide's own fill.sh prints them over the translation 492e743fa503d7da… (all of the seat's roots in one cut). By AI agents, Wed Nov 11 2026. No macro, syntax, notation, axiom, sorry.
-/
import Derived.Test.YtkodmfkchbbmiaaDoorChecked
import GoSem.Claim
import GoSem.ClaimJoined
import GoSem.ClaimMapViews
import Derived.JoinedTies
import Derived.KernelRfl
namespace Go.Proofs.YtkodmfkchbbmiaaDoor
/- THE CELL 'sum', in the pinned program and in every row, IS THE sha256 OF THE DUMP (.gsa) THAT YtkodmfkchbbmiaaDoorProg.lean LOADS. Nothing in Lean hashes anything: it is a label: what it is worth is what the hold of that sum in a sandbox is worth. -/
noncomputable def Tryd.pinned : Pinned := { name := "ytkodmfkchbbmiaadoor", sum := "492e743fa503d7dac96a1ddc37af5717490508188673dc797f44125f55794b20", checked := Tryd.checked }
namespace Rows
def none {H : Type} : Left H := { results := [], args := [] }

/- WHAT THE LISTED PACKAGE-LEVEL VARIABLES READ AS WHEN THE CALL BEGINS. Each datum BY PROGRAM (the guide's laid-datum.mjs) off the statement by which the dump's own 'gosem.cut.vars' lays the variable. In a bare row this is a premise. The card (YtkodmfkchbbmiaaDoorCards.lean) ties it to the program's text. -/
def laid_errors_errorType {H : Type} : DataW H := .iface "internal/reflectlite.rtype" (.agg [.ptr (.lit (.string [101, 114, 114, 111, 114]))])

/-- 'pergolalaw5.RingAsks': WHATEVER THE INPUT: true; the input reads as it did. -/
def ringAsksSpec : ChangeSpec := { name := "ringAsks", fn := fun _ => fun
  | [d1, d2] => { results := [.lit (.bool true)], args := [d1, d2] }
  | _ => none }
def ringAsksRow : OpenClaim := { program := "ytkodmfkchbbmiaadoor", sum := "492e743fa503d7dac96a1ddc37af5717490508188673dc797f44125f55794b20", func := "pergola/pergolalaw5.RingAsks", spec := "ringAsks", inPlace := ["internal/reflectlite.TypeOf", "internal/reflectlite.ValueOf", "(internal/reflectlite.Value).Type", "(internal/reflectlite.Value).IsNil", "(internal/reflectlite.Value).Elem", "(internal/reflectlite.Value).Set"], unfollowed := true, recurses := true, named := ["errors.errorType"], apart := false, laid := [("errors.errorType", laid_errors_errorType)] }
def RingAsksSaid : Prop := ringAsksRow.holds Tryd.pinned (OpenSpec.ofChange ringAsksSpec)

/-- ITS FALSE NEIGHBOUR: 'it returns false'. Refute it at one input. -/
def ringAsksWrong : ChangeSpec := { name := "ringAsks", fn := fun _ => fun
  | [d1, d2] => { results := [.lit (.bool false)], args := [d1, d2] }
  | _ => none }
def RingAsksWrongFalsely : Prop := ringAsksRow.holds Tryd.pinned (OpenSpec.ofChange ringAsksWrong)

/-- 'pergolalaw5.RingTurns': WHATEVER THE INPUT: true; the input reads as it did. -/
def ringTurnsSpec : ChangeSpec := { name := "ringTurns", fn := fun _ => fun
  | [d1, d2, d3] => { results := [.lit (.bool true)], args := [d1, d2, d3] }
  | _ => none }
def ringTurnsRow : OpenClaim := { program := "ytkodmfkchbbmiaadoor", sum := "492e743fa503d7dac96a1ddc37af5717490508188673dc797f44125f55794b20", func := "pergola/pergolalaw5.RingTurns", spec := "ringTurns", inPlace := ["internal/reflectlite.TypeOf", "internal/reflectlite.ValueOf", "(internal/reflectlite.Value).Type", "(internal/reflectlite.Value).IsNil", "(internal/reflectlite.Value).Elem", "(internal/reflectlite.Value).Set"], unfollowed := true, recurses := true, named := ["errors.errorType"], apart := false, laid := [("errors.errorType", laid_errors_errorType)] }
def RingTurnsSaid : Prop := ringTurnsRow.holds Tryd.pinned (OpenSpec.ofChange ringTurnsSpec)

/-- ITS FALSE NEIGHBOUR: 'it returns false'. Refute it at one input. -/
def ringTurnsWrong : ChangeSpec := { name := "ringTurns", fn := fun _ => fun
  | [d1, d2, d3] => { results := [.lit (.bool false)], args := [d1, d2, d3] }
  | _ => none }
def RingTurnsWrongFalsely : Prop := ringTurnsRow.holds Tryd.pinned (OpenSpec.ofChange ringTurnsWrong)

/-- 'pergolalaw5.RingEdges': WHATEVER THE INPUT: true; the input reads as it did. -/
def ringEdgesSpec : ChangeSpec := { name := "ringEdges", fn := fun _ => fun
  | [d1, d2, d3] => { results := [.lit (.bool true)], args := [d1, d2, d3] }
  | _ => none }
def ringEdgesRow : OpenClaim := { program := "ytkodmfkchbbmiaadoor", sum := "492e743fa503d7dac96a1ddc37af5717490508188673dc797f44125f55794b20", func := "pergola/pergolalaw5.RingEdges", spec := "ringEdges", inPlace := ["internal/reflectlite.TypeOf", "internal/reflectlite.ValueOf", "(internal/reflectlite.Value).Type", "(internal/reflectlite.Value).IsNil", "(internal/reflectlite.Value).Elem", "(internal/reflectlite.Value).Set"], unfollowed := true, recurses := true, named := ["errors.errorType"], apart := false, laid := [("errors.errorType", laid_errors_errorType)] }
def RingEdgesSaid : Prop := ringEdgesRow.holds Tryd.pinned (OpenSpec.ofChange ringEdgesSpec)

/-- ITS FALSE NEIGHBOUR: 'it returns false'. Refute it at one input. -/
def ringEdgesWrong : ChangeSpec := { name := "ringEdges", fn := fun _ => fun
  | [d1, d2, d3] => { results := [.lit (.bool false)], args := [d1, d2, d3] }
  | _ => none }
def RingEdgesWrongFalsely : Prop := ringEdgesRow.holds Tryd.pinned (OpenSpec.ofChange ringEdgesWrong)

/-- 'pergolalaw6.RelChecks': WHATEVER THE INPUT: true; the input reads as it did. -/
def relChecksSpec : ChangeSpec := { name := "relChecks", fn := fun _ => fun
  | [d1, d2] => { results := [.lit (.bool true)], args := [d1, d2] }
  | _ => none }
def relChecksRow : OpenClaim := { program := "ytkodmfkchbbmiaadoor", sum := "492e743fa503d7dac96a1ddc37af5717490508188673dc797f44125f55794b20", func := "pergola/pergolalaw6.RelChecks", spec := "relChecks", inPlace := ["internal/reflectlite.ValueOf", "(internal/reflectlite.Value).Type", "(internal/reflectlite.Value).IsNil", "internal/reflectlite.TypeOf", "(internal/reflectlite.Value).Elem", "(internal/reflectlite.Value).Set"], unfollowed := true, recurses := true, named := ["errors.errorType"], apart := false, laid := [("errors.errorType", laid_errors_errorType)] }
def RelChecksSaid : Prop := relChecksRow.holds Tryd.pinned (OpenSpec.ofChange relChecksSpec)

/-- ITS FALSE NEIGHBOUR: 'it returns false'. Refute it at one input. -/
def relChecksWrong : ChangeSpec := { name := "relChecks", fn := fun _ => fun
  | [d1, d2] => { results := [.lit (.bool false)], args := [d1, d2] }
  | _ => none }
def RelChecksWrongFalsely : Prop := relChecksRow.holds Tryd.pinned (OpenSpec.ofChange relChecksWrong)

/-- 'pergolalaw7.FaultWraps': WHATEVER THE INPUT: true; the input reads as it did. -/
def faultWrapsSpec : ChangeSpec := { name := "faultWraps", fn := fun _ => fun
  | [d1, d2, d3] => { results := [.lit (.bool true)], args := [d1, d2, d3] }
  | _ => none }
def faultWrapsRow : OpenClaim := { program := "ytkodmfkchbbmiaadoor", sum := "492e743fa503d7dac96a1ddc37af5717490508188673dc797f44125f55794b20", func := "pergola/pergolalaw7.FaultWraps", spec := "faultWraps", inPlace := ["internal/reflectlite.ValueOf", "(internal/reflectlite.Value).Type", "(internal/reflectlite.Value).IsNil", "internal/reflectlite.TypeOf", "(internal/reflectlite.Value).Elem", "(internal/reflectlite.Value).Set"], unfollowed := true, recurses := true, named := ["errors.errorType"], apart := false, laid := [("errors.errorType", laid_errors_errorType)] }
def FaultWrapsSaid : Prop := faultWrapsRow.holds Tryd.pinned (OpenSpec.ofChange faultWrapsSpec)

/-- ITS FALSE NEIGHBOUR: 'it returns false'. Refute it at one input. -/
def faultWrapsWrong : ChangeSpec := { name := "faultWraps", fn := fun _ => fun
  | [d1, d2, d3] => { results := [.lit (.bool false)], args := [d1, d2, d3] }
  | _ => none }
def FaultWrapsWrongFalsely : Prop := faultWrapsRow.holds Tryd.pinned (OpenSpec.ofChange faultWrapsWrong)

/-- 'pergolalaw7.FaultJoins': WHATEVER THE INPUT: true; the input reads as it did. -/
def faultJoinsSpec : ChangeSpec := { name := "faultJoins", fn := fun _ => fun
  | [d] => { results := [.lit (.bool true)], args := [d] }
  | _ => none }
def faultJoinsRow : OpenClaim := { program := "ytkodmfkchbbmiaadoor", sum := "492e743fa503d7dac96a1ddc37af5717490508188673dc797f44125f55794b20", func := "pergola/pergolalaw7.FaultJoins", spec := "faultJoins", inPlace := ["internal/reflectlite.TypeOf", "internal/reflectlite.ValueOf", "(internal/reflectlite.Value).Type", "(internal/reflectlite.Value).IsNil", "(internal/reflectlite.Value).Elem", "(internal/reflectlite.Value).Set"], unfollowed := true, recurses := true, named := ["errors.errorType"], apart := false, laid := [("errors.errorType", laid_errors_errorType)] }
def FaultJoinsSaid : Prop := faultJoinsRow.holds Tryd.pinned (OpenSpec.ofChange faultJoinsSpec)

/-- ITS FALSE NEIGHBOUR: 'it returns false'. Refute it at one input. -/
def faultJoinsWrong : ChangeSpec := { name := "faultJoins", fn := fun _ => fun
  | [d] => { results := [.lit (.bool false)], args := [d] }
  | _ => none }
def FaultJoinsWrongFalsely : Prop := faultJoinsRow.holds Tryd.pinned (OpenSpec.ofChange faultJoinsWrong)

/-- 'pergolalaw8.EncObjects': WHATEVER THE INPUT: true; the input reads as it did. -/
def encObjectsSpec : ChangeSpec := { name := "encObjects", fn := fun _ => fun
  | [d1, d2] => { results := [.lit (.bool true)], args := [d1, d2] }
  | _ => none }
def encObjectsRow : OpenClaim := { program := "ytkodmfkchbbmiaadoor", sum := "492e743fa503d7dac96a1ddc37af5717490508188673dc797f44125f55794b20", func := "pergola/pergolalaw8.EncObjects", spec := "encObjects", inPlace := ["internal/reflectlite.TypeOf", "internal/reflectlite.ValueOf", "(internal/reflectlite.Value).Type", "(internal/reflectlite.Value).IsNil", "(internal/reflectlite.Value).Elem", "(internal/reflectlite.Value).Set"], unfollowed := true, recurses := true, named := ["errors.errorType"], apart := false, laid := [("errors.errorType", laid_errors_errorType)] }
def EncObjectsSaid : Prop := encObjectsRow.holds Tryd.pinned (OpenSpec.ofChange encObjectsSpec)

/-- ITS FALSE NEIGHBOUR: 'it returns false'. Refute it at one input. -/
def encObjectsWrong : ChangeSpec := { name := "encObjects", fn := fun _ => fun
  | [d1, d2] => { results := [.lit (.bool false)], args := [d1, d2] }
  | _ => none }
def EncObjectsWrongFalsely : Prop := encObjectsRow.holds Tryd.pinned (OpenSpec.ofChange encObjectsWrong)

/-- 'pergolalaw8.EncChanges': WHATEVER THE INPUT: true; the input reads as it did. -/
def encChangesSpec : ChangeSpec := { name := "encChanges", fn := fun _ => fun
  | [d1, d2] => { results := [.lit (.bool true)], args := [d1, d2] }
  | _ => none }
def encChangesRow : OpenClaim := { program := "ytkodmfkchbbmiaadoor", sum := "492e743fa503d7dac96a1ddc37af5717490508188673dc797f44125f55794b20", func := "pergola/pergolalaw8.EncChanges", spec := "encChanges", inPlace := ["internal/reflectlite.TypeOf", "internal/reflectlite.ValueOf", "(internal/reflectlite.Value).Type", "(internal/reflectlite.Value).IsNil", "(internal/reflectlite.Value).Elem", "(internal/reflectlite.Value).Set"], unfollowed := true, recurses := true, named := ["errors.errorType"], apart := false, laid := [("errors.errorType", laid_errors_errorType)] }
def EncChangesSaid : Prop := encChangesRow.holds Tryd.pinned (OpenSpec.ofChange encChangesSpec)

/-- ITS FALSE NEIGHBOUR: 'it returns false'. Refute it at one input. -/
def encChangesWrong : ChangeSpec := { name := "encChanges", fn := fun _ => fun
  | [d1, d2] => { results := [.lit (.bool false)], args := [d1, d2] }
  | _ => none }
def EncChangesWrongFalsely : Prop := encChangesRow.holds Tryd.pinned (OpenSpec.ofChange encChangesWrong)

/- THE SECOND FORM. 'bulk': how many values and letters a reading holds, each counted each time it is reached (what is shared counts as often as it is met; a slice's spare places count too). A statement '..UptoSaid' is the law's where the arguments, and the package variables that the reading takes, are together of bulk at most 1048576: NARROWER than '..Said'. Prove '..Said' where nothing that the law and all that it calls make is longer than what came in: it says more and counts as full. Else prove '..UptoSaid'. A law counts once. -/
mutual
def uptoBulk {H : Type} : DataW H → Nat
  | .lit (.string bytes) => bytes.length + 1
  | .lit _ => 1
  | .nil => 1
  | .ptr d => uptoBulk d + 1
  | .slice elems spare => uptoBulkAll elems + uptoBulkAll spare + 1
  | .agg parts => uptoBulkAll parts + 1
  | .iface _ d => uptoBulk d + 1
  | .map entries => uptoBulkEntries entries + 1
  | .held _ => 1
def uptoBulkAll {H : Type} : List (DataW H) → Nat
  | [] => 0
  | d :: r => uptoBulk d + uptoBulkAll r
def uptoBulkEntries {H : Type} : List (Lit × DataW H) → Nat
  | [] => 0
  | x :: r => uptoBulkEntry x + uptoBulkEntries r
def uptoBulkEntry {H : Type} : Lit × DataW H → Nat
  | (.string bytes, d) => bytes.length + uptoBulk d + 1
  | (_, d) => uptoBulk d + 1
 end
def uptoSmall : (H : Type) → List (DataW H) → Bool := fun _ ds => decide (uptoBulkAll ds ≤ 1048576)
def OpenSpec.upto (s : _root_.Go.ChangeSpec) : _root_.Go.OpenSpec := { _root_.Go.OpenSpec.ofChange s with cond := some uptoSmall }

/-- 'pergolalaw5.RingAsks', WHERE WHAT IT READS IS OF BULK AT MOST 1048576: true; the input reads as it did. -/
def ringAsksUptoRow : OpenClaim := { program := "ytkodmfkchbbmiaadoor", sum := "492e743fa503d7dac96a1ddc37af5717490508188673dc797f44125f55794b20", func := "pergola/pergolalaw5.RingAsks", spec := "ringAsks", inPlace := ["internal/reflectlite.TypeOf", "internal/reflectlite.ValueOf", "(internal/reflectlite.Value).Type", "(internal/reflectlite.Value).IsNil", "(internal/reflectlite.Value).Elem", "(internal/reflectlite.Value).Set"], unfollowed := true, recurses := true, named := ["errors.errorType"], apart := false, laid := [("errors.errorType", laid_errors_errorType)], narrowed := true }
def RingAsksUptoSaid : Prop := ringAsksUptoRow.holds Tryd.pinned (OpenSpec.upto ringAsksSpec)

/-- 'pergolalaw5.RingTurns', WHERE WHAT IT READS IS OF BULK AT MOST 1048576: true; the input reads as it did. -/
def ringTurnsUptoRow : OpenClaim := { program := "ytkodmfkchbbmiaadoor", sum := "492e743fa503d7dac96a1ddc37af5717490508188673dc797f44125f55794b20", func := "pergola/pergolalaw5.RingTurns", spec := "ringTurns", inPlace := ["internal/reflectlite.TypeOf", "internal/reflectlite.ValueOf", "(internal/reflectlite.Value).Type", "(internal/reflectlite.Value).IsNil", "(internal/reflectlite.Value).Elem", "(internal/reflectlite.Value).Set"], unfollowed := true, recurses := true, named := ["errors.errorType"], apart := false, laid := [("errors.errorType", laid_errors_errorType)], narrowed := true }
def RingTurnsUptoSaid : Prop := ringTurnsUptoRow.holds Tryd.pinned (OpenSpec.upto ringTurnsSpec)

/-- 'pergolalaw5.RingEdges', WHERE WHAT IT READS IS OF BULK AT MOST 1048576: true; the input reads as it did. -/
def ringEdgesUptoRow : OpenClaim := { program := "ytkodmfkchbbmiaadoor", sum := "492e743fa503d7dac96a1ddc37af5717490508188673dc797f44125f55794b20", func := "pergola/pergolalaw5.RingEdges", spec := "ringEdges", inPlace := ["internal/reflectlite.TypeOf", "internal/reflectlite.ValueOf", "(internal/reflectlite.Value).Type", "(internal/reflectlite.Value).IsNil", "(internal/reflectlite.Value).Elem", "(internal/reflectlite.Value).Set"], unfollowed := true, recurses := true, named := ["errors.errorType"], apart := false, laid := [("errors.errorType", laid_errors_errorType)], narrowed := true }
def RingEdgesUptoSaid : Prop := ringEdgesUptoRow.holds Tryd.pinned (OpenSpec.upto ringEdgesSpec)

/-- 'pergolalaw6.RelChecks', WHERE WHAT IT READS IS OF BULK AT MOST 1048576: true; the input reads as it did. -/
def relChecksUptoRow : OpenClaim := { program := "ytkodmfkchbbmiaadoor", sum := "492e743fa503d7dac96a1ddc37af5717490508188673dc797f44125f55794b20", func := "pergola/pergolalaw6.RelChecks", spec := "relChecks", inPlace := ["internal/reflectlite.ValueOf", "(internal/reflectlite.Value).Type", "(internal/reflectlite.Value).IsNil", "internal/reflectlite.TypeOf", "(internal/reflectlite.Value).Elem", "(internal/reflectlite.Value).Set"], unfollowed := true, recurses := true, named := ["errors.errorType"], apart := false, laid := [("errors.errorType", laid_errors_errorType)], narrowed := true }
def RelChecksUptoSaid : Prop := relChecksUptoRow.holds Tryd.pinned (OpenSpec.upto relChecksSpec)

/-- 'pergolalaw7.FaultWraps', WHERE WHAT IT READS IS OF BULK AT MOST 1048576: true; the input reads as it did. -/
def faultWrapsUptoRow : OpenClaim := { program := "ytkodmfkchbbmiaadoor", sum := "492e743fa503d7dac96a1ddc37af5717490508188673dc797f44125f55794b20", func := "pergola/pergolalaw7.FaultWraps", spec := "faultWraps", inPlace := ["internal/reflectlite.ValueOf", "(internal/reflectlite.Value).Type", "(internal/reflectlite.Value).IsNil", "internal/reflectlite.TypeOf", "(internal/reflectlite.Value).Elem", "(internal/reflectlite.Value).Set"], unfollowed := true, recurses := true, named := ["errors.errorType"], apart := false, laid := [("errors.errorType", laid_errors_errorType)], narrowed := true }
def FaultWrapsUptoSaid : Prop := faultWrapsUptoRow.holds Tryd.pinned (OpenSpec.upto faultWrapsSpec)

/-- 'pergolalaw7.FaultJoins', WHERE WHAT IT READS IS OF BULK AT MOST 1048576: true; the input reads as it did. -/
def faultJoinsUptoRow : OpenClaim := { program := "ytkodmfkchbbmiaadoor", sum := "492e743fa503d7dac96a1ddc37af5717490508188673dc797f44125f55794b20", func := "pergola/pergolalaw7.FaultJoins", spec := "faultJoins", inPlace := ["internal/reflectlite.TypeOf", "internal/reflectlite.ValueOf", "(internal/reflectlite.Value).Type", "(internal/reflectlite.Value).IsNil", "(internal/reflectlite.Value).Elem", "(internal/reflectlite.Value).Set"], unfollowed := true, recurses := true, named := ["errors.errorType"], apart := false, laid := [("errors.errorType", laid_errors_errorType)], narrowed := true }
def FaultJoinsUptoSaid : Prop := faultJoinsUptoRow.holds Tryd.pinned (OpenSpec.upto faultJoinsSpec)

/-- 'pergolalaw8.EncObjects', WHERE WHAT IT READS IS OF BULK AT MOST 1048576: true; the input reads as it did. -/
def encObjectsUptoRow : OpenClaim := { program := "ytkodmfkchbbmiaadoor", sum := "492e743fa503d7dac96a1ddc37af5717490508188673dc797f44125f55794b20", func := "pergola/pergolalaw8.EncObjects", spec := "encObjects", inPlace := ["internal/reflectlite.TypeOf", "internal/reflectlite.ValueOf", "(internal/reflectlite.Value).Type", "(internal/reflectlite.Value).IsNil", "(internal/reflectlite.Value).Elem", "(internal/reflectlite.Value).Set"], unfollowed := true, recurses := true, named := ["errors.errorType"], apart := false, laid := [("errors.errorType", laid_errors_errorType)], narrowed := true }
def EncObjectsUptoSaid : Prop := encObjectsUptoRow.holds Tryd.pinned (OpenSpec.upto encObjectsSpec)

/-- 'pergolalaw8.EncChanges', WHERE WHAT IT READS IS OF BULK AT MOST 1048576: true; the input reads as it did. -/
def encChangesUptoRow : OpenClaim := { program := "ytkodmfkchbbmiaadoor", sum := "492e743fa503d7dac96a1ddc37af5717490508188673dc797f44125f55794b20", func := "pergola/pergolalaw8.EncChanges", spec := "encChanges", inPlace := ["internal/reflectlite.TypeOf", "internal/reflectlite.ValueOf", "(internal/reflectlite.Value).Type", "(internal/reflectlite.Value).IsNil", "(internal/reflectlite.Value).Elem", "(internal/reflectlite.Value).Set"], unfollowed := true, recurses := true, named := ["errors.errorType"], apart := false, laid := [("errors.errorType", laid_errors_errorType)], narrowed := true }
def EncChangesUptoSaid : Prop := encChangesUptoRow.holds Tryd.pinned (OpenSpec.upto encChangesSpec)

end Rows
end Go.Proofs.YtkodmfkchbbmiaaDoor
