/-
  NARROWER THAN 'FOR EVERY INPUT', by the rows' own cells (each row's printed sentence says how): RelMatches: laid · RelTouches: laid · RelZero: laid · RelSame: laid · RelMoves: laid.
  DERIVED. THE GIVEN ROWS OF THIS SEAT. 5 by the template 'for every input the law returns true; each argument reads behind the call as it read before'; 0 by the template 'total and deterministic' (their statements: YtfobmlgpjhghdaaGreatDoorTotals.lean).
  GIVEN WITH THE SEED: the statements are not yours to turn. If you find one false, say at which input.
  Laid BY PROGRAM, IN A SANDBOX (cutbox-rows.mjs): the forced cells as the released guide's own fill.sh prints them over the translation 35e3b26e9319514a… (all of the seat's roots in one cut). By AI agents, Wed Nov 11 2026. No macro, syntax, notation, axiom, sorry.
-/
import Derived.Test.YtfobmlgpjhghdaaGreatDoorChecked
import GoSem.Claim
import GoSem.ClaimJoined
import GoSem.ClaimMapViews
import Derived.JoinedTies
import Derived.KernelRfl
namespace Go.Proofs.YtfobmlgpjhghdaaGreatDoor
/- THE CELL 'sum', in the pinned program and in every row, IS THE sha256 OF THE DUMP (.gsa) THAT YtfobmlgpjhghdaaGreatDoorProg.lean LOADS. Nothing in Lean hashes anything: it is a label: what it is worth is what the hold of that sum in a sandbox is worth. -/
noncomputable def Tryz.pinned : Pinned := { name := "ytfobmlgpjhghdaagreatdoor", sum := "35e3b26e9319514aca794ada7f5d958c74a712c4c6494fbd89c757db153be8d2", checked := Tryz.checked }
namespace Rows
def none {H : Type} : Left H := { results := [], args := [] }

/- WHAT THE LISTED PACKAGE-LEVEL VARIABLES READ AS WHEN THE CALL BEGINS. Each datum BY PROGRAM (the guide's laid-datum.mjs) off the statement by which the dump's own 'gosem.cut.vars' lays the variable. In a bare row this is a premise. The card (YtfobmlgpjhghdaaGreatDoorCards.lean) ties it to the program's text. -/
def laid_errors_errorType {H : Type} : DataW H := .iface "internal/reflectlite.rtype" (.agg [.ptr (.lit (.string [101, 114, 114, 111, 114]))])

/-- 'pergolalaw6.RelMatches': WHATEVER THE INPUT: true; the input reads as it did. -/
def relMatchesSpec : ChangeSpec := { name := "relMatches", fn := fun _ => fun
  | [d1, d2, d3] => { results := [.lit (.bool true)], args := [d1, d2, d3] }
  | _ => none }
def relMatchesRow : OpenClaim := { program := "ytfobmlgpjhghdaagreatdoor", sum := "35e3b26e9319514aca794ada7f5d958c74a712c4c6494fbd89c757db153be8d2", func := "pergola/pergolalaw6.RelMatches", spec := "relMatches", inPlace := ["internal/reflectlite.ValueOf", "(internal/reflectlite.Value).Type", "(internal/reflectlite.Value).IsNil", "internal/reflectlite.TypeOf", "(internal/reflectlite.Value).Elem", "(internal/reflectlite.Value).Set", "math/bits.Add64"], unfollowed := true, recurses := true, named := ["errors.errorType", "math/bits.divideError", "math/bits.overflowError"], apart := false, laid := [("errors.errorType", laid_errors_errorType)] }
def RelMatchesSaid : Prop := relMatchesRow.holds Tryz.pinned (OpenSpec.ofChange relMatchesSpec)

/-- ITS FALSE NEIGHBOUR: 'it returns false'. Refute it at one input. -/
def relMatchesWrong : ChangeSpec := { name := "relMatches", fn := fun _ => fun
  | [d1, d2, d3] => { results := [.lit (.bool false)], args := [d1, d2, d3] }
  | _ => none }
def RelMatchesWrongFalsely : Prop := relMatchesRow.holds Tryz.pinned (OpenSpec.ofChange relMatchesWrong)

/-- 'pergolalaw6.RelTouches': WHATEVER THE INPUT: true; the input reads as it did. -/
def relTouchesSpec : ChangeSpec := { name := "relTouches", fn := fun _ => fun
  | [d1, d2] => { results := [.lit (.bool true)], args := [d1, d2] }
  | _ => none }
def relTouchesRow : OpenClaim := { program := "ytfobmlgpjhghdaagreatdoor", sum := "35e3b26e9319514aca794ada7f5d958c74a712c4c6494fbd89c757db153be8d2", func := "pergola/pergolalaw6.RelTouches", spec := "relTouches", inPlace := ["internal/reflectlite.ValueOf", "(internal/reflectlite.Value).Type", "(internal/reflectlite.Value).IsNil", "internal/reflectlite.TypeOf", "(internal/reflectlite.Value).Elem", "(internal/reflectlite.Value).Set"], unfollowed := true, recurses := true, named := ["errors.errorType"], apart := false, laid := [("errors.errorType", laid_errors_errorType)] }
def RelTouchesSaid : Prop := relTouchesRow.holds Tryz.pinned (OpenSpec.ofChange relTouchesSpec)

/-- ITS FALSE NEIGHBOUR: 'it returns false'. Refute it at one input. -/
def relTouchesWrong : ChangeSpec := { name := "relTouches", fn := fun _ => fun
  | [d1, d2] => { results := [.lit (.bool false)], args := [d1, d2] }
  | _ => none }
def RelTouchesWrongFalsely : Prop := relTouchesRow.holds Tryz.pinned (OpenSpec.ofChange relTouchesWrong)

/-- 'pergolalaw6.RelZero': WHATEVER THE INPUT: true; the input reads as it did. -/
def relZeroSpec : ChangeSpec := { name := "relZero", fn := fun _ => fun
  | [d1, d2, d3] => { results := [.lit (.bool true)], args := [d1, d2, d3] }
  | _ => none }
def relZeroRow : OpenClaim := { program := "ytfobmlgpjhghdaagreatdoor", sum := "35e3b26e9319514aca794ada7f5d958c74a712c4c6494fbd89c757db153be8d2", func := "pergola/pergolalaw6.RelZero", spec := "relZero", inPlace := ["internal/reflectlite.ValueOf", "(internal/reflectlite.Value).Type", "(internal/reflectlite.Value).IsNil", "internal/reflectlite.TypeOf", "(internal/reflectlite.Value).Elem", "(internal/reflectlite.Value).Set", "math/bits.Add64"], unfollowed := true, recurses := true, named := ["errors.errorType", "math/bits.divideError", "math/bits.overflowError"], apart := false, laid := [("errors.errorType", laid_errors_errorType)] }
def RelZeroSaid : Prop := relZeroRow.holds Tryz.pinned (OpenSpec.ofChange relZeroSpec)

/-- ITS FALSE NEIGHBOUR: 'it returns false'. Refute it at one input. -/
def relZeroWrong : ChangeSpec := { name := "relZero", fn := fun _ => fun
  | [d1, d2, d3] => { results := [.lit (.bool false)], args := [d1, d2, d3] }
  | _ => none }
def RelZeroWrongFalsely : Prop := relZeroRow.holds Tryz.pinned (OpenSpec.ofChange relZeroWrong)

/-- 'pergolalaw6.RelSame': WHATEVER THE INPUT: true; the input reads as it did. -/
def relSameSpec : ChangeSpec := { name := "relSame", fn := fun _ => fun
  | [d1, d2, d3] => { results := [.lit (.bool true)], args := [d1, d2, d3] }
  | _ => none }
def relSameRow : OpenClaim := { program := "ytfobmlgpjhghdaagreatdoor", sum := "35e3b26e9319514aca794ada7f5d958c74a712c4c6494fbd89c757db153be8d2", func := "pergola/pergolalaw6.RelSame", spec := "relSame", inPlace := ["internal/reflectlite.ValueOf", "(internal/reflectlite.Value).Type", "(internal/reflectlite.Value).IsNil", "internal/reflectlite.TypeOf", "(internal/reflectlite.Value).Elem", "(internal/reflectlite.Value).Set", "math/bits.Add64"], unfollowed := true, recurses := true, named := ["errors.errorType", "math/bits.divideError", "math/bits.overflowError"], apart := false, laid := [("errors.errorType", laid_errors_errorType)] }
def RelSameSaid : Prop := relSameRow.holds Tryz.pinned (OpenSpec.ofChange relSameSpec)

/-- ITS FALSE NEIGHBOUR: 'it returns false'. Refute it at one input. -/
def relSameWrong : ChangeSpec := { name := "relSame", fn := fun _ => fun
  | [d1, d2, d3] => { results := [.lit (.bool false)], args := [d1, d2, d3] }
  | _ => none }
def RelSameWrongFalsely : Prop := relSameRow.holds Tryz.pinned (OpenSpec.ofChange relSameWrong)

/-- 'pergolalaw6.RelMoves': WHATEVER THE INPUT: true; the input reads as it did. -/
def relMovesSpec : ChangeSpec := { name := "relMoves", fn := fun _ => fun
  | [d1, d2, d3, d4] => { results := [.lit (.bool true)], args := [d1, d2, d3, d4] }
  | _ => none }
def relMovesRow : OpenClaim := { program := "ytfobmlgpjhghdaagreatdoor", sum := "35e3b26e9319514aca794ada7f5d958c74a712c4c6494fbd89c757db153be8d2", func := "pergola/pergolalaw6.RelMoves", spec := "relMoves", inPlace := ["internal/reflectlite.ValueOf", "(internal/reflectlite.Value).Type", "(internal/reflectlite.Value).IsNil", "internal/reflectlite.TypeOf", "(internal/reflectlite.Value).Elem", "(internal/reflectlite.Value).Set", "math/bits.Add64"], unfollowed := true, recurses := true, named := ["errors.errorType", "math/bits.divideError", "math/bits.overflowError"], apart := false, laid := [("errors.errorType", laid_errors_errorType)] }
def RelMovesSaid : Prop := relMovesRow.holds Tryz.pinned (OpenSpec.ofChange relMovesSpec)

/-- ITS FALSE NEIGHBOUR: 'it returns false'. Refute it at one input. -/
def relMovesWrong : ChangeSpec := { name := "relMoves", fn := fun _ => fun
  | [d1, d2, d3, d4] => { results := [.lit (.bool false)], args := [d1, d2, d3, d4] }
  | _ => none }
def RelMovesWrongFalsely : Prop := relMovesRow.holds Tryz.pinned (OpenSpec.ofChange relMovesWrong)

/- THE SECOND FORM. 'bulk': how many values and letters a reading holds, each counted each time it is reached (what is shared counts as often as it is met; a slice's spare places count too). A statement '..UptoSaid' is the law's where the arguments, and the package variables that the reading takes, are together of bulk at most 1048576: NARROWER than '..Said'. Prove '..Said' where nothing that the law and all that it calls make is longer than what came in: it says more and counts as full. Else prove '..UptoSaid'. A law counts once. -/
mutual
def uptoBulk {H : Type} : DataW H → Nat
  | .lit (.string bytes) => bytes.length + 1
  | .lit _ => 1
  | .nil => 1
  | .ptr d => uptoBulk d + 1
  | .slice elems spare => uptoBulkAll elems + uptoBulkAll spare + 1
  | .agg parts => uptoBulkAll parts + 1
  | .iface _ d => uptoBulk d + 1
  | .map entries => uptoBulkEntries entries + 1
  | .held _ => 1
def uptoBulkAll {H : Type} : List (DataW H) → Nat
  | [] => 0
  | d :: r => uptoBulk d + uptoBulkAll r
def uptoBulkEntries {H : Type} : List (Lit × DataW H) → Nat
  | [] => 0
  | x :: r => uptoBulkEntry x + uptoBulkEntries r
def uptoBulkEntry {H : Type} : Lit × DataW H → Nat
  | (.string bytes, d) => bytes.length + uptoBulk d + 1
  | (_, d) => uptoBulk d + 1
 end
def uptoSmall : (H : Type) → List (DataW H) → Bool := fun _ ds => decide (uptoBulkAll ds ≤ 1048576)
def OpenSpec.upto (s : _root_.Go.ChangeSpec) : _root_.Go.OpenSpec := { _root_.Go.OpenSpec.ofChange s with cond := some uptoSmall }

/-- 'pergolalaw6.RelMatches', WHERE WHAT IT READS IS OF BULK AT MOST 1048576: true; the input reads as it did. -/
def relMatchesUptoRow : OpenClaim := { program := "ytfobmlgpjhghdaagreatdoor", sum := "35e3b26e9319514aca794ada7f5d958c74a712c4c6494fbd89c757db153be8d2", func := "pergola/pergolalaw6.RelMatches", spec := "relMatches", inPlace := ["internal/reflectlite.ValueOf", "(internal/reflectlite.Value).Type", "(internal/reflectlite.Value).IsNil", "internal/reflectlite.TypeOf", "(internal/reflectlite.Value).Elem", "(internal/reflectlite.Value).Set", "math/bits.Add64"], unfollowed := true, recurses := true, named := ["errors.errorType", "math/bits.divideError", "math/bits.overflowError"], apart := false, laid := [("errors.errorType", laid_errors_errorType)], narrowed := true }
def RelMatchesUptoSaid : Prop := relMatchesUptoRow.holds Tryz.pinned (OpenSpec.upto relMatchesSpec)

/-- 'pergolalaw6.RelTouches', WHERE WHAT IT READS IS OF BULK AT MOST 1048576: true; the input reads as it did. -/
def relTouchesUptoRow : OpenClaim := { program := "ytfobmlgpjhghdaagreatdoor", sum := "35e3b26e9319514aca794ada7f5d958c74a712c4c6494fbd89c757db153be8d2", func := "pergola/pergolalaw6.RelTouches", spec := "relTouches", inPlace := ["internal/reflectlite.ValueOf", "(internal/reflectlite.Value).Type", "(internal/reflectlite.Value).IsNil", "internal/reflectlite.TypeOf", "(internal/reflectlite.Value).Elem", "(internal/reflectlite.Value).Set"], unfollowed := true, recurses := true, named := ["errors.errorType"], apart := false, laid := [("errors.errorType", laid_errors_errorType)], narrowed := true }
def RelTouchesUptoSaid : Prop := relTouchesUptoRow.holds Tryz.pinned (OpenSpec.upto relTouchesSpec)

/-- 'pergolalaw6.RelZero', WHERE WHAT IT READS IS OF BULK AT MOST 1048576: true; the input reads as it did. -/
def relZeroUptoRow : OpenClaim := { program := "ytfobmlgpjhghdaagreatdoor", sum := "35e3b26e9319514aca794ada7f5d958c74a712c4c6494fbd89c757db153be8d2", func := "pergola/pergolalaw6.RelZero", spec := "relZero", inPlace := ["internal/reflectlite.ValueOf", "(internal/reflectlite.Value).Type", "(internal/reflectlite.Value).IsNil", "internal/reflectlite.TypeOf", "(internal/reflectlite.Value).Elem", "(internal/reflectlite.Value).Set", "math/bits.Add64"], unfollowed := true, recurses := true, named := ["errors.errorType", "math/bits.divideError", "math/bits.overflowError"], apart := false, laid := [("errors.errorType", laid_errors_errorType)], narrowed := true }
def RelZeroUptoSaid : Prop := relZeroUptoRow.holds Tryz.pinned (OpenSpec.upto relZeroSpec)

/-- 'pergolalaw6.RelSame', WHERE WHAT IT READS IS OF BULK AT MOST 1048576: true; the input reads as it did. -/
def relSameUptoRow : OpenClaim := { program := "ytfobmlgpjhghdaagreatdoor", sum := "35e3b26e9319514aca794ada7f5d958c74a712c4c6494fbd89c757db153be8d2", func := "pergola/pergolalaw6.RelSame", spec := "relSame", inPlace := ["internal/reflectlite.ValueOf", "(internal/reflectlite.Value).Type", "(internal/reflectlite.Value).IsNil", "internal/reflectlite.TypeOf", "(internal/reflectlite.Value).Elem", "(internal/reflectlite.Value).Set", "math/bits.Add64"], unfollowed := true, recurses := true, named := ["errors.errorType", "math/bits.divideError", "math/bits.overflowError"], apart := false, laid := [("errors.errorType", laid_errors_errorType)], narrowed := true }
def RelSameUptoSaid : Prop := relSameUptoRow.holds Tryz.pinned (OpenSpec.upto relSameSpec)

/-- 'pergolalaw6.RelMoves', WHERE WHAT IT READS IS OF BULK AT MOST 1048576: true; the input reads as it did. -/
def relMovesUptoRow : OpenClaim := { program := "ytfobmlgpjhghdaagreatdoor", sum := "35e3b26e9319514aca794ada7f5d958c74a712c4c6494fbd89c757db153be8d2", func := "pergola/pergolalaw6.RelMoves", spec := "relMoves", inPlace := ["internal/reflectlite.ValueOf", "(internal/reflectlite.Value).Type", "(internal/reflectlite.Value).IsNil", "internal/reflectlite.TypeOf", "(internal/reflectlite.Value).Elem", "(internal/reflectlite.Value).Set", "math/bits.Add64"], unfollowed := true, recurses := true, named := ["errors.errorType", "math/bits.divideError", "math/bits.overflowError"], apart := false, laid := [("errors.errorType", laid_errors_errorType)], narrowed := true }
def RelMovesUptoSaid : Prop := relMovesUptoRow.holds Tryz.pinned (OpenSpec.upto relMovesSpec)

end Rows
end Go.Proofs.YtfobmlgpjhghdaaGreatDoor
