/-
  NARROWER THAN 'FOR EVERY INPUT', by the rows' own cells (each row's printed sentence says how): HullRound: laid · HullTurns: laid · HullBoxes: laid · HullClose: laid.
  DERIVED. THE GIVEN ROWS OF THIS SEAT. 4 by the template 'for every input the law returns true; each argument reads behind the call as it read before'; 0 by the template 'total and deterministic' (their statements: YtogflfepkddbhaaDoorTotals.lean).
  GIVEN WITH THE SEED: the statements are not yours to turn. If you find one false, say at which input.
  Laid BY PROGRAM, IN A SANDBOX (cutbox-rows.mjs): the forced cells as the released guide's own fill.sh prints them over the translation a5fda74b27b0fe8b… (all of the seat's roots in one cut). By AI agents, Wed Nov 11 2026. No macro, syntax, notation, axiom, sorry.
-/
import Derived.Test.YtogflfepkddbhaaDoorChecked
import GoSem.Claim
import GoSem.ClaimJoined
import GoSem.ClaimMapViews
import Derived.JoinedTies
import Derived.KernelRfl
namespace Go.Proofs.YtogflfepkddbhaaDoor
/- THE CELL 'sum', in the pinned program and in every row, IS THE sha256 OF THE DUMP (.gsa) THAT YtogflfepkddbhaaDoorProg.lean LOADS. Nothing in Lean hashes anything: it is a label: what it is worth is what the hold of that sum in a sandbox is worth. -/
noncomputable def Tryd.pinned : Pinned := { name := "ytogflfepkddbhaadoor", sum := "a5fda74b27b0fe8ba245c906b181f1936530044f119458c8d4ac1e5c8c1328fa", checked := Tryd.checked }
namespace Rows
def none {H : Type} : Left H := { results := [], args := [] }

/- WHAT THE LISTED PACKAGE-LEVEL VARIABLES READ AS WHEN THE CALL BEGINS. Each datum BY PROGRAM (the guide's laid-datum.mjs) off the statement by which the dump's own 'gosem.cut.vars' lays the variable. In a bare row this is a premise. The card (YtogflfepkddbhaaDoorCards.lean) ties it to the program's text. -/
def laid_errors_errorType {H : Type} : DataW H := .iface "internal/reflectlite.rtype" (.agg [.ptr (.lit (.string [101, 114, 114, 111, 114]))])

/-- 'pergolalaw21.HullRound': WHATEVER THE INPUT: true; the input reads as it did. -/
def hullRoundSpec : ChangeSpec := { name := "hullRound", fn := fun _ => fun
  | [d] => { results := [.lit (.bool true)], args := [d] }
  | _ => none }
def hullRoundRow : OpenClaim := { program := "ytogflfepkddbhaadoor", sum := "a5fda74b27b0fe8ba245c906b181f1936530044f119458c8d4ac1e5c8c1328fa", func := "pergola/pergolalaw21.HullRound", spec := "hullRound", inPlace := ["internal/reflectlite.TypeOf", "internal/reflectlite.ValueOf", "(internal/reflectlite.Value).Type", "(internal/reflectlite.Value).IsNil", "(internal/reflectlite.Value).Elem", "(internal/reflectlite.Value).Set"], unfollowed := true, recurses := true, named := ["errors.errorType"], apart := false, laid := [("errors.errorType", laid_errors_errorType)] }
def HullRoundSaid : Prop := hullRoundRow.holds Tryd.pinned (OpenSpec.ofChange hullRoundSpec)

/-- ITS FALSE NEIGHBOUR: 'it returns false'. Refute it at one input. -/
def hullRoundWrong : ChangeSpec := { name := "hullRound", fn := fun _ => fun
  | [d] => { results := [.lit (.bool false)], args := [d] }
  | _ => none }
def HullRoundWrongFalsely : Prop := hullRoundRow.holds Tryd.pinned (OpenSpec.ofChange hullRoundWrong)

/-- 'pergolalaw21.HullTurns': WHATEVER THE INPUT: true; the input reads as it did. -/
def hullTurnsSpec : ChangeSpec := { name := "hullTurns", fn := fun _ => fun
  | [d1, d2] => { results := [.lit (.bool true)], args := [d1, d2] }
  | _ => none }
def hullTurnsRow : OpenClaim := { program := "ytogflfepkddbhaadoor", sum := "a5fda74b27b0fe8ba245c906b181f1936530044f119458c8d4ac1e5c8c1328fa", func := "pergola/pergolalaw21.HullTurns", spec := "hullTurns", inPlace := ["internal/reflectlite.TypeOf", "internal/reflectlite.ValueOf", "(internal/reflectlite.Value).Type", "(internal/reflectlite.Value).IsNil", "(internal/reflectlite.Value).Elem", "(internal/reflectlite.Value).Set"], unfollowed := true, recurses := true, named := ["errors.errorType"], apart := false, laid := [("errors.errorType", laid_errors_errorType)] }
def HullTurnsSaid : Prop := hullTurnsRow.holds Tryd.pinned (OpenSpec.ofChange hullTurnsSpec)

/-- ITS FALSE NEIGHBOUR: 'it returns false'. Refute it at one input. -/
def hullTurnsWrong : ChangeSpec := { name := "hullTurns", fn := fun _ => fun
  | [d1, d2] => { results := [.lit (.bool false)], args := [d1, d2] }
  | _ => none }
def HullTurnsWrongFalsely : Prop := hullTurnsRow.holds Tryd.pinned (OpenSpec.ofChange hullTurnsWrong)

/-- 'pergolalaw21.HullBoxes': WHATEVER THE INPUT: true; the input reads as it did. -/
def hullBoxesSpec : ChangeSpec := { name := "hullBoxes", fn := fun _ => fun
  | [d1, d2] => { results := [.lit (.bool true)], args := [d1, d2] }
  | _ => none }
def hullBoxesRow : OpenClaim := { program := "ytogflfepkddbhaadoor", sum := "a5fda74b27b0fe8ba245c906b181f1936530044f119458c8d4ac1e5c8c1328fa", func := "pergola/pergolalaw21.HullBoxes", spec := "hullBoxes", inPlace := ["internal/reflectlite.TypeOf", "internal/reflectlite.ValueOf", "(internal/reflectlite.Value).Type", "(internal/reflectlite.Value).IsNil", "(internal/reflectlite.Value).Elem", "(internal/reflectlite.Value).Set"], unfollowed := true, recurses := true, named := ["errors.errorType"], apart := false, laid := [("errors.errorType", laid_errors_errorType)] }
def HullBoxesSaid : Prop := hullBoxesRow.holds Tryd.pinned (OpenSpec.ofChange hullBoxesSpec)

/-- ITS FALSE NEIGHBOUR: 'it returns false'. Refute it at one input. -/
def hullBoxesWrong : ChangeSpec := { name := "hullBoxes", fn := fun _ => fun
  | [d1, d2] => { results := [.lit (.bool false)], args := [d1, d2] }
  | _ => none }
def HullBoxesWrongFalsely : Prop := hullBoxesRow.holds Tryd.pinned (OpenSpec.ofChange hullBoxesWrong)

/-- 'pergolalaw21.HullClose': WHATEVER THE INPUT: true; the input reads as it did. -/
def hullCloseSpec : ChangeSpec := { name := "hullClose", fn := fun _ => fun
  | [d1, d2, d3] => { results := [.lit (.bool true)], args := [d1, d2, d3] }
  | _ => none }
def hullCloseRow : OpenClaim := { program := "ytogflfepkddbhaadoor", sum := "a5fda74b27b0fe8ba245c906b181f1936530044f119458c8d4ac1e5c8c1328fa", func := "pergola/pergolalaw21.HullClose", spec := "hullClose", inPlace := ["internal/reflectlite.TypeOf", "internal/reflectlite.ValueOf", "(internal/reflectlite.Value).Type", "(internal/reflectlite.Value).IsNil", "(internal/reflectlite.Value).Elem", "(internal/reflectlite.Value).Set"], unfollowed := true, recurses := true, named := ["errors.errorType"], apart := false, laid := [("errors.errorType", laid_errors_errorType)] }
def HullCloseSaid : Prop := hullCloseRow.holds Tryd.pinned (OpenSpec.ofChange hullCloseSpec)

/-- ITS FALSE NEIGHBOUR: 'it returns false'. Refute it at one input. -/
def hullCloseWrong : ChangeSpec := { name := "hullClose", fn := fun _ => fun
  | [d1, d2, d3] => { results := [.lit (.bool false)], args := [d1, d2, d3] }
  | _ => none }
def HullCloseWrongFalsely : Prop := hullCloseRow.holds Tryd.pinned (OpenSpec.ofChange hullCloseWrong)

/- THE SECOND FORM. 'bulk': how many values and letters a reading holds, each counted each time it is reached (what is shared counts as often as it is met; a slice's spare places count too). A statement '..UptoSaid' is the law's where the arguments, and the package variables that the reading takes, are together of bulk at most 1048576: NARROWER than '..Said'. Prove '..Said' where nothing that the law and all that it calls make is longer than what came in: it says more and counts as full. Else prove '..UptoSaid'. A law counts once. -/
mutual
def uptoBulk {H : Type} : DataW H → Nat
  | .lit (.string bytes) => bytes.length + 1
  | .lit _ => 1
  | .nil => 1
  | .ptr d => uptoBulk d + 1
  | .slice elems spare => uptoBulkAll elems + uptoBulkAll spare + 1
  | .agg parts => uptoBulkAll parts + 1
  | .iface _ d => uptoBulk d + 1
  | .map entries => uptoBulkEntries entries + 1
  | .held _ => 1
def uptoBulkAll {H : Type} : List (DataW H) → Nat
  | [] => 0
  | d :: r => uptoBulk d + uptoBulkAll r
def uptoBulkEntries {H : Type} : List (Lit × DataW H) → Nat
  | [] => 0
  | x :: r => uptoBulkEntry x + uptoBulkEntries r
def uptoBulkEntry {H : Type} : Lit × DataW H → Nat
  | (.string bytes, d) => bytes.length + uptoBulk d + 1
  | (_, d) => uptoBulk d + 1
 end
def uptoSmall : (H : Type) → List (DataW H) → Bool := fun _ ds => decide (uptoBulkAll ds ≤ 1048576)
def OpenSpec.upto (s : _root_.Go.ChangeSpec) : _root_.Go.OpenSpec := { _root_.Go.OpenSpec.ofChange s with cond := some uptoSmall }

/-- 'pergolalaw21.HullRound', WHERE WHAT IT READS IS OF BULK AT MOST 1048576: true; the input reads as it did. -/
def hullRoundUptoRow : OpenClaim := { program := "ytogflfepkddbhaadoor", sum := "a5fda74b27b0fe8ba245c906b181f1936530044f119458c8d4ac1e5c8c1328fa", func := "pergola/pergolalaw21.HullRound", spec := "hullRound", inPlace := ["internal/reflectlite.TypeOf", "internal/reflectlite.ValueOf", "(internal/reflectlite.Value).Type", "(internal/reflectlite.Value).IsNil", "(internal/reflectlite.Value).Elem", "(internal/reflectlite.Value).Set"], unfollowed := true, recurses := true, named := ["errors.errorType"], apart := false, laid := [("errors.errorType", laid_errors_errorType)], narrowed := true }
def HullRoundUptoSaid : Prop := hullRoundUptoRow.holds Tryd.pinned (OpenSpec.upto hullRoundSpec)

/-- 'pergolalaw21.HullTurns', WHERE WHAT IT READS IS OF BULK AT MOST 1048576: true; the input reads as it did. -/
def hullTurnsUptoRow : OpenClaim := { program := "ytogflfepkddbhaadoor", sum := "a5fda74b27b0fe8ba245c906b181f1936530044f119458c8d4ac1e5c8c1328fa", func := "pergola/pergolalaw21.HullTurns", spec := "hullTurns", inPlace := ["internal/reflectlite.TypeOf", "internal/reflectlite.ValueOf", "(internal/reflectlite.Value).Type", "(internal/reflectlite.Value).IsNil", "(internal/reflectlite.Value).Elem", "(internal/reflectlite.Value).Set"], unfollowed := true, recurses := true, named := ["errors.errorType"], apart := false, laid := [("errors.errorType", laid_errors_errorType)], narrowed := true }
def HullTurnsUptoSaid : Prop := hullTurnsUptoRow.holds Tryd.pinned (OpenSpec.upto hullTurnsSpec)

/-- 'pergolalaw21.HullBoxes', WHERE WHAT IT READS IS OF BULK AT MOST 1048576: true; the input reads as it did. -/
def hullBoxesUptoRow : OpenClaim := { program := "ytogflfepkddbhaadoor", sum := "a5fda74b27b0fe8ba245c906b181f1936530044f119458c8d4ac1e5c8c1328fa", func := "pergola/pergolalaw21.HullBoxes", spec := "hullBoxes", inPlace := ["internal/reflectlite.TypeOf", "internal/reflectlite.ValueOf", "(internal/reflectlite.Value).Type", "(internal/reflectlite.Value).IsNil", "(internal/reflectlite.Value).Elem", "(internal/reflectlite.Value).Set"], unfollowed := true, recurses := true, named := ["errors.errorType"], apart := false, laid := [("errors.errorType", laid_errors_errorType)], narrowed := true }
def HullBoxesUptoSaid : Prop := hullBoxesUptoRow.holds Tryd.pinned (OpenSpec.upto hullBoxesSpec)

/-- 'pergolalaw21.HullClose', WHERE WHAT IT READS IS OF BULK AT MOST 1048576: true; the input reads as it did. -/
def hullCloseUptoRow : OpenClaim := { program := "ytogflfepkddbhaadoor", sum := "a5fda74b27b0fe8ba245c906b181f1936530044f119458c8d4ac1e5c8c1328fa", func := "pergola/pergolalaw21.HullClose", spec := "hullClose", inPlace := ["internal/reflectlite.TypeOf", "internal/reflectlite.ValueOf", "(internal/reflectlite.Value).Type", "(internal/reflectlite.Value).IsNil", "(internal/reflectlite.Value).Elem", "(internal/reflectlite.Value).Set"], unfollowed := true, recurses := true, named := ["errors.errorType"], apart := false, laid := [("errors.errorType", laid_errors_errorType)], narrowed := true }
def HullCloseUptoSaid : Prop := hullCloseUptoRow.holds Tryd.pinned (OpenSpec.upto hullCloseSpec)

end Rows
end Go.Proofs.YtogflfepkddbhaaDoor
