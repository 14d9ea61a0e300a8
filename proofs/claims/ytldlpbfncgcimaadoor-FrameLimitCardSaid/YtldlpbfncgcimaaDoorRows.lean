/-
  NARROWER THAN 'FOR EVERY INPUT', by the rows' own cells (each row's printed sentence says how): FrameAsks: laid · FrameTorn: laid · FrameFlips: laid · FrameLimit: laid · FrameAdds: laid · FrameRest: laid · CurveAsks: laid · CurveBack: laid · CurveNeighbours: laid · CurveGrows: laid · CurveQuarters: laid · CurveCentre: laid.
  DERIVED. THE GIVEN ROWS OF THIS SEAT. 12 by the template 'for every input the law returns true; each argument reads behind the call as it read before'; 0 by the template 'total and deterministic' (their statements: YtldlpbfncgcimaaDoorTotals.lean).
  GIVEN WITH THE SEED: the statements are not yours to turn. If you find one false, say at which input.
  Laid BY PROGRAM, IN A SANDBOX (cutbox-rows.mjs): the forced cells as the released guide's own fill.sh prints them over the translation 29574404acb267b5… (all of the seat's roots in one cut). By AI agents, Wed Nov 11 2026. No macro, syntax, notation, axiom, sorry.
-/
import Derived.Test.YtldlpbfncgcimaaDoorChecked
import GoSem.Claim
import GoSem.ClaimJoined
import GoSem.ClaimMapViews
import Derived.JoinedTies
import Derived.KernelRfl
namespace Go.Proofs.YtldlpbfncgcimaaDoor
/- THE CELL 'sum', in the pinned program and in every row, IS THE sha256 OF THE DUMP (.gsa) THAT YtldlpbfncgcimaaDoorProg.lean LOADS. Nothing in Lean hashes anything: it is a label: what it is worth is what the hold of that sum in a sandbox is worth. -/
noncomputable def Tryd.pinned : Pinned := { name := "ytldlpbfncgcimaadoor", sum := "29574404acb267b5f34ab19680bd302ecbb58be2e0ab98976a76bef342a6e9fe", checked := Tryd.checked }
namespace Rows
def none {H : Type} : Left H := { results := [], args := [] }

/- WHAT THE LISTED PACKAGE-LEVEL VARIABLES READ AS WHEN THE CALL BEGINS. Each datum BY PROGRAM (the guide's laid-datum.mjs) off the statement by which the dump's own 'gosem.cut.vars' lays the variable. In a bare row this is a premise. The card (YtldlpbfncgcimaaDoorCards.lean) ties it to the program's text. -/
def laid_errors_errorType {H : Type} : DataW H := .iface "internal/reflectlite.rtype" (.agg [.ptr (.lit (.string [101, 114, 114, 111, 114]))])
def laid_pergola_frame_table {H : Type} : DataW H := .agg [.lit (.int .u32 0), .lit (.int .u32 498536548), .lit (.int .u32 997073096), .lit (.int .u32 651767980), .lit (.int .u32 1994146192), .lit (.int .u32 1802195444), .lit (.int .u32 1303535960), .lit (.int .u32 1342533948), .lit (.int .u32 3988292384), .lit (.int .u32 4027552580), .lit (.int .u32 3604390888), .lit (.int .u32 3412177804), .lit (.int .u32 2607071920), .lit (.int .u32 2262029012), .lit (.int .u32 2685067896), .lit (.int .u32 3183342108)]

/-- 'pergolalaw9.FrameAsks': WHATEVER THE INPUT: true; the input reads as it did. -/
def frameAsksSpec : ChangeSpec := { name := "frameAsks", fn := fun _ => fun
  | [d1, d2] => { results := [.lit (.bool true)], args := [d1, d2] }
  | _ => none }
def frameAsksRow : OpenClaim := { program := "ytldlpbfncgcimaadoor", sum := "29574404acb267b5f34ab19680bd302ecbb58be2e0ab98976a76bef342a6e9fe", func := "pergola/pergolalaw9.FrameAsks", spec := "frameAsks", inPlace := ["internal/reflectlite.TypeOf", "internal/reflectlite.ValueOf", "(internal/reflectlite.Value).Type", "(internal/reflectlite.Value).IsNil", "(internal/reflectlite.Value).Elem", "(internal/reflectlite.Value).Set"], unfollowed := true, recurses := true, named := ["pergola/frame.table", "errors.errorType"], apart := false, laid := [("errors.errorType", laid_errors_errorType), ("pergola/frame.table", laid_pergola_frame_table)] }
def FrameAsksSaid : Prop := frameAsksRow.holds Tryd.pinned (OpenSpec.ofChange frameAsksSpec)

/-- ITS FALSE NEIGHBOUR: 'it returns false'. Refute it at one input. -/
def frameAsksWrong : ChangeSpec := { name := "frameAsks", fn := fun _ => fun
  | [d1, d2] => { results := [.lit (.bool false)], args := [d1, d2] }
  | _ => none }
def FrameAsksWrongFalsely : Prop := frameAsksRow.holds Tryd.pinned (OpenSpec.ofChange frameAsksWrong)

/-- 'pergolalaw9.FrameTorn': WHATEVER THE INPUT: true; the input reads as it did. -/
def frameTornSpec : ChangeSpec := { name := "frameTorn", fn := fun _ => fun
  | [d1, d2] => { results := [.lit (.bool true)], args := [d1, d2] }
  | _ => none }
def frameTornRow : OpenClaim := { program := "ytldlpbfncgcimaadoor", sum := "29574404acb267b5f34ab19680bd302ecbb58be2e0ab98976a76bef342a6e9fe", func := "pergola/pergolalaw9.FrameTorn", spec := "frameTorn", inPlace := ["internal/reflectlite.TypeOf", "internal/reflectlite.ValueOf", "(internal/reflectlite.Value).Type", "(internal/reflectlite.Value).IsNil", "(internal/reflectlite.Value).Elem", "(internal/reflectlite.Value).Set"], unfollowed := true, recurses := true, named := ["pergola/frame.table", "errors.errorType"], apart := false, laid := [("errors.errorType", laid_errors_errorType), ("pergola/frame.table", laid_pergola_frame_table)] }
def FrameTornSaid : Prop := frameTornRow.holds Tryd.pinned (OpenSpec.ofChange frameTornSpec)

/-- ITS FALSE NEIGHBOUR: 'it returns false'. Refute it at one input. -/
def frameTornWrong : ChangeSpec := { name := "frameTorn", fn := fun _ => fun
  | [d1, d2] => { results := [.lit (.bool false)], args := [d1, d2] }
  | _ => none }
def FrameTornWrongFalsely : Prop := frameTornRow.holds Tryd.pinned (OpenSpec.ofChange frameTornWrong)

/-- 'pergolalaw9.FrameFlips': WHATEVER THE INPUT: true; the input reads as it did. -/
def frameFlipsSpec : ChangeSpec := { name := "frameFlips", fn := fun _ => fun
  | [d1, d2] => { results := [.lit (.bool true)], args := [d1, d2] }
  | _ => none }
def frameFlipsRow : OpenClaim := { program := "ytldlpbfncgcimaadoor", sum := "29574404acb267b5f34ab19680bd302ecbb58be2e0ab98976a76bef342a6e9fe", func := "pergola/pergolalaw9.FrameFlips", spec := "frameFlips", inPlace := ["internal/reflectlite.TypeOf", "internal/reflectlite.ValueOf", "(internal/reflectlite.Value).Type", "(internal/reflectlite.Value).IsNil", "(internal/reflectlite.Value).Elem", "(internal/reflectlite.Value).Set"], unfollowed := true, recurses := true, named := ["pergola/frame.table", "errors.errorType"], apart := false, laid := [("errors.errorType", laid_errors_errorType), ("pergola/frame.table", laid_pergola_frame_table)] }
def FrameFlipsSaid : Prop := frameFlipsRow.holds Tryd.pinned (OpenSpec.ofChange frameFlipsSpec)

/-- ITS FALSE NEIGHBOUR: 'it returns false'. Refute it at one input. -/
def frameFlipsWrong : ChangeSpec := { name := "frameFlips", fn := fun _ => fun
  | [d1, d2] => { results := [.lit (.bool false)], args := [d1, d2] }
  | _ => none }
def FrameFlipsWrongFalsely : Prop := frameFlipsRow.holds Tryd.pinned (OpenSpec.ofChange frameFlipsWrong)

/-- 'pergolalaw9.FrameLimit': WHATEVER THE INPUT: true; the input reads as it did. -/
def frameLimitSpec : ChangeSpec := { name := "frameLimit", fn := fun _ => fun
  | [d] => { results := [.lit (.bool true)], args := [d] }
  | _ => none }
def frameLimitRow : OpenClaim := { program := "ytldlpbfncgcimaadoor", sum := "29574404acb267b5f34ab19680bd302ecbb58be2e0ab98976a76bef342a6e9fe", func := "pergola/pergolalaw9.FrameLimit", spec := "frameLimit", inPlace := ["internal/reflectlite.TypeOf"], unfollowed := true, recurses := true, named := ["pergola/frame.table"], apart := false, laid := [("pergola/frame.table", laid_pergola_frame_table)] }
def FrameLimitSaid : Prop := frameLimitRow.holds Tryd.pinned (OpenSpec.ofChange frameLimitSpec)

/-- ITS FALSE NEIGHBOUR: 'it returns false'. Refute it at one input. -/
def frameLimitWrong : ChangeSpec := { name := "frameLimit", fn := fun _ => fun
  | [d] => { results := [.lit (.bool false)], args := [d] }
  | _ => none }
def FrameLimitWrongFalsely : Prop := frameLimitRow.holds Tryd.pinned (OpenSpec.ofChange frameLimitWrong)

/-- 'pergolalaw9.FrameAdds': WHATEVER THE INPUT: true; the input reads as it did. -/
def frameAddsSpec : ChangeSpec := { name := "frameAdds", fn := fun _ => fun
  | [d1, d2, d3] => { results := [.lit (.bool true)], args := [d1, d2, d3] }
  | _ => none }
def frameAddsRow : OpenClaim := { program := "ytldlpbfncgcimaadoor", sum := "29574404acb267b5f34ab19680bd302ecbb58be2e0ab98976a76bef342a6e9fe", func := "pergola/pergolalaw9.FrameAdds", spec := "frameAdds", named := ["pergola/frame.table"], apart := false, laid := [("pergola/frame.table", laid_pergola_frame_table)] }
def FrameAddsSaid : Prop := frameAddsRow.holds Tryd.pinned (OpenSpec.ofChange frameAddsSpec)

/-- ITS FALSE NEIGHBOUR: 'it returns false'. Refute it at one input. -/
def frameAddsWrong : ChangeSpec := { name := "frameAdds", fn := fun _ => fun
  | [d1, d2, d3] => { results := [.lit (.bool false)], args := [d1, d2, d3] }
  | _ => none }
def FrameAddsWrongFalsely : Prop := frameAddsRow.holds Tryd.pinned (OpenSpec.ofChange frameAddsWrong)

/-- 'pergolalaw9.FrameRest': WHATEVER THE INPUT: true; the input reads as it did. -/
def frameRestSpec : ChangeSpec := { name := "frameRest", fn := fun _ => fun
  | [d1, d2, d3] => { results := [.lit (.bool true)], args := [d1, d2, d3] }
  | _ => none }
def frameRestRow : OpenClaim := { program := "ytldlpbfncgcimaadoor", sum := "29574404acb267b5f34ab19680bd302ecbb58be2e0ab98976a76bef342a6e9fe", func := "pergola/pergolalaw9.FrameRest", spec := "frameRest", inPlace := ["internal/reflectlite.TypeOf", "internal/reflectlite.ValueOf", "(internal/reflectlite.Value).Type", "(internal/reflectlite.Value).IsNil", "(internal/reflectlite.Value).Elem", "(internal/reflectlite.Value).Set"], unfollowed := true, recurses := true, named := ["pergola/frame.table", "errors.errorType"], apart := false, laid := [("errors.errorType", laid_errors_errorType), ("pergola/frame.table", laid_pergola_frame_table)] }
def FrameRestSaid : Prop := frameRestRow.holds Tryd.pinned (OpenSpec.ofChange frameRestSpec)

/-- ITS FALSE NEIGHBOUR: 'it returns false'. Refute it at one input. -/
def frameRestWrong : ChangeSpec := { name := "frameRest", fn := fun _ => fun
  | [d1, d2, d3] => { results := [.lit (.bool false)], args := [d1, d2, d3] }
  | _ => none }
def FrameRestWrongFalsely : Prop := frameRestRow.holds Tryd.pinned (OpenSpec.ofChange frameRestWrong)

/-- 'pergolalaw19.CurveAsks': WHATEVER THE INPUT: true; the input reads as it did. -/
def curveAsksSpec : ChangeSpec := { name := "curveAsks", fn := fun _ => fun
  | [d1, d2, d3, d4] => { results := [.lit (.bool true)], args := [d1, d2, d3, d4] }
  | _ => none }
def curveAsksRow : OpenClaim := { program := "ytldlpbfncgcimaadoor", sum := "29574404acb267b5f34ab19680bd302ecbb58be2e0ab98976a76bef342a6e9fe", func := "pergola/pergolalaw19.CurveAsks", spec := "curveAsks", inPlace := ["internal/reflectlite.TypeOf", "internal/reflectlite.ValueOf", "(internal/reflectlite.Value).Type", "(internal/reflectlite.Value).IsNil", "(internal/reflectlite.Value).Elem", "(internal/reflectlite.Value).Set"], unfollowed := true, recurses := true, named := ["errors.errorType"], apart := false, laid := [("errors.errorType", laid_errors_errorType)] }
def CurveAsksSaid : Prop := curveAsksRow.holds Tryd.pinned (OpenSpec.ofChange curveAsksSpec)

/-- ITS FALSE NEIGHBOUR: 'it returns false'. Refute it at one input. -/
def curveAsksWrong : ChangeSpec := { name := "curveAsks", fn := fun _ => fun
  | [d1, d2, d3, d4] => { results := [.lit (.bool false)], args := [d1, d2, d3, d4] }
  | _ => none }
def CurveAsksWrongFalsely : Prop := curveAsksRow.holds Tryd.pinned (OpenSpec.ofChange curveAsksWrong)

/-- 'pergolalaw19.CurveBack': WHATEVER THE INPUT: true; the input reads as it did. -/
def curveBackSpec : ChangeSpec := { name := "curveBack", fn := fun _ => fun
  | [d1, d2, d3] => { results := [.lit (.bool true)], args := [d1, d2, d3] }
  | _ => none }
def curveBackRow : OpenClaim := { program := "ytldlpbfncgcimaadoor", sum := "29574404acb267b5f34ab19680bd302ecbb58be2e0ab98976a76bef342a6e9fe", func := "pergola/pergolalaw19.CurveBack", spec := "curveBack", inPlace := ["internal/reflectlite.TypeOf", "internal/reflectlite.ValueOf", "(internal/reflectlite.Value).Type", "(internal/reflectlite.Value).IsNil", "(internal/reflectlite.Value).Elem", "(internal/reflectlite.Value).Set"], unfollowed := true, recurses := true, named := ["errors.errorType"], apart := false, laid := [("errors.errorType", laid_errors_errorType)] }
def CurveBackSaid : Prop := curveBackRow.holds Tryd.pinned (OpenSpec.ofChange curveBackSpec)

/-- ITS FALSE NEIGHBOUR: 'it returns false'. Refute it at one input. -/
def curveBackWrong : ChangeSpec := { name := "curveBack", fn := fun _ => fun
  | [d1, d2, d3] => { results := [.lit (.bool false)], args := [d1, d2, d3] }
  | _ => none }
def CurveBackWrongFalsely : Prop := curveBackRow.holds Tryd.pinned (OpenSpec.ofChange curveBackWrong)

/-- 'pergolalaw19.CurveNeighbours': WHATEVER THE INPUT: true; the input reads as it did. -/
def curveNeighboursSpec : ChangeSpec := { name := "curveNeighbours", fn := fun _ => fun
  | [d1, d2] => { results := [.lit (.bool true)], args := [d1, d2] }
  | _ => none }
def curveNeighboursRow : OpenClaim := { program := "ytldlpbfncgcimaadoor", sum := "29574404acb267b5f34ab19680bd302ecbb58be2e0ab98976a76bef342a6e9fe", func := "pergola/pergolalaw19.CurveNeighbours", spec := "curveNeighbours", inPlace := ["internal/reflectlite.TypeOf", "internal/reflectlite.ValueOf", "(internal/reflectlite.Value).Type", "(internal/reflectlite.Value).IsNil", "(internal/reflectlite.Value).Elem", "(internal/reflectlite.Value).Set"], unfollowed := true, recurses := true, named := ["errors.errorType"], apart := false, laid := [("errors.errorType", laid_errors_errorType)] }
def CurveNeighboursSaid : Prop := curveNeighboursRow.holds Tryd.pinned (OpenSpec.ofChange curveNeighboursSpec)

/-- ITS FALSE NEIGHBOUR: 'it returns false'. Refute it at one input. -/
def curveNeighboursWrong : ChangeSpec := { name := "curveNeighbours", fn := fun _ => fun
  | [d1, d2] => { results := [.lit (.bool false)], args := [d1, d2] }
  | _ => none }
def CurveNeighboursWrongFalsely : Prop := curveNeighboursRow.holds Tryd.pinned (OpenSpec.ofChange curveNeighboursWrong)

/-- 'pergolalaw19.CurveGrows': WHATEVER THE INPUT: true; the input reads as it did. -/
def curveGrowsSpec : ChangeSpec := { name := "curveGrows", fn := fun _ => fun
  | [d1, d2] => { results := [.lit (.bool true)], args := [d1, d2] }
  | _ => none }
def curveGrowsRow : OpenClaim := { program := "ytldlpbfncgcimaadoor", sum := "29574404acb267b5f34ab19680bd302ecbb58be2e0ab98976a76bef342a6e9fe", func := "pergola/pergolalaw19.CurveGrows", spec := "curveGrows", inPlace := ["internal/reflectlite.TypeOf", "internal/reflectlite.ValueOf", "(internal/reflectlite.Value).Type", "(internal/reflectlite.Value).IsNil", "(internal/reflectlite.Value).Elem", "(internal/reflectlite.Value).Set"], unfollowed := true, recurses := true, named := ["errors.errorType"], apart := false, laid := [("errors.errorType", laid_errors_errorType)] }
def CurveGrowsSaid : Prop := curveGrowsRow.holds Tryd.pinned (OpenSpec.ofChange curveGrowsSpec)

/-- ITS FALSE NEIGHBOUR: 'it returns false'. Refute it at one input. -/
def curveGrowsWrong : ChangeSpec := { name := "curveGrows", fn := fun _ => fun
  | [d1, d2] => { results := [.lit (.bool false)], args := [d1, d2] }
  | _ => none }
def CurveGrowsWrongFalsely : Prop := curveGrowsRow.holds Tryd.pinned (OpenSpec.ofChange curveGrowsWrong)

/-- 'pergolalaw19.CurveQuarters': WHATEVER THE INPUT: true; the input reads as it did. -/
def curveQuartersSpec : ChangeSpec := { name := "curveQuarters", fn := fun _ => fun
  | [d1, d2, d3] => { results := [.lit (.bool true)], args := [d1, d2, d3] }
  | _ => none }
def curveQuartersRow : OpenClaim := { program := "ytldlpbfncgcimaadoor", sum := "29574404acb267b5f34ab19680bd302ecbb58be2e0ab98976a76bef342a6e9fe", func := "pergola/pergolalaw19.CurveQuarters", spec := "curveQuarters", inPlace := ["internal/reflectlite.TypeOf", "internal/reflectlite.ValueOf", "(internal/reflectlite.Value).Type", "(internal/reflectlite.Value).IsNil", "(internal/reflectlite.Value).Elem", "(internal/reflectlite.Value).Set"], unfollowed := true, recurses := true, named := ["errors.errorType"], apart := false, laid := [("errors.errorType", laid_errors_errorType)] }
def CurveQuartersSaid : Prop := curveQuartersRow.holds Tryd.pinned (OpenSpec.ofChange curveQuartersSpec)

/-- ITS FALSE NEIGHBOUR: 'it returns false'. Refute it at one input. -/
def curveQuartersWrong : ChangeSpec := { name := "curveQuarters", fn := fun _ => fun
  | [d1, d2, d3] => { results := [.lit (.bool false)], args := [d1, d2, d3] }
  | _ => none }
def CurveQuartersWrongFalsely : Prop := curveQuartersRow.holds Tryd.pinned (OpenSpec.ofChange curveQuartersWrong)

/-- 'pergolalaw19.CurveCentre': WHATEVER THE INPUT: true; the input reads as it did. -/
def curveCentreSpec : ChangeSpec := { name := "curveCentre", fn := fun _ => fun
  | [d] => { results := [.lit (.bool true)], args := [d] }
  | _ => none }
def curveCentreRow : OpenClaim := { program := "ytldlpbfncgcimaadoor", sum := "29574404acb267b5f34ab19680bd302ecbb58be2e0ab98976a76bef342a6e9fe", func := "pergola/pergolalaw19.CurveCentre", spec := "curveCentre", inPlace := ["internal/reflectlite.TypeOf", "internal/reflectlite.ValueOf", "(internal/reflectlite.Value).Type", "(internal/reflectlite.Value).IsNil", "(internal/reflectlite.Value).Elem", "(internal/reflectlite.Value).Set"], unfollowed := true, recurses := true, named := ["errors.errorType"], apart := false, laid := [("errors.errorType", laid_errors_errorType)] }
def CurveCentreSaid : Prop := curveCentreRow.holds Tryd.pinned (OpenSpec.ofChange curveCentreSpec)

/-- ITS FALSE NEIGHBOUR: 'it returns false'. Refute it at one input. -/
def curveCentreWrong : ChangeSpec := { name := "curveCentre", fn := fun _ => fun
  | [d] => { results := [.lit (.bool false)], args := [d] }
  | _ => none }
def CurveCentreWrongFalsely : Prop := curveCentreRow.holds Tryd.pinned (OpenSpec.ofChange curveCentreWrong)

/- THE SECOND FORM. 'bulk': how many values and letters a reading holds, each counted each time it is reached (what is shared counts as often as it is met; a slice's spare places count too). A statement '..UptoSaid' is the law's where the arguments, and the package variables that the reading takes, are together of bulk at most 1048576: NARROWER than '..Said'. Prove '..Said' where nothing that the law and all that it calls make is longer than what came in: it says more and counts as full. Else prove '..UptoSaid'. A law counts once. -/
mutual
def uptoBulk {H : Type} : DataW H → Nat
  | .lit (.string bytes) => bytes.length + 1
  | .lit _ => 1
  | .nil => 1
  | .ptr d => uptoBulk d + 1
  | .slice elems spare => uptoBulkAll elems + uptoBulkAll spare + 1
  | .agg parts => uptoBulkAll parts + 1
  | .iface _ d => uptoBulk d + 1
  | .map entries => uptoBulkEntries entries + 1
  | .held _ => 1
def uptoBulkAll {H : Type} : List (DataW H) → Nat
  | [] => 0
  | d :: r => uptoBulk d + uptoBulkAll r
def uptoBulkEntries {H : Type} : List (Lit × DataW H) → Nat
  | [] => 0
  | x :: r => uptoBulkEntry x + uptoBulkEntries r
def uptoBulkEntry {H : Type} : Lit × DataW H → Nat
  | (.string bytes, d) => bytes.length + uptoBulk d + 1
  | (_, d) => uptoBulk d + 1
 end
def uptoSmall : (H : Type) → List (DataW H) → Bool := fun _ ds => decide (uptoBulkAll ds ≤ 1048576)
def OpenSpec.upto (s : _root_.Go.ChangeSpec) : _root_.Go.OpenSpec := { _root_.Go.OpenSpec.ofChange s with cond := some uptoSmall }

/-- 'pergolalaw9.FrameAsks', WHERE WHAT IT READS IS OF BULK AT MOST 1048576: true; the input reads as it did. -/
def frameAsksUptoRow : OpenClaim := { program := "ytldlpbfncgcimaadoor", sum := "29574404acb267b5f34ab19680bd302ecbb58be2e0ab98976a76bef342a6e9fe", func := "pergola/pergolalaw9.FrameAsks", spec := "frameAsks", inPlace := ["internal/reflectlite.TypeOf", "internal/reflectlite.ValueOf", "(internal/reflectlite.Value).Type", "(internal/reflectlite.Value).IsNil", "(internal/reflectlite.Value).Elem", "(internal/reflectlite.Value).Set"], unfollowed := true, recurses := true, named := ["pergola/frame.table", "errors.errorType"], apart := false, laid := [("errors.errorType", laid_errors_errorType), ("pergola/frame.table", laid_pergola_frame_table)], narrowed := true }
def FrameAsksUptoSaid : Prop := frameAsksUptoRow.holds Tryd.pinned (OpenSpec.upto frameAsksSpec)

/-- 'pergolalaw9.FrameTorn', WHERE WHAT IT READS IS OF BULK AT MOST 1048576: true; the input reads as it did. -/
def frameTornUptoRow : OpenClaim := { program := "ytldlpbfncgcimaadoor", sum := "29574404acb267b5f34ab19680bd302ecbb58be2e0ab98976a76bef342a6e9fe", func := "pergola/pergolalaw9.FrameTorn", spec := "frameTorn", inPlace := ["internal/reflectlite.TypeOf", "internal/reflectlite.ValueOf", "(internal/reflectlite.Value).Type", "(internal/reflectlite.Value).IsNil", "(internal/reflectlite.Value).Elem", "(internal/reflectlite.Value).Set"], unfollowed := true, recurses := true, named := ["pergola/frame.table", "errors.errorType"], apart := false, laid := [("errors.errorType", laid_errors_errorType), ("pergola/frame.table", laid_pergola_frame_table)], narrowed := true }
def FrameTornUptoSaid : Prop := frameTornUptoRow.holds Tryd.pinned (OpenSpec.upto frameTornSpec)

/-- 'pergolalaw9.FrameFlips', WHERE WHAT IT READS IS OF BULK AT MOST 1048576: true; the input reads as it did. -/
def frameFlipsUptoRow : OpenClaim := { program := "ytldlpbfncgcimaadoor", sum := "29574404acb267b5f34ab19680bd302ecbb58be2e0ab98976a76bef342a6e9fe", func := "pergola/pergolalaw9.FrameFlips", spec := "frameFlips", inPlace := ["internal/reflectlite.TypeOf", "internal/reflectlite.ValueOf", "(internal/reflectlite.Value).Type", "(internal/reflectlite.Value).IsNil", "(internal/reflectlite.Value).Elem", "(internal/reflectlite.Value).Set"], unfollowed := true, recurses := true, named := ["pergola/frame.table", "errors.errorType"], apart := false, laid := [("errors.errorType", laid_errors_errorType), ("pergola/frame.table", laid_pergola_frame_table)], narrowed := true }
def FrameFlipsUptoSaid : Prop := frameFlipsUptoRow.holds Tryd.pinned (OpenSpec.upto frameFlipsSpec)

/-- 'pergolalaw9.FrameLimit', WHERE WHAT IT READS IS OF BULK AT MOST 1048576: true; the input reads as it did. -/
def frameLimitUptoRow : OpenClaim := { program := "ytldlpbfncgcimaadoor", sum := "29574404acb267b5f34ab19680bd302ecbb58be2e0ab98976a76bef342a6e9fe", func := "pergola/pergolalaw9.FrameLimit", spec := "frameLimit", inPlace := ["internal/reflectlite.TypeOf"], unfollowed := true, recurses := true, named := ["pergola/frame.table"], apart := false, laid := [("pergola/frame.table", laid_pergola_frame_table)], narrowed := true }
def FrameLimitUptoSaid : Prop := frameLimitUptoRow.holds Tryd.pinned (OpenSpec.upto frameLimitSpec)

/-- 'pergolalaw9.FrameAdds', WHERE WHAT IT READS IS OF BULK AT MOST 1048576: true; the input reads as it did. -/
def frameAddsUptoRow : OpenClaim := { program := "ytldlpbfncgcimaadoor", sum := "29574404acb267b5f34ab19680bd302ecbb58be2e0ab98976a76bef342a6e9fe", func := "pergola/pergolalaw9.FrameAdds", spec := "frameAdds", named := ["pergola/frame.table"], apart := false, laid := [("pergola/frame.table", laid_pergola_frame_table)], narrowed := true }
def FrameAddsUptoSaid : Prop := frameAddsUptoRow.holds Tryd.pinned (OpenSpec.upto frameAddsSpec)

/-- 'pergolalaw9.FrameRest', WHERE WHAT IT READS IS OF BULK AT MOST 1048576: true; the input reads as it did. -/
def frameRestUptoRow : OpenClaim := { program := "ytldlpbfncgcimaadoor", sum := "29574404acb267b5f34ab19680bd302ecbb58be2e0ab98976a76bef342a6e9fe", func := "pergola/pergolalaw9.FrameRest", spec := "frameRest", inPlace := ["internal/reflectlite.TypeOf", "internal/reflectlite.ValueOf", "(internal/reflectlite.Value).Type", "(internal/reflectlite.Value).IsNil", "(internal/reflectlite.Value).Elem", "(internal/reflectlite.Value).Set"], unfollowed := true, recurses := true, named := ["pergola/frame.table", "errors.errorType"], apart := false, laid := [("errors.errorType", laid_errors_errorType), ("pergola/frame.table", laid_pergola_frame_table)], narrowed := true }
def FrameRestUptoSaid : Prop := frameRestUptoRow.holds Tryd.pinned (OpenSpec.upto frameRestSpec)

/-- 'pergolalaw19.CurveAsks', WHERE WHAT IT READS IS OF BULK AT MOST 1048576: true; the input reads as it did. -/
def curveAsksUptoRow : OpenClaim := { program := "ytldlpbfncgcimaadoor", sum := "29574404acb267b5f34ab19680bd302ecbb58be2e0ab98976a76bef342a6e9fe", func := "pergola/pergolalaw19.CurveAsks", spec := "curveAsks", inPlace := ["internal/reflectlite.TypeOf", "internal/reflectlite.ValueOf", "(internal/reflectlite.Value).Type", "(internal/reflectlite.Value).IsNil", "(internal/reflectlite.Value).Elem", "(internal/reflectlite.Value).Set"], unfollowed := true, recurses := true, named := ["errors.errorType"], apart := false, laid := [("errors.errorType", laid_errors_errorType)], narrowed := true }
def CurveAsksUptoSaid : Prop := curveAsksUptoRow.holds Tryd.pinned (OpenSpec.upto curveAsksSpec)

/-- 'pergolalaw19.CurveBack', WHERE WHAT IT READS IS OF BULK AT MOST 1048576: true; the input reads as it did. -/
def curveBackUptoRow : OpenClaim := { program := "ytldlpbfncgcimaadoor", sum := "29574404acb267b5f34ab19680bd302ecbb58be2e0ab98976a76bef342a6e9fe", func := "pergola/pergolalaw19.CurveBack", spec := "curveBack", inPlace := ["internal/reflectlite.TypeOf", "internal/reflectlite.ValueOf", "(internal/reflectlite.Value).Type", "(internal/reflectlite.Value).IsNil", "(internal/reflectlite.Value).Elem", "(internal/reflectlite.Value).Set"], unfollowed := true, recurses := true, named := ["errors.errorType"], apart := false, laid := [("errors.errorType", laid_errors_errorType)], narrowed := true }
def CurveBackUptoSaid : Prop := curveBackUptoRow.holds Tryd.pinned (OpenSpec.upto curveBackSpec)

/-- 'pergolalaw19.CurveNeighbours', WHERE WHAT IT READS IS OF BULK AT MOST 1048576: true; the input reads as it did. -/
def curveNeighboursUptoRow : OpenClaim := { program := "ytldlpbfncgcimaadoor", sum := "29574404acb267b5f34ab19680bd302ecbb58be2e0ab98976a76bef342a6e9fe", func := "pergola/pergolalaw19.CurveNeighbours", spec := "curveNeighbours", inPlace := ["internal/reflectlite.TypeOf", "internal/reflectlite.ValueOf", "(internal/reflectlite.Value).Type", "(internal/reflectlite.Value).IsNil", "(internal/reflectlite.Value).Elem", "(internal/reflectlite.Value).Set"], unfollowed := true, recurses := true, named := ["errors.errorType"], apart := false, laid := [("errors.errorType", laid_errors_errorType)], narrowed := true }
def CurveNeighboursUptoSaid : Prop := curveNeighboursUptoRow.holds Tryd.pinned (OpenSpec.upto curveNeighboursSpec)

/-- 'pergolalaw19.CurveGrows', WHERE WHAT IT READS IS OF BULK AT MOST 1048576: true; the input reads as it did. -/
def curveGrowsUptoRow : OpenClaim := { program := "ytldlpbfncgcimaadoor", sum := "29574404acb267b5f34ab19680bd302ecbb58be2e0ab98976a76bef342a6e9fe", func := "pergola/pergolalaw19.CurveGrows", spec := "curveGrows", inPlace := ["internal/reflectlite.TypeOf", "internal/reflectlite.ValueOf", "(internal/reflectlite.Value).Type", "(internal/reflectlite.Value).IsNil", "(internal/reflectlite.Value).Elem", "(internal/reflectlite.Value).Set"], unfollowed := true, recurses := true, named := ["errors.errorType"], apart := false, laid := [("errors.errorType", laid_errors_errorType)], narrowed := true }
def CurveGrowsUptoSaid : Prop := curveGrowsUptoRow.holds Tryd.pinned (OpenSpec.upto curveGrowsSpec)

/-- 'pergolalaw19.CurveQuarters', WHERE WHAT IT READS IS OF BULK AT MOST 1048576: true; the input reads as it did. -/
def curveQuartersUptoRow : OpenClaim := { program := "ytldlpbfncgcimaadoor", sum := "29574404acb267b5f34ab19680bd302ecbb58be2e0ab98976a76bef342a6e9fe", func := "pergola/pergolalaw19.CurveQuarters", spec := "curveQuarters", inPlace := ["internal/reflectlite.TypeOf", "internal/reflectlite.ValueOf", "(internal/reflectlite.Value).Type", "(internal/reflectlite.Value).IsNil", "(internal/reflectlite.Value).Elem", "(internal/reflectlite.Value).Set"], unfollowed := true, recurses := true, named := ["errors.errorType"], apart := false, laid := [("errors.errorType", laid_errors_errorType)], narrowed := true }
def CurveQuartersUptoSaid : Prop := curveQuartersUptoRow.holds Tryd.pinned (OpenSpec.upto curveQuartersSpec)

/-- 'pergolalaw19.CurveCentre', WHERE WHAT IT READS IS OF BULK AT MOST 1048576: true; the input reads as it did. -/
def curveCentreUptoRow : OpenClaim := { program := "ytldlpbfncgcimaadoor", sum := "29574404acb267b5f34ab19680bd302ecbb58be2e0ab98976a76bef342a6e9fe", func := "pergola/pergolalaw19.CurveCentre", spec := "curveCentre", inPlace := ["internal/reflectlite.TypeOf", "internal/reflectlite.ValueOf", "(internal/reflectlite.Value).Type", "(internal/reflectlite.Value).IsNil", "(internal/reflectlite.Value).Elem", "(internal/reflectlite.Value).Set"], unfollowed := true, recurses := true, named := ["errors.errorType"], apart := false, laid := [("errors.errorType", laid_errors_errorType)], narrowed := true }
def CurveCentreUptoSaid : Prop := curveCentreUptoRow.holds Tryd.pinned (OpenSpec.upto curveCentreSpec)

end Rows
end Go.Proofs.YtldlpbfncgcimaaDoor
