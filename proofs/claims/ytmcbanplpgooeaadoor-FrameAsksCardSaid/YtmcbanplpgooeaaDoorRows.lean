/-
  NARROWER THAN 'FOR EVERY INPUT', by the rows' own cells (each row's printed sentence says how): RingAsks: laid · RingTurns: laid · RingBoxes: laid · RingCuts: laid · RingLimits: laid · RingEdges: laid · RingMoves: laid · FaultWraps: laid · FaultJoins: laid · EncObjects: laid · EncChanges: laid · FrameAsks: laid · FrameTorn: laid · FrameFlips: laid · FrameRest: laid · DiskPlays: laid · DiskCuts: laid.
  DERIVED. THE GIVEN ROWS OF THIS SEAT. 17 by the template 'for every input the law returns true; each argument reads behind the call as it read before'; 0 by the template 'total and deterministic' (their statements: YtmcbanplpgooeaaDoorTotals.lean).
  GIVEN WITH THE SEED: the statements are not yours to turn. If you find one false, say at which input.
  Laid BY PROGRAM, IN A SANDBOX (cutbox-rows.mjs): the forced cells as the released guide's own fill.sh prints them over the translation d6ecacaec3029919… (all of the seat's roots in one cut). By AI agents, Wed Nov 11 2026. No macro, syntax, notation, axiom, sorry.
-/
import Derived.Test.YtmcbanplpgooeaaDoorChecked
import GoSem.Claim
import GoSem.ClaimJoined
import GoSem.ClaimMapViews
import Derived.JoinedTies
import Derived.KernelRfl
namespace Go.Proofs.YtmcbanplpgooeaaDoor
/- THE CELL 'sum', in the pinned program and in every row, IS THE sha256 OF THE DUMP (.gsa) THAT YtmcbanplpgooeaaDoorProg.lean LOADS. Nothing in Lean hashes anything: it is a label: what it is worth is what the hold of that sum in a sandbox is worth. -/
noncomputable def Tryd.pinned : Pinned := { name := "ytmcbanplpgooeaadoor", sum := "d6ecacaec3029919f053f85e308a3ea9a3375c30bd22c8dc9d5abdb64c511a71", checked := Tryd.checked }
namespace Rows
def none {H : Type} : Left H := { results := [], args := [] }

/- WHAT THE LISTED PACKAGE-LEVEL VARIABLES READ AS WHEN THE CALL BEGINS. Each datum BY PROGRAM (the guide's laid-datum.mjs) off the statement by which the dump's own 'gosem.cut.vars' lays the variable. In a bare row this is a premise. The card (YtmcbanplpgooeaaDoorCards.lean) ties it to the program's text. -/
def laid_errors_errorType {H : Type} : DataW H := .iface "internal/reflectlite.rtype" (.agg [.ptr (.lit (.string [101, 114, 114, 111, 114]))])
def laid_pergola_frame_table {H : Type} : DataW H := .agg [.lit (.int .u32 0), .lit (.int .u32 498536548), .lit (.int .u32 997073096), .lit (.int .u32 651767980), .lit (.int .u32 1994146192), .lit (.int .u32 1802195444), .lit (.int .u32 1303535960), .lit (.int .u32 1342533948), .lit (.int .u32 3988292384), .lit (.int .u32 4027552580), .lit (.int .u32 3604390888), .lit (.int .u32 3412177804), .lit (.int .u32 2607071920), .lit (.int .u32 2262029012), .lit (.int .u32 2685067896), .lit (.int .u32 3183342108)]

/-- 'pergolalaw5.RingAsks': WHATEVER THE INPUT: true; the input reads as it did. -/
def ringAsksSpec : ChangeSpec := { name := "ringAsks", fn := fun _ => fun
  | [d1, d2] => { results := [.lit (.bool true)], args := [d1, d2] }
  | _ => none }
def ringAsksRow : OpenClaim := { program := "ytmcbanplpgooeaadoor", sum := "d6ecacaec3029919f053f85e308a3ea9a3375c30bd22c8dc9d5abdb64c511a71", func := "pergola/pergolalaw5.RingAsks", spec := "ringAsks", inPlace := ["internal/reflectlite.TypeOf", "internal/reflectlite.ValueOf", "(internal/reflectlite.Value).Type", "(internal/reflectlite.Value).IsNil", "(internal/reflectlite.Value).Elem", "(internal/reflectlite.Value).Set"], unfollowed := true, recurses := true, named := ["errors.errorType"], apart := false, laid := [("errors.errorType", laid_errors_errorType)] }
def RingAsksSaid : Prop := ringAsksRow.holds Tryd.pinned (OpenSpec.ofChange ringAsksSpec)

/-- ITS FALSE NEIGHBOUR: 'it returns false'. Refute it at one input. -/
def ringAsksWrong : ChangeSpec := { name := "ringAsks", fn := fun _ => fun
  | [d1, d2] => { results := [.lit (.bool false)], args := [d1, d2] }
  | _ => none }
def RingAsksWrongFalsely : Prop := ringAsksRow.holds Tryd.pinned (OpenSpec.ofChange ringAsksWrong)

/-- 'pergolalaw5.RingTurns': WHATEVER THE INPUT: true; the input reads as it did. -/
def ringTurnsSpec : ChangeSpec := { name := "ringTurns", fn := fun _ => fun
  | [d1, d2, d3] => { results := [.lit (.bool true)], args := [d1, d2, d3] }
  | _ => none }
def ringTurnsRow : OpenClaim := { program := "ytmcbanplpgooeaadoor", sum := "d6ecacaec3029919f053f85e308a3ea9a3375c30bd22c8dc9d5abdb64c511a71", func := "pergola/pergolalaw5.RingTurns", spec := "ringTurns", inPlace := ["internal/reflectlite.TypeOf", "internal/reflectlite.ValueOf", "(internal/reflectlite.Value).Type", "(internal/reflectlite.Value).IsNil", "(internal/reflectlite.Value).Elem", "(internal/reflectlite.Value).Set"], unfollowed := true, recurses := true, named := ["errors.errorType"], apart := false, laid := [("errors.errorType", laid_errors_errorType)] }
def RingTurnsSaid : Prop := ringTurnsRow.holds Tryd.pinned (OpenSpec.ofChange ringTurnsSpec)

/-- ITS FALSE NEIGHBOUR: 'it returns false'. Refute it at one input. -/
def ringTurnsWrong : ChangeSpec := { name := "ringTurns", fn := fun _ => fun
  | [d1, d2, d3] => { results := [.lit (.bool false)], args := [d1, d2, d3] }
  | _ => none }
def RingTurnsWrongFalsely : Prop := ringTurnsRow.holds Tryd.pinned (OpenSpec.ofChange ringTurnsWrong)

/-- 'pergolalaw5.RingBoxes': WHATEVER THE INPUT: true; the input reads as it did. -/
def ringBoxesSpec : ChangeSpec := { name := "ringBoxes", fn := fun _ => fun
  | [d1, d2] => { results := [.lit (.bool true)], args := [d1, d2] }
  | _ => none }
def ringBoxesRow : OpenClaim := { program := "ytmcbanplpgooeaadoor", sum := "d6ecacaec3029919f053f85e308a3ea9a3375c30bd22c8dc9d5abdb64c511a71", func := "pergola/pergolalaw5.RingBoxes", spec := "ringBoxes", inPlace := ["internal/reflectlite.TypeOf", "internal/reflectlite.ValueOf", "(internal/reflectlite.Value).Type", "(internal/reflectlite.Value).IsNil", "(internal/reflectlite.Value).Elem", "(internal/reflectlite.Value).Set"], unfollowed := true, recurses := true, named := ["errors.errorType"], apart := false, laid := [("errors.errorType", laid_errors_errorType)] }
def RingBoxesSaid : Prop := ringBoxesRow.holds Tryd.pinned (OpenSpec.ofChange ringBoxesSpec)

/-- ITS FALSE NEIGHBOUR: 'it returns false'. Refute it at one input. -/
def ringBoxesWrong : ChangeSpec := { name := "ringBoxes", fn := fun _ => fun
  | [d1, d2] => { results := [.lit (.bool false)], args := [d1, d2] }
  | _ => none }
def RingBoxesWrongFalsely : Prop := ringBoxesRow.holds Tryd.pinned (OpenSpec.ofChange ringBoxesWrong)

/-- 'pergolalaw5.RingCuts': WHATEVER THE INPUT: true; the input reads as it did. -/
def ringCutsSpec : ChangeSpec := { name := "ringCuts", fn := fun _ => fun
  | [d1, d2] => { results := [.lit (.bool true)], args := [d1, d2] }
  | _ => none }
def ringCutsRow : OpenClaim := { program := "ytmcbanplpgooeaadoor", sum := "d6ecacaec3029919f053f85e308a3ea9a3375c30bd22c8dc9d5abdb64c511a71", func := "pergola/pergolalaw5.RingCuts", spec := "ringCuts", inPlace := ["internal/reflectlite.TypeOf", "internal/reflectlite.ValueOf", "(internal/reflectlite.Value).Type", "(internal/reflectlite.Value).IsNil", "(internal/reflectlite.Value).Elem", "(internal/reflectlite.Value).Set"], unfollowed := true, recurses := true, named := ["errors.errorType"], apart := false, laid := [("errors.errorType", laid_errors_errorType)] }
def RingCutsSaid : Prop := ringCutsRow.holds Tryd.pinned (OpenSpec.ofChange ringCutsSpec)

/-- ITS FALSE NEIGHBOUR: 'it returns false'. Refute it at one input. -/
def ringCutsWrong : ChangeSpec := { name := "ringCuts", fn := fun _ => fun
  | [d1, d2] => { results := [.lit (.bool false)], args := [d1, d2] }
  | _ => none }
def RingCutsWrongFalsely : Prop := ringCutsRow.holds Tryd.pinned (OpenSpec.ofChange ringCutsWrong)

/-- 'pergolalaw5.RingLimits': WHATEVER THE INPUT: true; the input reads as it did. -/
def ringLimitsSpec : ChangeSpec := { name := "ringLimits", fn := fun _ => fun
  | [d1, d2, d3] => { results := [.lit (.bool true)], args := [d1, d2, d3] }
  | _ => none }
def ringLimitsRow : OpenClaim := { program := "ytmcbanplpgooeaadoor", sum := "d6ecacaec3029919f053f85e308a3ea9a3375c30bd22c8dc9d5abdb64c511a71", func := "pergola/pergolalaw5.RingLimits", spec := "ringLimits", inPlace := ["internal/reflectlite.TypeOf", "internal/reflectlite.ValueOf", "(internal/reflectlite.Value).Type", "(internal/reflectlite.Value).IsNil", "(internal/reflectlite.Value).Elem", "(internal/reflectlite.Value).Set"], unfollowed := true, recurses := true, named := ["errors.errorType"], apart := false, laid := [("errors.errorType", laid_errors_errorType)] }
def RingLimitsSaid : Prop := ringLimitsRow.holds Tryd.pinned (OpenSpec.ofChange ringLimitsSpec)

/-- ITS FALSE NEIGHBOUR: 'it returns false'. Refute it at one input. -/
def ringLimitsWrong : ChangeSpec := { name := "ringLimits", fn := fun _ => fun
  | [d1, d2, d3] => { results := [.lit (.bool false)], args := [d1, d2, d3] }
  | _ => none }
def RingLimitsWrongFalsely : Prop := ringLimitsRow.holds Tryd.pinned (OpenSpec.ofChange ringLimitsWrong)

/-- 'pergolalaw5.RingEdges': WHATEVER THE INPUT: true; the input reads as it did. -/
def ringEdgesSpec : ChangeSpec := { name := "ringEdges", fn := fun _ => fun
  | [d1, d2, d3] => { results := [.lit (.bool true)], args := [d1, d2, d3] }
  | _ => none }
def ringEdgesRow : OpenClaim := { program := "ytmcbanplpgooeaadoor", sum := "d6ecacaec3029919f053f85e308a3ea9a3375c30bd22c8dc9d5abdb64c511a71", func := "pergola/pergolalaw5.RingEdges", spec := "ringEdges", inPlace := ["internal/reflectlite.TypeOf", "internal/reflectlite.ValueOf", "(internal/reflectlite.Value).Type", "(internal/reflectlite.Value).IsNil", "(internal/reflectlite.Value).Elem", "(internal/reflectlite.Value).Set"], unfollowed := true, recurses := true, named := ["errors.errorType"], apart := false, laid := [("errors.errorType", laid_errors_errorType)] }
def RingEdgesSaid : Prop := ringEdgesRow.holds Tryd.pinned (OpenSpec.ofChange ringEdgesSpec)

/-- ITS FALSE NEIGHBOUR: 'it returns false'. Refute it at one input. -/
def ringEdgesWrong : ChangeSpec := { name := "ringEdges", fn := fun _ => fun
  | [d1, d2, d3] => { results := [.lit (.bool false)], args := [d1, d2, d3] }
  | _ => none }
def RingEdgesWrongFalsely : Prop := ringEdgesRow.holds Tryd.pinned (OpenSpec.ofChange ringEdgesWrong)

/-- 'pergolalaw5.RingMoves': WHATEVER THE INPUT: true; the input reads as it did. -/
def ringMovesSpec : ChangeSpec := { name := "ringMoves", fn := fun _ => fun
  | [d1, d2, d3, d4] => { results := [.lit (.bool true)], args := [d1, d2, d3, d4] }
  | _ => none }
def ringMovesRow : OpenClaim := { program := "ytmcbanplpgooeaadoor", sum := "d6ecacaec3029919f053f85e308a3ea9a3375c30bd22c8dc9d5abdb64c511a71", func := "pergola/pergolalaw5.RingMoves", spec := "ringMoves", inPlace := ["internal/reflectlite.TypeOf", "internal/reflectlite.ValueOf", "(internal/reflectlite.Value).Type", "(internal/reflectlite.Value).IsNil", "(internal/reflectlite.Value).Elem", "(internal/reflectlite.Value).Set"], unfollowed := true, recurses := true, named := ["errors.errorType"], apart := false, laid := [("errors.errorType", laid_errors_errorType)] }
def RingMovesSaid : Prop := ringMovesRow.holds Tryd.pinned (OpenSpec.ofChange ringMovesSpec)

/-- ITS FALSE NEIGHBOUR: 'it returns false'. Refute it at one input. -/
def ringMovesWrong : ChangeSpec := { name := "ringMoves", fn := fun _ => fun
  | [d1, d2, d3, d4] => { results := [.lit (.bool false)], args := [d1, d2, d3, d4] }
  | _ => none }
def RingMovesWrongFalsely : Prop := ringMovesRow.holds Tryd.pinned (OpenSpec.ofChange ringMovesWrong)

/-- 'pergolalaw7.FaultWraps': WHATEVER THE INPUT: true; the input reads as it did. -/
def faultWrapsSpec : ChangeSpec := { name := "faultWraps", fn := fun _ => fun
  | [d1, d2, d3] => { results := [.lit (.bool true)], args := [d1, d2, d3] }
  | _ => none }
def faultWrapsRow : OpenClaim := { program := "ytmcbanplpgooeaadoor", sum := "d6ecacaec3029919f053f85e308a3ea9a3375c30bd22c8dc9d5abdb64c511a71", func := "pergola/pergolalaw7.FaultWraps", spec := "faultWraps", inPlace := ["internal/reflectlite.ValueOf", "(internal/reflectlite.Value).Type", "(internal/reflectlite.Value).IsNil", "internal/reflectlite.TypeOf", "(internal/reflectlite.Value).Elem", "(internal/reflectlite.Value).Set"], unfollowed := true, recurses := true, named := ["errors.errorType"], apart := false, laid := [("errors.errorType", laid_errors_errorType)] }
def FaultWrapsSaid : Prop := faultWrapsRow.holds Tryd.pinned (OpenSpec.ofChange faultWrapsSpec)

/-- ITS FALSE NEIGHBOUR: 'it returns false'. Refute it at one input. -/
def faultWrapsWrong : ChangeSpec := { name := "faultWraps", fn := fun _ => fun
  | [d1, d2, d3] => { results := [.lit (.bool false)], args := [d1, d2, d3] }
  | _ => none }
def FaultWrapsWrongFalsely : Prop := faultWrapsRow.holds Tryd.pinned (OpenSpec.ofChange faultWrapsWrong)

/-- 'pergolalaw7.FaultJoins': WHATEVER THE INPUT: true; the input reads as it did. -/
def faultJoinsSpec : ChangeSpec := { name := "faultJoins", fn := fun _ => fun
  | [d] => { results := [.lit (.bool true)], args := [d] }
  | _ => none }
def faultJoinsRow : OpenClaim := { program := "ytmcbanplpgooeaadoor", sum := "d6ecacaec3029919f053f85e308a3ea9a3375c30bd22c8dc9d5abdb64c511a71", func := "pergola/pergolalaw7.FaultJoins", spec := "faultJoins", inPlace := ["internal/reflectlite.TypeOf", "internal/reflectlite.ValueOf", "(internal/reflectlite.Value).Type", "(internal/reflectlite.Value).IsNil", "(internal/reflectlite.Value).Elem", "(internal/reflectlite.Value).Set"], unfollowed := true, recurses := true, named := ["errors.errorType"], apart := false, laid := [("errors.errorType", laid_errors_errorType)] }
def FaultJoinsSaid : Prop := faultJoinsRow.holds Tryd.pinned (OpenSpec.ofChange faultJoinsSpec)

/-- ITS FALSE NEIGHBOUR: 'it returns false'. Refute it at one input. -/
def faultJoinsWrong : ChangeSpec := { name := "faultJoins", fn := fun _ => fun
  | [d] => { results := [.lit (.bool false)], args := [d] }
  | _ => none }
def FaultJoinsWrongFalsely : Prop := faultJoinsRow.holds Tryd.pinned (OpenSpec.ofChange faultJoinsWrong)

/-- 'pergolalaw8.EncObjects': WHATEVER THE INPUT: true; the input reads as it did. -/
def encObjectsSpec : ChangeSpec := { name := "encObjects", fn := fun _ => fun
  | [d1, d2] => { results := [.lit (.bool true)], args := [d1, d2] }
  | _ => none }
def encObjectsRow : OpenClaim := { program := "ytmcbanplpgooeaadoor", sum := "d6ecacaec3029919f053f85e308a3ea9a3375c30bd22c8dc9d5abdb64c511a71", func := "pergola/pergolalaw8.EncObjects", spec := "encObjects", inPlace := ["internal/reflectlite.TypeOf", "internal/reflectlite.ValueOf", "(internal/reflectlite.Value).Type", "(internal/reflectlite.Value).IsNil", "(internal/reflectlite.Value).Elem", "(internal/reflectlite.Value).Set"], unfollowed := true, recurses := true, named := ["errors.errorType"], apart := false, laid := [("errors.errorType", laid_errors_errorType)] }
def EncObjectsSaid : Prop := encObjectsRow.holds Tryd.pinned (OpenSpec.ofChange encObjectsSpec)

/-- ITS FALSE NEIGHBOUR: 'it returns false'. Refute it at one input. -/
def encObjectsWrong : ChangeSpec := { name := "encObjects", fn := fun _ => fun
  | [d1, d2] => { results := [.lit (.bool false)], args := [d1, d2] }
  | _ => none }
def EncObjectsWrongFalsely : Prop := encObjectsRow.holds Tryd.pinned (OpenSpec.ofChange encObjectsWrong)

/-- 'pergolalaw8.EncChanges': WHATEVER THE INPUT: true; the input reads as it did. -/
def encChangesSpec : ChangeSpec := { name := "encChanges", fn := fun _ => fun
  | [d1, d2] => { results := [.lit (.bool true)], args := [d1, d2] }
  | _ => none }
def encChangesRow : OpenClaim := { program := "ytmcbanplpgooeaadoor", sum := "d6ecacaec3029919f053f85e308a3ea9a3375c30bd22c8dc9d5abdb64c511a71", func := "pergola/pergolalaw8.EncChanges", spec := "encChanges", inPlace := ["internal/reflectlite.TypeOf", "internal/reflectlite.ValueOf", "(internal/reflectlite.Value).Type", "(internal/reflectlite.Value).IsNil", "(internal/reflectlite.Value).Elem", "(internal/reflectlite.Value).Set"], unfollowed := true, recurses := true, named := ["errors.errorType"], apart := false, laid := [("errors.errorType", laid_errors_errorType)] }
def EncChangesSaid : Prop := encChangesRow.holds Tryd.pinned (OpenSpec.ofChange encChangesSpec)

/-- ITS FALSE NEIGHBOUR: 'it returns false'. Refute it at one input. -/
def encChangesWrong : ChangeSpec := { name := "encChanges", fn := fun _ => fun
  | [d1, d2] => { results := [.lit (.bool false)], args := [d1, d2] }
  | _ => none }
def EncChangesWrongFalsely : Prop := encChangesRow.holds Tryd.pinned (OpenSpec.ofChange encChangesWrong)

/-- 'pergolalaw9.FrameAsks': WHATEVER THE INPUT: true; the input reads as it did. -/
def frameAsksSpec : ChangeSpec := { name := "frameAsks", fn := fun _ => fun
  | [d1, d2] => { results := [.lit (.bool true)], args := [d1, d2] }
  | _ => none }
def frameAsksRow : OpenClaim := { program := "ytmcbanplpgooeaadoor", sum := "d6ecacaec3029919f053f85e308a3ea9a3375c30bd22c8dc9d5abdb64c511a71", func := "pergola/pergolalaw9.FrameAsks", spec := "frameAsks", inPlace := ["internal/reflectlite.TypeOf", "internal/reflectlite.ValueOf", "(internal/reflectlite.Value).Type", "(internal/reflectlite.Value).IsNil", "(internal/reflectlite.Value).Elem", "(internal/reflectlite.Value).Set"], unfollowed := true, recurses := true, named := ["pergola/frame.table", "errors.errorType"], apart := false, laid := [("errors.errorType", laid_errors_errorType), ("pergola/frame.table", laid_pergola_frame_table)] }
def FrameAsksSaid : Prop := frameAsksRow.holds Tryd.pinned (OpenSpec.ofChange frameAsksSpec)

/-- ITS FALSE NEIGHBOUR: 'it returns false'. Refute it at one input. -/
def frameAsksWrong : ChangeSpec := { name := "frameAsks", fn := fun _ => fun
  | [d1, d2] => { results := [.lit (.bool false)], args := [d1, d2] }
  | _ => none }
def FrameAsksWrongFalsely : Prop := frameAsksRow.holds Tryd.pinned (OpenSpec.ofChange frameAsksWrong)

/-- 'pergolalaw9.FrameTorn': WHATEVER THE INPUT: true; the input reads as it did. -/
def frameTornSpec : ChangeSpec := { name := "frameTorn", fn := fun _ => fun
  | [d1, d2] => { results := [.lit (.bool true)], args := [d1, d2] }
  | _ => none }
def frameTornRow : OpenClaim := { program := "ytmcbanplpgooeaadoor", sum := "d6ecacaec3029919f053f85e308a3ea9a3375c30bd22c8dc9d5abdb64c511a71", func := "pergola/pergolalaw9.FrameTorn", spec := "frameTorn", inPlace := ["internal/reflectlite.TypeOf", "internal/reflectlite.ValueOf", "(internal/reflectlite.Value).Type", "(internal/reflectlite.Value).IsNil", "(internal/reflectlite.Value).Elem", "(internal/reflectlite.Value).Set"], unfollowed := true, recurses := true, named := ["pergola/frame.table", "errors.errorType"], apart := false, laid := [("errors.errorType", laid_errors_errorType), ("pergola/frame.table", laid_pergola_frame_table)] }
def FrameTornSaid : Prop := frameTornRow.holds Tryd.pinned (OpenSpec.ofChange frameTornSpec)

/-- ITS FALSE NEIGHBOUR: 'it returns false'. Refute it at one input. -/
def frameTornWrong : ChangeSpec := { name := "frameTorn", fn := fun _ => fun
  | [d1, d2] => { results := [.lit (.bool false)], args := [d1, d2] }
  | _ => none }
def FrameTornWrongFalsely : Prop := frameTornRow.holds Tryd.pinned (OpenSpec.ofChange frameTornWrong)

/-- 'pergolalaw9.FrameFlips': WHATEVER THE INPUT: true; the input reads as it did. -/
def frameFlipsSpec : ChangeSpec := { name := "frameFlips", fn := fun _ => fun
  | [d1, d2] => { results := [.lit (.bool true)], args := [d1, d2] }
  | _ => none }
def frameFlipsRow : OpenClaim := { program := "ytmcbanplpgooeaadoor", sum := "d6ecacaec3029919f053f85e308a3ea9a3375c30bd22c8dc9d5abdb64c511a71", func := "pergola/pergolalaw9.FrameFlips", spec := "frameFlips", inPlace := ["internal/reflectlite.TypeOf", "internal/reflectlite.ValueOf", "(internal/reflectlite.Value).Type", "(internal/reflectlite.Value).IsNil", "(internal/reflectlite.Value).Elem", "(internal/reflectlite.Value).Set"], unfollowed := true, recurses := true, named := ["pergola/frame.table", "errors.errorType"], apart := false, laid := [("errors.errorType", laid_errors_errorType), ("pergola/frame.table", laid_pergola_frame_table)] }
def FrameFlipsSaid : Prop := frameFlipsRow.holds Tryd.pinned (OpenSpec.ofChange frameFlipsSpec)

/-- ITS FALSE NEIGHBOUR: 'it returns false'. Refute it at one input. -/
def frameFlipsWrong : ChangeSpec := { name := "frameFlips", fn := fun _ => fun
  | [d1, d2] => { results := [.lit (.bool false)], args := [d1, d2] }
  | _ => none }
def FrameFlipsWrongFalsely : Prop := frameFlipsRow.holds Tryd.pinned (OpenSpec.ofChange frameFlipsWrong)

/-- 'pergolalaw9.FrameRest': WHATEVER THE INPUT: true; the input reads as it did. -/
def frameRestSpec : ChangeSpec := { name := "frameRest", fn := fun _ => fun
  | [d1, d2, d3] => { results := [.lit (.bool true)], args := [d1, d2, d3] }
  | _ => none }
def frameRestRow : OpenClaim := { program := "ytmcbanplpgooeaadoor", sum := "d6ecacaec3029919f053f85e308a3ea9a3375c30bd22c8dc9d5abdb64c511a71", func := "pergola/pergolalaw9.FrameRest", spec := "frameRest", inPlace := ["internal/reflectlite.TypeOf", "internal/reflectlite.ValueOf", "(internal/reflectlite.Value).Type", "(internal/reflectlite.Value).IsNil", "(internal/reflectlite.Value).Elem", "(internal/reflectlite.Value).Set"], unfollowed := true, recurses := true, named := ["pergola/frame.table", "errors.errorType"], apart := false, laid := [("errors.errorType", laid_errors_errorType), ("pergola/frame.table", laid_pergola_frame_table)] }
def FrameRestSaid : Prop := frameRestRow.holds Tryd.pinned (OpenSpec.ofChange frameRestSpec)

/-- ITS FALSE NEIGHBOUR: 'it returns false'. Refute it at one input. -/
def frameRestWrong : ChangeSpec := { name := "frameRest", fn := fun _ => fun
  | [d1, d2, d3] => { results := [.lit (.bool false)], args := [d1, d2, d3] }
  | _ => none }
def FrameRestWrongFalsely : Prop := frameRestRow.holds Tryd.pinned (OpenSpec.ofChange frameRestWrong)

/-- 'pergolalaw10.DiskPlays': WHATEVER THE INPUT: true; the input reads as it did. -/
def diskPlaysSpec : ChangeSpec := { name := "diskPlays", fn := fun _ => fun
  | [d1, d2] => { results := [.lit (.bool true)], args := [d1, d2] }
  | _ => none }
def diskPlaysRow : OpenClaim := { program := "ytmcbanplpgooeaadoor", sum := "d6ecacaec3029919f053f85e308a3ea9a3375c30bd22c8dc9d5abdb64c511a71", func := "pergola/pergolalaw10.DiskPlays", spec := "diskPlays", inPlace := ["internal/reflectlite.TypeOf", "internal/reflectlite.ValueOf", "(internal/reflectlite.Value).Type", "(internal/reflectlite.Value).IsNil", "(internal/reflectlite.Value).Elem", "(internal/reflectlite.Value).Set", "maps.clone"], unfollowed := true, recurses := true, named := ["errors.errorType"], apart := false, laid := [("errors.errorType", laid_errors_errorType)] }
def DiskPlaysSaid : Prop := diskPlaysRow.holds Tryd.pinned (OpenSpec.ofChange diskPlaysSpec)

/-- ITS FALSE NEIGHBOUR: 'it returns false'. Refute it at one input. -/
def diskPlaysWrong : ChangeSpec := { name := "diskPlays", fn := fun _ => fun
  | [d1, d2] => { results := [.lit (.bool false)], args := [d1, d2] }
  | _ => none }
def DiskPlaysWrongFalsely : Prop := diskPlaysRow.holds Tryd.pinned (OpenSpec.ofChange diskPlaysWrong)

/-- 'pergolalaw10.DiskCuts': WHATEVER THE INPUT: true; the input reads as it did. -/
def diskCutsSpec : ChangeSpec := { name := "diskCuts", fn := fun _ => fun
  | [d1, d2] => { results := [.lit (.bool true)], args := [d1, d2] }
  | _ => none }
def diskCutsRow : OpenClaim := { program := "ytmcbanplpgooeaadoor", sum := "d6ecacaec3029919f053f85e308a3ea9a3375c30bd22c8dc9d5abdb64c511a71", func := "pergola/pergolalaw10.DiskCuts", spec := "diskCuts", inPlace := ["internal/reflectlite.TypeOf", "internal/reflectlite.ValueOf", "(internal/reflectlite.Value).Type", "(internal/reflectlite.Value).IsNil", "(internal/reflectlite.Value).Elem", "(internal/reflectlite.Value).Set"], unfollowed := true, recurses := true, named := ["errors.errorType"], apart := false, laid := [("errors.errorType", laid_errors_errorType)] }
def DiskCutsSaid : Prop := diskCutsRow.holds Tryd.pinned (OpenSpec.ofChange diskCutsSpec)

/-- ITS FALSE NEIGHBOUR: 'it returns false'. Refute it at one input. -/
def diskCutsWrong : ChangeSpec := { name := "diskCuts", fn := fun _ => fun
  | [d1, d2] => { results := [.lit (.bool false)], args := [d1, d2] }
  | _ => none }
def DiskCutsWrongFalsely : Prop := diskCutsRow.holds Tryd.pinned (OpenSpec.ofChange diskCutsWrong)

/- THE SECOND FORM. 'bulk': how many values and letters a reading holds, each counted each time it is reached (what is shared counts as often as it is met; a slice's spare places count too). A statement '..UptoSaid' is the law's where the arguments, and the package variables that the reading takes, are together of bulk at most 1048576: NARROWER than '..Said'. Prove '..Said' where nothing that the law and all that it calls make is longer than what came in: it says more and counts as full. Else prove '..UptoSaid'. A law counts once. -/
mutual
def uptoBulk {H : Type} : DataW H → Nat
  | .lit (.string bytes) => bytes.length + 1
  | .lit _ => 1
  | .nil => 1
  | .ptr d => uptoBulk d + 1
  | .slice elems spare => uptoBulkAll elems + uptoBulkAll spare + 1
  | .agg parts => uptoBulkAll parts + 1
  | .iface _ d => uptoBulk d + 1
  | .map entries => uptoBulkEntries entries + 1
  | .held _ => 1
def uptoBulkAll {H : Type} : List (DataW H) → Nat
  | [] => 0
  | d :: r => uptoBulk d + uptoBulkAll r
def uptoBulkEntries {H : Type} : List (Lit × DataW H) → Nat
  | [] => 0
  | x :: r => uptoBulkEntry x + uptoBulkEntries r
def uptoBulkEntry {H : Type} : Lit × DataW H → Nat
  | (.string bytes, d) => bytes.length + uptoBulk d + 1
  | (_, d) => uptoBulk d + 1
 end
def uptoSmall : (H : Type) → List (DataW H) → Bool := fun _ ds => decide (uptoBulkAll ds ≤ 1048576)
def OpenSpec.upto (s : _root_.Go.ChangeSpec) : _root_.Go.OpenSpec := { _root_.Go.OpenSpec.ofChange s with cond := some uptoSmall }

/-- 'pergolalaw5.RingAsks', WHERE WHAT IT READS IS OF BULK AT MOST 1048576: true; the input reads as it did. -/
def ringAsksUptoRow : OpenClaim := { program := "ytmcbanplpgooeaadoor", sum := "d6ecacaec3029919f053f85e308a3ea9a3375c30bd22c8dc9d5abdb64c511a71", func := "pergola/pergolalaw5.RingAsks", spec := "ringAsks", inPlace := ["internal/reflectlite.TypeOf", "internal/reflectlite.ValueOf", "(internal/reflectlite.Value).Type", "(internal/reflectlite.Value).IsNil", "(internal/reflectlite.Value).Elem", "(internal/reflectlite.Value).Set"], unfollowed := true, recurses := true, named := ["errors.errorType"], apart := false, laid := [("errors.errorType", laid_errors_errorType)], narrowed := true }
def RingAsksUptoSaid : Prop := ringAsksUptoRow.holds Tryd.pinned (OpenSpec.upto ringAsksSpec)

/-- 'pergolalaw5.RingTurns', WHERE WHAT IT READS IS OF BULK AT MOST 1048576: true; the input reads as it did. -/
def ringTurnsUptoRow : OpenClaim := { program := "ytmcbanplpgooeaadoor", sum := "d6ecacaec3029919f053f85e308a3ea9a3375c30bd22c8dc9d5abdb64c511a71", func := "pergola/pergolalaw5.RingTurns", spec := "ringTurns", inPlace := ["internal/reflectlite.TypeOf", "internal/reflectlite.ValueOf", "(internal/reflectlite.Value).Type", "(internal/reflectlite.Value).IsNil", "(internal/reflectlite.Value).Elem", "(internal/reflectlite.Value).Set"], unfollowed := true, recurses := true, named := ["errors.errorType"], apart := false, laid := [("errors.errorType", laid_errors_errorType)], narrowed := true }
def RingTurnsUptoSaid : Prop := ringTurnsUptoRow.holds Tryd.pinned (OpenSpec.upto ringTurnsSpec)

/-- 'pergolalaw5.RingBoxes', WHERE WHAT IT READS IS OF BULK AT MOST 1048576: true; the input reads as it did. -/
def ringBoxesUptoRow : OpenClaim := { program := "ytmcbanplpgooeaadoor", sum := "d6ecacaec3029919f053f85e308a3ea9a3375c30bd22c8dc9d5abdb64c511a71", func := "pergola/pergolalaw5.RingBoxes", spec := "ringBoxes", inPlace := ["internal/reflectlite.TypeOf", "internal/reflectlite.ValueOf", "(internal/reflectlite.Value).Type", "(internal/reflectlite.Value).IsNil", "(internal/reflectlite.Value).Elem", "(internal/reflectlite.Value).Set"], unfollowed := true, recurses := true, named := ["errors.errorType"], apart := false, laid := [("errors.errorType", laid_errors_errorType)], narrowed := true }
def RingBoxesUptoSaid : Prop := ringBoxesUptoRow.holds Tryd.pinned (OpenSpec.upto ringBoxesSpec)

/-- 'pergolalaw5.RingCuts', WHERE WHAT IT READS IS OF BULK AT MOST 1048576: true; the input reads as it did. -/
def ringCutsUptoRow : OpenClaim := { program := "ytmcbanplpgooeaadoor", sum := "d6ecacaec3029919f053f85e308a3ea9a3375c30bd22c8dc9d5abdb64c511a71", func := "pergola/pergolalaw5.RingCuts", spec := "ringCuts", inPlace := ["internal/reflectlite.TypeOf", "internal/reflectlite.ValueOf", "(internal/reflectlite.Value).Type", "(internal/reflectlite.Value).IsNil", "(internal/reflectlite.Value).Elem", "(internal/reflectlite.Value).Set"], unfollowed := true, recurses := true, named := ["errors.errorType"], apart := false, laid := [("errors.errorType", laid_errors_errorType)], narrowed := true }
def RingCutsUptoSaid : Prop := ringCutsUptoRow.holds Tryd.pinned (OpenSpec.upto ringCutsSpec)

/-- 'pergolalaw5.RingLimits', WHERE WHAT IT READS IS OF BULK AT MOST 1048576: true; the input reads as it did. -/
def ringLimitsUptoRow : OpenClaim := { program := "ytmcbanplpgooeaadoor", sum := "d6ecacaec3029919f053f85e308a3ea9a3375c30bd22c8dc9d5abdb64c511a71", func := "pergola/pergolalaw5.RingLimits", spec := "ringLimits", inPlace := ["internal/reflectlite.TypeOf", "internal/reflectlite.ValueOf", "(internal/reflectlite.Value).Type", "(internal/reflectlite.Value).IsNil", "(internal/reflectlite.Value).Elem", "(internal/reflectlite.Value).Set"], unfollowed := true, recurses := true, named := ["errors.errorType"], apart := false, laid := [("errors.errorType", laid_errors_errorType)], narrowed := true }
def RingLimitsUptoSaid : Prop := ringLimitsUptoRow.holds Tryd.pinned (OpenSpec.upto ringLimitsSpec)

/-- 'pergolalaw5.RingEdges', WHERE WHAT IT READS IS OF BULK AT MOST 1048576: true; the input reads as it did. -/
def ringEdgesUptoRow : OpenClaim := { program := "ytmcbanplpgooeaadoor", sum := "d6ecacaec3029919f053f85e308a3ea9a3375c30bd22c8dc9d5abdb64c511a71", func := "pergola/pergolalaw5.RingEdges", spec := "ringEdges", inPlace := ["internal/reflectlite.TypeOf", "internal/reflectlite.ValueOf", "(internal/reflectlite.Value).Type", "(internal/reflectlite.Value).IsNil", "(internal/reflectlite.Value).Elem", "(internal/reflectlite.Value).Set"], unfollowed := true, recurses := true, named := ["errors.errorType"], apart := false, laid := [("errors.errorType", laid_errors_errorType)], narrowed := true }
def RingEdgesUptoSaid : Prop := ringEdgesUptoRow.holds Tryd.pinned (OpenSpec.upto ringEdgesSpec)

/-- 'pergolalaw5.RingMoves', WHERE WHAT IT READS IS OF BULK AT MOST 1048576: true; the input reads as it did. -/
def ringMovesUptoRow : OpenClaim := { program := "ytmcbanplpgooeaadoor", sum := "d6ecacaec3029919f053f85e308a3ea9a3375c30bd22c8dc9d5abdb64c511a71", func := "pergola/pergolalaw5.RingMoves", spec := "ringMoves", inPlace := ["internal/reflectlite.TypeOf", "internal/reflectlite.ValueOf", "(internal/reflectlite.Value).Type", "(internal/reflectlite.Value).IsNil", "(internal/reflectlite.Value).Elem", "(internal/reflectlite.Value).Set"], unfollowed := true, recurses := true, named := ["errors.errorType"], apart := false, laid := [("errors.errorType", laid_errors_errorType)], narrowed := true }
def RingMovesUptoSaid : Prop := ringMovesUptoRow.holds Tryd.pinned (OpenSpec.upto ringMovesSpec)

/-- 'pergolalaw7.FaultWraps', WHERE WHAT IT READS IS OF BULK AT MOST 1048576: true; the input reads as it did. -/
def faultWrapsUptoRow : OpenClaim := { program := "ytmcbanplpgooeaadoor", sum := "d6ecacaec3029919f053f85e308a3ea9a3375c30bd22c8dc9d5abdb64c511a71", func := "pergola/pergolalaw7.FaultWraps", spec := "faultWraps", inPlace := ["internal/reflectlite.ValueOf", "(internal/reflectlite.Value).Type", "(internal/reflectlite.Value).IsNil", "internal/reflectlite.TypeOf", "(internal/reflectlite.Value).Elem", "(internal/reflectlite.Value).Set"], unfollowed := true, recurses := true, named := ["errors.errorType"], apart := false, laid := [("errors.errorType", laid_errors_errorType)], narrowed := true }
def FaultWrapsUptoSaid : Prop := faultWrapsUptoRow.holds Tryd.pinned (OpenSpec.upto faultWrapsSpec)

/-- 'pergolalaw7.FaultJoins', WHERE WHAT IT READS IS OF BULK AT MOST 1048576: true; the input reads as it did. -/
def faultJoinsUptoRow : OpenClaim := { program := "ytmcbanplpgooeaadoor", sum := "d6ecacaec3029919f053f85e308a3ea9a3375c30bd22c8dc9d5abdb64c511a71", func := "pergola/pergolalaw7.FaultJoins", spec := "faultJoins", inPlace := ["internal/reflectlite.TypeOf", "internal/reflectlite.ValueOf", "(internal/reflectlite.Value).Type", "(internal/reflectlite.Value).IsNil", "(internal/reflectlite.Value).Elem", "(internal/reflectlite.Value).Set"], unfollowed := true, recurses := true, named := ["errors.errorType"], apart := false, laid := [("errors.errorType", laid_errors_errorType)], narrowed := true }
def FaultJoinsUptoSaid : Prop := faultJoinsUptoRow.holds Tryd.pinned (OpenSpec.upto faultJoinsSpec)

/-- 'pergolalaw8.EncObjects', WHERE WHAT IT READS IS OF BULK AT MOST 1048576: true; the input reads as it did. -/
def encObjectsUptoRow : OpenClaim := { program := "ytmcbanplpgooeaadoor", sum := "d6ecacaec3029919f053f85e308a3ea9a3375c30bd22c8dc9d5abdb64c511a71", func := "pergola/pergolalaw8.EncObjects", spec := "encObjects", inPlace := ["internal/reflectlite.TypeOf", "internal/reflectlite.ValueOf", "(internal/reflectlite.Value).Type", "(internal/reflectlite.Value).IsNil", "(internal/reflectlite.Value).Elem", "(internal/reflectlite.Value).Set"], unfollowed := true, recurses := true, named := ["errors.errorType"], apart := false, laid := [("errors.errorType", laid_errors_errorType)], narrowed := true }
def EncObjectsUptoSaid : Prop := encObjectsUptoRow.holds Tryd.pinned (OpenSpec.upto encObjectsSpec)

/-- 'pergolalaw8.EncChanges', WHERE WHAT IT READS IS OF BULK AT MOST 1048576: true; the input reads as it did. -/
def encChangesUptoRow : OpenClaim := { program := "ytmcbanplpgooeaadoor", sum := "d6ecacaec3029919f053f85e308a3ea9a3375c30bd22c8dc9d5abdb64c511a71", func := "pergola/pergolalaw8.EncChanges", spec := "encChanges", inPlace := ["internal/reflectlite.TypeOf", "internal/reflectlite.ValueOf", "(internal/reflectlite.Value).Type", "(internal/reflectlite.Value).IsNil", "(internal/reflectlite.Value).Elem", "(internal/reflectlite.Value).Set"], unfollowed := true, recurses := true, named := ["errors.errorType"], apart := false, laid := [("errors.errorType", laid_errors_errorType)], narrowed := true }
def EncChangesUptoSaid : Prop := encChangesUptoRow.holds Tryd.pinned (OpenSpec.upto encChangesSpec)

/-- 'pergolalaw9.FrameAsks', WHERE WHAT IT READS IS OF BULK AT MOST 1048576: true; the input reads as it did. -/
def frameAsksUptoRow : OpenClaim := { program := "ytmcbanplpgooeaadoor", sum := "d6ecacaec3029919f053f85e308a3ea9a3375c30bd22c8dc9d5abdb64c511a71", func := "pergola/pergolalaw9.FrameAsks", spec := "frameAsks", inPlace := ["internal/reflectlite.TypeOf", "internal/reflectlite.ValueOf", "(internal/reflectlite.Value).Type", "(internal/reflectlite.Value).IsNil", "(internal/reflectlite.Value).Elem", "(internal/reflectlite.Value).Set"], unfollowed := true, recurses := true, named := ["pergola/frame.table", "errors.errorType"], apart := false, laid := [("errors.errorType", laid_errors_errorType), ("pergola/frame.table", laid_pergola_frame_table)], narrowed := true }
def FrameAsksUptoSaid : Prop := frameAsksUptoRow.holds Tryd.pinned (OpenSpec.upto frameAsksSpec)

/-- 'pergolalaw9.FrameTorn', WHERE WHAT IT READS IS OF BULK AT MOST 1048576: true; the input reads as it did. -/
def frameTornUptoRow : OpenClaim := { program := "ytmcbanplpgooeaadoor", sum := "d6ecacaec3029919f053f85e308a3ea9a3375c30bd22c8dc9d5abdb64c511a71", func := "pergola/pergolalaw9.FrameTorn", spec := "frameTorn", inPlace := ["internal/reflectlite.TypeOf", "internal/reflectlite.ValueOf", "(internal/reflectlite.Value).Type", "(internal/reflectlite.Value).IsNil", "(internal/reflectlite.Value).Elem", "(internal/reflectlite.Value).Set"], unfollowed := true, recurses := true, named := ["pergola/frame.table", "errors.errorType"], apart := false, laid := [("errors.errorType", laid_errors_errorType), ("pergola/frame.table", laid_pergola_frame_table)], narrowed := true }
def FrameTornUptoSaid : Prop := frameTornUptoRow.holds Tryd.pinned (OpenSpec.upto frameTornSpec)

/-- 'pergolalaw9.FrameFlips', WHERE WHAT IT READS IS OF BULK AT MOST 1048576: true; the input reads as it did. -/
def frameFlipsUptoRow : OpenClaim := { program := "ytmcbanplpgooeaadoor", sum := "d6ecacaec3029919f053f85e308a3ea9a3375c30bd22c8dc9d5abdb64c511a71", func := "pergola/pergolalaw9.FrameFlips", spec := "frameFlips", inPlace := ["internal/reflectlite.TypeOf", "internal/reflectlite.ValueOf", "(internal/reflectlite.Value).Type", "(internal/reflectlite.Value).IsNil", "(internal/reflectlite.Value).Elem", "(internal/reflectlite.Value).Set"], unfollowed := true, recurses := true, named := ["pergola/frame.table", "errors.errorType"], apart := false, laid := [("errors.errorType", laid_errors_errorType), ("pergola/frame.table", laid_pergola_frame_table)], narrowed := true }
def FrameFlipsUptoSaid : Prop := frameFlipsUptoRow.holds Tryd.pinned (OpenSpec.upto frameFlipsSpec)

/-- 'pergolalaw9.FrameRest', WHERE WHAT IT READS IS OF BULK AT MOST 1048576: true; the input reads as it did. -/
def frameRestUptoRow : OpenClaim := { program := "ytmcbanplpgooeaadoor", sum := "d6ecacaec3029919f053f85e308a3ea9a3375c30bd22c8dc9d5abdb64c511a71", func := "pergola/pergolalaw9.FrameRest", spec := "frameRest", inPlace := ["internal/reflectlite.TypeOf", "internal/reflectlite.ValueOf", "(internal/reflectlite.Value).Type", "(internal/reflectlite.Value).IsNil", "(internal/reflectlite.Value).Elem", "(internal/reflectlite.Value).Set"], unfollowed := true, recurses := true, named := ["pergola/frame.table", "errors.errorType"], apart := false, laid := [("errors.errorType", laid_errors_errorType), ("pergola/frame.table", laid_pergola_frame_table)], narrowed := true }
def FrameRestUptoSaid : Prop := frameRestUptoRow.holds Tryd.pinned (OpenSpec.upto frameRestSpec)

/-- 'pergolalaw10.DiskPlays', WHERE WHAT IT READS IS OF BULK AT MOST 1048576: true; the input reads as it did. -/
def diskPlaysUptoRow : OpenClaim := { program := "ytmcbanplpgooeaadoor", sum := "d6ecacaec3029919f053f85e308a3ea9a3375c30bd22c8dc9d5abdb64c511a71", func := "pergola/pergolalaw10.DiskPlays", spec := "diskPlays", inPlace := ["internal/reflectlite.TypeOf", "internal/reflectlite.ValueOf", "(internal/reflectlite.Value).Type", "(internal/reflectlite.Value).IsNil", "(internal/reflectlite.Value).Elem", "(internal/reflectlite.Value).Set", "maps.clone"], unfollowed := true, recurses := true, named := ["errors.errorType"], apart := false, laid := [("errors.errorType", laid_errors_errorType)], narrowed := true }
def DiskPlaysUptoSaid : Prop := diskPlaysUptoRow.holds Tryd.pinned (OpenSpec.upto diskPlaysSpec)

/-- 'pergolalaw10.DiskCuts', WHERE WHAT IT READS IS OF BULK AT MOST 1048576: true; the input reads as it did. -/
def diskCutsUptoRow : OpenClaim := { program := "ytmcbanplpgooeaadoor", sum := "d6ecacaec3029919f053f85e308a3ea9a3375c30bd22c8dc9d5abdb64c511a71", func := "pergola/pergolalaw10.DiskCuts", spec := "diskCuts", inPlace := ["internal/reflectlite.TypeOf", "internal/reflectlite.ValueOf", "(internal/reflectlite.Value).Type", "(internal/reflectlite.Value).IsNil", "(internal/reflectlite.Value).Elem", "(internal/reflectlite.Value).Set"], unfollowed := true, recurses := true, named := ["errors.errorType"], apart := false, laid := [("errors.errorType", laid_errors_errorType)], narrowed := true }
def DiskCutsUptoSaid : Prop := diskCutsUptoRow.holds Tryd.pinned (OpenSpec.upto diskCutsSpec)

end Rows
end Go.Proofs.YtmcbanplpgooeaaDoor
