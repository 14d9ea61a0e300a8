/-
  No cell of these rows narrows 'for every input' (looked for: loops, veiled, ifaces, maps, wideKeys, modest, calm, conditions, laid).
  DERIVED. THE GIVEN ROWS OF THIS SEAT. 11 by the template 'for every input the law returns true; each argument reads behind the call as it read before'; 0 by the template 'total and deterministic' (their statements: YthjhhnolkiejpaaTotals.lean).
  GIVEN WITH THE SEED: the statements are not yours to turn. If you find one false, say at which input.
  Laid BY PROGRAM, IN A SANDBOX (cutbox-rows.mjs): the forced cells as the released guide's own fill.sh prints them over the translation 5163a63e1bd6ea17… (all of the seat's roots in one cut). By AI agents, Wed Nov 11 2026. No macro, syntax, notation, axiom, sorry.
-/
import Derived.Test.YthjhhnolkiejpaaChecked
import GoSem.Claim
import GoSem.ClaimJoined
import GoSem.ClaimMapViews
import Derived.JoinedTies
import Derived.KernelRfl
namespace Go.Proofs.Ythjhhnolkiejpaa
/- THE CELL 'sum', in the pinned program and in every row, IS THE sha256 OF THE DUMP (.gsa) THAT YthjhhnolkiejpaaProg.lean LOADS. Nothing in Lean hashes anything: it is a label: what it is worth is what the hold of that sum in a sandbox is worth. -/
noncomputable def Try.pinned : Pinned := { name := "ythjhhnolkiejpaa", sum := "5163a63e1bd6ea1762a348c0a7bfb9fd2fe7f8bc5a6c16ca0097afc961d80d39", checked := Try.checked }
namespace Rows
def none {H : Type} : Left H := { results := [], args := [] }

/-- 'pergolalaw3.PlaneCovers': WHATEVER THE INPUT: true; the input reads as it did. -/
def planeCoversSpec : ChangeSpec := { name := "planeCovers", fn := fun _ => fun
  | [d1, d2] => { results := [.lit (.bool true)], args := [d1, d2] }
  | _ => none }
def planeCoversRow : OpenClaim := { program := "ythjhhnolkiejpaa", sum := "5163a63e1bd6ea1762a348c0a7bfb9fd2fe7f8bc5a6c16ca0097afc961d80d39", func := "pergola/pergolalaw3.PlaneCovers", spec := "planeCovers", apart := false }
def PlaneCoversSaid : Prop := planeCoversRow.holds Try.pinned (OpenSpec.ofChange planeCoversSpec)

/-- ITS FALSE NEIGHBOUR: 'it returns false'. Refute it at one input. -/
def planeCoversWrong : ChangeSpec := { name := "planeCovers", fn := fun _ => fun
  | [d1, d2] => { results := [.lit (.bool false)], args := [d1, d2] }
  | _ => none }
def PlaneCoversWrongFalsely : Prop := planeCoversRow.holds Try.pinned (OpenSpec.ofChange planeCoversWrong)

/-- 'pergolalaw4.SegmAsks': WHATEVER THE INPUT: true; the input reads as it did. -/
def segmAsksSpec : ChangeSpec := { name := "segmAsks", fn := fun _ => fun
  | [d1, d2, d3, d4, d5] => { results := [.lit (.bool true)], args := [d1, d2, d3, d4, d5] }
  | _ => none }
def segmAsksRow : OpenClaim := { program := "ythjhhnolkiejpaa", sum := "5163a63e1bd6ea1762a348c0a7bfb9fd2fe7f8bc5a6c16ca0097afc961d80d39", func := "pergola/pergolalaw4.SegmAsks", spec := "segmAsks", named := ["math/bits.divideError", "math/bits.overflowError"], apart := false }
def SegmAsksSaid : Prop := segmAsksRow.holds Try.pinned (OpenSpec.ofChange segmAsksSpec)

/-- ITS FALSE NEIGHBOUR: 'it returns false'. Refute it at one input. -/
def segmAsksWrong : ChangeSpec := { name := "segmAsks", fn := fun _ => fun
  | [d1, d2, d3, d4, d5] => { results := [.lit (.bool false)], args := [d1, d2, d3, d4, d5] }
  | _ => none }
def SegmAsksWrongFalsely : Prop := segmAsksRow.holds Try.pinned (OpenSpec.ofChange segmAsksWrong)

/-- 'pergolalaw4.SegmEven': WHATEVER THE INPUT: true; the input reads as it did. -/
def segmEvenSpec : ChangeSpec := { name := "segmEven", fn := fun _ => fun
  | [d1, d2, d3, d4] => { results := [.lit (.bool true)], args := [d1, d2, d3, d4] }
  | _ => none }
def segmEvenRow : OpenClaim := { program := "ythjhhnolkiejpaa", sum := "5163a63e1bd6ea1762a348c0a7bfb9fd2fe7f8bc5a6c16ca0097afc961d80d39", func := "pergola/pergolalaw4.SegmEven", spec := "segmEven", named := ["math/bits.divideError", "math/bits.overflowError"], apart := false }
def SegmEvenSaid : Prop := segmEvenRow.holds Try.pinned (OpenSpec.ofChange segmEvenSpec)

/-- ITS FALSE NEIGHBOUR: 'it returns false'. Refute it at one input. -/
def segmEvenWrong : ChangeSpec := { name := "segmEven", fn := fun _ => fun
  | [d1, d2, d3, d4] => { results := [.lit (.bool false)], args := [d1, d2, d3, d4] }
  | _ => none }
def SegmEvenWrongFalsely : Prop := segmEvenRow.holds Try.pinned (OpenSpec.ofChange segmEvenWrong)

/-- 'pergolalaw4.SegmNear': WHATEVER THE INPUT: true; the input reads as it did. -/
def segmNearSpec : ChangeSpec := { name := "segmNear", fn := fun _ => fun
  | [d1, d2, d3] => { results := [.lit (.bool true)], args := [d1, d2, d3] }
  | _ => none }
def segmNearRow : OpenClaim := { program := "ythjhhnolkiejpaa", sum := "5163a63e1bd6ea1762a348c0a7bfb9fd2fe7f8bc5a6c16ca0097afc961d80d39", func := "pergola/pergolalaw4.SegmNear", spec := "segmNear", named := ["math/bits.divideError", "math/bits.overflowError"], apart := false }
def SegmNearSaid : Prop := segmNearRow.holds Try.pinned (OpenSpec.ofChange segmNearSpec)

/-- ITS FALSE NEIGHBOUR: 'it returns false'. Refute it at one input. -/
def segmNearWrong : ChangeSpec := { name := "segmNear", fn := fun _ => fun
  | [d1, d2, d3] => { results := [.lit (.bool false)], args := [d1, d2, d3] }
  | _ => none }
def SegmNearWrongFalsely : Prop := segmNearRow.holds Try.pinned (OpenSpec.ofChange segmNearWrong)

/-- 'pergolalaw4.SegmBoxes': WHATEVER THE INPUT: true; the input reads as it did. -/
def segmBoxesSpec : ChangeSpec := { name := "segmBoxes", fn := fun _ => fun
  | [d1, d2, d3] => { results := [.lit (.bool true)], args := [d1, d2, d3] }
  | _ => none }
def segmBoxesRow : OpenClaim := { program := "ythjhhnolkiejpaa", sum := "5163a63e1bd6ea1762a348c0a7bfb9fd2fe7f8bc5a6c16ca0097afc961d80d39", func := "pergola/pergolalaw4.SegmBoxes", spec := "segmBoxes", named := ["math/bits.divideError", "math/bits.overflowError"], apart := false }
def SegmBoxesSaid : Prop := segmBoxesRow.holds Try.pinned (OpenSpec.ofChange segmBoxesSpec)

/-- ITS FALSE NEIGHBOUR: 'it returns false'. Refute it at one input. -/
def segmBoxesWrong : ChangeSpec := { name := "segmBoxes", fn := fun _ => fun
  | [d1, d2, d3] => { results := [.lit (.bool false)], args := [d1, d2, d3] }
  | _ => none }
def SegmBoxesWrongFalsely : Prop := segmBoxesRow.holds Try.pinned (OpenSpec.ofChange segmBoxesWrong)

/-- 'pergolalaw4.SegmMoves': WHATEVER THE INPUT: true; the input reads as it did. -/
def segmMovesSpec : ChangeSpec := { name := "segmMoves", fn := fun _ => fun
  | [d1, d2, d3, d4, d5, d6] => { results := [.lit (.bool true)], args := [d1, d2, d3, d4, d5, d6] }
  | _ => none }
def segmMovesRow : OpenClaim := { program := "ythjhhnolkiejpaa", sum := "5163a63e1bd6ea1762a348c0a7bfb9fd2fe7f8bc5a6c16ca0097afc961d80d39", func := "pergola/pergolalaw4.SegmMoves", spec := "segmMoves", named := ["math/bits.divideError", "math/bits.overflowError"], apart := false }
def SegmMovesSaid : Prop := segmMovesRow.holds Try.pinned (OpenSpec.ofChange segmMovesSpec)

/-- ITS FALSE NEIGHBOUR: 'it returns false'. Refute it at one input. -/
def segmMovesWrong : ChangeSpec := { name := "segmMoves", fn := fun _ => fun
  | [d1, d2, d3, d4, d5, d6] => { results := [.lit (.bool false)], args := [d1, d2, d3, d4, d5, d6] }
  | _ => none }
def SegmMovesWrongFalsely : Prop := segmMovesRow.holds Try.pinned (OpenSpec.ofChange segmMovesWrong)

/-- 'pergolalaw4.SegmCross': WHATEVER THE INPUT: true; the input reads as it did. -/
def segmCrossSpec : ChangeSpec := { name := "segmCross", fn := fun _ => fun
  | [d1, d2, d3, d4] => { results := [.lit (.bool true)], args := [d1, d2, d3, d4] }
  | _ => none }
def segmCrossRow : OpenClaim := { program := "ythjhhnolkiejpaa", sum := "5163a63e1bd6ea1762a348c0a7bfb9fd2fe7f8bc5a6c16ca0097afc961d80d39", func := "pergola/pergolalaw4.SegmCross", spec := "segmCross", named := ["math/bits.divideError", "math/bits.overflowError"], apart := false }
def SegmCrossSaid : Prop := segmCrossRow.holds Try.pinned (OpenSpec.ofChange segmCrossSpec)

/-- ITS FALSE NEIGHBOUR: 'it returns false'. Refute it at one input. -/
def segmCrossWrong : ChangeSpec := { name := "segmCross", fn := fun _ => fun
  | [d1, d2, d3, d4] => { results := [.lit (.bool false)], args := [d1, d2, d3, d4] }
  | _ => none }
def SegmCrossWrongFalsely : Prop := segmCrossRow.holds Try.pinned (OpenSpec.ofChange segmCrossWrong)

/-- 'pergolalaw4.SegmParts': WHATEVER THE INPUT: true; the input reads as it did. -/
def segmPartsSpec : ChangeSpec := { name := "segmParts", fn := fun _ => fun
  | [d1, d2, d3, d4, d5, d6] => { results := [.lit (.bool true)], args := [d1, d2, d3, d4, d5, d6] }
  | _ => none }
def segmPartsRow : OpenClaim := { program := "ythjhhnolkiejpaa", sum := "5163a63e1bd6ea1762a348c0a7bfb9fd2fe7f8bc5a6c16ca0097afc961d80d39", func := "pergola/pergolalaw4.SegmParts", spec := "segmParts", named := ["math/bits.divideError", "math/bits.overflowError"], apart := false }
def SegmPartsSaid : Prop := segmPartsRow.holds Try.pinned (OpenSpec.ofChange segmPartsSpec)

/-- ITS FALSE NEIGHBOUR: 'it returns false'. Refute it at one input. -/
def segmPartsWrong : ChangeSpec := { name := "segmParts", fn := fun _ => fun
  | [d1, d2, d3, d4, d5, d6] => { results := [.lit (.bool false)], args := [d1, d2, d3, d4, d5, d6] }
  | _ => none }
def SegmPartsWrongFalsely : Prop := segmPartsRow.holds Try.pinned (OpenSpec.ofChange segmPartsWrong)

/-- 'pergolalaw7.FaultNone': WHATEVER THE INPUT: true; the input reads as it did. -/
def faultNoneSpec : ChangeSpec := { name := "faultNone", fn := fun _ => fun
  | [d1, d2] => { results := [.lit (.bool true)], args := [d1, d2] }
  | _ => none }
def faultNoneRow : OpenClaim := { program := "ythjhhnolkiejpaa", sum := "5163a63e1bd6ea1762a348c0a7bfb9fd2fe7f8bc5a6c16ca0097afc961d80d39", func := "pergola/pergolalaw7.FaultNone", spec := "faultNone", inPlace := ["internal/reflectlite.TypeOf"], unfollowed := true, recurses := true, apart := false }
def FaultNoneSaid : Prop := faultNoneRow.holds Try.pinned (OpenSpec.ofChange faultNoneSpec)

/-- ITS FALSE NEIGHBOUR: 'it returns false'. Refute it at one input. -/
def faultNoneWrong : ChangeSpec := { name := "faultNone", fn := fun _ => fun
  | [d1, d2] => { results := [.lit (.bool false)], args := [d1, d2] }
  | _ => none }
def FaultNoneWrongFalsely : Prop := faultNoneRow.holds Try.pinned (OpenSpec.ofChange faultNoneWrong)

/-- 'pergolalaw15.HeapLess': WHATEVER THE INPUT: true; the input reads as it did. -/
def heapLessSpec : ChangeSpec := { name := "heapLess", fn := fun _ => fun
  | [d1, d2] => { results := [.lit (.bool true)], args := [d1, d2] }
  | _ => none }
def heapLessRow : OpenClaim := { program := "ythjhhnolkiejpaa", sum := "5163a63e1bd6ea1762a348c0a7bfb9fd2fe7f8bc5a6c16ca0097afc961d80d39", func := "pergola/pergolalaw15.HeapLess", spec := "heapLess", inPlace := ["math/bits.Add64"], apart := false }
def HeapLessSaid : Prop := heapLessRow.holds Try.pinned (OpenSpec.ofChange heapLessSpec)

/-- ITS FALSE NEIGHBOUR: 'it returns false'. Refute it at one input. -/
def heapLessWrong : ChangeSpec := { name := "heapLess", fn := fun _ => fun
  | [d1, d2] => { results := [.lit (.bool false)], args := [d1, d2] }
  | _ => none }
def HeapLessWrongFalsely : Prop := heapLessRow.holds Try.pinned (OpenSpec.ofChange heapLessWrong)

/-- 'pergolalaw15.HeapNothing': WHATEVER THE INPUT: true; the input reads as it did. -/
def heapNothingSpec : ChangeSpec := { name := "heapNothing", fn := fun _ => fun
  | [d] => { results := [.lit (.bool true)], args := [d] }
  | _ => none }
def heapNothingRow : OpenClaim := { program := "ythjhhnolkiejpaa", sum := "5163a63e1bd6ea1762a348c0a7bfb9fd2fe7f8bc5a6c16ca0097afc961d80d39", func := "pergola/pergolalaw15.HeapNothing", spec := "heapNothing", inPlace := ["math/bits.Add64"], apart := false }
def HeapNothingSaid : Prop := heapNothingRow.holds Try.pinned (OpenSpec.ofChange heapNothingSpec)

/-- ITS FALSE NEIGHBOUR: 'it returns false'. Refute it at one input. -/
def heapNothingWrong : ChangeSpec := { name := "heapNothing", fn := fun _ => fun
  | [d] => { results := [.lit (.bool false)], args := [d] }
  | _ => none }
def HeapNothingWrongFalsely : Prop := heapNothingRow.holds Try.pinned (OpenSpec.ofChange heapNothingWrong)

/- THE SECOND FORM. 'bulk': how many values and letters a reading holds, each counted each time it is reached (what is shared counts as often as it is met; a slice's spare places count too). A statement '..UptoSaid' is the law's where the arguments, and the package variables that the reading takes, are together of bulk at most 1048576: NARROWER than '..Said'. Prove '..Said' where nothing that the law and all that it calls make is longer than what came in: it says more and counts as full. Else prove '..UptoSaid'. A law counts once. -/
mutual
def uptoBulk {H : Type} : DataW H → Nat
  | .lit (.string bytes) => bytes.length + 1
  | .lit _ => 1
  | .nil => 1
  | .ptr d => uptoBulk d + 1
  | .slice elems spare => uptoBulkAll elems + uptoBulkAll spare + 1
  | .agg parts => uptoBulkAll parts + 1
  | .iface _ d => uptoBulk d + 1
  | .map entries => uptoBulkEntries entries + 1
  | .held _ => 1
def uptoBulkAll {H : Type} : List (DataW H) → Nat
  | [] => 0
  | d :: r => uptoBulk d + uptoBulkAll r
def uptoBulkEntries {H : Type} : List (Lit × DataW H) → Nat
  | [] => 0
  | x :: r => uptoBulkEntry x + uptoBulkEntries r
def uptoBulkEntry {H : Type} : Lit × DataW H → Nat
  | (.string bytes, d) => bytes.length + uptoBulk d + 1
  | (_, d) => uptoBulk d + 1
 end
def uptoSmall : (H : Type) → List (DataW H) → Bool := fun _ ds => decide (uptoBulkAll ds ≤ 1048576)
def OpenSpec.upto (s : _root_.Go.ChangeSpec) : _root_.Go.OpenSpec := { _root_.Go.OpenSpec.ofChange s with cond := some uptoSmall }

/-- 'pergolalaw3.PlaneCovers', WHERE WHAT IT READS IS OF BULK AT MOST 1048576: true; the input reads as it did. -/
def planeCoversUptoRow : OpenClaim := { program := "ythjhhnolkiejpaa", sum := "5163a63e1bd6ea1762a348c0a7bfb9fd2fe7f8bc5a6c16ca0097afc961d80d39", func := "pergola/pergolalaw3.PlaneCovers", spec := "planeCovers", apart := false, narrowed := true }
def PlaneCoversUptoSaid : Prop := planeCoversUptoRow.holds Try.pinned (OpenSpec.upto planeCoversSpec)

/-- 'pergolalaw4.SegmAsks', WHERE WHAT IT READS IS OF BULK AT MOST 1048576: true; the input reads as it did. -/
def segmAsksUptoRow : OpenClaim := { program := "ythjhhnolkiejpaa", sum := "5163a63e1bd6ea1762a348c0a7bfb9fd2fe7f8bc5a6c16ca0097afc961d80d39", func := "pergola/pergolalaw4.SegmAsks", spec := "segmAsks", named := ["math/bits.divideError", "math/bits.overflowError"], apart := false, narrowed := true }
def SegmAsksUptoSaid : Prop := segmAsksUptoRow.holds Try.pinned (OpenSpec.upto segmAsksSpec)

/-- 'pergolalaw4.SegmEven', WHERE WHAT IT READS IS OF BULK AT MOST 1048576: true; the input reads as it did. -/
def segmEvenUptoRow : OpenClaim := { program := "ythjhhnolkiejpaa", sum := "5163a63e1bd6ea1762a348c0a7bfb9fd2fe7f8bc5a6c16ca0097afc961d80d39", func := "pergola/pergolalaw4.SegmEven", spec := "segmEven", named := ["math/bits.divideError", "math/bits.overflowError"], apart := false, narrowed := true }
def SegmEvenUptoSaid : Prop := segmEvenUptoRow.holds Try.pinned (OpenSpec.upto segmEvenSpec)

/-- 'pergolalaw4.SegmNear', WHERE WHAT IT READS IS OF BULK AT MOST 1048576: true; the input reads as it did. -/
def segmNearUptoRow : OpenClaim := { program := "ythjhhnolkiejpaa", sum := "5163a63e1bd6ea1762a348c0a7bfb9fd2fe7f8bc5a6c16ca0097afc961d80d39", func := "pergola/pergolalaw4.SegmNear", spec := "segmNear", named := ["math/bits.divideError", "math/bits.overflowError"], apart := false, narrowed := true }
def SegmNearUptoSaid : Prop := segmNearUptoRow.holds Try.pinned (OpenSpec.upto segmNearSpec)

/-- 'pergolalaw4.SegmBoxes', WHERE WHAT IT READS IS OF BULK AT MOST 1048576: true; the input reads as it did. -/
def segmBoxesUptoRow : OpenClaim := { program := "ythjhhnolkiejpaa", sum := "5163a63e1bd6ea1762a348c0a7bfb9fd2fe7f8bc5a6c16ca0097afc961d80d39", func := "pergola/pergolalaw4.SegmBoxes", spec := "segmBoxes", named := ["math/bits.divideError", "math/bits.overflowError"], apart := false, narrowed := true }
def SegmBoxesUptoSaid : Prop := segmBoxesUptoRow.holds Try.pinned (OpenSpec.upto segmBoxesSpec)

/-- 'pergolalaw4.SegmMoves', WHERE WHAT IT READS IS OF BULK AT MOST 1048576: true; the input reads as it did. -/
def segmMovesUptoRow : OpenClaim := { program := "ythjhhnolkiejpaa", sum := "5163a63e1bd6ea1762a348c0a7bfb9fd2fe7f8bc5a6c16ca0097afc961d80d39", func := "pergola/pergolalaw4.SegmMoves", spec := "segmMoves", named := ["math/bits.divideError", "math/bits.overflowError"], apart := false, narrowed := true }
def SegmMovesUptoSaid : Prop := segmMovesUptoRow.holds Try.pinned (OpenSpec.upto segmMovesSpec)

/-- 'pergolalaw4.SegmCross', WHERE WHAT IT READS IS OF BULK AT MOST 1048576: true; the input reads as it did. -/
def segmCrossUptoRow : OpenClaim := { program := "ythjhhnolkiejpaa", sum := "5163a63e1bd6ea1762a348c0a7bfb9fd2fe7f8bc5a6c16ca0097afc961d80d39", func := "pergola/pergolalaw4.SegmCross", spec := "segmCross", named := ["math/bits.divideError", "math/bits.overflowError"], apart := false, narrowed := true }
def SegmCrossUptoSaid : Prop := segmCrossUptoRow.holds Try.pinned (OpenSpec.upto segmCrossSpec)

/-- 'pergolalaw4.SegmParts', WHERE WHAT IT READS IS OF BULK AT MOST 1048576: true; the input reads as it did. -/
def segmPartsUptoRow : OpenClaim := { program := "ythjhhnolkiejpaa", sum := "5163a63e1bd6ea1762a348c0a7bfb9fd2fe7f8bc5a6c16ca0097afc961d80d39", func := "pergola/pergolalaw4.SegmParts", spec := "segmParts", named := ["math/bits.divideError", "math/bits.overflowError"], apart := false, narrowed := true }
def SegmPartsUptoSaid : Prop := segmPartsUptoRow.holds Try.pinned (OpenSpec.upto segmPartsSpec)

/-- 'pergolalaw7.FaultNone', WHERE WHAT IT READS IS OF BULK AT MOST 1048576: true; the input reads as it did. -/
def faultNoneUptoRow : OpenClaim := { program := "ythjhhnolkiejpaa", sum := "5163a63e1bd6ea1762a348c0a7bfb9fd2fe7f8bc5a6c16ca0097afc961d80d39", func := "pergola/pergolalaw7.FaultNone", spec := "faultNone", inPlace := ["internal/reflectlite.TypeOf"], unfollowed := true, recurses := true, apart := false, narrowed := true }
def FaultNoneUptoSaid : Prop := faultNoneUptoRow.holds Try.pinned (OpenSpec.upto faultNoneSpec)

/-- 'pergolalaw15.HeapLess', WHERE WHAT IT READS IS OF BULK AT MOST 1048576: true; the input reads as it did. -/
def heapLessUptoRow : OpenClaim := { program := "ythjhhnolkiejpaa", sum := "5163a63e1bd6ea1762a348c0a7bfb9fd2fe7f8bc5a6c16ca0097afc961d80d39", func := "pergola/pergolalaw15.HeapLess", spec := "heapLess", inPlace := ["math/bits.Add64"], apart := false, narrowed := true }
def HeapLessUptoSaid : Prop := heapLessUptoRow.holds Try.pinned (OpenSpec.upto heapLessSpec)

/-- 'pergolalaw15.HeapNothing', WHERE WHAT IT READS IS OF BULK AT MOST 1048576: true; the input reads as it did. -/
def heapNothingUptoRow : OpenClaim := { program := "ythjhhnolkiejpaa", sum := "5163a63e1bd6ea1762a348c0a7bfb9fd2fe7f8bc5a6c16ca0097afc961d80d39", func := "pergola/pergolalaw15.HeapNothing", spec := "heapNothing", inPlace := ["math/bits.Add64"], apart := false, narrowed := true }
def HeapNothingUptoSaid : Prop := heapNothingUptoRow.holds Try.pinned (OpenSpec.upto heapNothingSpec)

end Rows
end Go.Proofs.Ythjhhnolkiejpaa
