/-
  No cell of these rows narrows 'for every input' (looked for: loops, veiled, ifaces, maps, wideKeys, modest, calm, conditions, laid).
  DERIVED. THE GIVEN ROWS OF THIS SEAT. 8 by the template 'for every input the law returns true; each argument reads behind the call as it read before'; 0 by the template 'total and deterministic' (their statements: YtffobfjjbcdbdaaTotals.lean).
  GIVEN WITH THE SEED: the statements are not yours to turn. If you find one false, say at which input.
  Laid BY PROGRAM, IN A SANDBOX (cutbox-rows.mjs): the forced cells as the released guide's own fill.sh prints them over the translation d5b9c3319fa5de0e… (all of the seat's roots in one cut). By AI agents, Wed Nov 11 2026. No macro, syntax, notation, axiom, sorry.
-/
import Derived.Test.YtffobfjjbcdbdaaChecked
import GoSem.Claim
import GoSem.ClaimJoined
import GoSem.ClaimMapViews
import Derived.JoinedTies
import Derived.KernelRfl
namespace Go.Proofs.Ytffobfjjbcdbdaa
/- THE CELL 'sum', in the pinned program and in every row, IS THE sha256 OF THE DUMP (.gsa) THAT YtffobfjjbcdbdaaProg.lean LOADS. Nothing in Lean hashes anything: it is a label: what it is worth is what the hold of that sum in a sandbox is worth. -/
noncomputable def Try.pinned : Pinned := { name := "ytffobfjjbcdbdaa", sum := "d5b9c3319fa5de0efb75b6e6b46e19ceba44ac3d0caba4993ff6ae8917cfb38c", checked := Try.checked }
namespace Rows
def none {H : Type} : Left H := { results := [], args := [] }

/-- 'pergolalaw3.PlanePoints': WHATEVER THE INPUT: true; the input reads as it did. -/
def planePointsSpec : ChangeSpec := { name := "planePoints", fn := fun _ => fun
  | [d1, d2, d3] => { results := [.lit (.bool true)], args := [d1, d2, d3] }
  | _ => none }
def planePointsRow : OpenClaim := { program := "ytffobfjjbcdbdaa", sum := "d5b9c3319fa5de0efb75b6e6b46e19ceba44ac3d0caba4993ff6ae8917cfb38c", func := "pergola/pergolalaw3.PlanePoints", spec := "planePoints", inPlace := ["internal/reflectlite.TypeOf"], unfollowed := true, recurses := true, apart := false }
def PlanePointsSaid : Prop := planePointsRow.holds Try.pinned (OpenSpec.ofChange planePointsSpec)

/-- ITS FALSE NEIGHBOUR: 'it returns false'. Refute it at one input. -/
def planePointsWrong : ChangeSpec := { name := "planePoints", fn := fun _ => fun
  | [d1, d2, d3] => { results := [.lit (.bool false)], args := [d1, d2, d3] }
  | _ => none }
def PlanePointsWrongFalsely : Prop := planePointsRow.holds Try.pinned (OpenSpec.ofChange planePointsWrong)

/-- 'pergolalaw3.PlaneBoxes': WHATEVER THE INPUT: true; the input reads as it did. -/
def planeBoxesSpec : ChangeSpec := { name := "planeBoxes", fn := fun _ => fun
  | [d1, d2, d3] => { results := [.lit (.bool true)], args := [d1, d2, d3] }
  | _ => none }
def planeBoxesRow : OpenClaim := { program := "ytffobfjjbcdbdaa", sum := "d5b9c3319fa5de0efb75b6e6b46e19ceba44ac3d0caba4993ff6ae8917cfb38c", func := "pergola/pergolalaw3.PlaneBoxes", spec := "planeBoxes", inPlace := ["internal/reflectlite.TypeOf", "math/bits.Sub64"], unfollowed := true, recurses := true, apart := false }
def PlaneBoxesSaid : Prop := planeBoxesRow.holds Try.pinned (OpenSpec.ofChange planeBoxesSpec)

/-- ITS FALSE NEIGHBOUR: 'it returns false'. Refute it at one input. -/
def planeBoxesWrong : ChangeSpec := { name := "planeBoxes", fn := fun _ => fun
  | [d1, d2, d3] => { results := [.lit (.bool false)], args := [d1, d2, d3] }
  | _ => none }
def PlaneBoxesWrongFalsely : Prop := planeBoxesRow.holds Try.pinned (OpenSpec.ofChange planeBoxesWrong)

/-- 'pergolalaw3.PlaneUnions': WHATEVER THE INPUT: true; the input reads as it did. -/
def planeUnionsSpec : ChangeSpec := { name := "planeUnions", fn := fun _ => fun
  | [d] => { results := [.lit (.bool true)], args := [d] }
  | _ => none }
def planeUnionsRow : OpenClaim := { program := "ytffobfjjbcdbdaa", sum := "d5b9c3319fa5de0efb75b6e6b46e19ceba44ac3d0caba4993ff6ae8917cfb38c", func := "pergola/pergolalaw3.PlaneUnions", spec := "planeUnions", inPlace := ["internal/reflectlite.TypeOf"], unfollowed := true, recurses := true, apart := false }
def PlaneUnionsSaid : Prop := planeUnionsRow.holds Try.pinned (OpenSpec.ofChange planeUnionsSpec)

/-- ITS FALSE NEIGHBOUR: 'it returns false'. Refute it at one input. -/
def planeUnionsWrong : ChangeSpec := { name := "planeUnions", fn := fun _ => fun
  | [d] => { results := [.lit (.bool false)], args := [d] }
  | _ => none }
def PlaneUnionsWrongFalsely : Prop := planeUnionsRow.holds Try.pinned (OpenSpec.ofChange planeUnionsWrong)

/-- 'pergolalaw3.PlaneTurns': WHATEVER THE INPUT: true; the input reads as it did. -/
def planeTurnsSpec : ChangeSpec := { name := "planeTurns", fn := fun _ => fun
  | [d1, d2, d3] => { results := [.lit (.bool true)], args := [d1, d2, d3] }
  | _ => none }
def planeTurnsRow : OpenClaim := { program := "ytffobfjjbcdbdaa", sum := "d5b9c3319fa5de0efb75b6e6b46e19ceba44ac3d0caba4993ff6ae8917cfb38c", func := "pergola/pergolalaw3.PlaneTurns", spec := "planeTurns", apart := false }
def PlaneTurnsSaid : Prop := planeTurnsRow.holds Try.pinned (OpenSpec.ofChange planeTurnsSpec)

/-- ITS FALSE NEIGHBOUR: 'it returns false'. Refute it at one input. -/
def planeTurnsWrong : ChangeSpec := { name := "planeTurns", fn := fun _ => fun
  | [d1, d2, d3] => { results := [.lit (.bool false)], args := [d1, d2, d3] }
  | _ => none }
def PlaneTurnsWrongFalsely : Prop := planeTurnsRow.holds Try.pinned (OpenSpec.ofChange planeTurnsWrong)

/-- 'pergolalaw3.PlaneCovers': WHATEVER THE INPUT: true; the input reads as it did. -/
def planeCoversSpec : ChangeSpec := { name := "planeCovers", fn := fun _ => fun
  | [d1, d2] => { results := [.lit (.bool true)], args := [d1, d2] }
  | _ => none }
def planeCoversRow : OpenClaim := { program := "ytffobfjjbcdbdaa", sum := "d5b9c3319fa5de0efb75b6e6b46e19ceba44ac3d0caba4993ff6ae8917cfb38c", func := "pergola/pergolalaw3.PlaneCovers", spec := "planeCovers", apart := false }
def PlaneCoversSaid : Prop := planeCoversRow.holds Try.pinned (OpenSpec.ofChange planeCoversSpec)

/-- ITS FALSE NEIGHBOUR: 'it returns false'. Refute it at one input. -/
def planeCoversWrong : ChangeSpec := { name := "planeCovers", fn := fun _ => fun
  | [d1, d2] => { results := [.lit (.bool false)], args := [d1, d2] }
  | _ => none }
def PlaneCoversWrongFalsely : Prop := planeCoversRow.holds Try.pinned (OpenSpec.ofChange planeCoversWrong)

/-- 'pergolalaw3.PlaneMeets': WHATEVER THE INPUT: true; the input reads as it did. -/
def planeMeetsSpec : ChangeSpec := { name := "planeMeets", fn := fun _ => fun
  | [d1, d2, d3] => { results := [.lit (.bool true)], args := [d1, d2, d3] }
  | _ => none }
def planeMeetsRow : OpenClaim := { program := "ytffobfjjbcdbdaa", sum := "d5b9c3319fa5de0efb75b6e6b46e19ceba44ac3d0caba4993ff6ae8917cfb38c", func := "pergola/pergolalaw3.PlaneMeets", spec := "planeMeets", apart := false }
def PlaneMeetsSaid : Prop := planeMeetsRow.holds Try.pinned (OpenSpec.ofChange planeMeetsSpec)

/-- ITS FALSE NEIGHBOUR: 'it returns false'. Refute it at one input. -/
def planeMeetsWrong : ChangeSpec := { name := "planeMeets", fn := fun _ => fun
  | [d1, d2, d3] => { results := [.lit (.bool false)], args := [d1, d2, d3] }
  | _ => none }
def PlaneMeetsWrongFalsely : Prop := planeMeetsRow.holds Try.pinned (OpenSpec.ofChange planeMeetsWrong)

/-- 'pergolalaw3.PlaneGrows': WHATEVER THE INPUT: true; the input reads as it did. -/
def planeGrowsSpec : ChangeSpec := { name := "planeGrows", fn := fun _ => fun
  | [d1, d2, d3] => { results := [.lit (.bool true)], args := [d1, d2, d3] }
  | _ => none }
def planeGrowsRow : OpenClaim := { program := "ytffobfjjbcdbdaa", sum := "d5b9c3319fa5de0efb75b6e6b46e19ceba44ac3d0caba4993ff6ae8917cfb38c", func := "pergola/pergolalaw3.PlaneGrows", spec := "planeGrows", inPlace := ["internal/reflectlite.TypeOf", "math/bits.Sub64"], unfollowed := true, recurses := true, apart := false }
def PlaneGrowsSaid : Prop := planeGrowsRow.holds Try.pinned (OpenSpec.ofChange planeGrowsSpec)

/-- ITS FALSE NEIGHBOUR: 'it returns false'. Refute it at one input. -/
def planeGrowsWrong : ChangeSpec := { name := "planeGrows", fn := fun _ => fun
  | [d1, d2, d3] => { results := [.lit (.bool false)], args := [d1, d2, d3] }
  | _ => none }
def PlaneGrowsWrongFalsely : Prop := planeGrowsRow.holds Try.pinned (OpenSpec.ofChange planeGrowsWrong)

/-- 'pergolalaw3.PlaneSquares': WHATEVER THE INPUT: true; the input reads as it did. -/
def planeSquaresSpec : ChangeSpec := { name := "planeSquares", fn := fun _ => fun
  | [d1, d2] => { results := [.lit (.bool true)], args := [d1, d2] }
  | _ => none }
def planeSquaresRow : OpenClaim := { program := "ytffobfjjbcdbdaa", sum := "d5b9c3319fa5de0efb75b6e6b46e19ceba44ac3d0caba4993ff6ae8917cfb38c", func := "pergola/pergolalaw3.PlaneSquares", spec := "planeSquares", apart := false }
def PlaneSquaresSaid : Prop := planeSquaresRow.holds Try.pinned (OpenSpec.ofChange planeSquaresSpec)

/-- ITS FALSE NEIGHBOUR: 'it returns false'. Refute it at one input. -/
def planeSquaresWrong : ChangeSpec := { name := "planeSquares", fn := fun _ => fun
  | [d1, d2] => { results := [.lit (.bool false)], args := [d1, d2] }
  | _ => none }
def PlaneSquaresWrongFalsely : Prop := planeSquaresRow.holds Try.pinned (OpenSpec.ofChange planeSquaresWrong)

/- THE SECOND FORM. 'bulk': how many values and letters a reading holds, each counted each time it is reached (what is shared counts as often as it is met; a slice's spare places count too). A statement '..UptoSaid' is the law's where the arguments, and the package variables that the reading takes, are together of bulk at most 1048576: NARROWER than '..Said'. Prove '..Said' where nothing that the law and all that it calls make is longer than what came in: it says more and counts as full. Else prove '..UptoSaid'. A law counts once. -/
mutual
def uptoBulk {H : Type} : DataW H → Nat
  | .lit (.string bytes) => bytes.length + 1
  | .lit _ => 1
  | .nil => 1
  | .ptr d => uptoBulk d + 1
  | .slice elems spare => uptoBulkAll elems + uptoBulkAll spare + 1
  | .agg parts => uptoBulkAll parts + 1
  | .iface _ d => uptoBulk d + 1
  | .map entries => uptoBulkEntries entries + 1
  | .held _ => 1
def uptoBulkAll {H : Type} : List (DataW H) → Nat
  | [] => 0
  | d :: r => uptoBulk d + uptoBulkAll r
def uptoBulkEntries {H : Type} : List (Lit × DataW H) → Nat
  | [] => 0
  | x :: r => uptoBulkEntry x + uptoBulkEntries r
def uptoBulkEntry {H : Type} : Lit × DataW H → Nat
  | (.string bytes, d) => bytes.length + uptoBulk d + 1
  | (_, d) => uptoBulk d + 1
 end
def uptoSmall : (H : Type) → List (DataW H) → Bool := fun _ ds => decide (uptoBulkAll ds ≤ 1048576)
def OpenSpec.upto (s : _root_.Go.ChangeSpec) : _root_.Go.OpenSpec := { _root_.Go.OpenSpec.ofChange s with cond := some uptoSmall }

/-- 'pergolalaw3.PlanePoints', WHERE WHAT IT READS IS OF BULK AT MOST 1048576: true; the input reads as it did. -/
def planePointsUptoRow : OpenClaim := { program := "ytffobfjjbcdbdaa", sum := "d5b9c3319fa5de0efb75b6e6b46e19ceba44ac3d0caba4993ff6ae8917cfb38c", func := "pergola/pergolalaw3.PlanePoints", spec := "planePoints", inPlace := ["internal/reflectlite.TypeOf"], unfollowed := true, recurses := true, apart := false, narrowed := true }
def PlanePointsUptoSaid : Prop := planePointsUptoRow.holds Try.pinned (OpenSpec.upto planePointsSpec)

/-- 'pergolalaw3.PlaneBoxes', WHERE WHAT IT READS IS OF BULK AT MOST 1048576: true; the input reads as it did. -/
def planeBoxesUptoRow : OpenClaim := { program := "ytffobfjjbcdbdaa", sum := "d5b9c3319fa5de0efb75b6e6b46e19ceba44ac3d0caba4993ff6ae8917cfb38c", func := "pergola/pergolalaw3.PlaneBoxes", spec := "planeBoxes", inPlace := ["internal/reflectlite.TypeOf", "math/bits.Sub64"], unfollowed := true, recurses := true, apart := false, narrowed := true }
def PlaneBoxesUptoSaid : Prop := planeBoxesUptoRow.holds Try.pinned (OpenSpec.upto planeBoxesSpec)

/-- 'pergolalaw3.PlaneUnions', WHERE WHAT IT READS IS OF BULK AT MOST 1048576: true; the input reads as it did. -/
def planeUnionsUptoRow : OpenClaim := { program := "ytffobfjjbcdbdaa", sum := "d5b9c3319fa5de0efb75b6e6b46e19ceba44ac3d0caba4993ff6ae8917cfb38c", func := "pergola/pergolalaw3.PlaneUnions", spec := "planeUnions", inPlace := ["internal/reflectlite.TypeOf"], unfollowed := true, recurses := true, apart := false, narrowed := true }
def PlaneUnionsUptoSaid : Prop := planeUnionsUptoRow.holds Try.pinned (OpenSpec.upto planeUnionsSpec)

/-- 'pergolalaw3.PlaneTurns', WHERE WHAT IT READS IS OF BULK AT MOST 1048576: true; the input reads as it did. -/
def planeTurnsUptoRow : OpenClaim := { program := "ytffobfjjbcdbdaa", sum := "d5b9c3319fa5de0efb75b6e6b46e19ceba44ac3d0caba4993ff6ae8917cfb38c", func := "pergola/pergolalaw3.PlaneTurns", spec := "planeTurns", apart := false, narrowed := true }
def PlaneTurnsUptoSaid : Prop := planeTurnsUptoRow.holds Try.pinned (OpenSpec.upto planeTurnsSpec)

/-- 'pergolalaw3.PlaneCovers', WHERE WHAT IT READS IS OF BULK AT MOST 1048576: true; the input reads as it did. -/
def planeCoversUptoRow : OpenClaim := { program := "ytffobfjjbcdbdaa", sum := "d5b9c3319fa5de0efb75b6e6b46e19ceba44ac3d0caba4993ff6ae8917cfb38c", func := "pergola/pergolalaw3.PlaneCovers", spec := "planeCovers", apart := false, narrowed := true }
def PlaneCoversUptoSaid : Prop := planeCoversUptoRow.holds Try.pinned (OpenSpec.upto planeCoversSpec)

/-- 'pergolalaw3.PlaneMeets', WHERE WHAT IT READS IS OF BULK AT MOST 1048576: true; the input reads as it did. -/
def planeMeetsUptoRow : OpenClaim := { program := "ytffobfjjbcdbdaa", sum := "d5b9c3319fa5de0efb75b6e6b46e19ceba44ac3d0caba4993ff6ae8917cfb38c", func := "pergola/pergolalaw3.PlaneMeets", spec := "planeMeets", apart := false, narrowed := true }
def PlaneMeetsUptoSaid : Prop := planeMeetsUptoRow.holds Try.pinned (OpenSpec.upto planeMeetsSpec)

/-- 'pergolalaw3.PlaneGrows', WHERE WHAT IT READS IS OF BULK AT MOST 1048576: true; the input reads as it did. -/
def planeGrowsUptoRow : OpenClaim := { program := "ytffobfjjbcdbdaa", sum := "d5b9c3319fa5de0efb75b6e6b46e19ceba44ac3d0caba4993ff6ae8917cfb38c", func := "pergola/pergolalaw3.PlaneGrows", spec := "planeGrows", inPlace := ["internal/reflectlite.TypeOf", "math/bits.Sub64"], unfollowed := true, recurses := true, apart := false, narrowed := true }
def PlaneGrowsUptoSaid : Prop := planeGrowsUptoRow.holds Try.pinned (OpenSpec.upto planeGrowsSpec)

/-- 'pergolalaw3.PlaneSquares', WHERE WHAT IT READS IS OF BULK AT MOST 1048576: true; the input reads as it did. -/
def planeSquaresUptoRow : OpenClaim := { program := "ytffobfjjbcdbdaa", sum := "d5b9c3319fa5de0efb75b6e6b46e19ceba44ac3d0caba4993ff6ae8917cfb38c", func := "pergola/pergolalaw3.PlaneSquares", spec := "planeSquares", apart := false, narrowed := true }
def PlaneSquaresUptoSaid : Prop := planeSquaresUptoRow.holds Try.pinned (OpenSpec.upto planeSquaresSpec)

end Rows
end Go.Proofs.Ytffobfjjbcdbdaa
