/-
  NARROWER THAN 'FOR EVERY INPUT', by the rows' own cells (each row's printed sentence says how): FaultAsks: loops · FaultRoots: loops · FaultOrder: loops.
  DERIVED. THE GIVEN ROWS OF THIS SEAT. 4 by the template 'for every input the law returns true; each argument reads behind the call as it read before'; 0 by the template 'total and deterministic' (their statements: YtgmmhddlfalehaaTotals.lean).
  GIVEN WITH THE SEED: the statements are not yours to turn. If you find one false, say at which input.
  Laid BY PROGRAM, IN A SANDBOX (cutbox-rows.mjs): the forced cells as the released guide's own fill.sh prints them over the translation b19f8307f4fc4567… (all of the seat's roots in one cut). By AI agents, Wed Nov 11 2026. No macro, syntax, notation, axiom, sorry.
-/
import Derived.Test.YtgmmhddlfalehaaChecked
import GoSem.Claim
import GoSem.ClaimJoined
import GoSem.ClaimMapViews
import Derived.JoinedTies
import Derived.KernelRfl
namespace Go.Proofs.Ytgmmhddlfalehaa
/- THE CELL 'sum', in the pinned program and in every row, IS THE sha256 OF THE DUMP (.gsa) THAT YtgmmhddlfalehaaProg.lean LOADS. Nothing in Lean hashes anything: it is a label: what it is worth is what the hold of that sum in a sandbox is worth. -/
noncomputable def Try.pinned : Pinned := { name := "ytgmmhddlfalehaa", sum := "b19f8307f4fc45674dec1fab5124da7c92ce5195356a3b7e267b8401ccd73f0f", checked := Try.checked }
namespace Rows
def none {H : Type} : Left H := { results := [], args := [] }

/-- 'pergolalaw7.FaultAsks': WHATEVER THE INPUT: true; the input reads as it did. -/
def faultAsksSpec : ChangeSpec := { name := "faultAsks", fn := fun _ => fun
  | [d1, d2] => { results := [.lit (.bool true)], args := [d1, d2] }
  | _ => none }
def faultAsksRow : OpenClaim := { program := "ytgmmhddlfalehaa", sum := "b19f8307f4fc45674dec1fab5124da7c92ce5195356a3b7e267b8401ccd73f0f", func := "pergola/pergolalaw7.FaultAsks", spec := "faultAsks", unfollowed := true, recurses := true, loops := true, apart := false }
def FaultAsksSaid : Prop := faultAsksRow.holds Try.pinned (OpenSpec.ofChange faultAsksSpec)

/-- ITS FALSE NEIGHBOUR: 'it returns false'. Refute it at one input. -/
def faultAsksWrong : ChangeSpec := { name := "faultAsks", fn := fun _ => fun
  | [d1, d2] => { results := [.lit (.bool false)], args := [d1, d2] }
  | _ => none }
def FaultAsksWrongFalsely : Prop := faultAsksRow.holds Try.pinned (OpenSpec.ofChange faultAsksWrong)

/-- 'pergolalaw7.FaultRoots': WHATEVER THE INPUT: true; the input reads as it did. -/
def faultRootsSpec : ChangeSpec := { name := "faultRoots", fn := fun _ => fun
  | [d] => { results := [.lit (.bool true)], args := [d] }
  | _ => none }
def faultRootsRow : OpenClaim := { program := "ytgmmhddlfalehaa", sum := "b19f8307f4fc45674dec1fab5124da7c92ce5195356a3b7e267b8401ccd73f0f", func := "pergola/pergolalaw7.FaultRoots", spec := "faultRoots", unfollowed := true, recurses := true, loops := true, apart := false }
def FaultRootsSaid : Prop := faultRootsRow.holds Try.pinned (OpenSpec.ofChange faultRootsSpec)

/-- ITS FALSE NEIGHBOUR: 'it returns false'. Refute it at one input. -/
def faultRootsWrong : ChangeSpec := { name := "faultRoots", fn := fun _ => fun
  | [d] => { results := [.lit (.bool false)], args := [d] }
  | _ => none }
def FaultRootsWrongFalsely : Prop := faultRootsRow.holds Try.pinned (OpenSpec.ofChange faultRootsWrong)

/-- 'pergolalaw7.FaultOrder': WHATEVER THE INPUT: true; the input reads as it did. -/
def faultOrderSpec : ChangeSpec := { name := "faultOrder", fn := fun _ => fun
  | [d1, d2] => { results := [.lit (.bool true)], args := [d1, d2] }
  | _ => none }
def faultOrderRow : OpenClaim := { program := "ytgmmhddlfalehaa", sum := "b19f8307f4fc45674dec1fab5124da7c92ce5195356a3b7e267b8401ccd73f0f", func := "pergola/pergolalaw7.FaultOrder", spec := "faultOrder", unfollowed := true, recurses := true, loops := true, apart := false }
def FaultOrderSaid : Prop := faultOrderRow.holds Try.pinned (OpenSpec.ofChange faultOrderSpec)

/-- ITS FALSE NEIGHBOUR: 'it returns false'. Refute it at one input. -/
def faultOrderWrong : ChangeSpec := { name := "faultOrder", fn := fun _ => fun
  | [d1, d2] => { results := [.lit (.bool false)], args := [d1, d2] }
  | _ => none }
def FaultOrderWrongFalsely : Prop := faultOrderRow.holds Try.pinned (OpenSpec.ofChange faultOrderWrong)

/-- 'pergolalaw7.FaultNone': WHATEVER THE INPUT: true; the input reads as it did. -/
def faultNoneSpec : ChangeSpec := { name := "faultNone", fn := fun _ => fun
  | [d1, d2] => { results := [.lit (.bool true)], args := [d1, d2] }
  | _ => none }
def faultNoneRow : OpenClaim := { program := "ytgmmhddlfalehaa", sum := "b19f8307f4fc45674dec1fab5124da7c92ce5195356a3b7e267b8401ccd73f0f", func := "pergola/pergolalaw7.FaultNone", spec := "faultNone", inPlace := ["internal/reflectlite.TypeOf"], unfollowed := true, recurses := true, apart := false }
def FaultNoneSaid : Prop := faultNoneRow.holds Try.pinned (OpenSpec.ofChange faultNoneSpec)

/-- ITS FALSE NEIGHBOUR: 'it returns false'. Refute it at one input. -/
def faultNoneWrong : ChangeSpec := { name := "faultNone", fn := fun _ => fun
  | [d1, d2] => { results := [.lit (.bool false)], args := [d1, d2] }
  | _ => none }
def FaultNoneWrongFalsely : Prop := faultNoneRow.holds Try.pinned (OpenSpec.ofChange faultNoneWrong)

/- THE SECOND FORM. 'bulk': how many values and letters a reading holds, each counted each time it is reached (what is shared counts as often as it is met; a slice's spare places count too). A statement '..UptoSaid' is the law's where the arguments, and the package variables that the reading takes, are together of bulk at most 1048576: NARROWER than '..Said'. Prove '..Said' where nothing that the law and all that it calls make is longer than what came in: it says more and counts as full. Else prove '..UptoSaid'. A law counts once. -/
mutual
def uptoBulk {H : Type} : DataW H → Nat
  | .lit (.string bytes) => bytes.length + 1
  | .lit _ => 1
  | .nil => 1
  | .ptr d => uptoBulk d + 1
  | .slice elems spare => uptoBulkAll elems + uptoBulkAll spare + 1
  | .agg parts => uptoBulkAll parts + 1
  | .iface _ d => uptoBulk d + 1
  | .map entries => uptoBulkEntries entries + 1
  | .held _ => 1
def uptoBulkAll {H : Type} : List (DataW H) → Nat
  | [] => 0
  | d :: r => uptoBulk d + uptoBulkAll r
def uptoBulkEntries {H : Type} : List (Lit × DataW H) → Nat
  | [] => 0
  | x :: r => uptoBulkEntry x + uptoBulkEntries r
def uptoBulkEntry {H : Type} : Lit × DataW H → Nat
  | (.string bytes, d) => bytes.length + uptoBulk d + 1
  | (_, d) => uptoBulk d + 1
 end
def uptoSmall : (H : Type) → List (DataW H) → Bool := fun _ ds => decide (uptoBulkAll ds ≤ 1048576)
def OpenSpec.upto (s : _root_.Go.ChangeSpec) : _root_.Go.OpenSpec := { _root_.Go.OpenSpec.ofChange s with cond := some uptoSmall }

/-- 'pergolalaw7.FaultAsks', WHERE WHAT IT READS IS OF BULK AT MOST 1048576: true; the input reads as it did. -/
def faultAsksUptoRow : OpenClaim := { program := "ytgmmhddlfalehaa", sum := "b19f8307f4fc45674dec1fab5124da7c92ce5195356a3b7e267b8401ccd73f0f", func := "pergola/pergolalaw7.FaultAsks", spec := "faultAsks", unfollowed := true, recurses := true, loops := true, apart := false, narrowed := true }
def FaultAsksUptoSaid : Prop := faultAsksUptoRow.holds Try.pinned (OpenSpec.upto faultAsksSpec)

/-- 'pergolalaw7.FaultRoots', WHERE WHAT IT READS IS OF BULK AT MOST 1048576: true; the input reads as it did. -/
def faultRootsUptoRow : OpenClaim := { program := "ytgmmhddlfalehaa", sum := "b19f8307f4fc45674dec1fab5124da7c92ce5195356a3b7e267b8401ccd73f0f", func := "pergola/pergolalaw7.FaultRoots", spec := "faultRoots", unfollowed := true, recurses := true, loops := true, apart := false, narrowed := true }
def FaultRootsUptoSaid : Prop := faultRootsUptoRow.holds Try.pinned (OpenSpec.upto faultRootsSpec)

/-- 'pergolalaw7.FaultOrder', WHERE WHAT IT READS IS OF BULK AT MOST 1048576: true; the input reads as it did. -/
def faultOrderUptoRow : OpenClaim := { program := "ytgmmhddlfalehaa", sum := "b19f8307f4fc45674dec1fab5124da7c92ce5195356a3b7e267b8401ccd73f0f", func := "pergola/pergolalaw7.FaultOrder", spec := "faultOrder", unfollowed := true, recurses := true, loops := true, apart := false, narrowed := true }
def FaultOrderUptoSaid : Prop := faultOrderUptoRow.holds Try.pinned (OpenSpec.upto faultOrderSpec)

/-- 'pergolalaw7.FaultNone', WHERE WHAT IT READS IS OF BULK AT MOST 1048576: true; the input reads as it did. -/
def faultNoneUptoRow : OpenClaim := { program := "ytgmmhddlfalehaa", sum := "b19f8307f4fc45674dec1fab5124da7c92ce5195356a3b7e267b8401ccd73f0f", func := "pergola/pergolalaw7.FaultNone", spec := "faultNone", inPlace := ["internal/reflectlite.TypeOf"], unfollowed := true, recurses := true, apart := false, narrowed := true }
def FaultNoneUptoSaid : Prop := faultNoneUptoRow.holds Try.pinned (OpenSpec.upto faultNoneSpec)

end Rows
end Go.Proofs.Ytgmmhddlfalehaa
