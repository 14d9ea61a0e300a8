/-
  No cell of these rows narrows 'for every input' (looked for: loops, veiled, ifaces, maps, wideKeys, modest, calm, conditions, laid).
  DERIVED. THE GIVEN ROWS OF THIS SEAT. 7 by the template 'for every input the law returns true; each argument reads behind the call as it read before'; 0 by the template 'total and deterministic' (their statements: YtldlpbfncgcimaaTotals.lean).
  GIVEN WITH THE SEED: the statements are not yours to turn. If you find one false, say at which input.
  Laid BY PROGRAM, IN A SANDBOX (cutbox-rows.mjs): the forced cells as the released guide's own fill.sh prints them over the translation aac69645127ec27d… (all of the seat's roots in one cut). By AI agents, Wed Nov 11 2026. No macro, syntax, notation, axiom, sorry.
-/
import Derived.Test.YtldlpbfncgcimaaChecked
import GoSem.Claim
import GoSem.ClaimJoined
import GoSem.ClaimMapViews
import Derived.JoinedTies
import Derived.KernelRfl
namespace Go.Proofs.Ytldlpbfncgcimaa
/- THE CELL 'sum', in the pinned program and in every row, IS THE sha256 OF THE DUMP (.gsa) THAT YtldlpbfncgcimaaProg.lean LOADS. Nothing in Lean hashes anything: it is a label: what it is worth is what the hold of that sum in a sandbox is worth. -/
noncomputable def Try.pinned : Pinned := { name := "ytldlpbfncgcimaa", sum := "aac69645127ec27dce07b6f86f7ccf972af99813cb81cf76c427b2be427be4a8", checked := Try.checked }
namespace Rows
def none {H : Type} : Left H := { results := [], args := [] }

/-- 'pergolalaw8.EncNumbers': WHATEVER THE INPUT: true; the input reads as it did. -/
def encNumbersSpec : ChangeSpec := { name := "encNumbers", fn := fun _ => fun
  | [d1, d2, d3] => { results := [.lit (.bool true)], args := [d1, d2, d3] }
  | _ => none }
def encNumbersRow : OpenClaim := { program := "ytldlpbfncgcimaa", sum := "aac69645127ec27dce07b6f86f7ccf972af99813cb81cf76c427b2be427be4a8", func := "pergola/pergolalaw8.EncNumbers", spec := "encNumbers", apart := false }
def EncNumbersSaid : Prop := encNumbersRow.holds Try.pinned (OpenSpec.ofChange encNumbersSpec)

/-- ITS FALSE NEIGHBOUR: 'it returns false'. Refute it at one input. -/
def encNumbersWrong : ChangeSpec := { name := "encNumbers", fn := fun _ => fun
  | [d1, d2, d3] => { results := [.lit (.bool false)], args := [d1, d2, d3] }
  | _ => none }
def EncNumbersWrongFalsely : Prop := encNumbersRow.holds Try.pinned (OpenSpec.ofChange encNumbersWrong)

/-- 'pergolalaw8.EncOrder': WHATEVER THE INPUT: true; the input reads as it did. -/
def encOrderSpec : ChangeSpec := { name := "encOrder", fn := fun _ => fun
  | [d1, d2] => { results := [.lit (.bool true)], args := [d1, d2] }
  | _ => none }
def encOrderRow : OpenClaim := { program := "ytldlpbfncgcimaa", sum := "aac69645127ec27dce07b6f86f7ccf972af99813cb81cf76c427b2be427be4a8", func := "pergola/pergolalaw8.EncOrder", spec := "encOrder", apart := false }
def EncOrderSaid : Prop := encOrderRow.holds Try.pinned (OpenSpec.ofChange encOrderSpec)

/-- ITS FALSE NEIGHBOUR: 'it returns false'. Refute it at one input. -/
def encOrderWrong : ChangeSpec := { name := "encOrder", fn := fun _ => fun
  | [d1, d2] => { results := [.lit (.bool false)], args := [d1, d2] }
  | _ => none }
def EncOrderWrongFalsely : Prop := encOrderRow.holds Try.pinned (OpenSpec.ofChange encOrderWrong)

/-- 'pergolalaw15.HeapPlays': WHATEVER THE INPUT: true; the input reads as it did. -/
def heapPlaysSpec : ChangeSpec := { name := "heapPlays", fn := fun _ => fun
  | [d] => { results := [.lit (.bool true)], args := [d] }
  | _ => none }
def heapPlaysRow : OpenClaim := { program := "ytldlpbfncgcimaa", sum := "aac69645127ec27dce07b6f86f7ccf972af99813cb81cf76c427b2be427be4a8", func := "pergola/pergolalaw15.HeapPlays", spec := "heapPlays", inPlace := ["math/bits.Add64"], apart := false }
def HeapPlaysSaid : Prop := heapPlaysRow.holds Try.pinned (OpenSpec.ofChange heapPlaysSpec)

/-- ITS FALSE NEIGHBOUR: 'it returns false'. Refute it at one input. -/
def heapPlaysWrong : ChangeSpec := { name := "heapPlays", fn := fun _ => fun
  | [d] => { results := [.lit (.bool false)], args := [d] }
  | _ => none }
def HeapPlaysWrongFalsely : Prop := heapPlaysRow.holds Try.pinned (OpenSpec.ofChange heapPlaysWrong)

/-- 'pergolalaw15.HeapOrder': WHATEVER THE INPUT: true; the input reads as it did. -/
def heapOrderSpec : ChangeSpec := { name := "heapOrder", fn := fun _ => fun
  | [d] => { results := [.lit (.bool true)], args := [d] }
  | _ => none }
def heapOrderRow : OpenClaim := { program := "ytldlpbfncgcimaa", sum := "aac69645127ec27dce07b6f86f7ccf972af99813cb81cf76c427b2be427be4a8", func := "pergola/pergolalaw15.HeapOrder", spec := "heapOrder", inPlace := ["math/bits.Add64"], apart := false }
def HeapOrderSaid : Prop := heapOrderRow.holds Try.pinned (OpenSpec.ofChange heapOrderSpec)

/-- ITS FALSE NEIGHBOUR: 'it returns false'. Refute it at one input. -/
def heapOrderWrong : ChangeSpec := { name := "heapOrder", fn := fun _ => fun
  | [d] => { results := [.lit (.bool false)], args := [d] }
  | _ => none }
def HeapOrderWrongFalsely : Prop := heapOrderRow.holds Try.pinned (OpenSpec.ofChange heapOrderWrong)

/-- 'pergolalaw15.HeapLess': WHATEVER THE INPUT: true; the input reads as it did. -/
def heapLessSpec : ChangeSpec := { name := "heapLess", fn := fun _ => fun
  | [d1, d2] => { results := [.lit (.bool true)], args := [d1, d2] }
  | _ => none }
def heapLessRow : OpenClaim := { program := "ytldlpbfncgcimaa", sum := "aac69645127ec27dce07b6f86f7ccf972af99813cb81cf76c427b2be427be4a8", func := "pergola/pergolalaw15.HeapLess", spec := "heapLess", inPlace := ["math/bits.Add64"], apart := false }
def HeapLessSaid : Prop := heapLessRow.holds Try.pinned (OpenSpec.ofChange heapLessSpec)

/-- ITS FALSE NEIGHBOUR: 'it returns false'. Refute it at one input. -/
def heapLessWrong : ChangeSpec := { name := "heapLess", fn := fun _ => fun
  | [d1, d2] => { results := [.lit (.bool false)], args := [d1, d2] }
  | _ => none }
def HeapLessWrongFalsely : Prop := heapLessRow.holds Try.pinned (OpenSpec.ofChange heapLessWrong)

/-- 'pergolalaw15.HeapNothing': WHATEVER THE INPUT: true; the input reads as it did. -/
def heapNothingSpec : ChangeSpec := { name := "heapNothing", fn := fun _ => fun
  | [d] => { results := [.lit (.bool true)], args := [d] }
  | _ => none }
def heapNothingRow : OpenClaim := { program := "ytldlpbfncgcimaa", sum := "aac69645127ec27dce07b6f86f7ccf972af99813cb81cf76c427b2be427be4a8", func := "pergola/pergolalaw15.HeapNothing", spec := "heapNothing", inPlace := ["math/bits.Add64"], apart := false }
def HeapNothingSaid : Prop := heapNothingRow.holds Try.pinned (OpenSpec.ofChange heapNothingSpec)

/-- ITS FALSE NEIGHBOUR: 'it returns false'. Refute it at one input. -/
def heapNothingWrong : ChangeSpec := { name := "heapNothing", fn := fun _ => fun
  | [d] => { results := [.lit (.bool false)], args := [d] }
  | _ => none }
def HeapNothingWrongFalsely : Prop := heapNothingRow.holds Try.pinned (OpenSpec.ofChange heapNothingWrong)

/-- 'pergolalaw15.HeapTurns': WHATEVER THE INPUT: true; the input reads as it did. -/
def heapTurnsSpec : ChangeSpec := { name := "heapTurns", fn := fun _ => fun
  | [d] => { results := [.lit (.bool true)], args := [d] }
  | _ => none }
def heapTurnsRow : OpenClaim := { program := "ytldlpbfncgcimaa", sum := "aac69645127ec27dce07b6f86f7ccf972af99813cb81cf76c427b2be427be4a8", func := "pergola/pergolalaw15.HeapTurns", spec := "heapTurns", inPlace := ["math/bits.Add64"], unfollowed := true, recurses := true, apart := false }
def HeapTurnsSaid : Prop := heapTurnsRow.holds Try.pinned (OpenSpec.ofChange heapTurnsSpec)

/-- ITS FALSE NEIGHBOUR: 'it returns false'. Refute it at one input. -/
def heapTurnsWrong : ChangeSpec := { name := "heapTurns", fn := fun _ => fun
  | [d] => { results := [.lit (.bool false)], args := [d] }
  | _ => none }
def HeapTurnsWrongFalsely : Prop := heapTurnsRow.holds Try.pinned (OpenSpec.ofChange heapTurnsWrong)

/- THE SECOND FORM. 'bulk': how many values and letters a reading holds, each counted each time it is reached (what is shared counts as often as it is met; a slice's spare places count too). A statement '..UptoSaid' is the law's where the arguments, and the package variables that the reading takes, are together of bulk at most 1048576: NARROWER than '..Said'. Prove '..Said' where nothing that the law and all that it calls make is longer than what came in: it says more and counts as full. Else prove '..UptoSaid'. A law counts once. -/
mutual
def uptoBulk {H : Type} : DataW H → Nat
  | .lit (.string bytes) => bytes.length + 1
  | .lit _ => 1
  | .nil => 1
  | .ptr d => uptoBulk d + 1
  | .slice elems spare => uptoBulkAll elems + uptoBulkAll spare + 1
  | .agg parts => uptoBulkAll parts + 1
  | .iface _ d => uptoBulk d + 1
  | .map entries => uptoBulkEntries entries + 1
  | .held _ => 1
def uptoBulkAll {H : Type} : List (DataW H) → Nat
  | [] => 0
  | d :: r => uptoBulk d + uptoBulkAll r
def uptoBulkEntries {H : Type} : List (Lit × DataW H) → Nat
  | [] => 0
  | x :: r => uptoBulkEntry x + uptoBulkEntries r
def uptoBulkEntry {H : Type} : Lit × DataW H → Nat
  | (.string bytes, d) => bytes.length + uptoBulk d + 1
  | (_, d) => uptoBulk d + 1
 end
def uptoSmall : (H : Type) → List (DataW H) → Bool := fun _ ds => decide (uptoBulkAll ds ≤ 1048576)
def OpenSpec.upto (s : _root_.Go.ChangeSpec) : _root_.Go.OpenSpec := { _root_.Go.OpenSpec.ofChange s with cond := some uptoSmall }

/-- 'pergolalaw8.EncNumbers', WHERE WHAT IT READS IS OF BULK AT MOST 1048576: true; the input reads as it did. -/
def encNumbersUptoRow : OpenClaim := { program := "ytldlpbfncgcimaa", sum := "aac69645127ec27dce07b6f86f7ccf972af99813cb81cf76c427b2be427be4a8", func := "pergola/pergolalaw8.EncNumbers", spec := "encNumbers", apart := false, narrowed := true }
def EncNumbersUptoSaid : Prop := encNumbersUptoRow.holds Try.pinned (OpenSpec.upto encNumbersSpec)

/-- 'pergolalaw8.EncOrder', WHERE WHAT IT READS IS OF BULK AT MOST 1048576: true; the input reads as it did. -/
def encOrderUptoRow : OpenClaim := { program := "ytldlpbfncgcimaa", sum := "aac69645127ec27dce07b6f86f7ccf972af99813cb81cf76c427b2be427be4a8", func := "pergola/pergolalaw8.EncOrder", spec := "encOrder", apart := false, narrowed := true }
def EncOrderUptoSaid : Prop := encOrderUptoRow.holds Try.pinned (OpenSpec.upto encOrderSpec)

/-- 'pergolalaw15.HeapPlays', WHERE WHAT IT READS IS OF BULK AT MOST 1048576: true; the input reads as it did. -/
def heapPlaysUptoRow : OpenClaim := { program := "ytldlpbfncgcimaa", sum := "aac69645127ec27dce07b6f86f7ccf972af99813cb81cf76c427b2be427be4a8", func := "pergola/pergolalaw15.HeapPlays", spec := "heapPlays", inPlace := ["math/bits.Add64"], apart := false, narrowed := true }
def HeapPlaysUptoSaid : Prop := heapPlaysUptoRow.holds Try.pinned (OpenSpec.upto heapPlaysSpec)

/-- 'pergolalaw15.HeapOrder', WHERE WHAT IT READS IS OF BULK AT MOST 1048576: true; the input reads as it did. -/
def heapOrderUptoRow : OpenClaim := { program := "ytldlpbfncgcimaa", sum := "aac69645127ec27dce07b6f86f7ccf972af99813cb81cf76c427b2be427be4a8", func := "pergola/pergolalaw15.HeapOrder", spec := "heapOrder", inPlace := ["math/bits.Add64"], apart := false, narrowed := true }
def HeapOrderUptoSaid : Prop := heapOrderUptoRow.holds Try.pinned (OpenSpec.upto heapOrderSpec)

/-- 'pergolalaw15.HeapLess', WHERE WHAT IT READS IS OF BULK AT MOST 1048576: true; the input reads as it did. -/
def heapLessUptoRow : OpenClaim := { program := "ytldlpbfncgcimaa", sum := "aac69645127ec27dce07b6f86f7ccf972af99813cb81cf76c427b2be427be4a8", func := "pergola/pergolalaw15.HeapLess", spec := "heapLess", inPlace := ["math/bits.Add64"], apart := false, narrowed := true }
def HeapLessUptoSaid : Prop := heapLessUptoRow.holds Try.pinned (OpenSpec.upto heapLessSpec)

/-- 'pergolalaw15.HeapNothing', WHERE WHAT IT READS IS OF BULK AT MOST 1048576: true; the input reads as it did. -/
def heapNothingUptoRow : OpenClaim := { program := "ytldlpbfncgcimaa", sum := "aac69645127ec27dce07b6f86f7ccf972af99813cb81cf76c427b2be427be4a8", func := "pergola/pergolalaw15.HeapNothing", spec := "heapNothing", inPlace := ["math/bits.Add64"], apart := false, narrowed := true }
def HeapNothingUptoSaid : Prop := heapNothingUptoRow.holds Try.pinned (OpenSpec.upto heapNothingSpec)

/-- 'pergolalaw15.HeapTurns', WHERE WHAT IT READS IS OF BULK AT MOST 1048576: true; the input reads as it did. -/
def heapTurnsUptoRow : OpenClaim := { program := "ytldlpbfncgcimaa", sum := "aac69645127ec27dce07b6f86f7ccf972af99813cb81cf76c427b2be427be4a8", func := "pergola/pergolalaw15.HeapTurns", spec := "heapTurns", inPlace := ["math/bits.Add64"], unfollowed := true, recurses := true, apart := false, narrowed := true }
def HeapTurnsUptoSaid : Prop := heapTurnsUptoRow.holds Try.pinned (OpenSpec.upto heapTurnsSpec)

end Rows
end Go.Proofs.Ytldlpbfncgcimaa
