/- frame: what the document fixes -/
import Derived.Test.YtilijbplfobneaaDoorFd
import Derived.Lib.SlBytesConst
namespace Go.Proofs.YtilijbplfobneaaDoor
set_option linter.unusedVariables false
open Go.ChangeShapes Go.WideShapes Go.ChangeAt Go.RowKit

/-- Bytes that are typed: a row with the mark of a string's. -/
theorem row_litM (w : World) (L : List UInt8) (f : Nat × Nat) (hm : L.length ≤ 1000) : Row (w.alloc (.cells (L.map bv).toArray 5 f)) (.slice (some ⟨w.heap.size, 0, none⟩) L.length L.length) L := by
  refine ⟨_, L.length, w.heap.size, 0, rfl, Nat.le_refl _, by omega, fun _ => rfl, fun j hj => ?_⟩
  rw [Nat.zero_add, cell_of_row _ w.heap.size j _ 5 f (heap_alloc_new w _)]
  simp [hj]
theorem frow {w : World} {base : Nat} {v : Value} (h : Own w base v (fr [97])) : ∃ g cap : Nat, v = .slice (some ⟨g, 0, none⟩) 9 cap ∧ 9 ≤ cap ∧ (cap : Int) ≤ 9223372036854775807 ∧ w.cell? ⟨g, 0, none⟩ = some (.int .u8 1) := by
  obtain ⟨g, cap, rfl, -, -, h1, h2⟩ := row_form h (by decide)
  refine ⟨g, cap, rfl, h1, h2, ?_⟩
  have := World.ownsRow.cellAt h 0 (by decide)
  rw [this]
  rfl
theorem sum_digits : Cr.sum [49, 50, 51, 52, 53, 54, 55, 56, 57] = 3421780262 := by decide +kernel
end Go.Proofs.YtilijbplfobneaaDoor
