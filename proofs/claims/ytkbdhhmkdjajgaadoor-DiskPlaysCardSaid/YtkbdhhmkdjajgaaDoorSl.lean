/- slots: a page, a row of flags and a row of rows beside it (towards SlotsKeep) -/
import Derived.Test.YtkbdhhmkdjajgaaDoorSg
import Derived.Test.YtkbdhhmkdjajgaaDoorOi
import Derived.Deep.Strs
import Derived.Test.YtkbdhhmkdjajgaaDoorBk
namespace Go.Proofs.YtkbdhhmkdjajgaaDoor
set_option linter.unusedVariables false
set_option linter.unusedSimpArgs false
open Go.ChangeShapes Go.WideShapes Go.ChangeAt Go.RowKit

def OthS (w : World) (S : Nat → Prop) : Prop := ∀ k, S k → w.heap.size ≤ k ∨ ∃ cur T, T ≠ 5 ∧ w.heap[k]? = some (.cells cur T (0, 0))
theorem rowOff_oth {a b : World} {S Z : Nat → Prop} {v : Value} {L : List UInt8} (h : RowOff a Z v L) (K : Kx S a b) (hS : OthS a S) : RowOff b Z v L := by
  obtain ⟨⟨ad, cap, B, off, e, h1, h2, h3, h4⟩, h5, h6⟩ := h
  have hB : ∀ (hl : 0 < L.length), ¬ S B := fun hl hs => by
    have hB : B < a.heap.size := World.block_lt_of_cell? _ _ (h4 0 hl)
    rcases hS _ hs with h | ⟨cur, T, hT, h⟩
    · omega
    · obtain ⟨cur', hc⟩ := h6 hl _ _ _ (by rw [e, h3 hl])
      rw [h] at hc
      simp only [Option.some.injEq, Obj.cells.injEq] at hc
      exact hT hc.2.1
  refine ⟨⟨ad, cap, B, off, e, h1, h2, h3, fun j hj => cell_kx K (hB (by omega)) (h4 j hj)⟩, h5, fun hl ad' m c e' => ?_⟩
  obtain ⟨cur, hc⟩ := h6 hl ad' m c e'
  rw [e, h3 hl] at e'
  cases e'
  exact ⟨cur, heap_kx K (hB hl) hc⟩
end Go.Proofs.YtkbdhhmkdjajgaaDoor
