/- disk: what a crash leaves, sector by sector; Write at large; what the document fixes -/
import Derived.Test.YtilijbplfobneaaDoorDf
namespace Go.Proofs.YtilijbplfobneaaDoor
set_option linter.unusedVariables false
set_option linter.unusedSimpArgs false
open Go.ChangeShapes Go.WideShapes Go.ChangeAt Go.RowKit Go.Maps

theorem splice_get {α : Type} (X : List α) (off : Nat) (cs : List α) (h : off + cs.length ≤ X.length) (j : Nat) : (splice X off cs)[j]? = if j < off then X[j]? else if j < off + cs.length then cs[j - off]? else X[j]? := by
  unfold splice
  have hl : (X.take off).length = off := by rw [List.length_take]; omega
  by_cases h1 : j < off
  · rw [if_pos h1, List.getElem?_append_left (by omega), List.getElem?_take, if_pos h1]
  · rw [if_neg h1, List.getElem?_append_right (by omega), hl]
    by_cases h2 : j < off + cs.length
    · rw [if_pos h2, List.getElem?_append_left (by omega)]
    · rw [if_neg h2, List.getElem?_append_right (by omega), List.getElem?_drop]
      congr 1
      omega
end Go.Proofs.YtilijbplfobneaaDoor
