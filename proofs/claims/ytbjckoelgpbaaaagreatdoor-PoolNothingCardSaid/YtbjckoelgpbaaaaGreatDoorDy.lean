/- the document's disk: Read, Cut -/
import Derived.Test.YtbjckoelgpbaaaaGreatDoorDx
import Derived.Test.YtbjckoelgpbaaaaGreatDoorDi
namespace Go.Proofs.YtbjckoelgpbaaaaGreatDoor
set_option linter.unusedVariables false
set_option linter.unusedSimpArgs false
open Go.ChangeShapes Go.WideShapes Go.ChangeAt Go.RowKit Go.Maps

theorem plc_cases (l : List Nat) (k : Nat) : (k ∉ l ∧ plc l k = -1) ∨ ∃ i : Nat, i < l.length ∧ l.getD i 0 = k ∧ k ∈ l ∧ plc l k = (i : Int) := by
  by_cases h : k ∈ l
  · right
    have hi := List.idxOf_lt_length_of_mem h
    refine ⟨l.idxOf k, hi, ?_, h, by unfold plc; rw [if_pos h]⟩
    rw [List.getD_eq_getElem?_getD, List.getElem?_eq_getElem hi]
    exact List.getElem_idxOf hi
  · exact Or.inl ⟨h, by unfold plc; rw [if_neg h]⟩
section
variable {base q : Nat} {Z : Nat → Prop} {d : Dk} {gv av nv : Value} {gs ns : List Value} {dl : Int}
end
end Go.Proofs.YtbjckoelgpbaaaaGreatDoor
