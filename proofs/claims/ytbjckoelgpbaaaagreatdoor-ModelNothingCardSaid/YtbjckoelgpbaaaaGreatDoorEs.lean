/- the document's Check of objects; two objects alike -/
import Derived.Test.YtbjckoelgpbaaaaGreatDoorEq
import Derived.Test.YtbjckoelgpbaaaaGreatDoorGe
namespace Go.Proofs.YtbjckoelgpbaaaaGreatDoor
set_option linter.unusedVariables false
set_option linter.unusedSimpArgs false
open Go.ChangeShapes Go.WideShapes Go.ChangeAt Go.RowKit

theorem boxN_pt (x y : Int) : boxN x y x y = if nearB x y = true then 0 else 2 := by
  unfold boxN
  cases nearB x y
  · rfl
  · rw [decide_eq_true (Int.le_refl x), decide_eq_true (Int.le_refl y)]; rfl
theorem boxN_iv (x y : Int) : boxN x 0 y 0 = if nearB x y = true then (if y < x then 1 else 0) else 2 := by
  unfold boxN
  have e : (nearB x 0 && nearB y 0) = nearB x y := by
    rw [Bool.eq_iff_iff, Bool.and_eq_true, nearB_iff, nearB_iff, nearB_iff]
    omega
  rw [e]
  cases nearB x y
  · rfl
  · simp only [if_true]
    by_cases h : y < x
    · rw [if_pos h, decide_eq_false (by omega : ¬ x ≤ y)]; rfl
    · rw [if_neg h, decide_eq_true (by omega : x ≤ y)]; rfl
def RChTo (W : World) (c : Nat) (e : Ending) (w' : World) : Prop := e = .returned (.int .i64 (c : Nat)) ∧ Gr W w'
end Go.Proofs.YtbjckoelgpbaaaaGreatDoor
