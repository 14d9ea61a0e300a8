/- plane: Grow; PlaneGrows -/
import Derived.Test.YtenngnlphecdeaaGreatDoorPa
import Derived.Test.YtenngnlphecdeaaGreatDoorH
namespace Go.Proofs.YtenngnlphecdeaaGreatDoor
set_option linter.unusedVariables false
open Go.ChangeShapes Go.WideShapes Go.ChangeAt Go.RowKit

theorem min_le (a b : Int) : minZ a b ≤ a ∧ minZ a b ≤ b ∧ (minZ a b = a ∨ minZ a b = b) := by unfold minZ; split <;> omega
theorem max_ge (a b : Int) : a ≤ maxZ a b ∧ b ≤ maxZ a b ∧ (maxZ a b = a ∨ maxZ a b = b) := by unfold maxZ; split <;> omega
theorem box_join {l1 l2 l3 l4 m1 m2 m3 m4 : Int} (h1 : boxB l1 l2 l3 l4 = true) (h2 : boxB m1 m2 m3 m4 = true) : boxB (minZ l1 m1) (minZ l2 m2) (maxZ l3 m3) (maxZ l4 m4) = true := by
  rw [boxB_iff, nearB_iff, nearB_iff] at *
  have a1 := min_le l1 m1
  have a2 := min_le l2 m2
  have a3 := max_ge l3 m3
  have a4 := max_ge l4 m4
  omega
/-- The area of a box that may be. -/
theorem area_nat {l1 l2 l3 l4 : Int} (h : boxB l1 l2 l3 l4 = true) : ∃ s : Nat, (s : Int) = (l3 - l1) * (l4 - l2) ∧ s ≤ 4611686009837453316 := by
  rw [boxB_iff, nearB_iff, nearB_iff] at h
  have m := mul_near (x := l3 - l1) (y := l4 - l2) (by omega) (by omega)
  have p : 0 ≤ (l3 - l1) * (l4 - l2) := Int.mul_nonneg (by omega) (by omega)
  exact ⟨((l3 - l1) * (l4 - l2)).toNat, Int.toNat_of_nonneg p, by omega⟩
theorem area_mono {a b c d : Int} (h1 : 0 ≤ a) (h2 : a ≤ c) (h3 : 0 ≤ b) (h4 : b ≤ d) : a * b ≤ c * d := by
  have e1 : a * b ≤ c * b := Int.mul_le_mul_of_nonneg_right h2 h3
  have e2 : c * b ≤ c * d := Int.mul_le_mul_of_nonneg_left h4 (by omega)
  omega
end Go.Proofs.YtenngnlphecdeaaGreatDoor
