/- PlaneUnions -/
import Derived.Test.YthjhhnolkiejpaaPq
namespace Go.Proofs.Ythjhhnolkiejpaa
set_option linter.unusedVariables false
open Go.ChangeShapes Go.WideShapes Go.ChangeAt Go.RowKit

/-- Either all of n may be, or there is a first one that may not. -/
theorem first_bad (A B C D : Nat → Int) (n : Nat) : allBox A B C D n = true ∨ ∃ j, j < n ∧ allBox A B C D j = true ∧ boxB (A j) (B j) (C j) (D j) = false := by
  induction n with
  | zero => left; rfl
  | succ n ih =>
    rcases ih with h | ⟨j, h1, h2, h3⟩
    · cases hb : boxB (A n) (B n) (C n) (D n)
      · right; exact ⟨n, by omega, h, hb⟩
      · left; simp only [allBox, h, hb]; rfl
    · right; exact ⟨j, by omega, h2, h3⟩
/-- There is but one such. -/
theorem bad_one {A B C D : Nat → Int} {j k : Nat} (h1 : allBox A B C D j = true) (h2 : boxB (A j) (B j) (C j) (D j) = false) (h3 : allBox A B C D k = true) (h4 : boxB (A k) (B k) (C k) (D k) = false) : j = k := by
  rw [allBox_iff] at h1 h3
  rcases Nat.lt_trichotomy j k with h | h | h
  · rw [h3 j h] at h2; cases h2
  · exact h
  · rw [h1 k h] at h4; cases h4
theorem not_all {A B C D : Nat → Int} {j n : Nat} (hj : j < n) (h2 : boxB (A j) (B j) (C j) (D j) = false) (h : allBox A B C D n = true) : False := by
  rw [allBox_iff] at h
  rw [h j hj] at h2
  cases h2
end Go.Proofs.Ythjhhnolkiejpaa
