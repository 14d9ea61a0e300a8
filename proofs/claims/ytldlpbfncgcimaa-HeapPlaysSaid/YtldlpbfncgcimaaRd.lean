/- ratio: the order; RatioNears -/
import Derived.Test.YtldlpbfncgcimaaRc
namespace Go.Proofs.Ytldlpbfncgcimaa
set_option linter.unusedVariables false
open Go.ChangeShapes Go.WideShapes Go.ChangeAt Go.RowKit

theorem cmpN_le0 (a b : Nat) : cmpN a b ≤ 0 ↔ a ≤ b := by
  unfold cmpN; split <;> (try split) <;> omega
theorem cmpN_z (a b : Nat) : cmpN a b = 0 ↔ a = b := by
  unfold cmpN; split <;> (try split) <;> omega
theorem cmpN_l (a b : Nat) : cmpN a b < 0 ↔ a < b := by
  unfold cmpN; split <;> (try split) <;> omega
theorem cmpN_g (a b : Nat) : 0 < cmpN a b ↔ b < a := by
  unfold cmpN; split <;> (try split) <;> omega
/-- Distances stand in one order: by fractions. -/
theorem cmpD_trans {va da vb db vc dc : Nat} : cmpD va da vb db ≤ 0 → cmpD vb db vc dc ≤ 0 → cmpD va da vc dc ≤ 0 ∧ (cmpD va da vc dc = 0 → cmpD va da vb db = 0 ∧ cmpD vb db vc dc = 0) := by
  unfold cmpD
  by_cases h1 : da = 0 <;> by_cases h2 : db = 0 <;> by_cases h3 : dc = 0 <;> simp only [h1, h2, h3, if_true, if_false] <;> try first | omega | (simp; done)
  rw [cmpN_le0, cmpN_le0, cmpN_le0, cmpN_z, cmpN_z, cmpN_z]
  intro a b
  have e1 : va * db * dc ≤ vb * da * dc := Nat.mul_le_mul_right _ a
  have e2 : vb * dc * da ≤ vc * db * da := Nat.mul_le_mul_right _ b
  have e3 : va * dc * db ≤ vc * da * db := by
    have c1 : va * dc * db = va * db * dc := Nat.mul_right_comm _ _ _
    have c2 : vb * da * dc = vb * dc * da := Nat.mul_right_comm _ _ _
    have c3 : vc * da * db = vc * db * da := Nat.mul_right_comm _ _ _
    omega
  refine ⟨Nat.le_of_mul_le_mul_right e3 (by omega), fun he => ?_⟩
  have c1 : va * dc * db = va * db * dc := Nat.mul_right_comm _ _ _
  have c2 : vb * da * dc = vb * dc * da := Nat.mul_right_comm _ _ _
  have c3 : vc * da * db = vc * db * da := Nat.mul_right_comm _ _ _
  have e4 : va * dc * db = vc * da * db := by rw [he]
  exact ⟨Nat.eq_of_mul_eq_mul_right (show 0 < dc by omega) (by omega), Nat.eq_of_mul_eq_mul_right (show 0 < da by omega) (by omega)⟩
theorem cmpD_neg (va da vb db : Nat) : cmpD vb db va da = -cmpD va da vb db := by
  unfold cmpD
  by_cases h1 : da = 0 <;> by_cases h2 : db = 0 <;> simp only [h1, h2, if_true, if_false] <;> try first | omega | (simp; done)
  exact cmp_neg _ _
theorem lessB_iff (va da vb db : Nat) (i j : Int) : lessB va da vb db i j = true ↔ cmpD va da vb db < 0 ∨ (cmpD va da vb db = 0 ∧ i < j) := by
  unfold lessB
  rw [decide_eq_true_iff]
  split
  · split
    · omega
    · split <;> omega
  · omega
theorem beq_ne (a b : Int) : (a == b) = !decide (a ≠ b) ∧ (a != b) = decide (a ≠ b) := by by_cases h : a = b <;> simp [h]
end Go.Proofs.Ytldlpbfncgcimaa
