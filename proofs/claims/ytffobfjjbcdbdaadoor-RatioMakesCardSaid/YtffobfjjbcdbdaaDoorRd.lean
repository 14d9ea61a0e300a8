/- ratio: the order; RatioNears -/
import Derived.Test.YtffobfjjbcdbdaaDoorRc
namespace Go.Proofs.YtffobfjjbcdbdaaDoor
set_option linter.unusedVariables false
open Go.ChangeShapes Go.WideShapes Go.ChangeAt Go.RowKit

theorem cmpN_le0 (a b : Nat) : cmpN a b ≤ 0 ↔ a ≤ b := by
  unfold cmpN; split <;> (try split) <;> omega
theorem cmpN_z (a b : Nat) : cmpN a b = 0 ↔ a = b := by
  unfold cmpN; split <;> (try split) <;> omega
theorem cmpN_l (a b : Nat) : cmpN a b < 0 ↔ a < b := by
  unfold cmpN; split <;> (try split) <;> omega
theorem cmpN_g (a b : Nat) : 0 < cmpN a b ↔ b < a := by
  unfold cmpN; split <;> (try split) <;> omega
/-- Distances stand in one order: by fractions. -/
theorem cmpD_trans {va da vb db vc dc : Nat} : cmpD va da vb db ≤ 0 → cmpD vb db vc dc ≤ 0 → cmpD va da vc dc ≤ 0 ∧ (cmpD va da vc dc = 0 → cmpD va da vb db = 0 ∧ cmpD vb db vc dc = 0) := by
  unfold cmpD
  by_cases h1 : da = 0 <;> by_cases h2 : db = 0 <;> by_cases h3 : dc = 0 <;> simp only [h1, h2, h3, if_true, if_false] <;> try first | omega | (simp; done)
  rw [cmpN_le0, cmpN_le0, cmpN_le0, cmpN_z, cmpN_z, cmpN_z]
  intro a b
  have e1 : va * db * dc ≤ vb * da * dc := Nat.mul_le_mul_right _ a
  have e2 : vb * dc * da ≤ vc * db * da := Nat.mul_le_mul_right _ b
  have e3 : va * dc * db ≤ vc * da * db := by
    have c1 : va * dc * db = va * db * dc := Nat.mul_right_comm _ _ _
    have c2 : vb * da * dc = vb * dc * da := Nat.mul_right_comm _ _ _
    have c3 : vc * da * db = vc * db * da := Nat.mul_right_comm _ _ _
    omega
  refine ⟨Nat.le_of_mul_le_mul_right e3 (by omega), fun he => ?_⟩
  have c1 : va * dc * db = va * db * dc := Nat.mul_right_comm _ _ _
  have c2 : vb * da * dc = vb * dc * da := Nat.mul_right_comm _ _ _
  have c3 : vc * da * db = vc * db * da := Nat.mul_right_comm _ _ _
  have e4 : va * dc * db = vc * da * db := by rw [he]
  exact ⟨Nat.eq_of_mul_eq_mul_right (show 0 < dc by omega) (by omega), Nat.eq_of_mul_eq_mul_right (show 0 < da by omega) (by omega)⟩
theorem cmpD_neg (va da vb db : Nat) : cmpD vb db va da = -cmpD va da vb db := by
  unfold cmpD
  by_cases h1 : da = 0 <;> by_cases h2 : db = 0 <;> simp only [h1, h2, if_true, if_false] <;> try first | omega | (simp; done)
  exact cmp_neg _ _
theorem lessB_iff (va da vb db : Nat) (i j : Int) : lessB va da vb db i j = true ↔ cmpD va da vb db < 0 ∨ (cmpD va da vb db = 0 ∧ i < j) := by
  unfold lessB
  rw [decide_eq_true_iff]
  split
  · split
    · omega
    · split <;> omega
  · omega
theorem beq_ne (a b : Int) : (a == b) = !decide (a ≠ b) ∧ (a != b) = decide (a ≠ b) := by by_cases h : a = b <;> simp [h]
theorem walk_RatioNears (ai : Int) (ah al ad : Nat) (bi : Int) (bh bl bd : Nat) (ci : Int) (ch cl cd : Nat) (h1 : (-9223372036854775808 ≤ ai ∧ ai ≤ 9223372036854775807) ∧ ah < 18446744073709551616 ∧ al < 18446744073709551616 ∧ ad < 18446744073709551616) (h2 : (-9223372036854775808 ≤ bi ∧ bi ≤ 9223372036854775807) ∧ bh < 18446744073709551616 ∧ bl < 18446744073709551616 ∧ bd < 18446744073709551616) (h3 : (-9223372036854775808 ≤ ci ∧ ci ≤ 9223372036854775807) ∧ ch < 18446744073709551616 ∧ cl < 18446744073709551616 ∧ cd < 18446744073709551616) (W : World) (hp : Lib.TabIs Tryd.prog W "internal/strconv.uint64pow10" .u64 Lib.pow10Tab) :
    Calls Tryd.prog 12 #[.agg #[.int .i64 ai, .int .u64 ah, .int .u64 al, .int .u64 ad], .agg #[.int .i64 bi, .int .u64 bh, .int .u64 bl, .int .u64 bd], .agg #[.int .i64 ci, .int .u64 ch, .int .u64 cl, .int .u64 cd]] W fun e w' => e = .returned (.bool true) ∧ Gr W w' := by
  obtain ⟨-, b1, b2, b3⟩ := h1
  obtain ⟨-, b4, b5, b6⟩ := h2
  obtain ⟨-, b7, b8, b9⟩ := h3
  have A1 := c_Less ai bi ah al ad bh bl bd b1 b2 b3 b4 b5 b6
  have A2 := c_Less bi ai bh bl bd ah al ad b4 b5 b6 b1 b2 b3
  have A3 := c_Less ai ai ah al ad ah al ad b1 b2 b3 b1 b2 b3
  have A4 := c_Less bi ci bh bl bd ch cl cd b4 b5 b6 b7 b8 b9
  have A5 := c_Less ai ci ah al ad ch cl cd b1 b2 b3 b7 b8 b9
  have A6 := c_rtCompare ah al ad bh bl bd b1 b2 b3 b4 b5 b6
  have n0 := cmpD_neg (val ah al) ad (val bh bl) bd
  have n1 := cmpD_neg (val ah al) ad (val ah al) ad
  have n2 := cmpD_neg (val bh bl) bd (val ch cl) cd
  have tr := cmpD_trans (va := val ah al) (da := ad) (vb := val bh bl) (db := bd) (vc := val ch cl) (dc := cd)
  have l1 := lessB_iff (val ah al) ad (val bh bl) bd ai bi
  have l2 := lessB_iff (val bh bl) bd (val ah al) ad bi ai
  have l3 := lessB_iff (val ah al) ad (val ah al) ad ai ai
  have l4 := lessB_iff (val bh bl) bd (val ch cl) cd bi ci
  have l5 := lessB_iff (val ah al) ad (val ch cl) cd ai ci
  have e3 : lessB (val ah al) ad (val ah al) ad ai ai = false := by
    rw [← Bool.not_eq_true, l3]
    omega
  rw [e3] at A3
  generalize cmpD (val ah al) ad (val bh bl) bd = k at *
  generalize cmpD (val bh bl) bd (val ch cl) cd = k2 at *
  generalize cmpD (val ah al) ad (val ch cl) cd = k3 at *
  generalize cmpD (val bh bl) bd (val ah al) ad = k4 at *
  generalize lessB (val ah al) ad (val bh bl) bd ai bi = x at *
  generalize lessB (val bh bl) bd (val ah al) ad bi ai = y at *
  generalize lessB (val bh bl) bd (val ch cl) cd bi ci = z at *
  generalize lessB (val ah al) ad (val ch cl) cd ai ci = t at *
  refine nears_walk ai bi ci ah al ad bh bl bd ch cl cd W hp x y z t k (decide (ai ≠ bi)) A1 A2 A3 A4 A5 A6 (beq_ne ai bi).1 (beq_ne ai bi).2 ?_
  clear A1 A2 A3 A4 A5 A6 hp
  simp only [decide_eq_true_eq, decide_eq_false_iff_not]
  cases x
  · cases y
    · right; right; right
      simp only [Bool.false_eq_true, false_iff] at l1 l2
      exact ⟨rfl, rfl, by omega, by omega⟩
    · right; right; left
      simp only [true_iff] at l2
      exact ⟨rfl, rfl, by omega⟩
  · simp only [true_iff] at l1
    cases y
    · cases z
      · left; exact ⟨rfl, rfl, rfl, by omega⟩
      · right; left
        simp only [true_iff] at l4
        refine ⟨rfl, rfl, rfl, l5.2 ?_, by omega⟩
        have := tr (by omega) (by omega)
        omega
    · simp only [true_iff] at l2
      omega
end Go.Proofs.YtffobfjjbcdbdaaDoor
