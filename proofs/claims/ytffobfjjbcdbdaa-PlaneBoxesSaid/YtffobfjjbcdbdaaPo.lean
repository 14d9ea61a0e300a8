/- PlaneGrows: the law -/
import Derived.Test.YtffobfjjbcdbdaaPn
namespace Go.Proofs.Ytffobfjjbcdbdaa
set_option linter.unusedVariables false
open Go.ChangeShapes Go.WideShapes Go.ChangeAt Go.RowKit

theorem span1 (b a d c : Int) (h : b ≤ d) : 0 ≤ d - b ∧ d - b ≤ maxZ d c - minZ b a ∧ 0 ≤ maxZ d c - minZ b a := by
  have := min_le b a
  have := max_ge d c
  omega
theorem span2 (b a c d e f : Int) : maxZ d e - minZ b a ≤ maxZ d (maxZ e f) - minZ b (minZ a c) := by
  unfold minZ maxZ
  split <;> split <;> split <;> split <;> (try split) <;> (try split) <;> omega
theorem min_eq {a b : Int} (h : a ≤ b) : minZ a b = a := by unfold minZ; split <;> omega
theorem max_eq {a b : Int} (h : b ≤ a) : maxZ a b = a := by unfold maxZ; split <;> omega
theorem val0 (n : Nat) : val 0 n = n := by unfold val; omega
theorem wd0 : Wd 0 := by unfold Wd; omega
theorem wd_le {n : Nat} (h : n ≤ 4611686009837453316) : Wd n := by unfold Wd; omega
theorem cmp_le {a b : Nat} (h : a ≤ b) : cmpN a b ≤ 0 := by unfold cmpN; split <;> (try split) <;> omega
set_option maxHeartbeats 1000000 in
theorem walk_PlaneGrows (b1 b2 b3 b4 a1 a2 a3 a4 c1 c2 c3 c4 : Int) (h1 : ((-9223372036854775808 ≤ b1 ∧ b1 ≤ 9223372036854775807) ∧ (-9223372036854775808 ≤ b2 ∧ b2 ≤ 9223372036854775807) ∧ (-9223372036854775808 ≤ b3 ∧ b3 ≤ 9223372036854775807) ∧ (-9223372036854775808 ≤ b4 ∧ b4 ≤ 9223372036854775807))) (h2 : ((-9223372036854775808 ≤ a1 ∧ a1 ≤ 9223372036854775807) ∧ (-9223372036854775808 ≤ a2 ∧ a2 ≤ 9223372036854775807) ∧ (-9223372036854775808 ≤ a3 ∧ a3 ≤ 9223372036854775807) ∧ (-9223372036854775808 ≤ a4 ∧ a4 ≤ 9223372036854775807))) (h3 : ((-9223372036854775808 ≤ c1 ∧ c1 ≤ 9223372036854775807) ∧ (-9223372036854775808 ≤ c2 ∧ c2 ≤ 9223372036854775807) ∧ (-9223372036854775808 ≤ c3 ∧ c3 ≤ 9223372036854775807) ∧ (-9223372036854775808 ≤ c4 ∧ c4 ≤ 9223372036854775807))) (W : World) :
    Calls Try.prog 9 #[.agg #[.int .i64 b1, .int .i64 b2, .int .i64 b3, .int .i64 b4], .agg #[.int .i64 a1, .int .i64 a2, .int .i64 a3, .int .i64 a4], .agg #[.int .i64 c1, .int .i64 c2, .int .i64 c3, .int .i64 c4]] W fun e w' => e = .returned (.bool true) ∧ Gr W w' := by
  clear h1 h2 h3
  have K1 := c_rCheckBox a1 a2 a3 a4
  have K2 := c_rCheckBox b1 b2 b3 b4
  have K3 := c_rCheckBox c1 c2 c3 c4
  have z1 := boxCode_zero (lx := a1) (ly := a2) (hx := a3) (hy := a4)
  have z2 := boxCode_zero (lx := b1) (ly := b2) (hx := b3) (hy := b4)
  have z3 := boxCode_zero (lx := c1) (ly := c2) (hx := c3) (hy := c4)
  by_cases ha : boxB a1 a2 a3 a4 = true
  · by_cases hb : boxB b1 b2 b3 b4 = true
    · by_cases hc : boxB c1 c2 c3 c4 = true
      · rw [ha] at z1
        rw [hb] at z2
        rw [hc] at z3
        have e1 : boxCode a1 a2 a3 a4 = 0 := by simpa using z1
        have e2 : boxCode b1 b2 b3 b4 = 0 := by simpa using z2
        have e3 : boxCode c1 c2 c3 c4 = 0 := by simpa using z3
        rw [e1] at K1
        rw [e2] at K2
        rw [e3] at K3
        have hm := box_join ha hc
        obtain ⟨t, et, bt⟩ := area_nat hb
        obtain ⟨s, es, bs⟩ := area_nat (box_join hb ha)
        obtain ⟨q, eq, bq⟩ := area_nat (box_join hb hm)
        obtain ⟨⟨nb1, nb2⟩, sb1, sb2⟩ := boxB_iff.1 hb
        have hst : t ≤ s := by
          have m1 := area_mono (span1 b1 a1 b3 a3 sb1).1 (span1 b1 a1 b3 a3 sb1).2.1 (span1 b2 a2 b4 a4 sb2).1 (span1 b2 a2 b4 a4 sb2).2.1
          rw [← et, ← es] at m1
          exact Int.ofNat_le.1 m1
        have hsq : s ≤ q := by
          have m2 := area_mono (span1 b1 a1 b3 a3 sb1).2.2 (span2 b1 a1 c1 b3 a3 c3) (span1 b2 a2 b4 a4 sb2).2.2 (span2 b2 a2 c2 b4 a4 c4)
          rw [← es, ← eq] at m2
          exact Int.ofNat_le.1 m2
        have A4 := fun B w hB k0 k1 k2 k3 k4 k5 k6 k7 => c_Union2 b1 b2 b3 b4 a1 a2 a3 a4 hb ha B w hB k0 k1 k2 k3 k4 k5 k6 k7
        have A5 := fun B w hB k0 k1 k2 k3 k4 k5 k6 k7 => c_Union2 a1 a2 a3 a4 c1 c2 c3 c4 ha hc B w hB k0 k1 k2 k3 k4 k5 k6 k7
        have A6 := c_Area _ _ _ _ hb t et
        have A7 := c_Area _ _ _ _ (box_join hb ha) s es
        have A8 := grow_of b1 b2 b3 b4 a1 a2 a3 a4 hb ha s t es et hst bs
        have A9 := grow_of b1 b2 b3 b4 _ _ _ _ hb hm q t eq et (Nat.le_trans hst hsq) bq
        have A10 := c_rAdd 0 t 0 (s - t) wd0 (wd_le bt) wd0 (wd_le (Nat.le_trans (Nat.sub_le _ _) bs))
        have v1 : val 0 t + val 0 (s - t) = s := by rw [val0, val0]; exact Nat.add_sub_of_le hst
        rw [v1, Nat.div_eq_of_lt (show s < 18446744073709551616 from Nat.lt_of_le_of_lt bs (by decide)), Nat.mod_eq_of_lt (show s < 18446744073709551616 from Nat.lt_of_le_of_lt bs (by decide))] at A10
        have A11 := c_rCompare 0 (s - t) 0 (q - t) wd0 (wd_le (Nat.le_trans (Nat.sub_le _ _) bs)) wd0 (wd_le (Nat.le_trans (Nat.sub_le _ _) bq))
        have A12 := c_Inside a1 a2 a3 a4 b1 b2 b3 b4
        rw [ha, hb] at A12
        simp only [Bool.true_and, Bool.and_self] at A12
        have hk : decide (cmpN (val 0 (s - t)) (val 0 (q - t)) ≤ 0) = true := by
          rw [decide_eq_true_iff, val0, val0]
          exact cmp_le (Nat.sub_le_sub_right hsq t)
        refine grows_yes b1 b2 b3 b4 a1 a2 a3 a4 c1 c2 c3 c4 _ _ _ _ _ _ _ _ s t (s - t) (q - t) _ _ W hk (decide (0 = 0 ∧ s - t = 0)) (fun w => eqU 0 (s - t) 0 0 w) ?_ K1 K2 K3 A4 A5 A6 A7 A8 A9 A10 A11 A12
        by_cases hi : (inB b1 b2 b3 b4 a1 a2 && inB b1 b2 b3 b4 a3 a4) = true
        · right
          refine ⟨hi, ?_⟩
          rw [Bool.and_eq_true, inB_iff, inB_iff] at hi
          have f1 : minZ b1 a1 = b1 := min_eq hi.1.1
          have f2 : minZ b2 a2 = b2 := min_eq hi.1.2.2.1
          have f3 : maxZ b3 a3 = b3 := max_eq hi.2.2.1
          have f4 : maxZ b4 a4 = b4 := max_eq hi.2.2.2.2
          rw [f1, f2, f3, f4] at es
          have : s = t := Int.ofNat_inj.1 (es.trans et.symm)
          simp [this]
        · left
          simpa using hi
      · have hc' : boxB c1 c2 c3 c4 = false := by simpa using hc
        rw [ha] at z1
        rw [hb] at z2
        rw [hc'] at z3
        exact grows_no b1 b2 b3 b4 a1 a2 a3 a4 c1 c2 c3 c4 _ _ _ W (Or.inr (Or.inr ⟨by simpa using z1, by simpa using z2, z3, by simpa using z3⟩)) K1 K2 K3
    · have hb' : boxB b1 b2 b3 b4 = false := by simpa using hb
      rw [ha] at z1
      rw [hb'] at z2
      exact grows_no b1 b2 b3 b4 a1 a2 a3 a4 c1 c2 c3 c4 _ _ _ W (Or.inr (Or.inl ⟨by simpa using z1, z2, by simpa using z2⟩)) K1 K2 K3
  · have ha' : boxB a1 a2 a3 a4 = false := by simpa using ha
    rw [ha'] at z1
    exact grows_no b1 b2 b3 b4 a1 a2 a3 a4 c1 c2 c3 c4 _ _ _ W (Or.inl ⟨z1, by simpa using z1⟩) K1 K2 K3
end Go.Proofs.Ytffobfjjbcdbdaa
