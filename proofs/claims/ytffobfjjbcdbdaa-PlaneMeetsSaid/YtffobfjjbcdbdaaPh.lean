/- PlaneMeets: the law -/
import Derived.Test.YtffobfjjbcdbdaaPl
import Derived.Test.YtffobfjjbcdbdaaPg
import Derived.Test.YtffobfjjbcdbdaaPk
namespace Go.Proofs.Ytffobfjjbcdbdaa
set_option linter.unusedVariables false
open Go.ChangeShapes Go.WideShapes Go.ChangeAt Go.RowKit

theorem walk_PlaneMeets (lx ly hx hy mx my nx ny px py : Int) (h1 : (-9223372036854775808 ≤ lx ∧ lx ≤ 9223372036854775807) ∧ (-9223372036854775808 ≤ ly ∧ ly ≤ 9223372036854775807) ∧ (-9223372036854775808 ≤ hx ∧ hx ≤ 9223372036854775807) ∧ (-9223372036854775808 ≤ hy ∧ hy ≤ 9223372036854775807))
    (h2 : (-9223372036854775808 ≤ mx ∧ mx ≤ 9223372036854775807) ∧ (-9223372036854775808 ≤ my ∧ my ≤ 9223372036854775807) ∧ (-9223372036854775808 ≤ nx ∧ nx ≤ 9223372036854775807) ∧ (-9223372036854775808 ≤ ny ∧ ny ≤ 9223372036854775807))
    (h3 : (-9223372036854775808 ≤ px ∧ px ≤ 9223372036854775807) ∧ (-9223372036854775808 ≤ py ∧ py ≤ 9223372036854775807)) (W : World) :
    Calls Try.prog 8 #[.agg #[.int .i64 lx, .int .i64 ly, .int .i64 hx, .int .i64 hy], .agg #[.int .i64 mx, .int .i64 my, .int .i64 nx, .int .i64 ny], .agg #[.int .i64 px, .int .i64 py]] W fun e w' => e = .returned (.bool true) ∧ Gr W w' := by
  clear h1 h2 h3
  have K1 := c_rCheckBox lx ly hx hy
  have K2 := c_rCheckBox mx my nx ny
  have K3 := c_rPoint px py
  have K4 := c_Meets lx ly hx hy mx my nx ny
  have K5 := c_rBoxMeets lx ly hx hy mx my nx ny
  have z1 := boxCode_zero (lx := lx) (ly := ly) (hx := hx) (hy := hy)
  have z2 := boxCode_zero (lx := mx) (ly := my) (hx := nx) (hy := ny)
  have e4 : (boxB lx ly hx hy && boxB mx my nx ny && decide (lx ≤ nx) && decide (mx ≤ hx) && decide (ly ≤ ny) && decide (my ≤ hy)) = (boxB lx ly hx hy && boxB mx my nx ny && meetB lx ly hx hy mx my nx ny) := by
    unfold meetB
    simp only [Bool.and_assoc]
  rw [e4] at K4
  by_cases b1 : boxB lx ly hx hy = true
  · by_cases b2 : boxB mx my nx ny = true
    · rw [b1] at z1
      rw [b2] at z2
      have k1 : boxCode lx ly hx hy = 0 := by simpa using z1
      have k2 : boxCode mx my nx ny = 0 := by simpa using z2
      rw [b1, b2] at K4 K5
      by_cases b3 : nearB px py = true
      · rw [k1] at K1
        rw [k2] at K2
        rw [b3] at K3
        obtain ⟨⟨n1, n2⟩, s1, s2⟩ := boxB_iff.1 b1
        obtain ⟨⟨n3, n4⟩, s3, s4⟩ := boxB_iff.1 b2
        obtain ⟨qx, hqx⟩ : ∃ q, q = if lx < mx then mx else lx := ⟨_, rfl⟩
        obtain ⟨qy, hqy⟩ : ∃ q, q = if ly < my then my else ly := ⟨_, rfl⟩
        have M1 := run_max lx mx qx hqx
        have M2 := run_max ly my qy hqy
        have n5 : nearB qx qy = true := by
          rw [nearB_iff] at *
          rw [hqx, hqy]
          split <;> split <;> omega
        have U1 := c_Has lx ly hx hy qx qy
        have U2 := c_Has mx my nx ny qx qy
        have U3 := c_Meets mx my nx ny lx ly hx hy
        have U4 := c_Has lx ly hx hy px py
        have U5 := c_Has mx my nx ny px py
        have U6 := fun w => c_Dist lx ly hx hy px py w ⟨b1, b3⟩
        have U7 := c_Inside lx ly hx hy mx my nx ny
        have U8 := c_Inside mx my nx ny lx ly hx hy
        rw [b1, n5] at U1
        rw [b2, n5] at U2
        have e5 : (boxB mx my nx ny && boxB lx ly hx hy && decide (mx ≤ hx) && decide (lx ≤ nx) && decide (my ≤ hy) && decide (ly ≤ ny)) = meetB lx ly hx hy mx my nx ny := by
          rw [b1, b2]
          unfold meetB
          cases decide (mx ≤ hx) <;> cases decide (lx ≤ nx) <;> cases decide (my ≤ hy) <;> cases decide (ly ≤ ny) <;> rfl
        rw [e5] at U3
        rw [b1, b3] at U4
        rw [b2, b3] at U5
        rw [b1, b2] at U7
        rw [b2, b1] at U8
        simp only [Bool.true_and, Bool.and_self] at K4 K5 U1 U2 U4 U5 U7 U8
        have E1 := eqDist (distZ lx ly hx hy px py) 0
        have dz : decide (distZ lx ly hx hy px py = 0) = inB lx ly hx hy px py := by
          rw [Bool.eq_iff_iff, decide_eq_true_iff]
          exact distZ_zero s1 s2
        rw [dz] at E1
        have E2 := eqBox lx ly hx hy mx my nx ny
        have ei : decide (lx = mx ∧ ly = my ∧ hx = nx ∧ hy = ny) = ((inB mx my nx ny lx ly && inB mx my nx ny hx hy) && (inB lx ly hx hy mx my && inB lx ly hx hy nx ny)) := by
          rw [Bool.eq_iff_iff, decide_eq_true_iff, Bool.and_eq_true, Bool.and_eq_true, Bool.and_eq_true, inB_iff, inB_iff, inB_iff, inB_iff]
          omega
        rw [ei] at E2
        have em : meetB lx ly hx hy mx my nx ny = (inB lx ly hx hy qx qy && inB mx my nx ny qx qy) := by
          rw [Bool.eq_iff_iff, Bool.and_eq_true, inB_iff, inB_iff, meetB_iff, hqx, hqy]
          split <;> split <;> omega
        have eh : inB lx ly hx hy px py = true → inB mx my nx ny px py = true → meetB lx ly hx hy mx my nx ny = true := by
          rw [inB_iff, inB_iff, meetB_iff]
          omega
        rw [em] at K4 K5 U3 eh
        generalize inB lx ly hx hy qx qy = s at *
        generalize inB mx my nx ny qx qy = t at *
        generalize inB lx ly hx hy px py = ha at *
        generalize inB mx my nx ny px py = hb at *
        generalize (inB mx my nx ny lx ly && inB mx my nx ny hx hy) = i1 at *
        generalize (inB lx ly hx hy mx my && inB lx ly hx hy nx ny) = i2 at *
        generalize distZ lx ly hx hy px py = z at *
        clear K5 em ei dz e4 e5
        cases s
        · cases ha
          · cases i1
            · exact meets_yes_f_t_f_h_f lx ly hx hy mx my nx ny px py qx qy z t hb i2 W K1 K2 K3 U1 U2 K4 U3 U4 U5 U6 U7 U8 M1 M2 E1 E2
            · exact meets_yes_f_t_f_h_t lx ly hx hy mx my nx ny px py qx qy z t hb i2 W K1 K2 K3 U1 U2 K4 U3 U4 U5 U6 U7 U8 M1 M2 E1 E2
          · cases hb
            · cases i1
              · exact meets_yes_f_t_t_f_f lx ly hx hy mx my nx ny px py qx qy z t false i2 W K1 K2 K3 U1 U2 K4 U3 U4 U5 U6 U7 U8 M1 M2 E1 E2
              · exact meets_yes_f_t_t_f_t lx ly hx hy mx my nx ny px py qx qy z t false i2 W K1 K2 K3 U1 U2 K4 U3 U4 U5 U6 U7 U8 M1 M2 E1 E2
            · exact absurd (eh rfl rfl) (by simp)
        · cases t
          · cases ha
            · cases i1
              · exact meets_yes_t_f_f_h_f lx ly hx hy mx my nx ny px py qx qy z false hb i2 W K1 K2 K3 U1 U2 K4 U3 U4 U5 U6 U7 U8 M1 M2 E1 E2
              · exact meets_yes_t_f_f_h_t lx ly hx hy mx my nx ny px py qx qy z false hb i2 W K1 K2 K3 U1 U2 K4 U3 U4 U5 U6 U7 U8 M1 M2 E1 E2
            · cases hb
              · cases i1
                · exact meets_yes_t_f_t_f_f lx ly hx hy mx my nx ny px py qx qy z false false i2 W K1 K2 K3 U1 U2 K4 U3 U4 U5 U6 U7 U8 M1 M2 E1 E2
                · exact meets_yes_t_f_t_f_t lx ly hx hy mx my nx ny px py qx qy z false false i2 W K1 K2 K3 U1 U2 K4 U3 U4 U5 U6 U7 U8 M1 M2 E1 E2
              · exact absurd (eh rfl rfl) (by simp)
          · cases ha
            · cases i1
              · exact meets_yes_t_t_f_h_f lx ly hx hy mx my nx ny px py qx qy z true hb i2 W K1 K2 K3 U1 U2 K4 U3 U4 U5 U6 U7 U8 M1 M2 E1 E2
              · exact meets_yes_t_t_f_h_t lx ly hx hy mx my nx ny px py qx qy z true hb i2 W K1 K2 K3 U1 U2 K4 U3 U4 U5 U6 U7 U8 M1 M2 E1 E2
            · cases hb
              · cases i1
                · exact meets_yes_t_t_t_f_f lx ly hx hy mx my nx ny px py qx qy z true false i2 W K1 K2 K3 U1 U2 K4 U3 U4 U5 U6 U7 U8 M1 M2 E1 E2
                · exact meets_yes_t_t_t_f_t lx ly hx hy mx my nx ny px py qx qy z true false i2 W K1 K2 K3 U1 U2 K4 U3 U4 U5 U6 U7 U8 M1 M2 E1 E2
              · cases i1
                · exact meets_yes_t_t_t_t_f lx ly hx hy mx my nx ny px py qx qy z true true i2 W K1 K2 K3 U1 U2 K4 U3 U4 U5 U6 U7 U8 M1 M2 E1 E2
                · exact meets_yes_t_t_t_t_t lx ly hx hy mx my nx ny px py qx qy z true true i2 W K1 K2 K3 U1 U2 K4 U3 U4 U5 U6 U7 U8 M1 M2 E1 E2
      · have b3' : nearB px py = false := by simpa using b3
        rw [k1] at K1
        rw [k2] at K2
        simp only [Bool.true_and, Bool.and_self] at K4 K5
        cases hm : meetB lx ly hx hy mx my nx ny
        · exact meets_no3f lx ly hx hy mx my nx ny px py 0 0 _ _ W rfl rfl hm b3' K1 K2 K3 K4 K5
        · exact meets_no3t lx ly hx hy mx my nx ny px py 0 0 _ _ W rfl rfl hm b3' K1 K2 K3 K4 K5
    · have b2' : boxB mx my nx ny = false := by simpa using b2
      rw [b1] at z1
      rw [b2'] at z2
      have k1 : boxCode lx ly hx hy = 0 := by simpa using z1
      have k2 : ¬ boxCode mx my nx ny = 0 := by simpa using z2
      rw [b1, b2'] at K4 K5
      exact meets_no2 lx ly hx hy mx my nx ny px py _ _ _ _ W k1 z2 (by simpa using k2) k2 rfl K1 K2 K3 K4 K5
  · have b1' : boxB lx ly hx hy = false := by simpa using b1
    rw [b1'] at z1
    have k1 : ¬ boxCode lx ly hx hy = 0 := by simpa using z1
    rw [b1'] at K4 K5
    exact meets_no1 lx ly hx hy mx my nx ny px py _ _ _ _ W z1 (by simpa using k1) k1 rfl K1 K2 K3 K4 K5
end Go.Proofs.Ytffobfjjbcdbdaa
