/- the document's own long division: the walk -/
import Derived.Test.YthjhhnolkiejpaaDoorRj
namespace Go.Proofs.YthjhhnolkiejpaaDoor
set_option linter.unusedVariables false
open Go.ChangeShapes Go.WideShapes Go.ChangeAt Go.RowKit

set_option maxHeartbeats 4000000 in
set_option maxRecDepth 100000 in
theorem c_rDiv (h l d : Nat) (h1 : Wd h) (h2 : Wd l) (h3 : Wd d) (hd : 1 ≤ d) (w : World) :
    Calls Tryd.prog 54 #[.agg #[.int .u64 h, .int .u64 l], .int .u64 d] w fun e w' => e = .returned (.tuple #[.agg #[.int .u64 ((val h l / d / 18446744073709551616 : Nat) : Int), .int .u64 ((val h l / d % 18446744073709551616 : Nat) : Int)], .int .u64 ((val h l % d : Nat) : Int)]) ∧ Gr w w' := by
  obtain ⟨A1, eA1⟩ : ∃ a, a = val h l / d / 18446744073709551616 := ⟨_, rfl⟩
  obtain ⟨A2, eA2⟩ : ∃ a, a = val h l / d % 18446744073709551616 := ⟨_, rfl⟩
  obtain ⟨A3, eA3⟩ : ∃ a, a = val h l % d := ⟨_, rfl⟩
  rw [← eA1, ← eA2, ← eA3]
  have HA := Lib.hid (And.intro eA1 (And.intro eA2 eA3))
  clear eA1 eA2 eA3
  go_enter Tryd.func54, Tryd.ntmps54
  go_wp2_with fail
  go_loopg [7, 8] 128 (fun k rv iv wr => DivRel w.heap.size h l d w k rv iv wr)
  case atStart =>
    have hz : val h l / 2 ^ 128 = 0 := Nat.div_eq_of_lt (by unfold val Wd at *; omega)
    exact ⟨0, 0, 0, by omega, by unfold Wd; omega, by unfold Wd; omega, by omega, rfl, rfl, by rw [hz, Nat.zero_div]; rfl, by rw [hz, Nat.zero_mod], by go_simp, by go_simp, by go_simp, by go_simp, by go_simp, by go_simp, by go_simp, by go_simp, by go_simp, by go_simp, by go_grown⟩
  case round =>
    obtain ⟨qh, ql, r, hk, wqh, wql, hr, rfl, rfl, eq, er, p0, p1, z0, z1, zf0, zf1, c0, c1, f0, f1, gwr⟩ := hrel
    have za := World.block_lt_of_cell? _ _ p0
    have zb := World.block_lt_of_cell? _ _ z0
    have zc := World.block_lt_of_cell? _ _ c0
    rcases Nat.eq_zero_or_pos gk with rfl | hpos
    · rw [Nat.pow_zero, Nat.div_one] at eq er
      rw [Nat.mul_one] at eq
      have v1 : qh = A1 := by rw [HA.out.1, ← eq]; unfold val Wd at *; omega
      have v2 : ql = A2 := by rw [HA.out.2.1, ← eq]; unfold val Wd at *; omega
      have v3 : r = A3 := by rw [HA.out.2.2]; exact er
      have HV := Lib.hid (And.intro v1 (And.intro v2 v3))
      clear v1 v2 v3 er eq hr
      rw [show (((0 : Nat) : Int) - 1) = -1 from rfl]
      go_wp2_with fail
      refine bodyPost_ret (v := .tuple #[.agg #[.int .u64 qh, .int .u64 ql], .int .u64 r]) (by simp [results, Tryd.results54, go_sem, *]) rfl ⟨by rw [HV.out.1, HV.out.2.1, HV.out.2.2], by have gg := gwr; have gs := gg.size; go_grown⟩
    obtain ⟨i, rfl⟩ : ∃ i, gk = i + 1 := ⟨gk - 1, by omega⟩
    rw [show (((i + 1 : Nat) : Int) - 1) = (i : Int) by omega]
    by_cases hz : 64 ≤ i
    · obtain ⟨j, ej⟩ : ∃ j, i = j + 64 := ⟨i - 64, by omega⟩
      obtain ⟨x, ex⟩ : ∃ x, x = h / 2 ^ j := ⟨_, rfl⟩
      have hxw : Wd x := Nat.lt_of_le_of_lt (by rw [ex]; exact Nat.div_le_self _ _) h1
      have hij : (i : Int) - 64 = (j : Int) := by omega
      have hij2 : wrap64 ((i : Int) - 64) = (j : Int) := by rw [hij]; exact IntWalk.wrap64_in _ (by omega)
      have t2 : decide ((64 : Int) ≤ (i : Int)) = true := decide_eq_true (by omega)
      have t3 : decide (64 ≤ i) = true := decide_eq_true (by omega)
      have t5 : (64 : Int) ≤ (i : Int) := by omega
      have t6 : 64 ≤ i := by omega
      have t7 : (0 : Int) ≤ (j : Int) := by omega
      have q1' : (h : Int) / 2 ^ j = (x : Int) := by rw [ex]; norm_cast
      have q1 : (h : Int) / 2 ^ min j 64 = (x : Int) := by rw [Nat.min_eq_left (by omega)]; exact q1'
      have eN : val h l / 2 ^ i = x := by rw [ej, ex]; exact bit_high h l j h2
      obtain ⟨B, eB⟩ : ∃ B, B = x % 2 := ⟨_, rfl⟩
      have eb : B = val h l / 2 ^ i % 2 := by rw [eN]; exact eB
      obtain ⟨eql, eqh⟩ := quo_high wql (by rw [← ej]; exact eq)
      obtain ⟨P, eP⟩ : ∃ P, P = 2 ^ j := ⟨_, rfl⟩
      have hPw : Wd P := by rw [eP]; exact Nat.lt_of_lt_of_le (Nat.pow_lt_pow_right (by omega) (show j < 64 by omega)) (by decide)
      have u1 : (2 : Int) ^ min j 64 = (P : Int) := by rw [Nat.min_eq_left (by omega), eP]; norm_cast
      have u2 : (2 : Int) ^ j = (P : Int) := by rw [eP]; norm_cast
      have q1p : (h : Int) / (P : Int) = (x : Int) := by rw [← u2]; exact q1'
      have u3 : IntKind.u64.wrap (P : Int) = (P : Int) := IntWalk.u64_in _ (by unfold Wd at hPw; omega)
      have u4 : bits BinOp.or IntKind.u64 (qh : Int) (P : Int) = ((qh + P : Nat) : Int) := or_u64 qh P wqh hPw (by rw [eP]; exact or_pow qh j _ eqh)
      obtain ⟨q', eq'⟩ : ∃ q, q = qh + P := ⟨_, rfl⟩
      rw [← eq'] at u4
      obtain ⟨top, etop⟩ : ∃ B, B = r / 9223372036854775808 := ⟨_, rfl⟩
      obtain ⟨m, em⟩ : ∃ m, m = r * 2 % 18446744073709551616 := ⟨_, rfl⟩
      obtain ⟨R1, eR⟩ : ∃ R, R = m + B := ⟨_, rfl⟩
      have hrw : Wd r := Nat.lt_trans hr h3
      have hB2 : B < 2 := by omega
      have t1 : decide ((0 : Int) ≤ (i : Int)) = true := decide_eq_true (by omega)
      have t4 : (0 : Int) ≤ (i : Int) := by omega
      have q2 : bits BinOp.and IntKind.u64 (x : Int) 1 = (B : Int) := by rw [eB]; exact and_one x hxw
      have q3 : (r : Int) / 9223372036854775808 = (top : Int) := by rw [etop]; omega
      have q4 : IntKind.u64.wrap ((r : Int) * 2) = (m : Int) := by rw [IntKind.wrap_u64, em]; omega
      have q5 : bits BinOp.or IntKind.u64 (m : Int) (B : Int) = (R1 : Int) := by rw [eR]; exact or_bit m B (by unfold Wd; omega) hB2 (by omega)
      have st := div_step (T := val h l / 2 ^ (i + 1)) (d := d) (B := B) hd hB2
      have tw := two_steps (val h l) i
      rw [← eb] at tw
      rw [← tw, ← er] at st
      rw [← er] at *
      have hs : ∀ c, val h l / 2 ^ i / d = 2 * (val h l / 2 ^ (i + 1) / d) + c → val qh ql + c * 2 ^ i = val h l / 2 ^ i / d * 2 ^ i := fun c hc => by
        rw [hc, eq, Nat.pow_succ]; grind
      by_cases hge : d ≤ 2 * r + B
      · rw [if_pos hge, if_pos hge] at st
        obtain ⟨r2, er2⟩ : ∃ r2, r2 = 2 * r + B - d := ⟨_, rfl⟩
        rw [← er2] at st
        have q9 : IntKind.u64.wrap ((R1 : Int) - (d : Int)) = (r2 : Int) := by rw [IntKind.wrap_u64]; unfold Wd at *; omega
        have hr2 : r2 < d := by omega
        have hv : val q' ql = val h l / 2 ^ i / d * 2 ^ i := by
          rw [← hs 1 st.1, eq', eP, ej, Nat.pow_add]
          unfold val
          rw [show (2 : Nat) ^ 64 = 18446744073709551616 from rfl]; grind
        have hq'w : Wd q' := by
          have a : val h l / 2 ^ i / d * 2 ^ i ≤ val h l := Nat.le_trans (Nat.mul_le_mul_right _ (Nat.div_le_self _ _)) (Nat.div_mul_le_self _ _)
          rw [← hv] at a
          unfold val Wd at *; omega
        have htb : (top = 1 ∧ ((top : Int) == 1) = true) ∨ (((top : Int) == 1) = false ∧ decide ((d : Int) ≤ (R1 : Int)) = true ∧ decide (d ≤ R1) = true) := by
          by_cases ht : top = 1
          · left; exact ⟨ht, by simp [ht]⟩
          · right; refine ⟨by simp; omega, decide_eq_true ?_, decide_eq_true ?_⟩ <;> unfold Wd at * <;> omega
        have HV := Lib.hid (And.intro hv (And.intro st.2 hr2))
        have HW := Lib.hid hq'w
        clear hv hq'w st hs hge er2 hr2 tw eb eB ex etop em eR eq er hxw hrw hB2 eP eq' hPw eN eql eqh ej
        rcases htb with ⟨-, y1⟩ | ⟨y1, y2, y3⟩
        all_goals
          go_wp2_with fail
          refine Hd.wp_region_tail 7 (by kernel_rfl) (by kernel_rfl) ?_
          intro KQ hKQ
          repeat (first | (refine Hd.wpG_skip (by decide) rfl ?_; simp only [Act.put, List.setIfInBounds_toArray, List.set_cons_zero, List.set_cons_succ]) | (refine Hd.wpG_want (by decide) rfl ?_; apply Exists.intro; refine ⟨?_, ?_⟩; (· intro wx gx; (obtain ⟨mx, rfl⟩ := gx); all_goals (apply Hd.gAt_of_quiet; intro K hK; go_big_quiet_op; first | exact hK _ rfl | (apply Exists.intro; refine ⟨fun _ => ?_, ?_⟩; (· fail); exact hK _ rfl))); try simp only [Act.put, List.setIfInBounds_toArray, List.set_cons_zero, List.set_cons_succ]))
          refine Hd.wpG_nil (hKQ _ ?_)
          clear hKQ KQ
          intro w1 hhw1
          have hw1 := Hd.gr_of_spread hhw1
          have cw1_0_0 : w1.cell? ⟨w.heap.size, 0, none⟩ = some (.int .u64 h) := cell_gr hw1 (by go_simp)
          have cw1_0_1 : w1.cell? ⟨w.heap.size, 1, none⟩ = some (.int .u64 l) := cell_gr hw1 (by go_simp)
          have zw1_0 : w.heap.size < w1.heap.size := World.block_lt_of_cell? _ _ cw1_0_0
          have cw1_1_0 : w1.cell? ⟨w.heap.size + 1, 0, none⟩ = some (.int .u64 0) := cell_gr hw1 (by go_simp)
          have fw1_1_0 : w1.frozen? ⟨w.heap.size + 1, 0, none⟩ = false := frozen_gr (v := .int .u64 0) hw1 (by go_simp) (by go_simp)
          have cw1_1_1 : w1.cell? ⟨w.heap.size + 1, 1, none⟩ = some (.int .u64 0) := cell_gr hw1 (by go_simp)
          have fw1_1_1 : w1.frozen? ⟨w.heap.size + 1, 1, none⟩ = false := frozen_gr (v := .int .u64 0) hw1 (by go_simp) (by go_simp)
          have zw1_1 : w.heap.size + 1 < w1.heap.size := World.block_lt_of_cell? _ _ cw1_1_0
          have cw1_2_0 : w1.cell? ⟨w.heap.size + 1 + 1, 0, none⟩ = some (.int .u64 qh) := cell_gr hw1 (by go_simp)
          have fw1_2_0 : w1.frozen? ⟨w.heap.size + 1 + 1, 0, none⟩ = false := frozen_gr (v := .int .u64 qh) hw1 (by go_simp) (by go_simp)
          have cw1_2_1 : w1.cell? ⟨w.heap.size + 1 + 1, 1, none⟩ = some (.int .u64 ql) := cell_gr hw1 (by go_simp)
          have fw1_2_1 : w1.frozen? ⟨w.heap.size + 1 + 1, 1, none⟩ = false := frozen_gr (v := .int .u64 ql) hw1 (by go_simp) (by go_simp)
          have zw1_2 : w.heap.size + 1 + 1 < w1.heap.size := World.block_lt_of_cell? _ _ cw1_2_0
          have gw1 : Gr w w1 := Gr.trans (by have gg := gwr; have gs := gg.size; go_grown) hw1
          clear hw1 hhw1 gwr
          go_wp2_with fail
          go_roundg i
          case measure => omega
          case rel => exact ⟨q', ql, r2, by omega, HW.out, wql, HV.out.2.2, by go_simp, by first | rfl | (congr 1; omega), HV.out.1, HV.out.2.1.symm, by go_simp, by go_simp, by go_simp, by go_simp, by go_simp, by go_simp, by go_simp, by go_simp, by go_simp, by go_simp, by have gg := gw1; have gs := gg.size; go_grown⟩
      · rw [if_neg hge, if_neg hge] at st
        have y1 : ((top : Int) == 1) = false := by simp; unfold Wd at *; omega
        have y2 : decide ((d : Int) ≤ (R1 : Int)) = false := decide_eq_false (by unfold Wd at *; omega)
        have y3 : decide (d ≤ R1) = false := decide_eq_false (by unfold Wd at *; omega)
        have hv : val qh ql = val h l / 2 ^ i / d * 2 ^ i := by rw [← hs 0 st.1]; omega
        have hr1 : R1 < d := by unfold Wd at *; omega
        have er1 : R1 = val h l / 2 ^ i % d := by rw [st.2]; unfold Wd at *; omega
        have HV := Lib.hid (And.intro hv (And.intro er1 hr1))
        clear hv er1 hr1 st hs hge tw eb eB ex etop em eR eq er hxw hrw hB2 eP eq' hPw eN eql eqh ej
        go_wp2_with fail
        go_roundg i
        case measure => omega
        case rel => exact ⟨qh, ql, R1, by omega, wqh, wql, HV.out.2.2, by go_simp, by first | rfl | (congr 1; omega), HV.out.1, HV.out.2.1, by go_simp, by go_simp, by go_simp, by go_simp, by go_simp, by go_simp, by go_simp, by go_simp, by go_simp, by go_simp, gwr⟩
    · obtain ⟨x, ex⟩ : ∃ x, x = l / 2 ^ i := ⟨_, rfl⟩
      have hxw : Wd x := Nat.lt_of_le_of_lt (by rw [ex]; exact Nat.div_le_self _ _) h2
      have t2 : decide ((64 : Int) ≤ (i : Int)) = false := decide_eq_false (by omega)
      have t3 : decide (64 ≤ i) = false := decide_eq_false (by omega)
      have t5 : ¬ (64 : Int) ≤ (i : Int) := by omega
      have t6 : ¬ 64 ≤ i := by omega
      have q1' : (l : Int) / 2 ^ i = (x : Int) := by rw [ex]; norm_cast
      have q1 : (l : Int) / 2 ^ min i 64 = (x : Int) := by rw [Nat.min_eq_left (by omega)]; exact q1'
      obtain ⟨B, eB⟩ : ∃ B, B = x % 2 := ⟨_, rfl⟩
      have eb : B = val h l / 2 ^ i % 2 := by rw [eB, ex]; exact (bit_low h l i (by omega)).symm
      obtain ⟨sq, esq⟩ := quo_low (by omega) eq
      obtain ⟨P, eP⟩ : ∃ P, P = 2 ^ i := ⟨_, rfl⟩
      have hPw : Wd P := by rw [eP]; exact Nat.lt_of_lt_of_le (Nat.pow_lt_pow_right (by omega) (show i < 64 by omega)) (by decide)
      have u1 : (2 : Int) ^ min i 64 = (P : Int) := by rw [Nat.min_eq_left (by omega), eP]; norm_cast
      have u2 : (2 : Int) ^ i = (P : Int) := by rw [eP]; norm_cast
      have q1p : (l : Int) / (P : Int) = (x : Int) := by rw [← u2]; exact q1'
      have u3 : IntKind.u64.wrap (P : Int) = (P : Int) := IntWalk.u64_in _ (by unfold Wd at hPw; omega)
      have u4 : bits BinOp.or IntKind.u64 (ql : Int) (P : Int) = ((ql + P : Nat) : Int) := or_u64 ql P wql hPw (by rw [eP]; exact or_pow ql i _ esq)
      obtain ⟨q', eq'⟩ : ∃ q, q = ql + P := ⟨_, rfl⟩
      rw [← eq'] at u4
      obtain ⟨top, etop⟩ : ∃ B, B = r / 9223372036854775808 := ⟨_, rfl⟩
      obtain ⟨m, em⟩ : ∃ m, m = r * 2 % 18446744073709551616 := ⟨_, rfl⟩
      obtain ⟨R1, eR⟩ : ∃ R, R = m + B := ⟨_, rfl⟩
      have hrw : Wd r := Nat.lt_trans hr h3
      have hB2 : B < 2 := by omega
      have t1 : decide ((0 : Int) ≤ (i : Int)) = true := decide_eq_true (by omega)
      have t4 : (0 : Int) ≤ (i : Int) := by omega
      have q2 : bits BinOp.and IntKind.u64 (x : Int) 1 = (B : Int) := by rw [eB]; exact and_one x hxw
      have q3 : (r : Int) / 9223372036854775808 = (top : Int) := by rw [etop]; omega
      have q4 : IntKind.u64.wrap ((r : Int) * 2) = (m : Int) := by rw [IntKind.wrap_u64, em]; omega
      have q5 : bits BinOp.or IntKind.u64 (m : Int) (B : Int) = (R1 : Int) := by rw [eR]; exact or_bit m B (by unfold Wd; omega) hB2 (by omega)
      have st := div_step (T := val h l / 2 ^ (i + 1)) (d := d) (B := B) hd hB2
      have tw := two_steps (val h l) i
      rw [← eb] at tw
      rw [← tw, ← er] at st
      rw [← er] at *
      have hs : ∀ c, val h l / 2 ^ i / d = 2 * (val h l / 2 ^ (i + 1) / d) + c → val qh ql + c * 2 ^ i = val h l / 2 ^ i / d * 2 ^ i := fun c hc => by
        rw [hc, eq, Nat.pow_succ]; grind
      by_cases hge : d ≤ 2 * r + B
      · rw [if_pos hge, if_pos hge] at st
        obtain ⟨r2, er2⟩ : ∃ r2, r2 = 2 * r + B - d := ⟨_, rfl⟩
        rw [← er2] at st
        have q9 : IntKind.u64.wrap ((R1 : Int) - (d : Int)) = (r2 : Int) := by rw [IntKind.wrap_u64]; unfold Wd at *; omega
        have hr2 : r2 < d := by omega
        have hv : val qh q' = val h l / 2 ^ i / d * 2 ^ i := by
          rw [← hs 1 st.1, eq', eP]
          unfold val; omega
        have hq'w : Wd q' := by
          have d1 : sq * 2 ^ (i + 1) < 2 ^ (i + 1) * 2 ^ (63 - i) := by
            rw [← esq, ← Nat.pow_add, show i + 1 + (63 - i) = 64 by omega]; exact wql
          have d2 : sq < 2 ^ (63 - i) := Nat.lt_of_mul_lt_mul_left (a := 2 ^ (i + 1)) (by rw [Nat.mul_comm]; exact d1)
          have d3 : (sq + 1) * 2 ^ (i + 1) ≤ 2 ^ (63 - i) * 2 ^ (i + 1) := Nat.mul_le_mul_right _ d2
          rw [← Nat.pow_add, show 63 - i + (i + 1) = 64 by omega, Nat.add_mul, ← esq, Nat.pow_succ] at d3
          have d4 : 0 < 2 ^ i := Nat.two_pow_pos i
          rw [eq', eP]
          unfold Wd
          rw [show (2 : Nat) ^ 64 = 18446744073709551616 from rfl] at d3
          omega
        have htb : (top = 1 ∧ ((top : Int) == 1) = true) ∨ (((top : Int) == 1) = false ∧ decide ((d : Int) ≤ (R1 : Int)) = true ∧ decide (d ≤ R1) = true) := by
          by_cases ht : top = 1
          · left; exact ⟨ht, by simp [ht]⟩
          · right; refine ⟨by simp; omega, decide_eq_true ?_, decide_eq_true ?_⟩ <;> unfold Wd at * <;> omega
        have HV := Lib.hid (And.intro hv (And.intro st.2 hr2))
        have HW := Lib.hid hq'w
        clear hv hq'w st hs hge er2 hr2 tw eb eB ex etop em eR eq er hxw hrw hB2 eP eq' hPw esq
        rcases htb with ⟨-, y1⟩ | ⟨y1, y2, y3⟩
        all_goals
          go_wp2_with fail
          refine Hd.wp_region_tail 6 (by kernel_rfl) (by kernel_rfl) ?_
          intro KQ hKQ
          repeat (first | (refine Hd.wpG_skip (by decide) rfl ?_; simp only [Act.put, List.setIfInBounds_toArray, List.set_cons_zero, List.set_cons_succ]) | (refine Hd.wpG_want (by decide) rfl ?_; apply Exists.intro; refine ⟨?_, ?_⟩; (· intro wx gx; (obtain ⟨mx, rfl⟩ := gx); all_goals (apply Hd.gAt_of_quiet; intro K hK; go_big_quiet_op; first | exact hK _ rfl | (apply Exists.intro; refine ⟨fun _ => ?_, ?_⟩; (· fail); exact hK _ rfl))); try simp only [Act.put, List.setIfInBounds_toArray, List.set_cons_zero, List.set_cons_succ]))
          refine Hd.wpG_nil (hKQ _ ?_)
          clear hKQ KQ
          intro w1 hhw1
          have hw1 := Hd.gr_of_spread hhw1
          have cw1_0_0 : w1.cell? ⟨w.heap.size, 0, none⟩ = some (.int .u64 h) := cell_gr hw1 (by go_simp)
          have cw1_0_1 : w1.cell? ⟨w.heap.size, 1, none⟩ = some (.int .u64 l) := cell_gr hw1 (by go_simp)
          have zw1_0 : w.heap.size < w1.heap.size := World.block_lt_of_cell? _ _ cw1_0_0
          have cw1_1_0 : w1.cell? ⟨w.heap.size + 1, 0, none⟩ = some (.int .u64 0) := cell_gr hw1 (by go_simp)
          have fw1_1_0 : w1.frozen? ⟨w.heap.size + 1, 0, none⟩ = false := frozen_gr (v := .int .u64 0) hw1 (by go_simp) (by go_simp)
          have cw1_1_1 : w1.cell? ⟨w.heap.size + 1, 1, none⟩ = some (.int .u64 0) := cell_gr hw1 (by go_simp)
          have fw1_1_1 : w1.frozen? ⟨w.heap.size + 1, 1, none⟩ = false := frozen_gr (v := .int .u64 0) hw1 (by go_simp) (by go_simp)
          have zw1_1 : w.heap.size + 1 < w1.heap.size := World.block_lt_of_cell? _ _ cw1_1_0
          have cw1_2_0 : w1.cell? ⟨w.heap.size + 1 + 1, 0, none⟩ = some (.int .u64 qh) := cell_gr hw1 (by go_simp)
          have fw1_2_0 : w1.frozen? ⟨w.heap.size + 1 + 1, 0, none⟩ = false := frozen_gr (v := .int .u64 qh) hw1 (by go_simp) (by go_simp)
          have cw1_2_1 : w1.cell? ⟨w.heap.size + 1 + 1, 1, none⟩ = some (.int .u64 ql) := cell_gr hw1 (by go_simp)
          have fw1_2_1 : w1.frozen? ⟨w.heap.size + 1 + 1, 1, none⟩ = false := frozen_gr (v := .int .u64 ql) hw1 (by go_simp) (by go_simp)
          have zw1_2 : w.heap.size + 1 + 1 < w1.heap.size := World.block_lt_of_cell? _ _ cw1_2_0
          have gw1 : Gr w w1 := Gr.trans (by have gg := gwr; have gs := gg.size; go_grown) hw1
          clear hw1 hhw1 gwr
          go_wp2_with fail
          go_roundg i
          case measure => omega
          case rel => exact ⟨qh, q', r2, by omega, wqh, HW.out, HV.out.2.2, by go_simp, by first | rfl | (congr 1; omega), HV.out.1, HV.out.2.1.symm, by go_simp, by go_simp, by go_simp, by go_simp, by go_simp, by go_simp, by go_simp, by go_simp, by go_simp, by go_simp, by have gg := gw1; have gs := gg.size; go_grown⟩
      · rw [if_neg hge, if_neg hge] at st
        have y1 : ((top : Int) == 1) = false := by simp; unfold Wd at *; omega
        have y2 : decide ((d : Int) ≤ (R1 : Int)) = false := decide_eq_false (by unfold Wd at *; omega)
        have y3 : decide (d ≤ R1) = false := decide_eq_false (by unfold Wd at *; omega)
        have hv : val qh ql = val h l / 2 ^ i / d * 2 ^ i := by rw [← hs 0 st.1]; omega
        have hr1 : R1 < d := by unfold Wd at *; omega
        have er1 : R1 = val h l / 2 ^ i % d := by rw [st.2]; unfold Wd at *; omega
        have HV := Lib.hid (And.intro hv (And.intro er1 hr1))
        clear hv er1 hr1 st hs hge tw eb eB ex etop em eR eq er hxw hrw hB2 eP eq' hPw esq
        go_wp2_with fail
        go_roundg i
        case measure => omega
        case rel => exact ⟨qh, ql, R1, by omega, wqh, wql, HV.out.2.2, by go_simp, by first | rfl | (congr 1; omega), HV.out.1, HV.out.2.1, by go_simp, by go_simp, by go_simp, by go_simp, by go_simp, by go_simp, by go_simp, by go_simp, by go_simp, by go_simp, gwr⟩
end Go.Proofs.YthjhhnolkiejpaaDoor
