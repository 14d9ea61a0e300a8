/- FaultOrder: the walk -/
import Derived.Test.YtgmmhddlfalehaaLah
namespace Go.Proofs.Ytgmmhddlfalehaa
set_option linter.unusedVariables false
set_option linter.unusedSimpArgs false
open Go.ChangeShapes Go.WideShapes Go.ChangeAt Go.RowKit

set_option maxHeartbeats 8000000 in
set_option maxRecDepth 100000 in
theorem order_core (v : Value) (n : Nat) (kids : Nat → Nd) (cut : Int) (hcut : -9223372036854775808 ≤ cut ∧ cut ≤ 9223372036854775807) (W : World) (h : NdsAt W v n kids) : Calls Try.prog 5 #[v, .int .i64 cut] W fun e w' => e = .returned (.bool true) ∧ Gr W w' := by
  obtain ⟨i0, hi0, hz0, hz1, hz2⟩ := info_parts (P := Try.prog) (e := 9) (z := .string ⟨#[]⟩) (size := 1) (bytes := 16) (by kernel_rfl)
  have HI := Lib.hid (And.intro hi0 (And.intro hz0 (And.intro hz1 hz2)))
  clear hi0 hz0 hz1 hz2
  obtain ⟨ie, hi0, hz0, hz1, hz2⟩ := info_parts (P := Try.prog) (e := 28) (z := .nilIface) (size := 1) (bytes := 16) (by kernel_rfl)
  have HJ := Lib.hid (And.intro hi0 (And.intro hz0 (And.intro hz1 hz2)))
  clear hi0 hz0 hz1 hz2
  obtain ⟨ad, cap, B, off, rfl, h1, h2, h3, h4⟩ := h
  have HX := Lib.hid (And.intro h3 h4)
  clear h3 h4
  by_cases hn : n ≤ 10
  case neg =>
    have s1 : decide ((10 : Int) < (n : Int)) = true := decide_eq_true (by omega)
    have s2 : decide (10 < n) = true := decide_eq_true (by omega)
    have s3 : (10 : Int) < (n : Int) := by omega
    go_enter Try.func5, Try.ntmps5
    go_wp2_with fail
    go_at_call 8
    refine (p7_awake _).mono ?_
    rintro e w2 ⟨rfl, g2⟩
    go_wp2_with fail
    go_ret
    exact ⟨rfl, g2⟩
  have s1 : decide ((10 : Int) < (n : Int)) = false := decide_eq_false (by omega)
  have s2 : decide (10 < n) = false := decide_eq_false (by omega)
  have s3 : ¬ (10 : Int) < (n : Int) := by omega
  go_enter Try.func5, Try.ntmps5
  go_wp2_with fail
  go_loopg [5, 6] n (fun j a x wq => ∃ i r : Nat, x = .int .i64 i ∧ i ≤ n ∧ j = n - i ∧ a = .int .i64 r ∧ r ≤ 1099511627776 ∧ Hid (∀ j, j < i → r < 1000 → (kids j).cnt ≤ r) ∧ Hid (Gr W wq))
  case atStart => exact ⟨0, 0, rfl, by omega, by omega, rfl, by omega, Lib.hid (fun j hj => absurd hj (Nat.not_lt_zero _)), Lib.hid (Below.refl _ _)⟩
  case round =>
    obtain ⟨i, r', rfl, hi, hj, rfl, hr3, HR, HG⟩ := hrel
    by_cases hin : i < n
    · have ti : decide ((i : Int) < (n : Int)) = true := decide_eq_true (by omega)
      have ti2 : decide (i < n) = true := decide_eq_true hin
      have ti3 : (i : Int) < (n : Int) := by omega
      have tn1 : (i : Int) < (cap : Int) := by omega
      have t0 : (0 : Int) ≤ (i : Int) := by omega
      obtain rfl := HX.out.1 (by omega)
      obtain ⟨x0, x1, x2, x3, k0, k1, k2, k3, hk⟩ := HX.out.2 i hin
      have m0 := cell_gr HG.out k0
      have m1 := cell_gr HG.out k1
      have m2 := cell_gr HG.out k2
      have m3 := cell_gr HG.out k3
      have zB := World.block_lt_of_cell? _ _ m0
      have AW := Lib.hid (fun w (g : Gr wr w) => c_weight (kids i) w x0 x1 x2 x3 0 (by decide) (by decide) (ndAt_gr (Gr.trans HG.out g) hk))
      clear k0 k1 k2 k3 hk
      go_wp2_with fail
      go_at_call 7
      refine (AW.out _ (Below.refl _ _)).mono ?_
      rintro e w2 ⟨s, rfl, hs1, hs2, g2⟩
      have A2 := Lib.hid (fun (B : Nat) (W : World) hc => c_Sum1 (r' : Nat) r' s B rfl (by omega) (by omega) W hc)
      have HS := Lib.hid hs2
      have HG3 := Lib.hid g2
      clear hs2 g2 AW m0 m1 m2 m3
      go_wp2_with fail
      go_at_call 17
      refine (A2.out _ _ (by go_simp)).mono ?_
      rintro e w3 ⟨t, rfl, ht1, ht2, g3⟩
      have HR2 : Hid (∀ j, j < i + 1 → t < 1000 → (kids j).cnt ≤ t) := Lib.hid (fun j hj ht => by
        rcases ht1 with h | h
        · by_cases e : j = i
          · subst e
            have := HS.out (by omega)
            omega
          · have := HR.out j (by omega) (by omega)
            omega
        · omega)
      have HG4 : Hid (Gr W w3) := Lib.hid (Gr.trans HG.out (Gr.trans HG3.out (Gr.trans (al_grw _ _) g3)))
      clear g3 ht1
      go_wp2_with fail
      go_roundg (n - (i + 1))
      case measure => omega
      case rel => exact ⟨i + 1, t, by go_num, by omega, rfl, rfl, ht2, HR2, HG4⟩
    · obtain rfl : i = n := by omega
      have ti : decide ((i : Int) < (i : Int)) = false := decide_eq_false (by omega)
      have ti3 : ¬ (i : Int) < (i : Int) := by omega
      by_cases hr : r' ≤ 300
      case neg =>
        have t1 : decide ((300 : Int) < (r' : Int)) = true := decide_eq_true (by omega)
        have t2 : decide (300 < r') = true := decide_eq_true (by omega)
        have t3 : (300 : Int) < (r' : Int) := by omega
        go_wp2_with fail
        go_at_call 8
        refine (p7_awake _).mono ?_
        rintro e w2 ⟨rfl, g2⟩
        go_wp2_with fail
        go_ret
        exact ⟨rfl, Gr.trans HG.out g2⟩
      have t1 : decide ((300 : Int) < (r' : Int)) = false := decide_eq_false (by omega)
      have t2 : decide (300 < r') = false := decide_eq_false (by omega)
      have t3 : ¬ (300 : Int) < (r' : Int) := by omega
      have HC : Hid (∀ j, j < i → (kids j).cnt ≤ 300) := Lib.hid (fun j hj => Nat.le_trans (HR.out j hj (by omega)) hr)
      have HA0 := Lib.hid (ao_nil W wr HG.out kids)
      obtain ⟨wo, rfl⟩ : ∃ x, x = wr := ⟨wr, rfl⟩
      clear HR hr3 hj hi
      go_wp2_with fail
      go_loopg [7, 8, 9] i (fun j a b x wq => ∃ (s : Nat) (es : Nat → Er), x = .int .i64 s ∧ s ≤ i ∧ j = i - s ∧ Hid (AO W wq s kids es a b))
      case atStart => exact ⟨0, fun _ => .nil, rfl, by omega, by omega, HA0⟩
      case round =>
        obtain ⟨s, es, rfl, hs, hsj, HA⟩ := hrel
        by_cases hsn : s < i
        · have si : decide ((s : Int) < (i : Int)) = true := decide_eq_true (by omega)
          have si2 : decide (s < i) = true := decide_eq_true hsn
          have si3 : (s : Int) < (i : Int) := by omega
          have sn1 : (s : Int) < (cap : Int) := by omega
          have s0 : (0 : Int) ≤ (s : Int) := by omega
          obtain rfl := HX.out.1 (by omega)
          have hbd := ao_bound HA.out (fun j hj => HC.out j (by omega))
          have hopl := opsE_len (fun j hj => (hbd j hj).2)
          obtain ⟨us, q1, q2, q3, q4⟩ := HA.out
          obtain ⟨x0, x1, x2, x3, k0, k1, k2, k3, hk⟩ := HX.out.2 s hsn
          have m0 := cell_gr q4 k0
          have m1 := cell_gr q4 k1
          have m2 := cell_gr q4 k2
          have m3 := cell_gr q4 k3
          have zB := World.block_lt_of_cell? _ _ m0
          have AM := Lib.hid (c_made (kids s) (by have := HC.out s hsn; omega) wr x0 x1 x2 x3 (ndAt_gr q4 hk))
          obtain ⟨sa, sc, rfl⟩ := own_formE q1
          obtain ⟨sb, sd, rfl⟩ := own_formE q2
          have HQ := Lib.hid (And.intro q1 (And.intro q2 (And.intro q3 q4)))
          obtain ⟨nn, hnn⟩ : ∃ nn, nn = (opsE es s).length := ⟨_, rfl⟩
          rw [← hnn]
          have hnn3 : nn ≤ 3000 := by omega
          have HNN := Lib.hid hnn
          have sW := q4.size
          clear k0 k1 k2 k3 hk q1 q2 q3 q4 hbd hopl hnn
          go_wp2_with fail
          go_at_call 9
          refine (AM.out).mono ?_
          rintro e w1 ⟨E, u, rfl, hm, g1⟩
          have hE := mv_erT _ hm
          have hIf := erT_if hE
          have hsz : E.size ≤ 400000 := by have := mv_size _ hm; have := HC.out s hsn; omega
          have hol : (opsN E.pre).length ≤ 300 := by
            rw [opsN_fm, mv_flts _ hm, List.length_map]
            exact Nat.le_trans (wi_len 2 _) (HC.out s hsn)
          obtain ⟨mm, hmm⟩ : ∃ mm, mm = (opsN E.pre).length := ⟨_, rfl⟩
          rw [← hmm] at hol
          have HM := Lib.hid (And.intro hm (And.intro hE (And.intro hsz hmm)))
          have HG1 := Lib.hid g1
          have s1' := g1.size
          clear hm hE hsz g1 AM m0 m1 m2 m3 zB hmm
          rcases hIf with rfl | ⟨U, y, rfl⟩
          all_goals
            go_upto_region 17 with (first | fail | (at_builtin; go_loud ((refine wpList_append_own2 _ rfl (.tmp 45) (.tmp 47) 51 rfl W.heap.size 28 ie .nilIface 1 16 Try.underlying51 HJ.out.1 HJ.out.2.1 HJ.out.2.2.1 HJ.out.2.2.2 rfl (by decide) (.slice sa s sc) s us rfl (rowOwn_gr HQ.out.1 (Gr.trans HG1.out (al_grw w1 _))) ⟨w1.heap.size, 0, none⟩ 1 1 [_] rfl rfl (cell_one_new _ _ _) (by intro u hu; simp only [List.mem_cons, List.not_mem_nil, or_false] at hu; subst hu; rfl) (by unfold maxLen; omega) (by omega) (Nat.le_trans sW (Nat.le_trans s1' (al_le _ _))) ?_); intro x5 w5 o5 g5; (have HE5 := Lib.hid (ao_new HQ.out.1 HM.out.1 (al_grw w1 _) g5)); (have HM5 := Lib.hid (ao_mid HQ.out.1 HQ.out.2.1 HQ.out.2.2.2 HG1.out (al_grw w1 _) g5)); (have HO5 := Lib.hid (And.intro o5 g5)); clear o5 g5)))
            have AC := Lib.hid (c_fChain w5 HE5.out HM.out.2.2.1)
            have sW5 := HM5.out.2.size
            rw [← HM.out.2.2.2] at AC
            go_wp2_with fail
            go_at_call 14
            refine (AC.out).mono ?_
            rintro e w6 ⟨sv, rfl, o6, g6⟩
            obtain ⟨ca, cc, rfl⟩ := own_formE o6
            have HO6 := Lib.hid (And.intro o6 g6)
            have s6' := g6.size
            have HB6 := Lib.hid (rowOwn_gr HM5.out.1 g6)
            rw [← HNN.out] at HB6
            clear o6 g6 AC
            go_wp2_with (at_builtin; go_loud ((refine wpList_append_rowN rfl (.tmp 49) (.tmp 51) 32 rfl W.heap.size 9 i0 (.string ⟨#[]⟩) 1 16 Try.underlying32 HI.out.1 HI.out.2.1 HI.out.2.2.1 HI.out.2.2.2 rfl (by decide) (.slice sb nn sd) nn (strV (opsE es s)) rfl HB6.out (.slice ca mm cc) w5.heap.size mm (strV (opsN E.pre)) rfl HO6.out.1 (strV_one _) (by unfold maxLen; omega) (by omega) (Nat.le_trans sW5 s6') ?_); intro x7 w7 o7 g7; (have HA7 := Lib.hid (ao_step HQ.out.1 HQ.out.2.1 HQ.out.2.2.1 HQ.out.2.2.2 HG1.out HM.out.1 (al_grw w1 _) HO5.out.2 HO5.out.1 HO6.out.2 (by rw [← HNN.out]; exact g7) (by rw [← HNN.out, ← HM.out.2.2.2]; exact o7))); clear o7 g7))
            go_roundg (i - (s + 1))
            case measure => omega
            case rel => exact ⟨s + 1, _, by go_num, by omega, rfl, HA7⟩
        · obtain rfl : s = i := by omega
          have si : decide ((s : Int) < (s : Int)) = false := decide_eq_false (by omega)
          have si3 : ¬ (s : Int) < (s : Int) := by omega
          have hbd := ao_bound HA.out (fun j hj => HC.out j hj)
          have hopl := opsE_len (fun j hj => (hbd j hj).2)
          have hEr := ao_errs HA.out
          obtain ⟨us, q1, q2, -, q4⟩ := HA.out
          have hS : Strs wr u8 (opsE es s) := strs_own q2
          obtain ⟨sa, sc, rfl⟩ := own_formE q1
          obtain ⟨sb, sd, rfl⟩ := own_formE q2
          obtain ⟨nn, hnn⟩ : ∃ nn, nn = (opsE es s).length := ⟨_, rfl⟩
          rw [← hnn] at hopl hS ⊢
          obtain ⟨m, hm⟩ : ∃ m, m = s + 1 := ⟨_, rfl⟩
          have e1 : wrap64 ((s : Int) + 1) = (m : Int) := by rw [wr_small (by omega)]; omega
          have e2 : IntKind.i64.wrap ((s : Int) + 1) = (m : Int) := by rw [wk_small (by omega)]; omega
          have hcm : ∃ c : Nat, (c : Int) = cut % (m : Int) ∧ c ≤ s := by
            have a := Int.emod_nonneg cut (show (m : Int) ≠ 0 by omega)
            have b := Int.emod_lt_of_pos cut (show (0 : Int) < (m : Int) by omega)
            exact ⟨(cut % (m : Int)).toNat, by omega, by omega⟩
          obtain ⟨c, hc, hcs⟩ := hcm
          have AR : ∀ w, Calls Try.prog 18 #[.int .i64 cut, .int .i64 (m : Int)] w fun e w' => e = .returned (.int .i64 (c : Int)) ∧ Gr w w' := fun w => by
            have := c_RoundE cut hcut.1 hcut.2 m (by omega) (by omega) w
            rwa [← hc] at this
          obtain ⟨aT, cT, hT1, hT2⟩ := errs_to hcs hEr
          obtain ⟨aF, cF, hF1, hF2⟩ := errs_from hcs hEr
          obtain ⟨k, hk⟩ : ∃ k, k = s - c := ⟨_, rfl⟩
          rw [← hk] at hF1 hF2
          have hck : c + k = s := by omega
          have AX := Lib.hid (fun w (g : Gr wr w) => c_fJoin w (errs_gr hEr g) (by omega))
          have AT := Lib.hid (fun w (g : Gr wr w) => c_fJoin w (errs_gr hT2 g) (by omega))
          have AF0 : ∀ w, Gr wr w → ∀ E' u', ErT w E' u' → Calls Try.prog 19 #[.slice aF k cF] w fun e w' => ∃ u, e = .returned u ∧ ErT w' (joT (nnL (fun j => es (c + j)) k)) u ∧ ErT w' E' u' ∧ Gr w w' := fun w g E' u' h => by
            refine (c_fJoin w (errs_gr hF2 g) (by omega)).mono ?_
            rintro e w' ⟨u, rfl, h1, h2⟩
            exact ⟨u, rfl, h1, erT_gr h2 h, h2⟩
          have AF := Lib.hid AF0
          have HCK := Lib.hid (And.intro hck hbd)
          have HR := Lib.hid AR
          have HS := Lib.hid hS
          have HTF := Lib.hid (And.intro hT1 hF1)
          have HG := Lib.hid q4
          have HNN := Lib.hid hnn
          have hop : nn ≤ 3000 := by omega
          clear AF0 AR hEr q1 q2 q4 hS hbd hopl hc hck hk hT2 hF2 hm hnn hT1 hF1
          clear hcut
          go_wp2_with fail
          go_at_call 18
          refine (HR.out _).mono ?_
          rintro e w1 ⟨rfl, g1⟩
          have HG1 := Lib.hid g1
          clear g1 HR
          go_wp2_with fail
          go_at_call 19
          refine (AX.out _ HG1.out).mono ?_
          rintro e w2 ⟨ux, rfl, hx, g2⟩
          have HX2 := Lib.hid hx
          have HG2 := Lib.hid (Gr.trans HG1.out g2)
          clear hx g2 AX
          have hT1 := HTF.out.1
          have hF1 := HTF.out.2
          have tc1 : (c : Int) ≤ (s : Int) := by omega
          go_upto_region 20 with fail
          go_wp2_with fail
          try simp only [List.append]
          refine Od.wp_region_ord [(0, false), (1, false), (2, false), (4, false), (5, false), (6, false), (3, true), (7, true), (8, true), (9, true), (10, false)] (by kernel_rfl) (by kernel_rfl) ?_
          intro w3 hw3 KQ hKQ
          have gw3 : Gr w2 w3 := Gr.trans (by go_grown) hw3
          skip
          clear hw3
          repeat (first | (refine Od.wpO_skip (by simp only [List.getElem?_toArray, List.getElem?_cons_succ, List.getElem?_cons_zero] <;> rfl) rfl ?_; simp only [Act.put, List.setIfInBounds_toArray, List.set_cons_zero, List.set_cons_succ]) | (refine Od.wpO_pure (by simp only [List.getElem?_toArray, List.getElem?_cons_succ, List.getElem?_cons_zero] <;> rfl) rfl ?_; apply Exists.intro; refine ⟨?_, ?_⟩; (· intro wx gx; obtain ⟨mx, rfl⟩ := spread_of_gr gx; clear gx; all_goals (apply Od.pAt_of_quiet; intro K hK; go_big_quiet_op; first | exact hK _ rfl | (apply Exists.intro; refine ⟨fun _ => ?_, ?_⟩; (· fail); exact hK _ rfl))); try simp only [Act.put, List.setIfInBounds_toArray, List.set_cons_zero, List.set_cons_succ]))
          refine Od.wpO_call (by simp only [List.getElem?_toArray, List.getElem?_cons_succ, List.getElem?_cons_zero] <;> rfl) rfl ?_
          intro QS hQS
          go_wp2_with fail
          go_at_call 19
          (with_reducible refine ((AT.out _ (Gr.trans HG2.out gw3))).mono ?_)
          rintro e w4 ⟨ua, rfl, ha, hw4⟩
          go_wp2_with fail
          apply Exists.intro
          refine ⟨?_, hw4, ?_⟩
          · simp only [Act.put, List.setIfInBounds_toArray, List.set_cons_zero, List.set_cons_succ]; rfl
          have gw4 : Gr w2 w4 := Gr.trans (by have gg := gw3; have gs := gg.size; go_grown) hw4
          clear gw3
          clear hw4
          try simp only [Act.put, List.setIfInBounds_toArray, List.set_cons_zero, List.set_cons_succ]
          repeat (first | (refine Od.wpO_skip (by simp only [List.getElem?_toArray, List.getElem?_cons_succ, List.getElem?_cons_zero] <;> rfl) rfl ?_; simp only [Act.put, List.setIfInBounds_toArray, List.set_cons_zero, List.set_cons_succ]) | (refine Od.wpO_pure (by simp only [List.getElem?_toArray, List.getElem?_cons_succ, List.getElem?_cons_zero] <;> rfl) rfl ?_; apply Exists.intro; refine ⟨?_, ?_⟩; (· intro wx gx; obtain ⟨mx, rfl⟩ := spread_of_gr gx; clear gx; all_goals (apply Od.pAt_of_quiet; intro K hK; go_big_quiet_op; first | exact hK _ rfl | (apply Exists.intro; refine ⟨fun _ => ?_, ?_⟩; (· fail); exact hK _ rfl))); try simp only [Act.put, List.setIfInBounds_toArray, List.set_cons_zero, List.set_cons_succ]))
          refine Od.wpO_call (by simp only [List.getElem?_toArray, List.getElem?_cons_succ, List.getElem?_cons_zero] <;> rfl) rfl ?_
          intro QS hQS
          go_wp2_with fail
          go_at_call 19
          (with_reducible refine ((AF.out _ (Gr.trans HG2.out gw4) _ _ ha)).mono ?_)
          rintro e w5 ⟨ub, rfl, hb, ha5, hw5⟩
          go_wp2_with fail
          apply Exists.intro
          refine ⟨?_, hw5, ?_⟩
          · simp only [Act.put, List.setIfInBounds_toArray, List.set_cons_zero, List.set_cons_succ]; rfl
          have gw5 : Gr w2 w5 := Gr.trans (by have gg := gw4; have gs := gg.size; go_grown) hw5
          clear gw4
          clear hw5
          try simp only [Act.put, List.setIfInBounds_toArray, List.set_cons_zero, List.set_cons_succ]
          repeat (first | (refine Od.wpO_skip (by simp only [List.getElem?_toArray, List.getElem?_cons_succ, List.getElem?_cons_zero] <;> rfl) rfl ?_; simp only [Act.put, List.setIfInBounds_toArray, List.set_cons_zero, List.set_cons_succ]) | (refine Od.wpO_pure (by simp only [List.getElem?_toArray, List.getElem?_cons_succ, List.getElem?_cons_zero] <;> rfl) rfl ?_; apply Exists.intro; refine ⟨?_, ?_⟩; (· intro wx gx; obtain ⟨mx, rfl⟩ := spread_of_gr gx; clear gx; all_goals (apply Od.pAt_of_quiet; intro K hK; go_big_quiet_op; first | exact hK _ rfl | (apply Exists.intro; refine ⟨fun _ => ?_, ?_⟩; (· fail); exact hK _ rfl))); try simp only [Act.put, List.setIfInBounds_toArray, List.set_cons_zero, List.set_cons_succ]))
          have if1 := erT_if ha5
          have if2 := erT_if hb
          clear ha
          rcases if1 with rfl | ⟨U1, y1, rfl⟩
          · rcases if2 with rfl | ⟨U2, y2, rfl⟩
            · skip
              refine Od.wpO_call (by simp only [List.getElem?_toArray, List.getElem?_cons_succ, List.getElem?_cons_zero] <;> rfl) rfl ?_
              intro QS hQS
              go_wp2_with fail
              first | (apply Exists.intro; refine ⟨?_, (by go_grown), ?_⟩; (· simp only [Act.put, List.setIfInBounds_toArray, List.set_cons_zero, List.set_cons_succ]; rfl)) | (refine ⟨(by go_grown), ?_⟩)
              generalize hhw6 : (w5.alloc (.cells #[.nilIface, .nilIface] 28)) = w6
              have hw6 : Gr w5 w6 := by subst hhw6; go_grown
              have gw6 : Gr w2 w6 := Gr.trans (by have gg := gw5; have gs := gg.size; go_grown) hw6
              have hE6 : Errs w6 (.slice (some ⟨w5.heap.size, 0, none⟩) 2 2) 2 (twoE (joT (nnL es c)) (joT (nnL (fun j => es (c + j)) k))) := errs_two (by subst hhw6; go_simp) (by subst hhw6; go_simp) (erT_gr hw6 ha5) (erT_gr hw6 hb)
              clear hhw6 hw6 gw5
              try simp only [Act.put, List.setIfInBounds_toArray, List.set_cons_zero, List.set_cons_succ]
              repeat (first | (refine Od.wpO_skip (by simp only [List.getElem?_toArray, List.getElem?_cons_succ, List.getElem?_cons_zero] <;> rfl) rfl ?_; simp only [Act.put, List.setIfInBounds_toArray, List.set_cons_zero, List.set_cons_succ]) | (refine Od.wpO_pure (by simp only [List.getElem?_toArray, List.getElem?_cons_succ, List.getElem?_cons_zero] <;> rfl) rfl ?_; apply Exists.intro; refine ⟨?_, ?_⟩; (· intro wx gx; obtain ⟨mx, rfl⟩ := spread_of_gr gx; clear gx; all_goals (apply Od.pAt_of_quiet; intro K hK; go_big_quiet_op; first | exact hK _ rfl | (apply Exists.intro; refine ⟨fun _ => ?_, ?_⟩; (· fail); exact hK _ rfl))); try simp only [Act.put, List.setIfInBounds_toArray, List.set_cons_zero, List.set_cons_succ]))
              refine Od.wpO_call (by simp only [List.getElem?_toArray, List.getElem?_cons_succ, List.getElem?_cons_zero] <;> rfl) rfl ?_
              intro QS hQS
              go_wp2_with fail
              go_at_call 19
              (with_reducible refine ((c_fJoin _ hE6 (by omega))).mono ?_)
              rintro e w7 ⟨uy, rfl, hy, hw7⟩
              go_wp2_with fail
              apply Exists.intro
              refine ⟨?_, hw7, ?_⟩
              · simp only [Act.put, List.setIfInBounds_toArray, List.set_cons_zero, List.set_cons_succ]; rfl
              have gw7 : Gr w2 w7 := Gr.trans (by have gg := gw6; have gs := gg.size; go_grown) hw7
              clear gw6
              clear hw7
              try simp only [Act.put, List.setIfInBounds_toArray, List.set_cons_zero, List.set_cons_succ]
              repeat (first | (refine Od.wpO_skip (by simp only [List.getElem?_toArray, List.getElem?_cons_succ, List.getElem?_cons_zero] <;> rfl) rfl ?_; simp only [Act.put, List.setIfInBounds_toArray, List.set_cons_zero, List.set_cons_succ]) | (refine Od.wpO_pure (by simp only [List.getElem?_toArray, List.getElem?_cons_succ, List.getElem?_cons_zero] <;> rfl) rfl ?_; apply Exists.intro; refine ⟨?_, ?_⟩; (· intro wx gx; obtain ⟨mx, rfl⟩ := spread_of_gr gx; clear gx; all_goals (apply Od.pAt_of_quiet; intro K hK; go_big_quiet_op; first | exact hK _ rfl | (apply Exists.intro; refine ⟨fun _ => ?_, ?_⟩; (· fail); exact hK _ rfl))); try simp only [Act.put, List.setIfInBounds_toArray, List.set_cons_zero, List.set_cons_succ]))
              refine Od.wpO_nil (hKQ _ _ ?_)
              clear hKQ KQ
              have GX := Gr.trans HG2.out gw7
              have sz1 : (joT (nnL es s)).size ≤ 400000 := by
                have := jn_size (fun j hj => (HCK.out.2 j hj).1)
                omega
              have sz2 : (joT (nnL (twoE (joT (nnL es c)) (joT (nnL (fun j => es (c + j)) k))) 2)).size ≤ 400000 := by
                have z1 := jn_size (n := c) (fun j hj => (HCK.out.2 j (by have := HCK.out.1; omega)).1)
                have z2 := jn_size (es := fun j => es (c + j)) (n := k) (fun j hj => (HCK.out.2 (c + j) (by have := HCK.out.1; omega)).1)
                have z3 := jn_size (es := twoE (joT (nnL es c)) (joT (nnL (fun j => es (c + j)) k))) (n := 2) (M := 7000) (fun j hj => by
                  have := HCK.out.1
                  rcases (by omega : j = 0 ∨ j = 1) with rfl | rfl
                  · show (joT (nnL es c)).size ≤ 7000; omega
                  · show (joT (nnL (fun j => es (c + j)) k)).size ≤ 7000; omega)
                omega
              have hx7 := erT_gr gw7 HX2.out
              have AC1 : ∀ w, Gr w7 w → Calls Try.prog 14 #[ux] w fun e w' => ∃ sv, e = .returned sv ∧ Strs w' sv (opsE es s) ∧ Gr w w' := fun w g => by
                refine (c_fChain w (erT_gr g hx7) sz1).mono ?_
                rintro e w' ⟨sv, rfl, o, g'⟩
                rw [ops_jn] at o
                exact ⟨sv, rfl, strs_own o, g'⟩
              have AC2 : ∀ w, Gr w7 w → Calls Try.prog 14 #[uy] w fun e w' => ∃ sv, e = .returned sv ∧ Strs w' sv (opsE es s) ∧ Gr w w' := fun w g => by
                refine (c_fChain w (erT_gr g hy) sz2).mono ?_
                rintro e w' ⟨sv, rfl, o, g'⟩
                rw [ops_two, HCK.out.1] at o
                exact ⟨sv, rfl, strs_own o, g'⟩
              obtain ⟨cd, hcd⟩ : ∃ cd, cd = firstN (joT (nnL es s)).pre := ⟨_, rfl⟩
              have AD1 : ∀ w, Gr w7 w → Calls Try.prog 12 #[ux] w fun e w' => e = .returned (.int .i64 cd) ∧ Gr w w' := fun w g => by
                have := c_fCode w (erT_gr g hx7) sz1
                rwa [← hcd] at this
              have AD2 : ∀ w, Gr w7 w → Calls Try.prog 12 #[uy] w fun e w' => e = .returned (.int .i64 cd) ∧ Gr w w' := fun w g => by
                have := c_fCode w (erT_gr g hy) sz2
                rwa [first_two, HCK.out.1, ← hcd] at this
              have AT7 : ∀ w, Gr w7 w → ∀ sv, Strs w sv (opsE es s) → Calls Try.prog 13 #[sv, .slice sb nn sd] w fun e w' => e = .returned (.bool true) ∧ Gr w w' := fun w g sv h => c_TextsSame _ h (strs_gr HS.out (Gr.trans GX g)) (by have := HNN.out; omega)
              have HC1 := Lib.hid AC1
              have HC2 := Lib.hid AC2
              have HD1 := Lib.hid AD1
              have HD2 := Lib.hid AD2
              have HT7 := Lib.hid AT7
              have HGX := Lib.hid (Gr.trans HG.out GX)
              have HGR := Lib.hid (Below.refl _ _ : Gr w7 w7)
              have tcd : (cd == cd) = true := beq_self_eq_true _
              clear AC1 AC2 AD1 AD2 AT7 hx7 hy GX sz1 sz2 hcd hE6 hT1 hF1 ha5 hb gw7 AT AF
              go_wp2_with fail
              go_at_call 14
              refine (HC1.out _ HGR.out).mono ?_
              rintro e w8 ⟨sv, rfl, S8, g8⟩
              have HS8 := Lib.hid S8
              obtain ⟨va, vc, VB, vo, rfl, -⟩ := S8
              have HG8 := Lib.hid (Gr.trans HGR.out g8)
              clear g8
              go_wp2_with fail
              go_at_call 13
              refine (HT7.out _ HG8.out _ HS8.out).mono ?_
              rintro e w9 ⟨rfl, g9⟩
              have HG9 := Lib.hid (Gr.trans HG8.out g9)
              clear g9
              go_wp2_with fail
              go_at_call 14
              refine (HC2.out _ HG9.out).mono ?_
              rintro e wa ⟨sv, rfl, Sa, ga⟩
              have HSa := Lib.hid Sa
              obtain ⟨vaa, vca, VBa, voa, rfl, -⟩ := Sa
              have HGa := Lib.hid (Gr.trans HG9.out ga)
              clear ga
              go_wp2_with fail
              go_at_call 13
              refine (HT7.out _ HGa.out _ HSa.out).mono ?_
              rintro e wb ⟨rfl, gb⟩
              have HGb := Lib.hid (Gr.trans HGa.out gb)
              clear gb
              go_wp2_with fail
              go_at_call 12
              refine (HD1.out _ HGb.out).mono ?_
              rintro e wc ⟨rfl, gc⟩
              have HGc := Lib.hid (Gr.trans HGb.out gc)
              clear gc
              go_wp2_with fail
              go_at_call 12
              refine (HD2.out _ HGc.out).mono ?_
              rintro e wd ⟨rfl, gd⟩
              have HGd := Lib.hid (Gr.trans HGc.out gd)
              clear gd
              go_wp2_with fail
              go_at_call 8
              refine (p7_awake _).mono ?_
              rintro e we ⟨rfl, ge⟩
              go_wp2_with fail
              go_ret
              exact ⟨rfl, Gr.trans HGX.out (Gr.trans HGd.out ge)⟩
            · skip
              refine Od.wpO_call (by simp only [List.getElem?_toArray, List.getElem?_cons_succ, List.getElem?_cons_zero] <;> rfl) rfl ?_
              intro QS hQS
              go_wp2_with fail
              first | (apply Exists.intro; refine ⟨?_, (by go_grown), ?_⟩; (· simp only [Act.put, List.setIfInBounds_toArray, List.set_cons_zero, List.set_cons_succ]; rfl)) | (refine ⟨(by go_grown), ?_⟩)
              generalize hhw6 : (w5.alloc (.cells #[.nilIface, .iface U2 y2] 28)) = w6
              have hw6 : Gr w5 w6 := by subst hhw6; go_grown
              have gw6 : Gr w2 w6 := Gr.trans (by have gg := gw5; have gs := gg.size; go_grown) hw6
              have hE6 : Errs w6 (.slice (some ⟨w5.heap.size, 0, none⟩) 2 2) 2 (twoE (joT (nnL es c)) (joT (nnL (fun j => es (c + j)) k))) := errs_two (by subst hhw6; go_simp) (by subst hhw6; go_simp) (erT_gr hw6 ha5) (erT_gr hw6 hb)
              clear hhw6 hw6 gw5
              try simp only [Act.put, List.setIfInBounds_toArray, List.set_cons_zero, List.set_cons_succ]
              repeat (first | (refine Od.wpO_skip (by simp only [List.getElem?_toArray, List.getElem?_cons_succ, List.getElem?_cons_zero] <;> rfl) rfl ?_; simp only [Act.put, List.setIfInBounds_toArray, List.set_cons_zero, List.set_cons_succ]) | (refine Od.wpO_pure (by simp only [List.getElem?_toArray, List.getElem?_cons_succ, List.getElem?_cons_zero] <;> rfl) rfl ?_; apply Exists.intro; refine ⟨?_, ?_⟩; (· intro wx gx; obtain ⟨mx, rfl⟩ := spread_of_gr gx; clear gx; all_goals (apply Od.pAt_of_quiet; intro K hK; go_big_quiet_op; first | exact hK _ rfl | (apply Exists.intro; refine ⟨fun _ => ?_, ?_⟩; (· fail); exact hK _ rfl))); try simp only [Act.put, List.setIfInBounds_toArray, List.set_cons_zero, List.set_cons_succ]))
              refine Od.wpO_call (by simp only [List.getElem?_toArray, List.getElem?_cons_succ, List.getElem?_cons_zero] <;> rfl) rfl ?_
              intro QS hQS
              go_wp2_with fail
              go_at_call 19
              (with_reducible refine ((c_fJoin _ hE6 (by omega))).mono ?_)
              rintro e w7 ⟨uy, rfl, hy, hw7⟩
              go_wp2_with fail
              apply Exists.intro
              refine ⟨?_, hw7, ?_⟩
              · simp only [Act.put, List.setIfInBounds_toArray, List.set_cons_zero, List.set_cons_succ]; rfl
              have gw7 : Gr w2 w7 := Gr.trans (by have gg := gw6; have gs := gg.size; go_grown) hw7
              clear gw6
              clear hw7
              try simp only [Act.put, List.setIfInBounds_toArray, List.set_cons_zero, List.set_cons_succ]
              repeat (first | (refine Od.wpO_skip (by simp only [List.getElem?_toArray, List.getElem?_cons_succ, List.getElem?_cons_zero] <;> rfl) rfl ?_; simp only [Act.put, List.setIfInBounds_toArray, List.set_cons_zero, List.set_cons_succ]) | (refine Od.wpO_pure (by simp only [List.getElem?_toArray, List.getElem?_cons_succ, List.getElem?_cons_zero] <;> rfl) rfl ?_; apply Exists.intro; refine ⟨?_, ?_⟩; (· intro wx gx; obtain ⟨mx, rfl⟩ := spread_of_gr gx; clear gx; all_goals (apply Od.pAt_of_quiet; intro K hK; go_big_quiet_op; first | exact hK _ rfl | (apply Exists.intro; refine ⟨fun _ => ?_, ?_⟩; (· fail); exact hK _ rfl))); try simp only [Act.put, List.setIfInBounds_toArray, List.set_cons_zero, List.set_cons_succ]))
              refine Od.wpO_nil (hKQ _ _ ?_)
              clear hKQ KQ
              have GX := Gr.trans HG2.out gw7
              have sz1 : (joT (nnL es s)).size ≤ 400000 := by
                have := jn_size (fun j hj => (HCK.out.2 j hj).1)
                omega
              have sz2 : (joT (nnL (twoE (joT (nnL es c)) (joT (nnL (fun j => es (c + j)) k))) 2)).size ≤ 400000 := by
                have z1 := jn_size (n := c) (fun j hj => (HCK.out.2 j (by have := HCK.out.1; omega)).1)
                have z2 := jn_size (es := fun j => es (c + j)) (n := k) (fun j hj => (HCK.out.2 (c + j) (by have := HCK.out.1; omega)).1)
                have z3 := jn_size (es := twoE (joT (nnL es c)) (joT (nnL (fun j => es (c + j)) k))) (n := 2) (M := 7000) (fun j hj => by
                  have := HCK.out.1
                  rcases (by omega : j = 0 ∨ j = 1) with rfl | rfl
                  · show (joT (nnL es c)).size ≤ 7000; omega
                  · show (joT (nnL (fun j => es (c + j)) k)).size ≤ 7000; omega)
                omega
              have hx7 := erT_gr gw7 HX2.out
              have AC1 : ∀ w, Gr w7 w → Calls Try.prog 14 #[ux] w fun e w' => ∃ sv, e = .returned sv ∧ Strs w' sv (opsE es s) ∧ Gr w w' := fun w g => by
                refine (c_fChain w (erT_gr g hx7) sz1).mono ?_
                rintro e w' ⟨sv, rfl, o, g'⟩
                rw [ops_jn] at o
                exact ⟨sv, rfl, strs_own o, g'⟩
              have AC2 : ∀ w, Gr w7 w → Calls Try.prog 14 #[uy] w fun e w' => ∃ sv, e = .returned sv ∧ Strs w' sv (opsE es s) ∧ Gr w w' := fun w g => by
                refine (c_fChain w (erT_gr g hy) sz2).mono ?_
                rintro e w' ⟨sv, rfl, o, g'⟩
                rw [ops_two, HCK.out.1] at o
                exact ⟨sv, rfl, strs_own o, g'⟩
              obtain ⟨cd, hcd⟩ : ∃ cd, cd = firstN (joT (nnL es s)).pre := ⟨_, rfl⟩
              have AD1 : ∀ w, Gr w7 w → Calls Try.prog 12 #[ux] w fun e w' => e = .returned (.int .i64 cd) ∧ Gr w w' := fun w g => by
                have := c_fCode w (erT_gr g hx7) sz1
                rwa [← hcd] at this
              have AD2 : ∀ w, Gr w7 w → Calls Try.prog 12 #[uy] w fun e w' => e = .returned (.int .i64 cd) ∧ Gr w w' := fun w g => by
                have := c_fCode w (erT_gr g hy) sz2
                rwa [first_two, HCK.out.1, ← hcd] at this
              have AT7 : ∀ w, Gr w7 w → ∀ sv, Strs w sv (opsE es s) → Calls Try.prog 13 #[sv, .slice sb nn sd] w fun e w' => e = .returned (.bool true) ∧ Gr w w' := fun w g sv h => c_TextsSame _ h (strs_gr HS.out (Gr.trans GX g)) (by have := HNN.out; omega)
              have HC1 := Lib.hid AC1
              have HC2 := Lib.hid AC2
              have HD1 := Lib.hid AD1
              have HD2 := Lib.hid AD2
              have HT7 := Lib.hid AT7
              have HGX := Lib.hid (Gr.trans HG.out GX)
              have HGR := Lib.hid (Below.refl _ _ : Gr w7 w7)
              have tcd : (cd == cd) = true := beq_self_eq_true _
              clear AC1 AC2 AD1 AD2 AT7 hx7 hy GX sz1 sz2 hcd hE6 hT1 hF1 ha5 hb gw7 AT AF
              go_wp2_with fail
              go_at_call 14
              refine (HC1.out _ HGR.out).mono ?_
              rintro e w8 ⟨sv, rfl, S8, g8⟩
              have HS8 := Lib.hid S8
              obtain ⟨va, vc, VB, vo, rfl, -⟩ := S8
              have HG8 := Lib.hid (Gr.trans HGR.out g8)
              clear g8
              go_wp2_with fail
              go_at_call 13
              refine (HT7.out _ HG8.out _ HS8.out).mono ?_
              rintro e w9 ⟨rfl, g9⟩
              have HG9 := Lib.hid (Gr.trans HG8.out g9)
              clear g9
              go_wp2_with fail
              go_at_call 14
              refine (HC2.out _ HG9.out).mono ?_
              rintro e wa ⟨sv, rfl, Sa, ga⟩
              have HSa := Lib.hid Sa
              obtain ⟨vaa, vca, VBa, voa, rfl, -⟩ := Sa
              have HGa := Lib.hid (Gr.trans HG9.out ga)
              clear ga
              go_wp2_with fail
              go_at_call 13
              refine (HT7.out _ HGa.out _ HSa.out).mono ?_
              rintro e wb ⟨rfl, gb⟩
              have HGb := Lib.hid (Gr.trans HGa.out gb)
              clear gb
              go_wp2_with fail
              go_at_call 12
              refine (HD1.out _ HGb.out).mono ?_
              rintro e wc ⟨rfl, gc⟩
              have HGc := Lib.hid (Gr.trans HGb.out gc)
              clear gc
              go_wp2_with fail
              go_at_call 12
              refine (HD2.out _ HGc.out).mono ?_
              rintro e wd ⟨rfl, gd⟩
              have HGd := Lib.hid (Gr.trans HGc.out gd)
              clear gd
              go_wp2_with fail
              go_at_call 8
              refine (p7_awake _).mono ?_
              rintro e we ⟨rfl, ge⟩
              go_wp2_with fail
              go_ret
              exact ⟨rfl, Gr.trans HGX.out (Gr.trans HGd.out ge)⟩
          · rcases if2 with rfl | ⟨U2, y2, rfl⟩
            · skip
              refine Od.wpO_call (by simp only [List.getElem?_toArray, List.getElem?_cons_succ, List.getElem?_cons_zero] <;> rfl) rfl ?_
              intro QS hQS
              go_wp2_with fail
              first | (apply Exists.intro; refine ⟨?_, (by go_grown), ?_⟩; (· simp only [Act.put, List.setIfInBounds_toArray, List.set_cons_zero, List.set_cons_succ]; rfl)) | (refine ⟨(by go_grown), ?_⟩)
              generalize hhw6 : (w5.alloc (.cells #[.iface U1 y1, .nilIface] 28)) = w6
              have hw6 : Gr w5 w6 := by subst hhw6; go_grown
              have gw6 : Gr w2 w6 := Gr.trans (by have gg := gw5; have gs := gg.size; go_grown) hw6
              have hE6 : Errs w6 (.slice (some ⟨w5.heap.size, 0, none⟩) 2 2) 2 (twoE (joT (nnL es c)) (joT (nnL (fun j => es (c + j)) k))) := errs_two (by subst hhw6; go_simp) (by subst hhw6; go_simp) (erT_gr hw6 ha5) (erT_gr hw6 hb)
              clear hhw6 hw6 gw5
              try simp only [Act.put, List.setIfInBounds_toArray, List.set_cons_zero, List.set_cons_succ]
              repeat (first | (refine Od.wpO_skip (by simp only [List.getElem?_toArray, List.getElem?_cons_succ, List.getElem?_cons_zero] <;> rfl) rfl ?_; simp only [Act.put, List.setIfInBounds_toArray, List.set_cons_zero, List.set_cons_succ]) | (refine Od.wpO_pure (by simp only [List.getElem?_toArray, List.getElem?_cons_succ, List.getElem?_cons_zero] <;> rfl) rfl ?_; apply Exists.intro; refine ⟨?_, ?_⟩; (· intro wx gx; obtain ⟨mx, rfl⟩ := spread_of_gr gx; clear gx; all_goals (apply Od.pAt_of_quiet; intro K hK; go_big_quiet_op; first | exact hK _ rfl | (apply Exists.intro; refine ⟨fun _ => ?_, ?_⟩; (· fail); exact hK _ rfl))); try simp only [Act.put, List.setIfInBounds_toArray, List.set_cons_zero, List.set_cons_succ]))
              refine Od.wpO_call (by simp only [List.getElem?_toArray, List.getElem?_cons_succ, List.getElem?_cons_zero] <;> rfl) rfl ?_
              intro QS hQS
              go_wp2_with fail
              go_at_call 19
              (with_reducible refine ((c_fJoin _ hE6 (by omega))).mono ?_)
              rintro e w7 ⟨uy, rfl, hy, hw7⟩
              go_wp2_with fail
              apply Exists.intro
              refine ⟨?_, hw7, ?_⟩
              · simp only [Act.put, List.setIfInBounds_toArray, List.set_cons_zero, List.set_cons_succ]; rfl
              have gw7 : Gr w2 w7 := Gr.trans (by have gg := gw6; have gs := gg.size; go_grown) hw7
              clear gw6
              clear hw7
              try simp only [Act.put, List.setIfInBounds_toArray, List.set_cons_zero, List.set_cons_succ]
              repeat (first | (refine Od.wpO_skip (by simp only [List.getElem?_toArray, List.getElem?_cons_succ, List.getElem?_cons_zero] <;> rfl) rfl ?_; simp only [Act.put, List.setIfInBounds_toArray, List.set_cons_zero, List.set_cons_succ]) | (refine Od.wpO_pure (by simp only [List.getElem?_toArray, List.getElem?_cons_succ, List.getElem?_cons_zero] <;> rfl) rfl ?_; apply Exists.intro; refine ⟨?_, ?_⟩; (· intro wx gx; obtain ⟨mx, rfl⟩ := spread_of_gr gx; clear gx; all_goals (apply Od.pAt_of_quiet; intro K hK; go_big_quiet_op; first | exact hK _ rfl | (apply Exists.intro; refine ⟨fun _ => ?_, ?_⟩; (· fail); exact hK _ rfl))); try simp only [Act.put, List.setIfInBounds_toArray, List.set_cons_zero, List.set_cons_succ]))
              refine Od.wpO_nil (hKQ _ _ ?_)
              clear hKQ KQ
              have GX := Gr.trans HG2.out gw7
              have sz1 : (joT (nnL es s)).size ≤ 400000 := by
                have := jn_size (fun j hj => (HCK.out.2 j hj).1)
                omega
              have sz2 : (joT (nnL (twoE (joT (nnL es c)) (joT (nnL (fun j => es (c + j)) k))) 2)).size ≤ 400000 := by
                have z1 := jn_size (n := c) (fun j hj => (HCK.out.2 j (by have := HCK.out.1; omega)).1)
                have z2 := jn_size (es := fun j => es (c + j)) (n := k) (fun j hj => (HCK.out.2 (c + j) (by have := HCK.out.1; omega)).1)
                have z3 := jn_size (es := twoE (joT (nnL es c)) (joT (nnL (fun j => es (c + j)) k))) (n := 2) (M := 7000) (fun j hj => by
                  have := HCK.out.1
                  rcases (by omega : j = 0 ∨ j = 1) with rfl | rfl
                  · show (joT (nnL es c)).size ≤ 7000; omega
                  · show (joT (nnL (fun j => es (c + j)) k)).size ≤ 7000; omega)
                omega
              have hx7 := erT_gr gw7 HX2.out
              have AC1 : ∀ w, Gr w7 w → Calls Try.prog 14 #[ux] w fun e w' => ∃ sv, e = .returned sv ∧ Strs w' sv (opsE es s) ∧ Gr w w' := fun w g => by
                refine (c_fChain w (erT_gr g hx7) sz1).mono ?_
                rintro e w' ⟨sv, rfl, o, g'⟩
                rw [ops_jn] at o
                exact ⟨sv, rfl, strs_own o, g'⟩
              have AC2 : ∀ w, Gr w7 w → Calls Try.prog 14 #[uy] w fun e w' => ∃ sv, e = .returned sv ∧ Strs w' sv (opsE es s) ∧ Gr w w' := fun w g => by
                refine (c_fChain w (erT_gr g hy) sz2).mono ?_
                rintro e w' ⟨sv, rfl, o, g'⟩
                rw [ops_two, HCK.out.1] at o
                exact ⟨sv, rfl, strs_own o, g'⟩
              obtain ⟨cd, hcd⟩ : ∃ cd, cd = firstN (joT (nnL es s)).pre := ⟨_, rfl⟩
              have AD1 : ∀ w, Gr w7 w → Calls Try.prog 12 #[ux] w fun e w' => e = .returned (.int .i64 cd) ∧ Gr w w' := fun w g => by
                have := c_fCode w (erT_gr g hx7) sz1
                rwa [← hcd] at this
              have AD2 : ∀ w, Gr w7 w → Calls Try.prog 12 #[uy] w fun e w' => e = .returned (.int .i64 cd) ∧ Gr w w' := fun w g => by
                have := c_fCode w (erT_gr g hy) sz2
                rwa [first_two, HCK.out.1, ← hcd] at this
              have AT7 : ∀ w, Gr w7 w → ∀ sv, Strs w sv (opsE es s) → Calls Try.prog 13 #[sv, .slice sb nn sd] w fun e w' => e = .returned (.bool true) ∧ Gr w w' := fun w g sv h => c_TextsSame _ h (strs_gr HS.out (Gr.trans GX g)) (by have := HNN.out; omega)
              have HC1 := Lib.hid AC1
              have HC2 := Lib.hid AC2
              have HD1 := Lib.hid AD1
              have HD2 := Lib.hid AD2
              have HT7 := Lib.hid AT7
              have HGX := Lib.hid (Gr.trans HG.out GX)
              have HGR := Lib.hid (Below.refl _ _ : Gr w7 w7)
              have tcd : (cd == cd) = true := beq_self_eq_true _
              clear AC1 AC2 AD1 AD2 AT7 hx7 hy GX sz1 sz2 hcd hE6 hT1 hF1 ha5 hb gw7 AT AF
              go_wp2_with fail
              go_at_call 14
              refine (HC1.out _ HGR.out).mono ?_
              rintro e w8 ⟨sv, rfl, S8, g8⟩
              have HS8 := Lib.hid S8
              obtain ⟨va, vc, VB, vo, rfl, -⟩ := S8
              have HG8 := Lib.hid (Gr.trans HGR.out g8)
              clear g8
              go_wp2_with fail
              go_at_call 13
              refine (HT7.out _ HG8.out _ HS8.out).mono ?_
              rintro e w9 ⟨rfl, g9⟩
              have HG9 := Lib.hid (Gr.trans HG8.out g9)
              clear g9
              go_wp2_with fail
              go_at_call 14
              refine (HC2.out _ HG9.out).mono ?_
              rintro e wa ⟨sv, rfl, Sa, ga⟩
              have HSa := Lib.hid Sa
              obtain ⟨vaa, vca, VBa, voa, rfl, -⟩ := Sa
              have HGa := Lib.hid (Gr.trans HG9.out ga)
              clear ga
              go_wp2_with fail
              go_at_call 13
              refine (HT7.out _ HGa.out _ HSa.out).mono ?_
              rintro e wb ⟨rfl, gb⟩
              have HGb := Lib.hid (Gr.trans HGa.out gb)
              clear gb
              go_wp2_with fail
              go_at_call 12
              refine (HD1.out _ HGb.out).mono ?_
              rintro e wc ⟨rfl, gc⟩
              have HGc := Lib.hid (Gr.trans HGb.out gc)
              clear gc
              go_wp2_with fail
              go_at_call 12
              refine (HD2.out _ HGc.out).mono ?_
              rintro e wd ⟨rfl, gd⟩
              have HGd := Lib.hid (Gr.trans HGc.out gd)
              clear gd
              go_wp2_with fail
              go_at_call 8
              refine (p7_awake _).mono ?_
              rintro e we ⟨rfl, ge⟩
              go_wp2_with fail
              go_ret
              exact ⟨rfl, Gr.trans HGX.out (Gr.trans HGd.out ge)⟩
            · skip
              refine Od.wpO_call (by simp only [List.getElem?_toArray, List.getElem?_cons_succ, List.getElem?_cons_zero] <;> rfl) rfl ?_
              intro QS hQS
              go_wp2_with fail
              first | (apply Exists.intro; refine ⟨?_, (by go_grown), ?_⟩; (· simp only [Act.put, List.setIfInBounds_toArray, List.set_cons_zero, List.set_cons_succ]; rfl)) | (refine ⟨(by go_grown), ?_⟩)
              generalize hhw6 : (w5.alloc (.cells #[.iface U1 y1, .iface U2 y2] 28)) = w6
              have hw6 : Gr w5 w6 := by subst hhw6; go_grown
              have gw6 : Gr w2 w6 := Gr.trans (by have gg := gw5; have gs := gg.size; go_grown) hw6
              have hE6 : Errs w6 (.slice (some ⟨w5.heap.size, 0, none⟩) 2 2) 2 (twoE (joT (nnL es c)) (joT (nnL (fun j => es (c + j)) k))) := errs_two (by subst hhw6; go_simp) (by subst hhw6; go_simp) (erT_gr hw6 ha5) (erT_gr hw6 hb)
              clear hhw6 hw6 gw5
              try simp only [Act.put, List.setIfInBounds_toArray, List.set_cons_zero, List.set_cons_succ]
              repeat (first | (refine Od.wpO_skip (by simp only [List.getElem?_toArray, List.getElem?_cons_succ, List.getElem?_cons_zero] <;> rfl) rfl ?_; simp only [Act.put, List.setIfInBounds_toArray, List.set_cons_zero, List.set_cons_succ]) | (refine Od.wpO_pure (by simp only [List.getElem?_toArray, List.getElem?_cons_succ, List.getElem?_cons_zero] <;> rfl) rfl ?_; apply Exists.intro; refine ⟨?_, ?_⟩; (· intro wx gx; obtain ⟨mx, rfl⟩ := spread_of_gr gx; clear gx; all_goals (apply Od.pAt_of_quiet; intro K hK; go_big_quiet_op; first | exact hK _ rfl | (apply Exists.intro; refine ⟨fun _ => ?_, ?_⟩; (· fail); exact hK _ rfl))); try simp only [Act.put, List.setIfInBounds_toArray, List.set_cons_zero, List.set_cons_succ]))
              refine Od.wpO_call (by simp only [List.getElem?_toArray, List.getElem?_cons_succ, List.getElem?_cons_zero] <;> rfl) rfl ?_
              intro QS hQS
              go_wp2_with fail
              go_at_call 19
              (with_reducible refine ((c_fJoin _ hE6 (by omega))).mono ?_)
              rintro e w7 ⟨uy, rfl, hy, hw7⟩
              go_wp2_with fail
              apply Exists.intro
              refine ⟨?_, hw7, ?_⟩
              · simp only [Act.put, List.setIfInBounds_toArray, List.set_cons_zero, List.set_cons_succ]; rfl
              have gw7 : Gr w2 w7 := Gr.trans (by have gg := gw6; have gs := gg.size; go_grown) hw7
              clear gw6
              clear hw7
              try simp only [Act.put, List.setIfInBounds_toArray, List.set_cons_zero, List.set_cons_succ]
              repeat (first | (refine Od.wpO_skip (by simp only [List.getElem?_toArray, List.getElem?_cons_succ, List.getElem?_cons_zero] <;> rfl) rfl ?_; simp only [Act.put, List.setIfInBounds_toArray, List.set_cons_zero, List.set_cons_succ]) | (refine Od.wpO_pure (by simp only [List.getElem?_toArray, List.getElem?_cons_succ, List.getElem?_cons_zero] <;> rfl) rfl ?_; apply Exists.intro; refine ⟨?_, ?_⟩; (· intro wx gx; obtain ⟨mx, rfl⟩ := spread_of_gr gx; clear gx; all_goals (apply Od.pAt_of_quiet; intro K hK; go_big_quiet_op; first | exact hK _ rfl | (apply Exists.intro; refine ⟨fun _ => ?_, ?_⟩; (· fail); exact hK _ rfl))); try simp only [Act.put, List.setIfInBounds_toArray, List.set_cons_zero, List.set_cons_succ]))
              refine Od.wpO_nil (hKQ _ _ ?_)
              clear hKQ KQ
              have GX := Gr.trans HG2.out gw7
              have sz1 : (joT (nnL es s)).size ≤ 400000 := by
                have := jn_size (fun j hj => (HCK.out.2 j hj).1)
                omega
              have sz2 : (joT (nnL (twoE (joT (nnL es c)) (joT (nnL (fun j => es (c + j)) k))) 2)).size ≤ 400000 := by
                have z1 := jn_size (n := c) (fun j hj => (HCK.out.2 j (by have := HCK.out.1; omega)).1)
                have z2 := jn_size (es := fun j => es (c + j)) (n := k) (fun j hj => (HCK.out.2 (c + j) (by have := HCK.out.1; omega)).1)
                have z3 := jn_size (es := twoE (joT (nnL es c)) (joT (nnL (fun j => es (c + j)) k))) (n := 2) (M := 7000) (fun j hj => by
                  have := HCK.out.1
                  rcases (by omega : j = 0 ∨ j = 1) with rfl | rfl
                  · show (joT (nnL es c)).size ≤ 7000; omega
                  · show (joT (nnL (fun j => es (c + j)) k)).size ≤ 7000; omega)
                omega
              have hx7 := erT_gr gw7 HX2.out
              have AC1 : ∀ w, Gr w7 w → Calls Try.prog 14 #[ux] w fun e w' => ∃ sv, e = .returned sv ∧ Strs w' sv (opsE es s) ∧ Gr w w' := fun w g => by
                refine (c_fChain w (erT_gr g hx7) sz1).mono ?_
                rintro e w' ⟨sv, rfl, o, g'⟩
                rw [ops_jn] at o
                exact ⟨sv, rfl, strs_own o, g'⟩
              have AC2 : ∀ w, Gr w7 w → Calls Try.prog 14 #[uy] w fun e w' => ∃ sv, e = .returned sv ∧ Strs w' sv (opsE es s) ∧ Gr w w' := fun w g => by
                refine (c_fChain w (erT_gr g hy) sz2).mono ?_
                rintro e w' ⟨sv, rfl, o, g'⟩
                rw [ops_two, HCK.out.1] at o
                exact ⟨sv, rfl, strs_own o, g'⟩
              obtain ⟨cd, hcd⟩ : ∃ cd, cd = firstN (joT (nnL es s)).pre := ⟨_, rfl⟩
              have AD1 : ∀ w, Gr w7 w → Calls Try.prog 12 #[ux] w fun e w' => e = .returned (.int .i64 cd) ∧ Gr w w' := fun w g => by
                have := c_fCode w (erT_gr g hx7) sz1
                rwa [← hcd] at this
              have AD2 : ∀ w, Gr w7 w → Calls Try.prog 12 #[uy] w fun e w' => e = .returned (.int .i64 cd) ∧ Gr w w' := fun w g => by
                have := c_fCode w (erT_gr g hy) sz2
                rwa [first_two, HCK.out.1, ← hcd] at this
              have AT7 : ∀ w, Gr w7 w → ∀ sv, Strs w sv (opsE es s) → Calls Try.prog 13 #[sv, .slice sb nn sd] w fun e w' => e = .returned (.bool true) ∧ Gr w w' := fun w g sv h => c_TextsSame _ h (strs_gr HS.out (Gr.trans GX g)) (by have := HNN.out; omega)
              have HC1 := Lib.hid AC1
              have HC2 := Lib.hid AC2
              have HD1 := Lib.hid AD1
              have HD2 := Lib.hid AD2
              have HT7 := Lib.hid AT7
              have HGX := Lib.hid (Gr.trans HG.out GX)
              have HGR := Lib.hid (Below.refl _ _ : Gr w7 w7)
              have tcd : (cd == cd) = true := beq_self_eq_true _
              clear AC1 AC2 AD1 AD2 AT7 hx7 hy GX sz1 sz2 hcd hE6 hT1 hF1 ha5 hb gw7 AT AF
              go_wp2_with fail
              go_at_call 14
              refine (HC1.out _ HGR.out).mono ?_
              rintro e w8 ⟨sv, rfl, S8, g8⟩
              have HS8 := Lib.hid S8
              obtain ⟨va, vc, VB, vo, rfl, -⟩ := S8
              have HG8 := Lib.hid (Gr.trans HGR.out g8)
              clear g8
              go_wp2_with fail
              go_at_call 13
              refine (HT7.out _ HG8.out _ HS8.out).mono ?_
              rintro e w9 ⟨rfl, g9⟩
              have HG9 := Lib.hid (Gr.trans HG8.out g9)
              clear g9
              go_wp2_with fail
              go_at_call 14
              refine (HC2.out _ HG9.out).mono ?_
              rintro e wa ⟨sv, rfl, Sa, ga⟩
              have HSa := Lib.hid Sa
              obtain ⟨vaa, vca, VBa, voa, rfl, -⟩ := Sa
              have HGa := Lib.hid (Gr.trans HG9.out ga)
              clear ga
              go_wp2_with fail
              go_at_call 13
              refine (HT7.out _ HGa.out _ HSa.out).mono ?_
              rintro e wb ⟨rfl, gb⟩
              have HGb := Lib.hid (Gr.trans HGa.out gb)
              clear gb
              go_wp2_with fail
              go_at_call 12
              refine (HD1.out _ HGb.out).mono ?_
              rintro e wc ⟨rfl, gc⟩
              have HGc := Lib.hid (Gr.trans HGb.out gc)
              clear gc
              go_wp2_with fail
              go_at_call 12
              refine (HD2.out _ HGc.out).mono ?_
              rintro e wd ⟨rfl, gd⟩
              have HGd := Lib.hid (Gr.trans HGc.out gd)
              clear gd
              go_wp2_with fail
              go_at_call 8
              refine (p7_awake _).mono ?_
              rintro e we ⟨rfl, ge⟩
              go_wp2_with fail
              go_ret
              exact ⟨rfl, Gr.trans HGX.out (Gr.trans HGd.out ge)⟩
end Go.Proofs.Ytgmmhddlfalehaa
