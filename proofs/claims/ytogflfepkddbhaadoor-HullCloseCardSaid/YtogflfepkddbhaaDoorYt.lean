/- HullClose, where there is something to be held against something -/
import Derived.Test.YtogflfepkddbhaaDoorYs
namespace Go.Proofs.YtogflfepkddbhaaDoor
set_option linter.unusedVariables false
set_option linter.unusedSimpArgs false
open Go.ChangeShapes Go.WideShapes Go.ChangeAt Go.RowKit

set_option maxHeartbeats 20000000 in
set_option maxRecDepth 100000 in
theorem close_yes {n : Nat} {X Y : Nat → Int} {v : Value} (zi zj : Int) (W : World) (hE : ErrT W) (h : Pts W v n X Y) (h1 : n ≤ 100) (h2 : 2 ≤ n) (h0 : (mnC 2 n X Y).1 = 0)
    (hi : -9223372036854775808 ≤ zi ∧ zi ≤ 9223372036854775807) (hj : -9223372036854775808 ≤ zj ∧ zj ≤ 9223372036854775807) : Calls Tryd.prog 6 #[v, .int .i64 zi, .int .i64 zj] W fun e w' => e = .returned (.bool true) ∧ Gr W w' := by
  obtain ⟨i0, hi0, hz0, hz1, hz2⟩ := info_parts (P := Tryd.prog) (e := 30) (z := zP) (size := 2) (bytes := 16) (by kernel_rfl)
  have HI := Lib.hid (And.intro hi0 (And.intro hz0 (And.intro hz1 hz2)))
  have HAW := Lib.hid (fun w (g : Gr W w) => p21_awake w (errT_gr hE g))
  have HCL := Lib.hid (fun w (g : Gr W w) => yes_Closest w (pts_gr h g) h0)
  have HWI := Lib.hid (fun w (g : Gr W w) => yes_Widest w (pts_gr h g) h0)
  obtain ⟨-, -, hnr⟩ := mnC_ok.1 h0
  have h0' := h0
  obtain ⟨i, ei⟩ : ∃ i : Nat, zi % (n : Int) = i := ⟨(zi % (n : Int)).toNat, (Int.toNat_of_nonneg (Int.emod_nonneg _ (by omega))).symm⟩
  obtain ⟨j, ej⟩ : ∃ j : Nat, zj % (n : Int) = j := ⟨(zj % (n : Int)).toNat, (Int.toNat_of_nonneg (Int.emod_nonneg _ (by omega))).symm⟩
  have hin : i < n := by have := Int.emod_lt_of_pos zi (show (0 : Int) < n by omega); omega
  have hjn : j < n := by have := Int.emod_lt_of_pos zj (show (0 : Int) < n by omega); omega
  have R1 := fun w => h_Round zi hi.1 hi.2 n (by omega) (by omega) w
  have R2 := fun w => h_Round zj hj.1 hj.2 n (by omega) (by omega) w
  rw [ei] at R1
  rw [ej] at R2
  have HR1 := Lib.hid R1
  have HR2 := Lib.hid R2
  obtain ⟨ad, cap, B, off, rfl, k1, k2, k3, k4⟩ := h
  obtain rfl := k3 (by omega)
  have HX := Lib.hid k4
  have HNR := Lib.hid hnr
  have zB := World.block_lt_of_cell? _ _ (k4 0 (by omega)).1
  have HS := Lib.hid (fun w => h_small (some ⟨B, off, none⟩) n cap true (decide_eq_true h1).symm w)
  have t1 : decide ((n : Int) < 2) = false := decide_eq_false (by omega)
  have t2 : ¬ (n : Int) < 2 := by omega
  have hni : (n : Int) ≤ 100 := by omega
  have u1 : (i : Int) < (n : Int) := by omega
  have u2 : (j : Int) < (n : Int) := by omega
  clear hE h0 hi0 hz0 hz1 hz2 ei ej R1 R2 k3 k4 hnr hi hj
  go_enter Tryd.func6, Tryd.ntmps6
  go_wp2_with fail
  go_at_call 7
  refine ((HS.out _)).mono ?_
  rintro e w1 ⟨rfl, hw1⟩
  have gw1 : Gr W w1 := Gr.trans (by go_grown) hw1
  clear hw1
  go_wp2_with fail
  go_at_call 17
  (with_reducible refine (HCL.out _ gw1).mono ?_)
  rintro e w2 ⟨a, b, hb, rfl, g2⟩
  have gw2 : Gr W w2 := Gr.trans gw1 g2
  have HB := Lib.hid hb
  obtain ⟨d, ed⟩ : ∃ d, d = sqN X Y a b := ⟨_, rfl⟩
  rw [← ed]
  have HD := Lib.hid ed
  clear g2 gw1 hb ed
  go_wp2_with fail
  go_at_call 15
  (with_reducible refine (HWI.out _ (by have gg := gw2; have gs := gg.size; go_grown)).mono ?_)
  rintro e w3 ⟨p, q, hb, rfl, g3⟩
  have cw3_0_0 : w3.cell? ⟨w2.heap.size, 0, none⟩ = some (.int .u64 0) := cell_gr g3 (by go_simp)
  have cw3_0_1 : w3.cell? ⟨w2.heap.size, 1, none⟩ = some (.int .u64 d) := cell_gr g3 (by go_simp)
  have cw3_0_2 : w3.cell? ⟨w2.heap.size, 2, none⟩ = some (.int .u64 1) := cell_gr g3 (by go_simp)
  have zw3_0 := World.block_lt_of_cell? _ _ cw3_0_0
  have gw3 : Gr W w3 := Gr.trans (by have gg := gw2; have gs := gg.size; go_grown) g3
  have HBW := Lib.hid hb
  obtain ⟨x, ex⟩ : ∃ x, x = sqN X Y p q := ⟨_, rfl⟩
  rw [← ex]
  have HXX := Lib.hid ex
  obtain ⟨B9, eB9⟩ : ∃ b, b = w2.heap.size := ⟨_, rfl⟩
  rw [← eB9] at cw3_0_0 cw3_0_1 cw3_0_2 zw3_0 ⊢
  have HB9 := Lib.hid (show W.heap.size ≤ B9 by rw [eB9]; exact gw2.size)
  clear g3 gw2 hb ex eB9
  go_wp2_with fail
  go_at_call 14
  refine ((HR1.out _)).mono ?_
  rintro e w4 ⟨rfl, hw4⟩
  have cw4_0_0 : w4.cell? ⟨B9, 0, none⟩ = some (.int .u64 0) := cell_gr hw4 (by go_simp)
  have cw4_0_1 : w4.cell? ⟨B9, 1, none⟩ = some (.int .u64 d) := cell_gr hw4 (by go_simp)
  have cw4_0_2 : w4.cell? ⟨B9, 2, none⟩ = some (.int .u64 1) := cell_gr hw4 (by go_simp)
  have zw4_0 : B9 < w4.heap.size := World.block_lt_of_cell? _ _ cw4_0_0
  have cw4_1_0 : w4.cell? ⟨w3.heap.size, 0, none⟩ = some (.int .u64 0) := cell_gr hw4 (by go_simp)
  have cw4_1_1 : w4.cell? ⟨w3.heap.size, 1, none⟩ = some (.int .u64 x) := cell_gr hw4 (by go_simp)
  have cw4_1_2 : w4.cell? ⟨w3.heap.size, 2, none⟩ = some (.int .u64 1) := cell_gr hw4 (by go_simp)
  have zw4_1 : w3.heap.size < w4.heap.size := World.block_lt_of_cell? _ _ cw4_1_0
  have gw4 : Gr W w4 := Gr.trans (by have gg := gw3; have gs := gg.size; go_grown) hw4
  clear hw4 gw3
  go_wp2_with fail
  go_at_call 14
  refine ((HR2.out _)).mono ?_
  rintro e w5 ⟨rfl, hw5⟩
  have cw5_0_0 : w5.cell? ⟨B9, 0, none⟩ = some (.int .u64 0) := cell_gr hw5 (by go_simp)
  have cw5_0_1 : w5.cell? ⟨B9, 1, none⟩ = some (.int .u64 d) := cell_gr hw5 (by go_simp)
  have cw5_0_2 : w5.cell? ⟨B9, 2, none⟩ = some (.int .u64 1) := cell_gr hw5 (by go_simp)
  have zw5_0 : B9 < w5.heap.size := World.block_lt_of_cell? _ _ cw5_0_0
  have cw5_1_0 : w5.cell? ⟨w3.heap.size, 0, none⟩ = some (.int .u64 0) := cell_gr hw5 (by go_simp)
  have cw5_1_1 : w5.cell? ⟨w3.heap.size, 1, none⟩ = some (.int .u64 x) := cell_gr hw5 (by go_simp)
  have cw5_1_2 : w5.cell? ⟨w3.heap.size, 2, none⟩ = some (.int .u64 1) := cell_gr hw5 (by go_simp)
  have zw5_1 : w3.heap.size < w5.heap.size := World.block_lt_of_cell? _ _ cw5_1_0
  have gw5 : Gr W w5 := Gr.trans (by have gg := gw4; have gs := gg.size; go_grown) hw5
  clear hw5 gw4 zw4_0 cw4_0_0 cw4_0_1 cw4_0_2 zw4_1 cw4_1_0 cw4_1_1 cw4_1_2
  obtain ⟨xi, exi⟩ : ∃ z, z = X i := ⟨_, rfl⟩
  obtain ⟨yi, eyi⟩ : ∃ z, z = Y i := ⟨_, rfl⟩
  obtain ⟨xj, exj⟩ : ∃ z, z = X j := ⟨_, rfl⟩
  obtain ⟨yj, eyj⟩ : ∃ z, z = Y j := ⟨_, rfl⟩
  obtain ⟨s, es⟩ : ∃ s, s = sqN X Y i j := ⟨_, rfl⟩
  have m0 := cell_gr gw5 (HX.out i hin).1
  have m1 := cell_gr gw5 (HX.out i hin).2
  have m2 := cell_gr gw5 (HX.out j hjn).1
  have m3 := cell_gr gw5 (HX.out j hjn).2
  have SQ := fun w => c_rSq (X i) (Y i) (X j) (Y j) (HNR.out i hin) (HNR.out j hjn) s (by rw [es]; exact sqN_eq X Y i j) w
  rw [← exi] at m0 SQ
  rw [← eyi] at m1 SQ
  rw [← exj] at m2 SQ
  rw [← eyj] at m3 SQ
  have HSQ := Lib.hid SQ
  have hwd : Wd s := by rw [es]; exact sqN_wd (HNR.out i hin) (HNR.out j hjn)
  have hwd1 : Wd d := by
    have l := HB.out.lt
    rw [HD.out]; exact sqN_wd (HNR.out a (by omega)) (HNR.out b (by omega))
  have hwd2 : Wd x := by
    have l := HBW.out.lt
    rw [HXX.out]; exact sqN_wd (HNR.out p (by omega)) (HNR.out q (by omega))
  have C1 := fun w => h_cmpD s d hwd hwd1 w
  have C2 := fun w => h_cmpD s x hwd hwd2 w
  have HC1 := Lib.hid C1
  have HES := Lib.hid es
  have le2 : ((s : Nat) : Int) ≤ x := by
    by_cases e : i = j
    · rw [es, e, sq_self]; omega
    · have := bst_all HBW.out hin hjn e
      rw [es, HXX.out]; omega
  have hc2 : ¬ 0 < cmpZ (s : Int) (x : Int) := by unfold cmpZ; split <;> (try split) <;> omega
  obtain ⟨r2, er2⟩ : ∃ r, r = cmpZ (s : Int) (x : Int) := ⟨_, rfl⟩
  rw [← er2] at hc2 C2
  have v2 : decide ((0 : Int) < r2) = false := decide_eq_false hc2
  have HC2 := Lib.hid C2
  have HEXY := Lib.hid (And.intro exi.symm (And.intro eyi.symm (And.intro exj.symm eyj.symm)))
  clear SQ C1 C2 exi eyi exj eyj es hwd hwd1 hwd2 le2 er2
  obtain ⟨A, hA⟩ : ∃ A : Nat × Nat, ∀ a b, Hp.BstA (sqF (-1) (mF n X i) (mF n Y i)) (n + 1) a b → a = A.1 ∧ b = A.2 := by
    by_cases h : ∃ ab : Nat × Nat, Hp.BstA (sqF (-1) (mF n X i) (mF n Y i)) (n + 1) ab.1 ab.2
    · obtain ⟨ab, h⟩ := h
      exact ⟨ab, fun a b h' => h'.uniq h⟩
    · exact ⟨(0, 0), fun a b h' => absurd ⟨(a, b), h'⟩ h⟩
  have HA := Lib.hid hA
  have HM := Lib.hid (mF_ok h0' hin h1)
  clear hA h0'
  by_cases hij : i = j
  · have q1 : ((i : Int) == (j : Int)) = true := by simp; omega
    have q2 : ((i : Int) != (j : Int)) = false := by simp; omega
    have q3 : (i == j) = true := by simp; omega
    have HIJ := Lib.hid hij
    clear hij
    have s5 := gw5.size
    clear m0 m1 m2 m3
    have m0 := cell_gr gw5 (HX.out i hin).1
    have m1 := cell_gr gw5 (HX.out i hin).2
    have m2 := cell_gr gw5 (HX.out j hjn).1
    have m3 := cell_gr gw5 (HX.out j hjn).2
    rw [HEXY.out.1] at m0
    rw [HEXY.out.2.1] at m1
    rw [HEXY.out.2.2.1] at m2
    rw [HEXY.out.2.2.2] at m3
    go_wp2_with fail
    refine Hm.wp_region_mk 10 9 15 #[.int .u64 0, .int .u64 0, .int .u64 0] 37 (by kernel_rfl) (by simp only [List.getElem?_toArray, List.getElem?_cons_succ, List.getElem?_cons_zero] <;> rfl) (by kernel_rfl) (fun _ _ => ?_) ?_
    · unfold Oper.wp; go_simp
    intro KQ hKQ
    repeat (first | (refine Hm.wpG_sp (by decide) ?_ ?_; (· (try dsimp only); first | (rw [if_neg (by decide)]; trivial) | (rw [if_pos rfl]; (intro B w' g hB hw; have c0 : w'.cell? ⟨B, 0, none⟩ = some (.int .u64 0) := Hm.cell_of_heap hw 0; have f0 := Hm.frozen_of_heap hw 0; have c1 : w'.cell? ⟨B, 1, none⟩ = some (.int .u64 0) := Hm.cell_of_heap hw 1; have f1 := Hm.frozen_of_heap hw 1; have c2 : w'.cell? ⟨B, 2, none⟩ = some (.int .u64 0) := Hm.cell_of_heap hw 2; have f2 := Hm.frozen_of_heap hw 2; unfold Oper.wp; go_simp; exact ⟨(((g.setCell hB _).setCell hB _).setCell hB _), (Hm.heap_set_same (Hm.heap_set_same (Hm.heap_set_same hw)))⟩)))) | (refine Hm.wpG_skip (by decide) rfl ?_; simp only [Act.put, List.setIfInBounds_toArray, List.set_cons_zero, List.set_cons_succ]) | (refine Hm.wpG_want (by decide) rfl ?_; apply Exists.intro; refine ⟨?_, ?_⟩; (· intro wx gx; (obtain ⟨mx, rfl⟩ := spread_of_gr gx; clear gx); all_goals (apply Hd.gAt_of_quiet; intro K hK; go_big_quiet_op; first | exact hK _ rfl | (apply Exists.intro; refine ⟨fun _ => ?_, ?_⟩; (· (first | (go_at_call 16; first | ((with_reducible refine ((HSQ.out _)).mono ?_); rintro e w' ⟨rfl, hg⟩; exact ⟨rfl, spread_gr hg⟩)))); exact hK _ rfl))); try simp only [Act.put, List.setIfInBounds_toArray, List.set_cons_zero, List.set_cons_succ]))
    refine Hm.wpG_nil (hKQ _ ?_)
    clear hKQ KQ
    intro B6 w6 hw6 hBw6 hhw6
    have cw6_0_0 : w6.cell? ⟨B9, 0, none⟩ = some (.int .u64 0) := cell_gr hw6 (by go_simp)
    have cw6_0_1 : w6.cell? ⟨B9, 1, none⟩ = some (.int .u64 d) := cell_gr hw6 (by go_simp)
    have cw6_0_2 : w6.cell? ⟨B9, 2, none⟩ = some (.int .u64 1) := cell_gr hw6 (by go_simp)
    have zw6_0 : B9 < w6.heap.size := World.block_lt_of_cell? _ _ cw6_0_0
    have cw6_1_0 : w6.cell? ⟨w3.heap.size, 0, none⟩ = some (.int .u64 0) := cell_gr hw6 (by go_simp)
    have cw6_1_1 : w6.cell? ⟨w3.heap.size, 1, none⟩ = some (.int .u64 x) := cell_gr hw6 (by go_simp)
    have cw6_1_2 : w6.cell? ⟨w3.heap.size, 2, none⟩ = some (.int .u64 1) := cell_gr hw6 (by go_simp)
    have zw6_1 : w3.heap.size < w6.heap.size := World.block_lt_of_cell? _ _ cw6_1_0
    have cw6_2_0 : w6.cell? ⟨B6, 0, none⟩ = some (.int .u64 0) := Hm.cell_of_heap hhw6 0
    have cw6_2_1 : w6.cell? ⟨B6, 1, none⟩ = some (.int .u64 0) := Hm.cell_of_heap hhw6 1
    have cw6_2_2 : w6.cell? ⟨B6, 2, none⟩ = some (.int .u64 0) := Hm.cell_of_heap hhw6 2
    have zw6_2 : B6 < w6.heap.size := World.block_lt_of_cell? _ _ cw6_2_0
    have gw6 : Gr W w6 := Gr.trans (by have gg := gw5; have gs := gg.size; go_grown) hw6
    have fw6_2_0 : w6.frozen? ⟨B6, 0, none⟩ = false := Hm.frozen_of_heap hhw6 0
    have fw6_2_1 : w6.frozen? ⟨B6, 1, none⟩ = false := Hm.frozen_of_heap hhw6 1
    have fw6_2_2 : w6.frozen? ⟨B6, 2, none⟩ = false := Hm.frozen_of_heap hhw6 2
    clear hw6 hhw6 gw5
    have zz6 : W.heap.size ≤ B6 := Nat.le_trans s5 hBw6
    go_wp2_with fail
    go_at_call 18
    refine ((HC2.out _)).mono ?_
    rintro e w7 ⟨rfl, hw7⟩
    have cw7_0_0 : w7.cell? ⟨B9, 0, none⟩ = some (.int .u64 0) := cell_gr hw7 (by go_simp)
    have cw7_0_1 : w7.cell? ⟨B9, 1, none⟩ = some (.int .u64 d) := cell_gr hw7 (by go_simp)
    have cw7_0_2 : w7.cell? ⟨B9, 2, none⟩ = some (.int .u64 1) := cell_gr hw7 (by go_simp)
    have zw7_0 : B9 < w7.heap.size := World.block_lt_of_cell? _ _ cw7_0_0
    have cw7_1_0 : w7.cell? ⟨w3.heap.size, 0, none⟩ = some (.int .u64 0) := cell_gr hw7 (by go_simp)
    have cw7_1_1 : w7.cell? ⟨w3.heap.size, 1, none⟩ = some (.int .u64 x) := cell_gr hw7 (by go_simp)
    have cw7_1_2 : w7.cell? ⟨w3.heap.size, 2, none⟩ = some (.int .u64 1) := cell_gr hw7 (by go_simp)
    have zw7_1 : w3.heap.size < w7.heap.size := World.block_lt_of_cell? _ _ cw7_1_0
    have cw7_2_0 : w7.cell? ⟨B6, 0, none⟩ = some (.int .u64 0) := cell_gr hw7 (by go_simp)
    have fw7_2_0 : w7.frozen? ⟨B6, 0, none⟩ = false := frozen_gr (v := .int .u64 0) hw7 (by go_simp) (by go_simp)
    have cw7_2_1 : w7.cell? ⟨B6, 1, none⟩ = some (.int .u64 s) := cell_gr hw7 (by go_simp)
    have fw7_2_1 : w7.frozen? ⟨B6, 1, none⟩ = false := frozen_gr (v := .int .u64 s) hw7 (by go_simp) (by go_simp)
    have cw7_2_2 : w7.cell? ⟨B6, 2, none⟩ = some (.int .u64 1) := cell_gr hw7 (by go_simp)
    have fw7_2_2 : w7.frozen? ⟨B6, 2, none⟩ = false := frozen_gr (v := .int .u64 1) hw7 (by go_simp) (by go_simp)
    have zw7_2 : B6 < w7.heap.size := World.block_lt_of_cell? _ _ cw7_2_0
    have gw7 : Gr W w7 := Gr.trans (by have gg := gw6; have gs := gg.size; go_grown) hw7
    clear hw7 gw6 zw6_0 cw6_0_0 cw6_0_1 cw6_0_2 zw6_1 cw6_1_0 cw6_1_1 cw6_1_2 zw6_2 cw6_2_0 fw6_2_0 cw6_2_1 fw6_2_1 cw6_2_2 fw6_2_2
    go_wp2_with fail
    have HGW := Lib.hid gw7
    have sW := gw7.size
    refine Og.wp_region_all 20 (cS w7) (cT w7) (cV w7.heap.size n X Y i (.slice (some ⟨B, off, none⟩) n cap) (.pointer (some ⟨B, off + i * 2, none⟩)) A) cU cK (by kernel_rfl) rfl (by kernel_rfl) ⟨Nat.le_refl _, fun h => h.drew⟩ cS_tr (fun i a b _ h => cT_S h) (c_st (by kernel_rfl) (by kernel_rfl) (by kernel_rfl) (by kernel_rfl)) (fun k hk => match k, hk with | 0, _ => ?_ | 1, _ => ?_ | 2, _ => ?_ | 3, _ => ?_ | 4, _ => ?_ | 5, _ => ?_ | 6, _ => ?_ | 7, _ => ?_ | 8, _ => ?_ | 9, _ => ?_ | 10, _ => ?_ | 11, _ => ?_ | 12, _ => ?_ | 13, _ => ?_ | 14, _ => ?_ | 15, _ => ?_ | 16, _ => ?_ | 17, _ => ?_ | 18, _ => ?_ | 19, _ => ?_ | k + 20, h => absurd h (by omega)) ?_
    · intro o ho us w hS hV QE hQ
      simp only [List.getElem?_toArray, List.getElem?_cons_succ, List.getElem?_cons_zero] at ho
      obtain rfl := Option.some.inj ho
      have g := hS.2 (Below.refl _ _)
      have sz := hS.1
      clear cw7_0_0 cw7_0_1 cw7_0_2 cw7_1_0 cw7_1_1 cw7_1_2 cw7_2_0 cw7_2_1 cw7_2_2 m0 m1 m2 m3 q1 q2 q3
      simp only [Og.putN, List.getElem?_toArray, List.getElem?_cons_succ, List.getElem?_cons_zero, Act.put, List.setIfInBounds_toArray, List.set_cons_zero, List.set_cons_succ] at hQ ⊢
      go_wp2_with fail
      exact ⟨cT_gr (by decide) trivial (by go_grown), w.heap.size, upd_eq, by rw [upd_eq]; exact World.ownsRow_made w #[] 0 sz (Nat.zero_le _) (by simp)⟩
    · intro o ho us w hS hV QE hQ
      simp only [List.getElem?_toArray, List.getElem?_cons_succ, List.getElem?_cons_zero] at ho
      obtain rfl := Option.some.inj ho
      have g := hS.2 (Below.refl _ _)
      have sz := hS.1
      clear cw7_0_0 cw7_0_1 cw7_0_2 cw7_1_0 cw7_1_1 cw7_1_2 cw7_2_0 cw7_2_1 cw7_2_2 m0 m1 m2 m3 q1 q2 q3
      simp only [Og.putN, List.getElem?_toArray, List.getElem?_cons_succ, List.getElem?_cons_zero, Act.put, List.setIfInBounds_toArray, List.set_cons_zero, List.set_cons_succ] at hQ ⊢
      go_wp2_with fail
      exact ⟨cT_gr (by decide) trivial (by go_grown), upd_eq⟩
    · intro o ho us w hS hV QE hQ
      simp only [List.getElem?_toArray, List.getElem?_cons_succ, List.getElem?_cons_zero] at ho
      obtain rfl := Option.some.inj ho
      have g := hS.2 (Below.refl _ _)
      have sz := hS.1
      clear cw7_0_0 cw7_0_1 cw7_0_2 cw7_1_0 cw7_1_1 cw7_1_2 cw7_2_0 cw7_2_1 cw7_2_2 m0 m1 m2 m3 q1 q2 q3
      simp only [Og.putN, List.getElem?_toArray, List.getElem?_cons_succ, List.getElem?_cons_zero, Act.put, List.setIfInBounds_toArray, List.set_cons_zero, List.set_cons_succ] at hQ ⊢
      obtain ⟨h0, e0, o0⟩ := hV 0 (by simp [cU])
      have e1 : us 1 = _ := hV 1 (by simp [cU])
      rw [e0] at o0
      simp only [e0, e1] at hQ ⊢
      have O0 := Lib.hid o0
      have G1 := Lib.hid (Gr.trans HGW.out g)
      clear o0 e0 e1
      go_wp2_with (at_builtin; (refine wpList_append_own2 _ rfl (.tmp 96) (.tmp 97) 22 rfl w7.heap.size 30 i0 zP 2 16 Tryd.underlying22 HI.out.1 HI.out.2.1 HI.out.2.2.1 HI.out.2.2.2 rfl (by decide) (.slice (some ⟨h0, 0, none⟩) 0 0) 0 [] rfl O0.out ⟨B, off, none⟩ n cap (rowL (lsP n X Y)) rfl (by rw [rowL_len, lsP_len]) (lsP_news fun k hk => ⟨cell_gr G1.out (HX.out k hk).1, cell_gr G1.out (HX.out k hk).2⟩) (rowL_one _) (by unfold maxLen; omega) (by omega) sz ?_); intro u w' o1 g1; obtain ⟨gu, cu, rfl, -⟩ := row_form o1 (by omega); have O1 := Lib.hid (And.intro o1 g1); clear o1 g1)
      refine ⟨c_T2 O0.out O1.out.2, gu, cu, by rw [upd_eq], ?_⟩
      rw [upd_eq]
      unfold OwnP
      rw [lsP_len]
      have := O1.out.1
      simp only [Nat.zero_add, List.nil_append] at this ⊢
      exact this
    · intro o ho us w hS hV QE hQ
      simp only [List.getElem?_toArray, List.getElem?_cons_succ, List.getElem?_cons_zero] at ho
      obtain rfl := Option.some.inj ho
      have g := hS.2 (Below.refl _ _)
      have sz := hS.1
      clear cw7_0_0 cw7_0_1 cw7_0_2 cw7_1_0 cw7_1_1 cw7_1_2 cw7_2_0 cw7_2_1 cw7_2_2 m0 m1 m2 m3 q1 q2 q3
      simp only [Og.putN, List.getElem?_toArray, List.getElem?_cons_succ, List.getElem?_cons_zero, Act.put, List.setIfInBounds_toArray, List.set_cons_zero, List.set_cons_succ] at hQ ⊢
      go_wp2_with fail
      exact ⟨cT_gr (by decide) trivial (by go_grown), upd_eq⟩
    · intro o ho us w hS hV QE hQ
      simp only [List.getElem?_toArray, List.getElem?_cons_succ, List.getElem?_cons_zero] at ho
      obtain rfl := Option.some.inj ho
      have g := hS.2 (Below.refl _ _)
      have sz := hS.1
      clear cw7_0_0 cw7_0_1 cw7_0_2 cw7_1_0 cw7_1_1 cw7_1_2 cw7_2_0 cw7_2_1 cw7_2_2 m0 m1 m2 m3 q1 q2 q3
      simp only [Og.putN, List.getElem?_toArray, List.getElem?_cons_succ, List.getElem?_cons_zero, Act.put, List.setIfInBounds_toArray, List.set_cons_zero, List.set_cons_succ] at hQ ⊢
      go_wp2_with fail
      exact ⟨cT_gr (by decide) trivial (by go_grown), upd_eq⟩
    · intro o ho us w hS hV QE hQ
      simp only [List.getElem?_toArray, List.getElem?_cons_succ, List.getElem?_cons_zero] at ho
      obtain rfl := Option.some.inj ho
      have g := hS.2 (Below.refl _ _)
      have sz := hS.1
      clear cw7_0_0 cw7_0_1 cw7_0_2 cw7_1_0 cw7_1_1 cw7_1_2 cw7_2_0 cw7_2_1 cw7_2_2 m0 m1 m2 m3 q1 q2 q3
      simp only [Og.putN, List.getElem?_toArray, List.getElem?_cons_succ, List.getElem?_cons_zero, Act.put, List.setIfInBounds_toArray, List.set_cons_zero, List.set_cons_succ] at hQ ⊢
      have e3 : us 3 = _ := hV 3 (by simp [cU])
      have e4 : us 4 = _ := hV 4 (by simp [cU])
      simp only [e3, e4]
      go_wp2_with fail
      exact ⟨cT_gr (by decide) trivial (by go_grown), upd_eq⟩
    · intro o ho us w hS hV QE hQ
      simp only [List.getElem?_toArray, List.getElem?_cons_succ, List.getElem?_cons_zero] at ho
      obtain rfl := Option.some.inj ho
      have g := hS.2 (Below.refl _ _)
      have sz := hS.1
      clear cw7_0_0 cw7_0_1 cw7_0_2 cw7_1_0 cw7_1_1 cw7_1_2 cw7_2_0 cw7_2_1 cw7_2_2 m0 m1 m2 m3 q1 q2 q3
      simp only [Og.putN, List.getElem?_toArray, List.getElem?_cons_succ, List.getElem?_cons_zero, Act.put, List.setIfInBounds_toArray, List.set_cons_zero, List.set_cons_succ] at hQ ⊢
      have e5 : us 5 = _ := hV 5 (by simp [cU])
      simp only [e5]
      have G1 := Gr.trans HGW.out g
      have a0 := cell_gr G1 (HX.out i hin).1
      have a1 := cell_gr G1 (HX.out i hin).2
      clear G1
      go_wp2_with fail
      exact ⟨cT_gr (by decide) trivial (by go_grown), upd_eq⟩
    · intro o ho us w hS hV QE hQ
      simp only [List.getElem?_toArray, List.getElem?_cons_succ, List.getElem?_cons_zero] at ho
      obtain rfl := Option.some.inj ho
      have g := hS.2 (Below.refl _ _)
      have sz := hS.1
      clear cw7_0_0 cw7_0_1 cw7_0_2 cw7_1_0 cw7_1_1 cw7_1_2 cw7_2_0 cw7_2_1 cw7_2_2 m0 m1 m2 m3 q1 q2 q3
      simp only [Og.putN, List.getElem?_toArray, List.getElem?_cons_succ, List.getElem?_cons_zero, Act.put, List.setIfInBounds_toArray, List.set_cons_zero, List.set_cons_succ] at hQ ⊢
      have e6 : us 6 = _ := hV 6 (by simp [cU])
      simp only [e6]
      go_wp2_with fail
      exact ⟨cT_gr (by decide) trivial (by go_grown), w.heap.size, upd_eq, sz, MapKept.heap_alloc w _ |>.1⟩
    · intro o ho us w hS hV QE hQ
      simp only [List.getElem?_toArray, List.getElem?_cons_succ, List.getElem?_cons_zero] at ho
      obtain rfl := Option.some.inj ho
      have g := hS.2 (Below.refl _ _)
      have sz := hS.1
      clear cw7_0_0 cw7_0_1 cw7_0_2 cw7_1_0 cw7_1_1 cw7_1_2 cw7_2_0 cw7_2_1 cw7_2_2 m0 m1 m2 m3 q1 q2 q3
      simp only [Og.putN, List.getElem?_toArray, List.getElem?_cons_succ, List.getElem?_cons_zero, Act.put, List.setIfInBounds_toArray, List.set_cons_zero, List.set_cons_succ] at hQ ⊢
      obtain ⟨g2, c2, e2, o2⟩ := hV 2 (by simp [cU])
      obtain ⟨p7, e7, hp7, hh7⟩ := hV 7 (by simp [cU])
      rw [e2] at o2
      simp only [e2, e7] at hQ ⊢
      have O2 := Lib.hid (own_n o2)
      have H7 := Lib.hid hh7
      clear o2 e2 e7 hh7
      go_wp2_with (at_builtin; (refine wpList_append_own2 _ rfl (.tmp 98) (.tmp 103) 22 rfl w7.heap.size 30 i0 zP 2 16 Tryd.underlying22 HI.out.1 HI.out.2.1 HI.out.2.2.1 HI.out.2.2.2 rfl (by decide) (.slice (some ⟨g2, 0, none⟩) n c2) n (rowL (lsP n X Y)) rfl O2.out ⟨p7, 0, none⟩ 1 1 [.int .i64 (X i), .int .i64 (Y i)] rfl rfl (news2 H7.out) (by intro u hu; (simp at hu); rcases hu with rfl | rfl <;> rfl) (by unfold maxLen; omega) (by omega) sz ?_); intro u w' o1 g1; obtain ⟨gu, cu, rfl, -⟩ := row_form o1 (by omega); have O1 := Lib.hid (And.intro o1 g1); clear o1 g1)
      refine ⟨c_T8 O2.out O1.out.2, gu, cu, upd_eq, ?_⟩
      rw [upd_eq]
      exact pts_mF (base := _) O1.out.1
    · intro o ho us w hS hV QE hQ
      simp only [List.getElem?_toArray, List.getElem?_cons_succ, List.getElem?_cons_zero] at ho
      obtain rfl := Option.some.inj ho
      have g := hS.2 (Below.refl _ _)
      have sz := hS.1
      clear cw7_0_0 cw7_0_1 cw7_0_2 cw7_1_0 cw7_1_1 cw7_1_2 cw7_2_0 cw7_2_1 cw7_2_2 m0 m1 m2 m3 q1 q2 q3
      simp only [Og.putN, List.getElem?_toArray, List.getElem?_cons_succ, List.getElem?_cons_zero, Act.put, List.setIfInBounds_toArray, List.set_cons_zero, List.set_cons_succ] at hQ ⊢
      obtain ⟨g8, c8, e8, P8⟩ := hV 8 (by simp [cU])
      rw [e8] at P8
      simp only [e8] at hQ ⊢
      have C9 := Lib.hid (yes_Closest w P8 HM.out)
      clear e8 P8
      go_wp2_with fail
      go_at_call 17
      (with_reducible refine C9.out.mono ?_)
      rintro e w' ⟨a', b', hb', rfl, g9⟩
      obtain ⟨ea, eb⟩ := HA.out a' b' hb'
      have HB9' := Lib.hid (And.intro hb' g9)
      clear hb' g9
      go_wp2_with fail
      subst ea eb
      exact ⟨_, rfl, cT_gr (by decide) trivial HB9'.out.2, upd_eq, HB9'.out.1⟩
    · intro o ho us w hS hV QE hQ
      simp only [List.getElem?_toArray, List.getElem?_cons_succ, List.getElem?_cons_zero] at ho
      obtain rfl := Option.some.inj ho
      have g := hS.2 (Below.refl _ _)
      have sz := hS.1
      clear cw7_0_0 cw7_0_1 cw7_0_2 cw7_1_0 cw7_1_1 cw7_1_2 cw7_2_0 cw7_2_1 cw7_2_2 m0 m1 m2 m3 q1 q2 q3
      simp only [Og.putN, List.getElem?_toArray, List.getElem?_cons_succ, List.getElem?_cons_zero, Act.put, List.setIfInBounds_toArray, List.set_cons_zero, List.set_cons_succ] at hQ ⊢
      have e9 : us 9 = _ := (hV 9 (by simp [cU])).1
      simp only [e9]
      go_wp2_with fail
      exact ⟨cT_gr (by decide) trivial (by go_grown), upd_eq⟩
    · intro o ho us w hS hV QE hQ
      simp only [List.getElem?_toArray, List.getElem?_cons_succ, List.getElem?_cons_zero] at ho
      obtain rfl := Option.some.inj ho
      have g := hS.2 (Below.refl _ _)
      have sz := hS.1
      clear cw7_0_0 cw7_0_1 cw7_0_2 cw7_1_0 cw7_1_1 cw7_1_2 cw7_2_0 cw7_2_1 cw7_2_2 m0 m1 m2 m3 q1 q2 q3
      simp only [Og.putN, List.getElem?_toArray, List.getElem?_cons_succ, List.getElem?_cons_zero, Act.put, List.setIfInBounds_toArray, List.set_cons_zero, List.set_cons_succ] at hQ ⊢
      have e10 : us 10 = _ := hV 10 (by simp [cU])
      simp only [e10]
      go_wp2_with fail
      exact ⟨cT_gr (by decide) trivial (by go_grown), upd_eq⟩
    · intro o ho us w hS hV QE hQ
      simp only [List.getElem?_toArray, List.getElem?_cons_succ, List.getElem?_cons_zero] at ho
      obtain rfl := Option.some.inj ho
      have g := hS.2 (Below.refl _ _)
      have sz := hS.1
      clear cw7_0_0 cw7_0_1 cw7_0_2 cw7_1_0 cw7_1_1 cw7_1_2 cw7_2_0 cw7_2_1 cw7_2_2 m0 m1 m2 m3 q1 q2 q3
      simp only [Og.putN, List.getElem?_toArray, List.getElem?_cons_succ, List.getElem?_cons_zero, Act.put, List.setIfInBounds_toArray, List.set_cons_zero, List.set_cons_succ] at hQ ⊢
      have e10 : us 10 = _ := hV 10 (by simp [cU])
      simp only [e10]
      go_wp2_with fail
      exact ⟨cT_gr (by decide) trivial (by go_grown), upd_eq⟩
    · intro o ho us w hS hV QE hQ
      simp only [List.getElem?_toArray, List.getElem?_cons_succ, List.getElem?_cons_zero] at ho
      obtain rfl := Option.some.inj ho
      have g := hS.2 (Below.refl _ _)
      have sz := hS.1
      clear cw7_0_0 cw7_0_1 cw7_0_2 cw7_1_0 cw7_1_1 cw7_1_2 cw7_2_0 cw7_2_1 cw7_2_2 m0 m1 m2 m3 q1 q2 q3
      simp only [Og.putN, List.getElem?_toArray, List.getElem?_cons_succ, List.getElem?_cons_zero, Act.put, List.setIfInBounds_toArray, List.set_cons_zero, List.set_cons_succ] at hQ ⊢
      have e10 : us 10 = _ := hV 10 (by simp [cU])
      simp only [e10]
      go_wp2_with fail
      exact ⟨cT_gr (by decide) trivial (by go_grown), upd_eq⟩
    · intro o ho us w hS hV QE hQ
      simp only [List.getElem?_toArray, List.getElem?_cons_succ, List.getElem?_cons_zero] at ho
      obtain rfl := Option.some.inj ho
      have g := hS.2 (Below.refl _ _)
      have sz := hS.1
      clear cw7_0_0 cw7_0_1 cw7_0_2 cw7_1_0 cw7_1_1 cw7_1_2 cw7_2_0 cw7_2_1 cw7_2_2 m0 m1 m2 m3 q1 q2 q3
      simp only [Og.putN, List.getElem?_toArray, List.getElem?_cons_succ, List.getElem?_cons_zero, Act.put, List.setIfInBounds_toArray, List.set_cons_zero, List.set_cons_succ] at hQ ⊢
      have e10 : us 10 = _ := hV 10 (by simp [cU])
      simp only [e10]
      go_wp2_with fail
      exact ⟨cT_gr (by decide) trivial (by go_grown), upd_eq⟩
    · intro o ho us w hS hV QE hQ
      simp only [List.getElem?_toArray, List.getElem?_cons_succ, List.getElem?_cons_zero] at ho
      obtain rfl := Option.some.inj ho
      have g := hS.2 (Below.refl _ _)
      have sz := hS.1
      clear cw7_0_0 cw7_0_1 cw7_0_2 cw7_1_0 cw7_1_1 cw7_1_2 cw7_2_0 cw7_2_1 cw7_2_2 m0 m1 m2 m3 q1 q2 q3
      simp only [Og.putN, List.getElem?_toArray, List.getElem?_cons_succ, List.getElem?_cons_zero, Act.put, List.setIfInBounds_toArray, List.set_cons_zero, List.set_cons_succ] at hQ ⊢
      go_wp2_with fail
      exact ⟨cT_gr (by decide) trivial (by go_grown), w.heap.size, upd_eq, sz, MapKept.heap_alloc w _ |>.1⟩
    · intro o ho us w hS hV QE hQ
      simp only [List.getElem?_toArray, List.getElem?_cons_succ, List.getElem?_cons_zero] at ho
      obtain rfl := Option.some.inj ho
      have g := hS.2 (Below.refl _ _)
      have sz := hS.1
      clear cw7_0_0 cw7_0_1 cw7_0_2 cw7_1_0 cw7_1_1 cw7_1_2 cw7_2_0 cw7_2_1 cw7_2_2 m0 m1 m2 m3 q1 q2 q3
      simp only [Og.putN, List.getElem?_toArray, List.getElem?_cons_succ, List.getElem?_cons_zero, Act.put, List.setIfInBounds_toArray, List.set_cons_zero, List.set_cons_succ] at hQ ⊢
      have e11 : us 11 = _ := hV 11 (by simp [cU])
      simp only [e11]
      go_wp2_with fail
      exact ⟨cT_gr (by decide) trivial (by go_grown), upd_eq⟩
    · intro o ho us w hS hV QE hQ
      simp only [List.getElem?_toArray, List.getElem?_cons_succ, List.getElem?_cons_zero] at ho
      obtain rfl := Option.some.inj ho
      have g := hS.2 (Below.refl _ _)
      have sz := hS.1
      clear cw7_0_0 cw7_0_1 cw7_0_2 cw7_1_0 cw7_1_1 cw7_1_2 cw7_2_0 cw7_2_1 cw7_2_2 m0 m1 m2 m3 q1 q2 q3
      simp only [Og.putN, List.getElem?_toArray, List.getElem?_cons_succ, List.getElem?_cons_zero, Act.put, List.setIfInBounds_toArray, List.set_cons_zero, List.set_cons_succ] at hQ ⊢
      have e12 : us 12 = _ := hV 12 (by simp [cU])
      simp only [e12]
      go_wp2_with fail
      exact ⟨cT_gr (by decide) trivial (by go_grown), upd_eq⟩
    · intro o ho us w hS hV QE hQ
      simp only [List.getElem?_toArray, List.getElem?_cons_succ, List.getElem?_cons_zero] at ho
      obtain rfl := Option.some.inj ho
      have g := hS.2 (Below.refl _ _)
      have sz := hS.1
      clear cw7_0_0 cw7_0_1 cw7_0_2 cw7_1_0 cw7_1_1 cw7_1_2 cw7_2_0 cw7_2_1 cw7_2_2 m0 m1 m2 m3 q1 q2 q3
      simp only [Og.putN, List.getElem?_toArray, List.getElem?_cons_succ, List.getElem?_cons_zero, Act.put, List.setIfInBounds_toArray, List.set_cons_zero, List.set_cons_succ] at hQ ⊢
      have e13 : us 13 = _ := hV 13 (by simp [cU])
      obtain ⟨p, e15, hp, hh⟩ := hV 15 (by simp [cU])
      simp only [e13, e15] at hQ ⊢
      have x0 := Hm.cell_of_heap hh 0
      have x1 := Hm.cell_of_heap hh 1
      have x2 := Hm.cell_of_heap hh 2
      have y0 := Hm.frozen_of_heap hh 0
      have y1 := Hm.frozen_of_heap hh 1
      have y2 := Hm.frozen_of_heap hh 2
      have E15 := Lib.hid (And.intro e15 hh)
      simp only [List.getElem?_toArray, List.getElem?_cons_succ, List.getElem?_cons_zero] at x0 x1 x2
      clear e13 e15 hh
      go_wp2_with fail
      refine ⟨c_T18 (by simp) (fun k => ((k.setCell (p := ⟨p, 0, none⟩) hp _).setCell (p := ⟨p, 1, none⟩) hp _).setCell (p := ⟨p, 2, none⟩) hp _), .nilIface, p, by rw [upd_ne (by decide)]; exact E15.out.1, hp, ?_⟩
      exact Hm.heap_set_same (Hm.heap_set_same (Hm.heap_set_same E15.out.2))
    · intro o ho us w hS hV QE hQ
      simp only [List.getElem?_toArray, List.getElem?_cons_succ, List.getElem?_cons_zero] at ho
      obtain rfl := Option.some.inj ho
      have g := hS.2 (Below.refl _ _)
      have sz := hS.1
      clear cw7_0_0 cw7_0_1 cw7_0_2 cw7_1_0 cw7_1_1 cw7_1_2 cw7_2_0 cw7_2_1 cw7_2_2 m0 m1 m2 m3 q1 q2 q3
      simp only [Og.putN, List.getElem?_toArray, List.getElem?_cons_succ, List.getElem?_cons_zero, Act.put, List.setIfInBounds_toArray, List.set_cons_zero, List.set_cons_succ] at hQ ⊢
      have e14 : us 14 = _ := hV 14 (by simp [cU])
      simp only [e14]
      go_wp2_with fail
      exact ⟨cT_gr (by decide) trivial (by go_grown), upd_eq⟩
    · intro us w hS hV
      have g := hS.2 (Below.refl _ _)
      have bst := (hV 9 (by decide) rfl).2
      have e16 : us 16 = _ := hV 16 (by decide) rfl
      have e17 : us 17 = _ := hV 17 (by decide) rfl
      have e19 : us 19 = _ := hV 19 (by decide) rfl
      obtain ⟨p, e15, hp, hh⟩ := hV 18 (by decide) rfl
      have hs0 : sqN (mF n X i) (mF n Y i) A.1 A.2 = 0 := close_zero hin bst
      rw [hs0] at hh
      have x0 := Hm.cell_of_heap hh 0
      have x1 := Hm.cell_of_heap hh 1
      have x2 := Hm.cell_of_heap hh 2
      have zp := World.block_lt_of_cell? _ _ x0
      simp only [List.getElem?_toArray, List.getElem?_cons_succ, List.getElem?_cons_zero] at x0 x1 x2
      have lt1 : decide ((A.1 : Int) < (A.2 : Int)) = true := decide_eq_true (by have := bst.lt; omega)
      have lt2 : decide (A.1 < A.2) = true := decide_eq_true (by have := bst.lt; omega)
      have GF := Lib.hid (Gr.trans HGW.out g)
      clear cw7_0_0 cw7_0_1 cw7_0_2 cw7_1_0 cw7_1_1 cw7_1_2 cw7_2_0 cw7_2_1 cw7_2_2 m0 m1 m2 m3 q1 q2 q3
      simp only [Og.putN, List.getElem?_toArray, List.getElem?_cons_succ, List.getElem?_cons_zero, Act.put, List.setIfInBounds_toArray, List.set_cons_zero, List.set_cons_succ, e15, e16, e17, e19]
      clear hV hS bst e15 e16 e17 e19 hh hs0 hp
      go_wp2_with fail
      go_at_call 8
      (with_reducible refine (HAW.out _ GF.out).mono ?_)
      rintro e w9 ⟨rfl, g9⟩
      go_wp2_with fail
      go_ret
      exact ⟨rfl, Gr.trans GF.out g9⟩
  · have q1 : ((i : Int) == (j : Int)) = false := by simp; omega
    have q2 : ((i : Int) != (j : Int)) = true := by simp; omega
    have q3 : (i == j) = false := by simp; omega
    have hij' := hij
    have hr1 : ¬ cmpZ (s : Int) (d : Int) < 0 := by
      have := bst_all HB.out hin hjn hij
      rw [← HES.out, ← HD.out] at this
      unfold cmpZ; split <;> (try split) <;> omega
    have C1 := HC1.out
    obtain ⟨r1, er1⟩ : ∃ r, r = cmpZ (s : Int) (d : Int) := ⟨_, rfl⟩
    rw [← er1] at hr1 C1
    have v1 : decide (r1 < (0 : Int)) = false := decide_eq_false hr1
    have HC1' := Lib.hid C1
    clear hij hij' er1 C1
    have s5 := gw5.size
    clear m0 m1 m2 m3
    have m0 := cell_gr gw5 (HX.out i hin).1
    have m1 := cell_gr gw5 (HX.out i hin).2
    have m2 := cell_gr gw5 (HX.out j hjn).1
    have m3 := cell_gr gw5 (HX.out j hjn).2
    rw [HEXY.out.1] at m0
    rw [HEXY.out.2.1] at m1
    rw [HEXY.out.2.2.1] at m2
    rw [HEXY.out.2.2.2] at m3
    go_wp2_with fail
    refine Hm.wp_region_mk 10 9 15 #[.int .u64 0, .int .u64 0, .int .u64 0] 37 (by kernel_rfl) (by simp only [List.getElem?_toArray, List.getElem?_cons_succ, List.getElem?_cons_zero] <;> rfl) (by kernel_rfl) (fun _ _ => ?_) ?_
    · unfold Oper.wp; go_simp
    intro KQ hKQ
    repeat (first | (refine Hm.wpG_sp (by decide) ?_ ?_; (· (try dsimp only); first | (rw [if_neg (by decide)]; trivial) | (rw [if_pos rfl]; (intro B w' g hB hw; have c0 : w'.cell? ⟨B, 0, none⟩ = some (.int .u64 0) := Hm.cell_of_heap hw 0; have f0 := Hm.frozen_of_heap hw 0; have c1 : w'.cell? ⟨B, 1, none⟩ = some (.int .u64 0) := Hm.cell_of_heap hw 1; have f1 := Hm.frozen_of_heap hw 1; have c2 : w'.cell? ⟨B, 2, none⟩ = some (.int .u64 0) := Hm.cell_of_heap hw 2; have f2 := Hm.frozen_of_heap hw 2; unfold Oper.wp; go_simp; exact ⟨(((g.setCell hB _).setCell hB _).setCell hB _), (Hm.heap_set_same (Hm.heap_set_same (Hm.heap_set_same hw)))⟩)))) | (refine Hm.wpG_skip (by decide) rfl ?_; simp only [Act.put, List.setIfInBounds_toArray, List.set_cons_zero, List.set_cons_succ]) | (refine Hm.wpG_want (by decide) rfl ?_; apply Exists.intro; refine ⟨?_, ?_⟩; (· intro wx gx; (obtain ⟨mx, rfl⟩ := spread_of_gr gx; clear gx); all_goals (apply Hd.gAt_of_quiet; intro K hK; go_big_quiet_op; first | exact hK _ rfl | (apply Exists.intro; refine ⟨fun _ => ?_, ?_⟩; (· (first | (go_at_call 16; first | ((with_reducible refine ((HSQ.out _)).mono ?_); rintro e w' ⟨rfl, hg⟩; exact ⟨rfl, spread_gr hg⟩)))); exact hK _ rfl))); try simp only [Act.put, List.setIfInBounds_toArray, List.set_cons_zero, List.set_cons_succ]))
    refine Hm.wpG_nil (hKQ _ ?_)
    clear hKQ KQ
    intro B6 w6 hw6 hBw6 hhw6
    have cw6_0_0 : w6.cell? ⟨B9, 0, none⟩ = some (.int .u64 0) := cell_gr hw6 (by go_simp)
    have cw6_0_1 : w6.cell? ⟨B9, 1, none⟩ = some (.int .u64 d) := cell_gr hw6 (by go_simp)
    have cw6_0_2 : w6.cell? ⟨B9, 2, none⟩ = some (.int .u64 1) := cell_gr hw6 (by go_simp)
    have zw6_0 : B9 < w6.heap.size := World.block_lt_of_cell? _ _ cw6_0_0
    have cw6_1_0 : w6.cell? ⟨w3.heap.size, 0, none⟩ = some (.int .u64 0) := cell_gr hw6 (by go_simp)
    have cw6_1_1 : w6.cell? ⟨w3.heap.size, 1, none⟩ = some (.int .u64 x) := cell_gr hw6 (by go_simp)
    have cw6_1_2 : w6.cell? ⟨w3.heap.size, 2, none⟩ = some (.int .u64 1) := cell_gr hw6 (by go_simp)
    have zw6_1 : w3.heap.size < w6.heap.size := World.block_lt_of_cell? _ _ cw6_1_0
    have cw6_2_0 : w6.cell? ⟨B6, 0, none⟩ = some (.int .u64 0) := Hm.cell_of_heap hhw6 0
    have cw6_2_1 : w6.cell? ⟨B6, 1, none⟩ = some (.int .u64 0) := Hm.cell_of_heap hhw6 1
    have cw6_2_2 : w6.cell? ⟨B6, 2, none⟩ = some (.int .u64 0) := Hm.cell_of_heap hhw6 2
    have zw6_2 : B6 < w6.heap.size := World.block_lt_of_cell? _ _ cw6_2_0
    have gw6 : Gr W w6 := Gr.trans (by have gg := gw5; have gs := gg.size; go_grown) hw6
    have fw6_2_0 : w6.frozen? ⟨B6, 0, none⟩ = false := Hm.frozen_of_heap hhw6 0
    have fw6_2_1 : w6.frozen? ⟨B6, 1, none⟩ = false := Hm.frozen_of_heap hhw6 1
    have fw6_2_2 : w6.frozen? ⟨B6, 2, none⟩ = false := Hm.frozen_of_heap hhw6 2
    clear hw6 hhw6 gw5
    have zz6 : W.heap.size ≤ B6 := Nat.le_trans s5 hBw6
    go_wp2_with fail
    go_at_call 18
    refine ((HC1'.out _)).mono ?_
    rintro e w7 ⟨rfl, hw7⟩
    have cw7_0_0 : w7.cell? ⟨B9, 0, none⟩ = some (.int .u64 0) := cell_gr hw7 (by go_simp)
    have cw7_0_1 : w7.cell? ⟨B9, 1, none⟩ = some (.int .u64 d) := cell_gr hw7 (by go_simp)
    have cw7_0_2 : w7.cell? ⟨B9, 2, none⟩ = some (.int .u64 1) := cell_gr hw7 (by go_simp)
    have zw7_0 : B9 < w7.heap.size := World.block_lt_of_cell? _ _ cw7_0_0
    have cw7_1_0 : w7.cell? ⟨w3.heap.size, 0, none⟩ = some (.int .u64 0) := cell_gr hw7 (by go_simp)
    have cw7_1_1 : w7.cell? ⟨w3.heap.size, 1, none⟩ = some (.int .u64 x) := cell_gr hw7 (by go_simp)
    have cw7_1_2 : w7.cell? ⟨w3.heap.size, 2, none⟩ = some (.int .u64 1) := cell_gr hw7 (by go_simp)
    have zw7_1 : w3.heap.size < w7.heap.size := World.block_lt_of_cell? _ _ cw7_1_0
    have cw7_2_0 : w7.cell? ⟨B6, 0, none⟩ = some (.int .u64 0) := cell_gr hw7 (by go_simp)
    have fw7_2_0 : w7.frozen? ⟨B6, 0, none⟩ = false := frozen_gr (v := .int .u64 0) hw7 (by go_simp) (by go_simp)
    have cw7_2_1 : w7.cell? ⟨B6, 1, none⟩ = some (.int .u64 s) := cell_gr hw7 (by go_simp)
    have fw7_2_1 : w7.frozen? ⟨B6, 1, none⟩ = false := frozen_gr (v := .int .u64 s) hw7 (by go_simp) (by go_simp)
    have cw7_2_2 : w7.cell? ⟨B6, 2, none⟩ = some (.int .u64 1) := cell_gr hw7 (by go_simp)
    have fw7_2_2 : w7.frozen? ⟨B6, 2, none⟩ = false := frozen_gr (v := .int .u64 1) hw7 (by go_simp) (by go_simp)
    have zw7_2 : B6 < w7.heap.size := World.block_lt_of_cell? _ _ cw7_2_0
    have gw7 : Gr W w7 := Gr.trans (by have gg := gw6; have gs := gg.size; go_grown) hw7
    clear hw7 gw6 zw6_0 cw6_0_0 cw6_0_1 cw6_0_2 zw6_1 cw6_1_0 cw6_1_1 cw6_1_2 zw6_2 cw6_2_0 fw6_2_0 cw6_2_1 fw6_2_1 cw6_2_2 fw6_2_2
    go_wp2_with fail
    go_at_call 18
    refine ((HC2.out _)).mono ?_
    rintro e w8 ⟨rfl, hw8⟩
    have cw8_0_0 : w8.cell? ⟨B9, 0, none⟩ = some (.int .u64 0) := cell_gr hw8 (by go_simp)
    have cw8_0_1 : w8.cell? ⟨B9, 1, none⟩ = some (.int .u64 d) := cell_gr hw8 (by go_simp)
    have cw8_0_2 : w8.cell? ⟨B9, 2, none⟩ = some (.int .u64 1) := cell_gr hw8 (by go_simp)
    have zw8_0 : B9 < w8.heap.size := World.block_lt_of_cell? _ _ cw8_0_0
    have cw8_1_0 : w8.cell? ⟨w3.heap.size, 0, none⟩ = some (.int .u64 0) := cell_gr hw8 (by go_simp)
    have cw8_1_1 : w8.cell? ⟨w3.heap.size, 1, none⟩ = some (.int .u64 x) := cell_gr hw8 (by go_simp)
    have cw8_1_2 : w8.cell? ⟨w3.heap.size, 2, none⟩ = some (.int .u64 1) := cell_gr hw8 (by go_simp)
    have zw8_1 : w3.heap.size < w8.heap.size := World.block_lt_of_cell? _ _ cw8_1_0
    have cw8_2_0 : w8.cell? ⟨B6, 0, none⟩ = some (.int .u64 0) := cell_gr hw8 (by go_simp)
    have fw8_2_0 : w8.frozen? ⟨B6, 0, none⟩ = false := frozen_gr (v := .int .u64 0) hw8 (by go_simp) (by go_simp)
    have cw8_2_1 : w8.cell? ⟨B6, 1, none⟩ = some (.int .u64 s) := cell_gr hw8 (by go_simp)
    have fw8_2_1 : w8.frozen? ⟨B6, 1, none⟩ = false := frozen_gr (v := .int .u64 s) hw8 (by go_simp) (by go_simp)
    have cw8_2_2 : w8.cell? ⟨B6, 2, none⟩ = some (.int .u64 1) := cell_gr hw8 (by go_simp)
    have fw8_2_2 : w8.frozen? ⟨B6, 2, none⟩ = false := frozen_gr (v := .int .u64 1) hw8 (by go_simp) (by go_simp)
    have zw8_2 : B6 < w8.heap.size := World.block_lt_of_cell? _ _ cw8_2_0
    have gw8 : Gr W w8 := Gr.trans (by have gg := gw7; have gs := gg.size; go_grown) hw8
    clear hw8 gw7 zw7_0 cw7_0_0 cw7_0_1 cw7_0_2 zw7_1 cw7_1_0 cw7_1_1 cw7_1_2 zw7_2 cw7_2_0 fw7_2_0 cw7_2_1 fw7_2_1 cw7_2_2 fw7_2_2
    go_wp2_with fail
    have HGW := Lib.hid gw8
    have sW := gw8.size
    refine Og.wp_region_all 20 (cS w8) (cT w8) (cV w8.heap.size n X Y i (.slice (some ⟨B, off, none⟩) n cap) (.pointer (some ⟨B, off + i * 2, none⟩)) A) cU cK (by kernel_rfl) rfl (by kernel_rfl) ⟨Nat.le_refl _, fun h => h.drew⟩ cS_tr (fun i a b _ h => cT_S h) (c_st (by kernel_rfl) (by kernel_rfl) (by kernel_rfl) (by kernel_rfl)) (fun k hk => match k, hk with | 0, _ => ?_ | 1, _ => ?_ | 2, _ => ?_ | 3, _ => ?_ | 4, _ => ?_ | 5, _ => ?_ | 6, _ => ?_ | 7, _ => ?_ | 8, _ => ?_ | 9, _ => ?_ | 10, _ => ?_ | 11, _ => ?_ | 12, _ => ?_ | 13, _ => ?_ | 14, _ => ?_ | 15, _ => ?_ | 16, _ => ?_ | 17, _ => ?_ | 18, _ => ?_ | 19, _ => ?_ | k + 20, h => absurd h (by omega)) ?_
    · intro o ho us w hS hV QE hQ
      simp only [List.getElem?_toArray, List.getElem?_cons_succ, List.getElem?_cons_zero] at ho
      obtain rfl := Option.some.inj ho
      have g := hS.2 (Below.refl _ _)
      have sz := hS.1
      clear cw8_0_0 cw8_0_1 cw8_0_2 cw8_1_0 cw8_1_1 cw8_1_2 cw8_2_0 cw8_2_1 cw8_2_2 m0 m1 m2 m3 q1 q2 q3
      simp only [Og.putN, List.getElem?_toArray, List.getElem?_cons_succ, List.getElem?_cons_zero, Act.put, List.setIfInBounds_toArray, List.set_cons_zero, List.set_cons_succ] at hQ ⊢
      go_wp2_with fail
      exact ⟨cT_gr (by decide) trivial (by go_grown), w.heap.size, upd_eq, by rw [upd_eq]; exact World.ownsRow_made w #[] 0 sz (Nat.zero_le _) (by simp)⟩
    · intro o ho us w hS hV QE hQ
      simp only [List.getElem?_toArray, List.getElem?_cons_succ, List.getElem?_cons_zero] at ho
      obtain rfl := Option.some.inj ho
      have g := hS.2 (Below.refl _ _)
      have sz := hS.1
      clear cw8_0_0 cw8_0_1 cw8_0_2 cw8_1_0 cw8_1_1 cw8_1_2 cw8_2_0 cw8_2_1 cw8_2_2 m0 m1 m2 m3 q1 q2 q3
      simp only [Og.putN, List.getElem?_toArray, List.getElem?_cons_succ, List.getElem?_cons_zero, Act.put, List.setIfInBounds_toArray, List.set_cons_zero, List.set_cons_succ] at hQ ⊢
      go_wp2_with fail
      exact ⟨cT_gr (by decide) trivial (by go_grown), upd_eq⟩
    · intro o ho us w hS hV QE hQ
      simp only [List.getElem?_toArray, List.getElem?_cons_succ, List.getElem?_cons_zero] at ho
      obtain rfl := Option.some.inj ho
      have g := hS.2 (Below.refl _ _)
      have sz := hS.1
      clear cw8_0_0 cw8_0_1 cw8_0_2 cw8_1_0 cw8_1_1 cw8_1_2 cw8_2_0 cw8_2_1 cw8_2_2 m0 m1 m2 m3 q1 q2 q3
      simp only [Og.putN, List.getElem?_toArray, List.getElem?_cons_succ, List.getElem?_cons_zero, Act.put, List.setIfInBounds_toArray, List.set_cons_zero, List.set_cons_succ] at hQ ⊢
      obtain ⟨h0, e0, o0⟩ := hV 0 (by simp [cU])
      have e1 : us 1 = _ := hV 1 (by simp [cU])
      rw [e0] at o0
      simp only [e0, e1] at hQ ⊢
      have O0 := Lib.hid o0
      have G1 := Lib.hid (Gr.trans HGW.out g)
      clear o0 e0 e1
      go_wp2_with (at_builtin; (refine wpList_append_own2 _ rfl (.tmp 96) (.tmp 97) 22 rfl w8.heap.size 30 i0 zP 2 16 Tryd.underlying22 HI.out.1 HI.out.2.1 HI.out.2.2.1 HI.out.2.2.2 rfl (by decide) (.slice (some ⟨h0, 0, none⟩) 0 0) 0 [] rfl O0.out ⟨B, off, none⟩ n cap (rowL (lsP n X Y)) rfl (by rw [rowL_len, lsP_len]) (lsP_news fun k hk => ⟨cell_gr G1.out (HX.out k hk).1, cell_gr G1.out (HX.out k hk).2⟩) (rowL_one _) (by unfold maxLen; omega) (by omega) sz ?_); intro u w' o1 g1; obtain ⟨gu, cu, rfl, -⟩ := row_form o1 (by omega); have O1 := Lib.hid (And.intro o1 g1); clear o1 g1)
      refine ⟨c_T2 O0.out O1.out.2, gu, cu, by rw [upd_eq], ?_⟩
      rw [upd_eq]
      unfold OwnP
      rw [lsP_len]
      have := O1.out.1
      simp only [Nat.zero_add, List.nil_append] at this ⊢
      exact this
    · intro o ho us w hS hV QE hQ
      simp only [List.getElem?_toArray, List.getElem?_cons_succ, List.getElem?_cons_zero] at ho
      obtain rfl := Option.some.inj ho
      have g := hS.2 (Below.refl _ _)
      have sz := hS.1
      clear cw8_0_0 cw8_0_1 cw8_0_2 cw8_1_0 cw8_1_1 cw8_1_2 cw8_2_0 cw8_2_1 cw8_2_2 m0 m1 m2 m3 q1 q2 q3
      simp only [Og.putN, List.getElem?_toArray, List.getElem?_cons_succ, List.getElem?_cons_zero, Act.put, List.setIfInBounds_toArray, List.set_cons_zero, List.set_cons_succ] at hQ ⊢
      go_wp2_with fail
      exact ⟨cT_gr (by decide) trivial (by go_grown), upd_eq⟩
    · intro o ho us w hS hV QE hQ
      simp only [List.getElem?_toArray, List.getElem?_cons_succ, List.getElem?_cons_zero] at ho
      obtain rfl := Option.some.inj ho
      have g := hS.2 (Below.refl _ _)
      have sz := hS.1
      clear cw8_0_0 cw8_0_1 cw8_0_2 cw8_1_0 cw8_1_1 cw8_1_2 cw8_2_0 cw8_2_1 cw8_2_2 m0 m1 m2 m3 q1 q2 q3
      simp only [Og.putN, List.getElem?_toArray, List.getElem?_cons_succ, List.getElem?_cons_zero, Act.put, List.setIfInBounds_toArray, List.set_cons_zero, List.set_cons_succ] at hQ ⊢
      go_wp2_with fail
      exact ⟨cT_gr (by decide) trivial (by go_grown), upd_eq⟩
    · intro o ho us w hS hV QE hQ
      simp only [List.getElem?_toArray, List.getElem?_cons_succ, List.getElem?_cons_zero] at ho
      obtain rfl := Option.some.inj ho
      have g := hS.2 (Below.refl _ _)
      have sz := hS.1
      clear cw8_0_0 cw8_0_1 cw8_0_2 cw8_1_0 cw8_1_1 cw8_1_2 cw8_2_0 cw8_2_1 cw8_2_2 m0 m1 m2 m3 q1 q2 q3
      simp only [Og.putN, List.getElem?_toArray, List.getElem?_cons_succ, List.getElem?_cons_zero, Act.put, List.setIfInBounds_toArray, List.set_cons_zero, List.set_cons_succ] at hQ ⊢
      have e3 : us 3 = _ := hV 3 (by simp [cU])
      have e4 : us 4 = _ := hV 4 (by simp [cU])
      simp only [e3, e4]
      go_wp2_with fail
      exact ⟨cT_gr (by decide) trivial (by go_grown), upd_eq⟩
    · intro o ho us w hS hV QE hQ
      simp only [List.getElem?_toArray, List.getElem?_cons_succ, List.getElem?_cons_zero] at ho
      obtain rfl := Option.some.inj ho
      have g := hS.2 (Below.refl _ _)
      have sz := hS.1
      clear cw8_0_0 cw8_0_1 cw8_0_2 cw8_1_0 cw8_1_1 cw8_1_2 cw8_2_0 cw8_2_1 cw8_2_2 m0 m1 m2 m3 q1 q2 q3
      simp only [Og.putN, List.getElem?_toArray, List.getElem?_cons_succ, List.getElem?_cons_zero, Act.put, List.setIfInBounds_toArray, List.set_cons_zero, List.set_cons_succ] at hQ ⊢
      have e5 : us 5 = _ := hV 5 (by simp [cU])
      simp only [e5]
      have G1 := Gr.trans HGW.out g
      have a0 := cell_gr G1 (HX.out i hin).1
      have a1 := cell_gr G1 (HX.out i hin).2
      clear G1
      go_wp2_with fail
      exact ⟨cT_gr (by decide) trivial (by go_grown), upd_eq⟩
    · intro o ho us w hS hV QE hQ
      simp only [List.getElem?_toArray, List.getElem?_cons_succ, List.getElem?_cons_zero] at ho
      obtain rfl := Option.some.inj ho
      have g := hS.2 (Below.refl _ _)
      have sz := hS.1
      clear cw8_0_0 cw8_0_1 cw8_0_2 cw8_1_0 cw8_1_1 cw8_1_2 cw8_2_0 cw8_2_1 cw8_2_2 m0 m1 m2 m3 q1 q2 q3
      simp only [Og.putN, List.getElem?_toArray, List.getElem?_cons_succ, List.getElem?_cons_zero, Act.put, List.setIfInBounds_toArray, List.set_cons_zero, List.set_cons_succ] at hQ ⊢
      have e6 : us 6 = _ := hV 6 (by simp [cU])
      simp only [e6]
      go_wp2_with fail
      exact ⟨cT_gr (by decide) trivial (by go_grown), w.heap.size, upd_eq, sz, MapKept.heap_alloc w _ |>.1⟩
    · intro o ho us w hS hV QE hQ
      simp only [List.getElem?_toArray, List.getElem?_cons_succ, List.getElem?_cons_zero] at ho
      obtain rfl := Option.some.inj ho
      have g := hS.2 (Below.refl _ _)
      have sz := hS.1
      clear cw8_0_0 cw8_0_1 cw8_0_2 cw8_1_0 cw8_1_1 cw8_1_2 cw8_2_0 cw8_2_1 cw8_2_2 m0 m1 m2 m3 q1 q2 q3
      simp only [Og.putN, List.getElem?_toArray, List.getElem?_cons_succ, List.getElem?_cons_zero, Act.put, List.setIfInBounds_toArray, List.set_cons_zero, List.set_cons_succ] at hQ ⊢
      obtain ⟨g2, c2, e2, o2⟩ := hV 2 (by simp [cU])
      obtain ⟨p7, e7, hp7, hh7⟩ := hV 7 (by simp [cU])
      rw [e2] at o2
      simp only [e2, e7] at hQ ⊢
      have O2 := Lib.hid (own_n o2)
      have H7 := Lib.hid hh7
      clear o2 e2 e7 hh7
      go_wp2_with (at_builtin; (refine wpList_append_own2 _ rfl (.tmp 98) (.tmp 103) 22 rfl w8.heap.size 30 i0 zP 2 16 Tryd.underlying22 HI.out.1 HI.out.2.1 HI.out.2.2.1 HI.out.2.2.2 rfl (by decide) (.slice (some ⟨g2, 0, none⟩) n c2) n (rowL (lsP n X Y)) rfl O2.out ⟨p7, 0, none⟩ 1 1 [.int .i64 (X i), .int .i64 (Y i)] rfl rfl (news2 H7.out) (by intro u hu; (simp at hu); rcases hu with rfl | rfl <;> rfl) (by unfold maxLen; omega) (by omega) sz ?_); intro u w' o1 g1; obtain ⟨gu, cu, rfl, -⟩ := row_form o1 (by omega); have O1 := Lib.hid (And.intro o1 g1); clear o1 g1)
      refine ⟨c_T8 O2.out O1.out.2, gu, cu, upd_eq, ?_⟩
      rw [upd_eq]
      exact pts_mF (base := _) O1.out.1
    · intro o ho us w hS hV QE hQ
      simp only [List.getElem?_toArray, List.getElem?_cons_succ, List.getElem?_cons_zero] at ho
      obtain rfl := Option.some.inj ho
      have g := hS.2 (Below.refl _ _)
      have sz := hS.1
      clear cw8_0_0 cw8_0_1 cw8_0_2 cw8_1_0 cw8_1_1 cw8_1_2 cw8_2_0 cw8_2_1 cw8_2_2 m0 m1 m2 m3 q1 q2 q3
      simp only [Og.putN, List.getElem?_toArray, List.getElem?_cons_succ, List.getElem?_cons_zero, Act.put, List.setIfInBounds_toArray, List.set_cons_zero, List.set_cons_succ] at hQ ⊢
      obtain ⟨g8, c8, e8, P8⟩ := hV 8 (by simp [cU])
      rw [e8] at P8
      simp only [e8] at hQ ⊢
      have C9 := Lib.hid (yes_Closest w P8 HM.out)
      clear e8 P8
      go_wp2_with fail
      go_at_call 17
      (with_reducible refine C9.out.mono ?_)
      rintro e w' ⟨a', b', hb', rfl, g9⟩
      obtain ⟨ea, eb⟩ := HA.out a' b' hb'
      have HB9' := Lib.hid (And.intro hb' g9)
      clear hb' g9
      go_wp2_with fail
      subst ea eb
      exact ⟨_, rfl, cT_gr (by decide) trivial HB9'.out.2, upd_eq, HB9'.out.1⟩
    · intro o ho us w hS hV QE hQ
      simp only [List.getElem?_toArray, List.getElem?_cons_succ, List.getElem?_cons_zero] at ho
      obtain rfl := Option.some.inj ho
      have g := hS.2 (Below.refl _ _)
      have sz := hS.1
      clear cw8_0_0 cw8_0_1 cw8_0_2 cw8_1_0 cw8_1_1 cw8_1_2 cw8_2_0 cw8_2_1 cw8_2_2 m0 m1 m2 m3 q1 q2 q3
      simp only [Og.putN, List.getElem?_toArray, List.getElem?_cons_succ, List.getElem?_cons_zero, Act.put, List.setIfInBounds_toArray, List.set_cons_zero, List.set_cons_succ] at hQ ⊢
      have e9 : us 9 = _ := (hV 9 (by simp [cU])).1
      simp only [e9]
      go_wp2_with fail
      exact ⟨cT_gr (by decide) trivial (by go_grown), upd_eq⟩
    · intro o ho us w hS hV QE hQ
      simp only [List.getElem?_toArray, List.getElem?_cons_succ, List.getElem?_cons_zero] at ho
      obtain rfl := Option.some.inj ho
      have g := hS.2 (Below.refl _ _)
      have sz := hS.1
      clear cw8_0_0 cw8_0_1 cw8_0_2 cw8_1_0 cw8_1_1 cw8_1_2 cw8_2_0 cw8_2_1 cw8_2_2 m0 m1 m2 m3 q1 q2 q3
      simp only [Og.putN, List.getElem?_toArray, List.getElem?_cons_succ, List.getElem?_cons_zero, Act.put, List.setIfInBounds_toArray, List.set_cons_zero, List.set_cons_succ] at hQ ⊢
      have e10 : us 10 = _ := hV 10 (by simp [cU])
      simp only [e10]
      go_wp2_with fail
      exact ⟨cT_gr (by decide) trivial (by go_grown), upd_eq⟩
    · intro o ho us w hS hV QE hQ
      simp only [List.getElem?_toArray, List.getElem?_cons_succ, List.getElem?_cons_zero] at ho
      obtain rfl := Option.some.inj ho
      have g := hS.2 (Below.refl _ _)
      have sz := hS.1
      clear cw8_0_0 cw8_0_1 cw8_0_2 cw8_1_0 cw8_1_1 cw8_1_2 cw8_2_0 cw8_2_1 cw8_2_2 m0 m1 m2 m3 q1 q2 q3
      simp only [Og.putN, List.getElem?_toArray, List.getElem?_cons_succ, List.getElem?_cons_zero, Act.put, List.setIfInBounds_toArray, List.set_cons_zero, List.set_cons_succ] at hQ ⊢
      have e10 : us 10 = _ := hV 10 (by simp [cU])
      simp only [e10]
      go_wp2_with fail
      exact ⟨cT_gr (by decide) trivial (by go_grown), upd_eq⟩
    · intro o ho us w hS hV QE hQ
      simp only [List.getElem?_toArray, List.getElem?_cons_succ, List.getElem?_cons_zero] at ho
      obtain rfl := Option.some.inj ho
      have g := hS.2 (Below.refl _ _)
      have sz := hS.1
      clear cw8_0_0 cw8_0_1 cw8_0_2 cw8_1_0 cw8_1_1 cw8_1_2 cw8_2_0 cw8_2_1 cw8_2_2 m0 m1 m2 m3 q1 q2 q3
      simp only [Og.putN, List.getElem?_toArray, List.getElem?_cons_succ, List.getElem?_cons_zero, Act.put, List.setIfInBounds_toArray, List.set_cons_zero, List.set_cons_succ] at hQ ⊢
      have e10 : us 10 = _ := hV 10 (by simp [cU])
      simp only [e10]
      go_wp2_with fail
      exact ⟨cT_gr (by decide) trivial (by go_grown), upd_eq⟩
    · intro o ho us w hS hV QE hQ
      simp only [List.getElem?_toArray, List.getElem?_cons_succ, List.getElem?_cons_zero] at ho
      obtain rfl := Option.some.inj ho
      have g := hS.2 (Below.refl _ _)
      have sz := hS.1
      clear cw8_0_0 cw8_0_1 cw8_0_2 cw8_1_0 cw8_1_1 cw8_1_2 cw8_2_0 cw8_2_1 cw8_2_2 m0 m1 m2 m3 q1 q2 q3
      simp only [Og.putN, List.getElem?_toArray, List.getElem?_cons_succ, List.getElem?_cons_zero, Act.put, List.setIfInBounds_toArray, List.set_cons_zero, List.set_cons_succ] at hQ ⊢
      have e10 : us 10 = _ := hV 10 (by simp [cU])
      simp only [e10]
      go_wp2_with fail
      exact ⟨cT_gr (by decide) trivial (by go_grown), upd_eq⟩
    · intro o ho us w hS hV QE hQ
      simp only [List.getElem?_toArray, List.getElem?_cons_succ, List.getElem?_cons_zero] at ho
      obtain rfl := Option.some.inj ho
      have g := hS.2 (Below.refl _ _)
      have sz := hS.1
      clear cw8_0_0 cw8_0_1 cw8_0_2 cw8_1_0 cw8_1_1 cw8_1_2 cw8_2_0 cw8_2_1 cw8_2_2 m0 m1 m2 m3 q1 q2 q3
      simp only [Og.putN, List.getElem?_toArray, List.getElem?_cons_succ, List.getElem?_cons_zero, Act.put, List.setIfInBounds_toArray, List.set_cons_zero, List.set_cons_succ] at hQ ⊢
      go_wp2_with fail
      exact ⟨cT_gr (by decide) trivial (by go_grown), w.heap.size, upd_eq, sz, MapKept.heap_alloc w _ |>.1⟩
    · intro o ho us w hS hV QE hQ
      simp only [List.getElem?_toArray, List.getElem?_cons_succ, List.getElem?_cons_zero] at ho
      obtain rfl := Option.some.inj ho
      have g := hS.2 (Below.refl _ _)
      have sz := hS.1
      clear cw8_0_0 cw8_0_1 cw8_0_2 cw8_1_0 cw8_1_1 cw8_1_2 cw8_2_0 cw8_2_1 cw8_2_2 m0 m1 m2 m3 q1 q2 q3
      simp only [Og.putN, List.getElem?_toArray, List.getElem?_cons_succ, List.getElem?_cons_zero, Act.put, List.setIfInBounds_toArray, List.set_cons_zero, List.set_cons_succ] at hQ ⊢
      have e11 : us 11 = _ := hV 11 (by simp [cU])
      simp only [e11]
      go_wp2_with fail
      exact ⟨cT_gr (by decide) trivial (by go_grown), upd_eq⟩
    · intro o ho us w hS hV QE hQ
      simp only [List.getElem?_toArray, List.getElem?_cons_succ, List.getElem?_cons_zero] at ho
      obtain rfl := Option.some.inj ho
      have g := hS.2 (Below.refl _ _)
      have sz := hS.1
      clear cw8_0_0 cw8_0_1 cw8_0_2 cw8_1_0 cw8_1_1 cw8_1_2 cw8_2_0 cw8_2_1 cw8_2_2 m0 m1 m2 m3 q1 q2 q3
      simp only [Og.putN, List.getElem?_toArray, List.getElem?_cons_succ, List.getElem?_cons_zero, Act.put, List.setIfInBounds_toArray, List.set_cons_zero, List.set_cons_succ] at hQ ⊢
      have e12 : us 12 = _ := hV 12 (by simp [cU])
      simp only [e12]
      go_wp2_with fail
      exact ⟨cT_gr (by decide) trivial (by go_grown), upd_eq⟩
    · intro o ho us w hS hV QE hQ
      simp only [List.getElem?_toArray, List.getElem?_cons_succ, List.getElem?_cons_zero] at ho
      obtain rfl := Option.some.inj ho
      have g := hS.2 (Below.refl _ _)
      have sz := hS.1
      clear cw8_0_0 cw8_0_1 cw8_0_2 cw8_1_0 cw8_1_1 cw8_1_2 cw8_2_0 cw8_2_1 cw8_2_2 m0 m1 m2 m3 q1 q2 q3
      simp only [Og.putN, List.getElem?_toArray, List.getElem?_cons_succ, List.getElem?_cons_zero, Act.put, List.setIfInBounds_toArray, List.set_cons_zero, List.set_cons_succ] at hQ ⊢
      have e13 : us 13 = _ := hV 13 (by simp [cU])
      obtain ⟨p, e15, hp, hh⟩ := hV 15 (by simp [cU])
      simp only [e13, e15] at hQ ⊢
      have x0 := Hm.cell_of_heap hh 0
      have x1 := Hm.cell_of_heap hh 1
      have x2 := Hm.cell_of_heap hh 2
      have y0 := Hm.frozen_of_heap hh 0
      have y1 := Hm.frozen_of_heap hh 1
      have y2 := Hm.frozen_of_heap hh 2
      have E15 := Lib.hid (And.intro e15 hh)
      simp only [List.getElem?_toArray, List.getElem?_cons_succ, List.getElem?_cons_zero] at x0 x1 x2
      clear e13 e15 hh
      go_wp2_with fail
      refine ⟨c_T18 (by simp) (fun k => ((k.setCell (p := ⟨p, 0, none⟩) hp _).setCell (p := ⟨p, 1, none⟩) hp _).setCell (p := ⟨p, 2, none⟩) hp _), .nilIface, p, by rw [upd_ne (by decide)]; exact E15.out.1, hp, ?_⟩
      exact Hm.heap_set_same (Hm.heap_set_same (Hm.heap_set_same E15.out.2))
    · intro o ho us w hS hV QE hQ
      simp only [List.getElem?_toArray, List.getElem?_cons_succ, List.getElem?_cons_zero] at ho
      obtain rfl := Option.some.inj ho
      have g := hS.2 (Below.refl _ _)
      have sz := hS.1
      clear cw8_0_0 cw8_0_1 cw8_0_2 cw8_1_0 cw8_1_1 cw8_1_2 cw8_2_0 cw8_2_1 cw8_2_2 m0 m1 m2 m3 q1 q2 q3
      simp only [Og.putN, List.getElem?_toArray, List.getElem?_cons_succ, List.getElem?_cons_zero, Act.put, List.setIfInBounds_toArray, List.set_cons_zero, List.set_cons_succ] at hQ ⊢
      have e14 : us 14 = _ := hV 14 (by simp [cU])
      simp only [e14]
      go_wp2_with fail
      exact ⟨cT_gr (by decide) trivial (by go_grown), upd_eq⟩
    · intro us w hS hV
      have g := hS.2 (Below.refl _ _)
      have bst := (hV 9 (by decide) rfl).2
      have e16 : us 16 = _ := hV 16 (by decide) rfl
      have e17 : us 17 = _ := hV 17 (by decide) rfl
      have e19 : us 19 = _ := hV 19 (by decide) rfl
      obtain ⟨p, e15, hp, hh⟩ := hV 18 (by decide) rfl
      have hs0 : sqN (mF n X i) (mF n Y i) A.1 A.2 = 0 := close_zero hin bst
      rw [hs0] at hh
      have x0 := Hm.cell_of_heap hh 0
      have x1 := Hm.cell_of_heap hh 1
      have x2 := Hm.cell_of_heap hh 2
      have zp := World.block_lt_of_cell? _ _ x0
      simp only [List.getElem?_toArray, List.getElem?_cons_succ, List.getElem?_cons_zero] at x0 x1 x2
      have lt1 : decide ((A.1 : Int) < (A.2 : Int)) = true := decide_eq_true (by have := bst.lt; omega)
      have lt2 : decide (A.1 < A.2) = true := decide_eq_true (by have := bst.lt; omega)
      have GF := Lib.hid (Gr.trans HGW.out g)
      clear cw8_0_0 cw8_0_1 cw8_0_2 cw8_1_0 cw8_1_1 cw8_1_2 cw8_2_0 cw8_2_1 cw8_2_2 m0 m1 m2 m3 q1 q2 q3
      simp only [Og.putN, List.getElem?_toArray, List.getElem?_cons_succ, List.getElem?_cons_zero, Act.put, List.setIfInBounds_toArray, List.set_cons_zero, List.set_cons_succ, e15, e16, e17, e19]
      clear hV hS bst e15 e16 e17 e19 hh hs0 hp
      go_wp2_with fail
      go_at_call 8
      (with_reducible refine (HAW.out _ GF.out).mono ?_)
      rintro e w9 ⟨rfl, g9⟩
      go_wp2_with fail
      go_ret
      exact ⟨rfl, Gr.trans GF.out g9⟩
end Go.Proofs.YtogflfepkddbhaaDoor
