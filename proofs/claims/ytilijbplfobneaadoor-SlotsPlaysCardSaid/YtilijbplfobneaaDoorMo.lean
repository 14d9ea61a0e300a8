/- the document's page: Set and Insert, refused; Insert -/
import Derived.Test.YtilijbplfobneaaDoorMn
namespace Go.Proofs.YtilijbplfobneaaDoor
set_option linter.unusedVariables false
set_option linter.unusedSimpArgs false
open Go.ChangeShapes Go.WideShapes Go.ChangeAt Go.RowKit

section
variable {base q : Nat} {Z : Nat → Prop} {kd id : Int} {S : List Sl} {bv hv : Value} {xs : List Value}
theorem reS_cases {S : List Sl} {n m k : Nat} (he : reS S n m = k + 1) : (400 < m ∧ k + 1 = 13) ∨ (¬ 400 < m ∧ k + 1 = 8 ∧ (60 ≤ n ∨ (¬ 60 ≤ n ∧ 512 + szO (S.getD n none) < usS S + m + (if n = S.length then 4 else 0)))) := by
  unfold reS at he
  by_cases h1 : 400 < m
  · rw [if_pos h1] at he; exact Or.inl ⟨h1, by omega⟩
  · rw [if_neg h1] at he
    by_cases h2 : 60 ≤ n
    · rw [if_pos h2] at he; exact Or.inr ⟨h1, by omega, Or.inl h2⟩
    · rw [if_neg h2] at he
      by_cases h3 : 512 + szO (S.getD n none) < usS S + m + (if n = S.length then 4 else 0)
      · rw [if_pos h3] at he; exact Or.inr ⟨h1, by omega, Or.inr ⟨h2, h3⟩⟩
      · rw [if_neg h3] at he; omega
theorem reS_ok {S : List Sl} {n m : Nat} (he : reS S n m = 0) : ¬ 400 < m ∧ ¬ 60 ≤ n ∧ ¬ 512 + szO (S.getD n none) < usS S + m + (if n = S.length then 4 else 0) := by
  unfold reS at he
  by_cases h1 : 400 < m
  · rw [if_pos h1] at he; omega
  · rw [if_neg h1] at he
    by_cases h2 : 60 ≤ n
    · rw [if_pos h2] at he; omega
    · rw [if_neg h2] at he
      by_cases h3 : 512 + szO (S.getD n none) < usS S + m + (if n = S.length then 4 else 0)
      · rw [if_pos h3] at he; omega
      · exact ⟨h1, h2, h3⟩
theorem ins_facts {us m : Nat} (h1 : us ≤ 30000) (h3 : m ≤ 1000) : wrap64 ((us : Int) + (m : Int)) = (us : Int) + (m : Int) ∧ IntKind.i64.wrap ((us : Int) + (m : Int)) = (us : Int) + (m : Int) ∧ wrap64 ((us : Int) + (m : Int) + 4) = (us : Int) + (m : Int) + 4 ∧ IntKind.i64.wrap ((us : Int) + (m : Int) + 4) = (us : Int) + (m : Int) + 4 :=
  ⟨wr_small (by omega), wk_small (by omega), wr_small (by omega), wk_small (by omega)⟩
set_option maxHeartbeats 1000000 in
set_option maxRecDepth 100000 in
theorem r_set_no {k : Nat} (n m cap : Nat) (ad : Option Addr) (hh : (S.getD n none).isSome = true) (he : reS S n m = k + 1) (W : World) (h : RefP base W q Z kd id S bv hv xs) :
    Calls Tryd.prog 15 #[.pointer (some ⟨q, 0, none⟩), .int .i64 n, .slice ad m cap] W fun e w' => e = .returned (.int .i64 (k + 1 : Nat)) ∧ Gr W w' := by
  have hlt := has_lt hh
  have A1 := fun w (g : Gr W w) => r_is (n : Int) w (refP_gr h g)
  have A2 := fun w (g : Gr W w) => r_used w (refP_gr h g)
  rw [hasS_nat, hh] at A1
  have h60 := h.le
  have hus := usS_le2 h
  have hzu := szT_le_us S hlt
  obtain ⟨D, E, ha, ba, hc, bc, rfl, rfl, hp, l1, l2, m1, m2, hcc⟩ := refP_rows h
  obtain ⟨rfl, rfl, sD, sE⟩ := hp (by omega)
  obtain ⟨-, -, -, va, vc, ec, -⟩ := hcc n hlt
  obtain ⟨sq, -, -, c2, -, -, -⟩ := refP_cells h
  clear hcc hp h
  rcases reS_cases he with ⟨h4, hk⟩ | ⟨h4, hk, h5⟩
  · rw [hk]
    have t1 : decide ((400 : Int) < (m : Int)) = true := decide_eq_true (by omega)
    clear hk he
    have H1 := Lib.hid A1
    have H2 := Lib.hid A2
    clear A1 A2
    go_enter Tryd.func15, Tryd.ntmps15
    go_wp2_with fail
    go_at_call 50
    refine (H1.out _ (by go_grown)).mono ?_
    rintro e w1 ⟨rfl, g1⟩
    go_wp2_with fail
    go_ret
    exact ⟨rfl, g1⟩
  · rw [hk]
    rw [if_neg (show ¬ n = S.length by omega)] at h5
    have t1 : decide ((400 : Int) < (m : Int)) = false := decide_eq_false (by omega)
    have u2 : (n : Int) < (S.length : Int) := by omega
    have u3 : (0 : Int) ≤ (n : Int) := by omega
    have u4 : (n : Int) < (bc : Int) := by omega
    generalize szO (S.getD n none) = z at *
    generalize usS S = us at *
    have tz : decide ((512 : Int) < (us : Int) - (z : Int) + (m : Int)) = true := decide_eq_true (by omega)
    have tz2 : (512 : Int) < (us : Int) - (z : Int) + (m : Int) := by omega
    have hm1000 : m ≤ 1000 := by omega
    obtain ⟨f1, f2, f3, f4⟩ := set_facts hus hzu hm1000
    clear hk he h5 hus hzu hlt h60 hh
    generalize S.length = len at *
    have H1 := Lib.hid A1
    have H2 := Lib.hid A2
    clear A1 A2
    go_enter Tryd.func15, Tryd.ntmps15
    go_wp2_with fail
    go_at_call 50
    refine (H1.out _ (by go_grown)).mono ?_
    rintro e w1 ⟨rfl, g1⟩
    have G1 : Gr W w1 := g1
    have k2 := cell_gr g1 c2
    have kE := cell_gr g1 ec
    clear g1 c2 ec sD sE sq
    go_upto_region 5 with fail
    have gw1 := G1
    go_wp2_with fail
    try simp only [List.append]
    refine Od.wp_region_ord [(0, false), (2, false), (3, false), (4, false), (5, false), (6, false), (7, false), (8, false), (9, false), (11, false), (12, false), (1, true), (10, false), (13, false), (14, false)] (by kernel_rfl) (by kernel_rfl) ?_
    intro wa hwa KQ hKQ
    have cwa_0_0 : wa.cell? ⟨q, 2, none⟩ = some (.slice (some ⟨E, 0, none⟩) len bc) := cell_gr hwa (by go_simp)
    have zwa_0 : q < wa.heap.size := World.block_lt_of_cell? _ _ cwa_0_0
    have cwa_1_0 : wa.cell? ⟨E, n, none⟩ = some (.slice va z vc) := cell_gr hwa (by go_simp)
    have zwa_1 : E < wa.heap.size := World.block_lt_of_cell? _ _ cwa_1_0
    have gwa : Gr W wa := Gr.trans (by have gg := gw1; have gs := gg.size; go_grown) hwa
    clear gw1
    clear hwa
    repeat (first | (refine Od.wpO_skip (by simp only [List.getElem?_toArray, List.getElem?_cons_succ, List.getElem?_cons_zero] <;> rfl) rfl ?_; simp only [Act.put, List.setIfInBounds_toArray, List.set_cons_zero, List.set_cons_succ]) | (refine Od.wpO_pure (by simp only [List.getElem?_toArray, List.getElem?_cons_succ, List.getElem?_cons_zero] <;> rfl) rfl ?_; apply Exists.intro; refine ⟨?_, ?_⟩; (· intro wx gx; obtain ⟨mx, rfl⟩ := spread_of_gr gx; clear gx; all_goals (apply Od.pAt_of_quiet; intro K hK; go_big_quiet_op; first | exact hK _ rfl | (apply Exists.intro; refine ⟨fun _ => ?_, ?_⟩; (· fail); exact hK _ rfl))); try simp only [Act.put, List.setIfInBounds_toArray, List.set_cons_zero, List.set_cons_succ]))
    refine Od.wpO_call (by simp only [List.getElem?_toArray, List.getElem?_cons_succ, List.getElem?_cons_zero] <;> rfl) rfl ?_
    intro QS hQS
    go_wp2_with fail
    go_at_call 48
    (with_reducible refine ((H2.out _ gwa)).mono ?_)
    rintro e wb ⟨rfl, hwb⟩
    go_wp2_with fail
    apply Exists.intro
    refine ⟨?_, hwb, ?_⟩
    · simp only [Act.put, List.setIfInBounds_toArray, List.set_cons_zero, List.set_cons_succ]; rfl
    have cwb_0_0 : wb.cell? ⟨q, 2, none⟩ = some (.slice (some ⟨E, 0, none⟩) len bc) := cell_gr hwb (by go_simp)
    have zwb_0 : q < wb.heap.size := World.block_lt_of_cell? _ _ cwb_0_0
    have cwb_1_0 : wb.cell? ⟨E, n, none⟩ = some (.slice va z vc) := cell_gr hwb (by go_simp)
    have zwb_1 : E < wb.heap.size := World.block_lt_of_cell? _ _ cwb_1_0
    have gwb : Gr W wb := Gr.trans (by have gg := gwa; have gs := gg.size; go_grown) hwb
    clear gwa zwa_0 cwa_0_0 zwa_1 cwa_1_0
    clear hwb
    try simp only [Act.put, List.setIfInBounds_toArray, List.set_cons_zero, List.set_cons_succ]
    repeat (first | (refine Od.wpO_skip (by simp only [List.getElem?_toArray, List.getElem?_cons_succ, List.getElem?_cons_zero] <;> rfl) rfl ?_; simp only [Act.put, List.setIfInBounds_toArray, List.set_cons_zero, List.set_cons_succ]) | (refine Od.wpO_pure (by simp only [List.getElem?_toArray, List.getElem?_cons_succ, List.getElem?_cons_zero] <;> rfl) rfl ?_; apply Exists.intro; refine ⟨?_, ?_⟩; (· intro wx gx; obtain ⟨mx, rfl⟩ := spread_of_gr gx; clear gx; all_goals (apply Od.pAt_of_quiet; intro K hK; go_big_quiet_op; first | exact hK _ rfl | (apply Exists.intro; refine ⟨fun _ => ?_, ?_⟩; (· fail); exact hK _ rfl))); try simp only [Act.put, List.setIfInBounds_toArray, List.set_cons_zero, List.set_cons_succ]))
    refine Od.wpO_nil (hKQ _ _ ?_)
    clear hKQ KQ
    go_wp2_with fail
    go_ret
    exact ⟨rfl, gwb⟩
set_option maxHeartbeats 4000000 in
set_option maxRecDepth 100000 in
theorem r_insert_no {k : Nat} (m cap : Nat) (ad : Option Addr) (he : reS S (lfS S) m = k + 1) (W : World) (h : RefP base W q Z kd id S bv hv xs) :
    Calls Tryd.prog 13 #[.pointer (some ⟨q, 0, none⟩), .slice ad m cap] W fun e w' => e = .returned (.tuple #[.int .i64 (lfS S : Nat), .int .i64 (k + 1 : Nat)]) ∧ Gr W w' := by
  have h60 := h.le
  have hus := usS_le2 h
  have A2 := fun w (g : Gr W w) => r_used w (refP_gr h g)
  have hbf := lfS_before S
  have hat := lfS_at S
  have hle := lfS_le S
  have hcs := reS_cases he
  have hz0 : szO (S.getD (lfS S) none) = 0 := by rw [lfS_at]; rfl
  rw [hz0] at hcs
  obtain ⟨sq, -, -, c2, c3, -, -⟩ := refP_cells h
  obtain ⟨D, E, ha, ba, hc, bc, rfl, rfl, hp, l1, l2, m1, m2, hcc⟩ := refP_rows h
  have hfl : ∀ j, j < S.length → W.cell? ⟨D, j, none⟩ = some (.bool (S.getD j none).isSome) := fun j hj => (hcc j hj).1
  have hp2 : 0 < S.length → ha = some ⟨D, 0, none⟩ ∧ ba = some ⟨E, 0, none⟩ := fun h => ⟨(hp h).1, (hp h).2.1⟩
  have HF := Lib.hid (And.intro hfl (And.intro hbf hat))
  clear h hp hcc hfl hbf hat
  obtain ⟨f, hf⟩ : ∃ f, lfS S = f := ⟨_, rfl⟩
  obtain ⟨len, hlen⟩ : ∃ len, S.length = len := ⟨_, rfl⟩
  rw [hf] at hcs ⊢
  rw [hlen] at hcs
  rw [hf] at hle HF
  rw [hlen] at hle HF l1 l2 hp2 c2 c3 h60
  generalize usS S = us at *
  clear he hz0 hf hlen
  rcases hcs with ⟨h4, hk⟩ | ⟨h4, hk, h5⟩
  · rw [hk]
    have t1 : decide ((400 : Int) < (m : Int)) = true := decide_eq_true (by omega)
    clear hk
    have H2 := Lib.hid A2
    clear A2
    go_enter Tryd.func13, Tryd.ntmps13
    go_wp2_with fail
    go_loopg [6] f (fun k x wr => ∃ i : Nat, x = .int .i64 i ∧ i ≤ f ∧ k = f - i ∧ Gr W wr)
    case atStart => exact ⟨0, rfl, by omega, by omega, by go_grown⟩
    case round =>
      obtain ⟨i, rfl, hi, hk, hg⟩ := hrel
      have q2 := cell_gr hg c2
      have q3 := cell_gr hg c3
      have s3 := World.block_lt_of_cell? _ _ q3
      by_cases hif : i < f
      · have ti : decide ((i : Int) < (len : Int)) = true := decide_eq_true (by omega)
        have ti2 : decide (i < len) = true := decide_eq_true (by omega)
        have ti3 : (i : Int) < (len : Int) := by omega
        have ti4 : (i : Int) < (hc : Int) := by omega
        obtain ⟨rfl, rfl⟩ := hp2 (by omega)
        have k0 := HF.out.1 i (by omega)
        rw [HF.out.2.1 i hif] at k0
        have q0 := cell_gr hg k0
        have sD := World.block_lt_of_cell? _ _ q0
        clear k0
        go_wp2_with fail
        go_roundg (f - (i + 1))
        case measure => omega
        case rel => exact ⟨i + 1, by go_num, by omega, by omega, hg⟩
      · obtain rfl : i = f := by omega
        by_cases hfl : i < len
        · have ti : decide ((i : Int) < (len : Int)) = true := decide_eq_true (by omega)
          have ti2 : decide (i < len) = true := decide_eq_true (by omega)
          have ti3 : (i : Int) < (len : Int) := by omega
          have ti4 : (i : Int) < (hc : Int) := by omega
          have tn : ((i : Int) == (len : Int)) = false := by simp; omega
          have tn2 : (i == len) = false := by simp; omega
          have tn3 : ¬ i = len := by omega
          obtain ⟨rfl, rfl⟩ := hp2 (by omega)
          have k0 := HF.out.1 i hfl
          rw [HF.out.2.2] at k0
          have q0 := cell_gr hg k0
          have sD := World.block_lt_of_cell? _ _ q0
          clear k0
          go_wp2_with fail
          go_ret2
          exact ⟨rfl, hg⟩
        · obtain rfl : i = len := by omega
          have ti : decide ((i : Int) < (i : Int)) = false := decide_eq_false (by omega)
          have ti3 : ¬ (i : Int) < (i : Int) := by omega
          have tn : ((i : Int) == (i : Int)) = true := by simp
          have tn2 : (i == i) = true := by simp
          go_wp2_with fail
          go_ret2
          exact ⟨rfl, hg⟩
  · rw [hk]
    have t1 : decide ((400 : Int) < (m : Int)) = false := decide_eq_false (by omega)
    clear hk
    have H2 := Lib.hid A2
    clear A2
    go_enter Tryd.func13, Tryd.ntmps13
    go_wp2_with fail
    go_loopg [6] f (fun k x wr => ∃ i : Nat, x = .int .i64 i ∧ i ≤ f ∧ k = f - i ∧ Gr W wr)
    case atStart => exact ⟨0, rfl, by omega, by omega, by go_grown⟩
    case round =>
      obtain ⟨i, rfl, hi, hk, hg⟩ := hrel
      have q2 := cell_gr hg c2
      have q3 := cell_gr hg c3
      have s3 := World.block_lt_of_cell? _ _ q3
      by_cases hif : i < f
      · have ti : decide ((i : Int) < (len : Int)) = true := decide_eq_true (by omega)
        have ti2 : decide (i < len) = true := decide_eq_true (by omega)
        have ti3 : (i : Int) < (len : Int) := by omega
        have ti4 : (i : Int) < (hc : Int) := by omega
        obtain ⟨rfl, rfl⟩ := hp2 (by omega)
        have k0 := HF.out.1 i (by omega)
        rw [HF.out.2.1 i hif] at k0
        have q0 := cell_gr hg k0
        have sD := World.block_lt_of_cell? _ _ q0
        clear k0
        go_wp2_with fail
        go_roundg (f - (i + 1))
        case measure => omega
        case rel => exact ⟨i + 1, by go_num, by omega, by omega, hg⟩
      · obtain rfl : i = f := by omega
        by_cases hfl : i < len
        · have ti : decide ((i : Int) < (len : Int)) = true := decide_eq_true (by omega)
          have ti2 : decide (i < len) = true := decide_eq_true (by omega)
          have ti3 : (i : Int) < (len : Int) := by omega
          have ti4 : (i : Int) < (hc : Int) := by omega
          have tn : ((i : Int) == (len : Int)) = false := by simp; omega
          have tn2 : (i == len) = false := by simp; omega
          have tn3 : ¬ i = len := by omega
          obtain ⟨rfl, rfl⟩ := hp2 (by omega)
          have k0 := HF.out.1 i hfl
          rw [HF.out.2.2] at k0
          have q0 := cell_gr hg k0
          have sD := World.block_lt_of_cell? _ _ q0
          clear k0
          by_cases h6 : 60 ≤ i
          · exact absurd h6 (by omega)
          · have t6 : decide ((60 : Int) ≤ (i : Int)) = false := decide_eq_false (by omega)
            have h7 : 512 < us + m  := by
              rcases h5 with h | ⟨-, h⟩
              · omega
              · rw [if_neg tn3] at h; omega
            have t7 : decide ((512 : Int) < (us : Int) + (m : Int)) = true := decide_eq_true (by omega)
            have hm1000 : m ≤ 1000 := by omega
            obtain ⟨f1, f2, f3, f4⟩ := ins_facts hus hm1000
            clear h5
            go_wp2_with fail
            go_at_call 48
            refine (H2.out _ hg).mono ?_
            rintro e w1 ⟨rfl, g1⟩
            have k2 := cell_gr g1 q2
            have k3 := cell_gr g1 q3
            have sk3 := World.block_lt_of_cell? _ _ k3
            go_wp2_with fail
            go_ret2
            exact ⟨rfl, Gr.trans hg g1⟩
        · obtain rfl : i = len := by omega
          have ti : decide ((i : Int) < (i : Int)) = false := decide_eq_false (by omega)
          have ti3 : ¬ (i : Int) < (i : Int) := by omega
          have tn : ((i : Int) == (i : Int)) = true := by simp
          have tn2 : (i == i) = true := by simp
          by_cases h6 : 60 ≤ i
          · have t6 : decide ((60 : Int) ≤ (i : Int)) = true := decide_eq_true (by omega)
            by_cases h7 : 512 < us + m + 4
            · have t7 : decide ((512 : Int) < (us : Int) + (m : Int) + 4) = true := decide_eq_true (by omega)
              have hm1000 : m ≤ 1000 := by omega
              obtain ⟨f1, f2, f3, f4⟩ := ins_facts hus hm1000
              clear h5
              go_wp2_with fail
              go_at_call 48
              refine (H2.out _ hg).mono ?_
              rintro e w1 ⟨rfl, g1⟩
              have k2 := cell_gr g1 q2
              have k3 := cell_gr g1 q3
              have sk3 := World.block_lt_of_cell? _ _ k3
              go_wp2_with fail
              go_ret2
              exact ⟨rfl, Gr.trans hg g1⟩
            · have t7 : decide ((512 : Int) < (us : Int) + (m : Int) + 4) = false := decide_eq_false (by omega)
              have hm1000 : m ≤ 1000 := by omega
              obtain ⟨f1, f2, f3, f4⟩ := ins_facts hus hm1000
              clear h5
              go_wp2_with fail
              go_at_call 48
              refine (H2.out _ hg).mono ?_
              rintro e w1 ⟨rfl, g1⟩
              have k2 := cell_gr g1 q2
              have k3 := cell_gr g1 q3
              have sk3 := World.block_lt_of_cell? _ _ k3
              go_wp2_with fail
              go_ret2
              exact ⟨rfl, Gr.trans hg g1⟩
          · have t6 : decide ((60 : Int) ≤ (i : Int)) = false := decide_eq_false (by omega)
            have h7 : 512 < us + m + 4 := by
              rcases h5 with h | ⟨-, h⟩
              · omega
              · rw [if_pos rfl] at h; omega
            have t7 : decide ((512 : Int) < (us : Int) + (m : Int) + 4) = true := decide_eq_true (by omega)
            have hm1000 : m ≤ 1000 := by omega
            obtain ⟨f1, f2, f3, f4⟩ := ins_facts hus hm1000
            clear h5
            go_wp2_with fail
            go_at_call 48
            refine (H2.out _ hg).mono ?_
            rintro e w1 ⟨rfl, g1⟩
            have k2 := cell_gr g1 q2
            have k3 := cell_gr g1 q3
            have sk3 := World.block_lt_of_cell? _ _ k3
            go_wp2_with fail
            go_ret2
            exact ⟨rfl, Gr.trans hg g1⟩
end
end Go.Proofs.YtilijbplfobneaaDoor
