/- slots: both pages show the same -/
import Derived.Test.YtilijbplfobneaaDoorMq
import Derived.Test.YtilijbplfobneaaDoorMi
import Derived.Test.YtilijbplfobneaaDoorMg
namespace Go.Proofs.YtilijbplfobneaaDoor
set_option linter.unusedVariables false
set_option linter.unusedSimpArgs false
open Go.ChangeShapes Go.WideShapes Go.ChangeAt Go.RowKit Go.Maps

theorem intL_get (l : List Nat) (j : Nat) (h : j < l.length) : (intL l)[j]? = some (.int .i64 ((l.getD j 0 : Nat) : Int)) := by
  unfold intL
  rw [List.getElem?_map, List.getElem?_eq_getElem h, List.getD_eq_getElem?_getD, List.getElem?_eq_getElem h]
  rfl
set_option maxHeartbeats 1000000 in
set_option maxRecDepth 100000 in
theorem c_IntsSame {l : List Nat} {b1 b2 n : Nat} {a1 a2 : Option Addr} {c1 c2 : Nat} (W : World) (hn : n = l.length) (hl : n ≤ 1000) (h1 : W.ownsRow b1 3 1 (.slice a1 n c1) n (intL l)) (h2 : W.ownsRow b2 3 1 (.slice a2 n c2) n (intL l)) : Calls Tryd.prog 60 #[.slice a1 n c1, .slice a2 n c2] W fun e w' => e = .returned (.bool true) ∧ Gr W w' := by
  obtain ⟨D, _, _, e1, d1, d2, d3, d4, d5⟩ := rowF h1
  obtain ⟨E, _, _, e2, g1, g2, g3, g4, g5⟩ := rowF h2
  simp only [Value.slice.injEq, true_and] at e1 e2
  obtain ⟨rfl, rfl⟩ := e1
  obtain ⟨rfl, rfl⟩ := e2
  have hc : ∀ j, j < n → W.cell? ⟨D, j, none⟩ = some (.int .i64 ((l.getD j 0 : Nat) : Int)) ∧ W.cell? ⟨E, j, none⟩ = some (.int .i64 ((l.getD j 0 : Nat) : Int)) := fun j hj => by
    refine ⟨?_, ?_⟩
    · rw [(d5 j (by omega)).1, intL_get l j (by omega)]
    · rw [(g5 j (by omega)).1, intL_get l j (by omega)]
  have HC := Lib.hid hc
  have tn : ((n : Int) != (n : Int)) = false := by simp
  clear h1 h2 d5 g5 hc hn
  go_enter Tryd.func60, Tryd.ntmps60
  go_wp2_with fail
  go_loopg [5] n (fun k x wr => ∃ i : Nat, x = .int .i64 i ∧ i ≤ n ∧ k = n - i ∧ Gr W wr)
  case atStart => exact ⟨0, rfl, by omega, by omega, by go_grown⟩
  case round =>
    obtain ⟨i, rfl, hi, hk, hg⟩ := hrel
    by_cases hin : i < n
    · have ti : decide ((i : Int) < (n : Int)) = true := decide_eq_true (by omega)
      have ti2 : decide (i < n) = true := decide_eq_true hin
      have ti3 : (i : Int) < (n : Int) := by omega
      obtain rfl := d1 (by omega)
      obtain rfl := g1 (by omega)
      obtain ⟨x1, x2⟩ := HC.out i hin
      have y1 := cell_gr hg x1
      have y2 := cell_gr hg x2
      generalize l.getD i 0 = z at y1 y2
      clear x1 x2
      go_upto_region 6 with fail
      go_wp2_with fail
      try simp only [List.append]
      refine Od.wp_region_ord [(0, false), (1, false), (2, false), (3, false), (4, false), (5, false), (6, false), (7, false), (8, false)] (by kernel_rfl) (by kernel_rfl) ?_
      intro wa hwa KQ hKQ
      have cwa_0_0 : wa.cell? ⟨D, i, none⟩ = some (.int .i64 (z : Nat)) := cell_gr hwa (by go_simp)
      have zwa_0 : D < wa.heap.size := World.block_lt_of_cell? _ _ cwa_0_0
      have cwa_1_0 : wa.cell? ⟨E, i, none⟩ = some (.int .i64 (z : Nat)) := cell_gr hwa (by go_simp)
      have zwa_1 : E < wa.heap.size := World.block_lt_of_cell? _ _ cwa_1_0
      have gwa : Gr wr wa := Gr.trans (by go_grown) hwa
      skip
      clear hwa
      repeat (first | (refine Od.wpO_skip (by simp only [List.getElem?_toArray, List.getElem?_cons_succ, List.getElem?_cons_zero] <;> rfl) rfl ?_; simp only [Act.put, List.setIfInBounds_toArray, List.set_cons_zero, List.set_cons_succ]) | (refine Od.wpO_pure (by simp only [List.getElem?_toArray, List.getElem?_cons_succ, List.getElem?_cons_zero] <;> rfl) rfl ?_; apply Exists.intro; refine ⟨?_, ?_⟩; (· intro wx gx; obtain ⟨mx, rfl⟩ := spread_of_gr gx; clear gx; all_goals (apply Od.pAt_of_quiet; intro K hK; go_big_quiet_op; first | exact hK _ rfl | (apply Exists.intro; refine ⟨fun _ => ?_, ?_⟩; (· fail); exact hK _ rfl))); try simp only [Act.put, List.setIfInBounds_toArray, List.set_cons_zero, List.set_cons_succ]))
      refine Od.wpO_nil (hKQ _ _ ?_)
      clear hKQ KQ
      have GA := Gr.trans hg gwa
      go_wp2_with fail
      go_roundg (n - (i + 1))
      case measure => omega
      case rel => exact ⟨i + 1, by go_num, by omega, by omega, GA⟩
    · obtain rfl : i = n := by omega
      have ti : decide ((i : Int) < (i : Int)) = false := decide_eq_false (by omega)
      have ti3 : ¬ (i : Int) < (i : Int) := by omega
      go_wp2_with fail
      go_ret
      exact ⟨rfl, hg⟩
section
variable {B : Nat} {C : Option Nat} {kd id : Int} {S : List Sl}
theorem p_kind (W : World) (h : PageS W B C kd id S) : Calls Tryd.prog 59 #[.pointer (some ⟨B, 0, none⟩)] W fun e w' => e = .returned (.int .i64 kd) ∧ Gr W w' := by
  obtain ⟨D, sa, scap, hp, -⟩ := pageS_cells h
  have A1 := fun w (g : Gr W w) => p_none w (pageAt_gr hp g)
  obtain ⟨q0, q1, q2, q3, f3⟩ := hp
  clear h q2 q3 f3 q0
  have H1 := Lib.hid A1
  clear A1
  go_enter Tryd.func59, Tryd.ntmps59
  go_wp2_with fail
  go_at_call 55
  refine (H1.out _ (by go_grown)).mono ?_
  rintro e w1 ⟨rfl, g1⟩
  have k1 := cell_gr g1 q1
  have sk := World.block_lt_of_cell? _ _ k1
  go_wp2_with fail
  go_ret
  exact ⟨rfl, g1⟩
theorem p_idS (W : World) (h : PageS W B C kd id S) : Calls Tryd.prog 41 #[.pointer (some ⟨B, 0, none⟩)] W fun e w' => e = .returned (.int .i64 id) ∧ Gr W w' := by
  obtain ⟨D, sa, scap, hp, -⟩ := pageS_cells h
  have A1 := fun w (g : Gr W w) => p_none w (pageAt_gr hp g)
  obtain ⟨q0, q1, q2, q3, f3⟩ := hp
  clear h q1 q3 f3 q0
  have H1 := Lib.hid A1
  clear A1
  go_enter Tryd.func41, Tryd.ntmps41
  go_wp2_with fail
  go_at_call 55
  refine (H1.out _ (by go_grown)).mono ?_
  rintro e w1 ⟨rfl, g1⟩
  have k1 := cell_gr g1 q2
  have sk := World.block_lt_of_cell? _ _ k1
  go_wp2_with fail
  go_ret
  exact ⟨rfl, g1⟩
theorem p_new_no (kd id : Int) (h : ¬ (0 ≤ kd ∧ kd ≤ 255 ∧ 0 ≤ id ∧ id ≤ 4294967295)) (W : World) : Calls Tryd.prog 7 #[.int .i64 kd, .int .i64 id] W fun e w' => ∃ F, e = .returned (.tuple #[.pointer none, .iface 84 (.pointer (some ⟨F, 0, none⟩))]) ∧ FaultAt w' F pageS 0 1 ∧ Gr W w' := by
  have hq : kd < 0 ∨ (¬ kd < 0 ∧ 255 < kd) ∨ (¬ kd < 0 ∧ ¬ 255 < kd ∧ id < 0) ∨ (¬ kd < 0 ∧ ¬ 255 < kd ∧ ¬ id < 0 ∧ 4294967295 < id) := by omega
  clear h
  rcases hq with a1 | ⟨a1, a2⟩ | ⟨a1, a2, a3⟩ | ⟨a1, a2, a3, a4⟩
  · have t1 : decide (kd < 0) = true := decide_eq_true a1
    go_enter Tryd.func7, Tryd.ntmps7
    go_wp2_with fail
    go_at_call 42
    refine (c_fNew pageS 0 1 _).mono ?_
    rintro e w3 ⟨F, rfl, hf, g3⟩
    go_wp2_with fail
    go_ret2
    exact ⟨F, rfl, hf, Gr.trans (by go_grown) g3⟩
  · have t1 : decide (kd < 0) = false := decide_eq_false a1
    have t2 : decide (255 < kd) = true := decide_eq_true a2
    go_enter Tryd.func7, Tryd.ntmps7
    go_wp2_with fail
    go_at_call 42
    refine (c_fNew pageS 0 1 _).mono ?_
    rintro e w3 ⟨F, rfl, hf, g3⟩
    go_wp2_with fail
    go_ret2
    exact ⟨F, rfl, hf, Gr.trans (by go_grown) g3⟩
  · have t1 : decide (kd < 0) = false := decide_eq_false a1
    have t2 : decide (255 < kd) = false := decide_eq_false a2
    have t3 : decide (id < 0) = true := decide_eq_true a3
    go_enter Tryd.func7, Tryd.ntmps7
    go_wp2_with fail
    go_at_call 42
    refine (c_fNew pageS 0 1 _).mono ?_
    rintro e w3 ⟨F, rfl, hf, g3⟩
    go_wp2_with fail
    go_ret2
    exact ⟨F, rfl, hf, Gr.trans (by go_grown) g3⟩
  · have t1 : decide (kd < 0) = false := decide_eq_false a1
    have t2 : decide (255 < kd) = false := decide_eq_false a2
    have t3 : decide (id < 0) = false := decide_eq_false a3
    have t4 : decide (4294967295 < id) = true := decide_eq_true a4
    go_enter Tryd.func7, Tryd.ntmps7
    go_wp2_with fail
    go_at_call 42
    refine (c_fNew pageS 0 1 _).mono ?_
    rintro e w3 ⟨F, rfl, hf, g3⟩
    go_wp2_with fail
    go_ret2
    exact ⟨F, rfl, hf, Gr.trans (by go_grown) g3⟩
end
theorem c_BytesSame {L : List UInt8} {u v : Value} (W : World) (hu : Row W u L) (hv : Row W v L) (hl : L.length ≤ 1000000000) : Calls Tryd.prog 20 #[u, v] W fun e w' => e = .returned (.bool true) ∧ Gr W w' := by
  have h := c_Bytes W hu hv hl
  rw [decide_eq_true rfl] at h
  exact h
theorem same_facts {us : Nat} (h : us ≤ 512) : IntKind.i64.wrap (512 - (us : Int)) = 512 - (us : Int) ∧ wrap64 (512 - (us : Int)) = 512 - (us : Int) := ⟨wk_small (by omega), wr_small (by omega)⟩
section
variable {base B q : Nat} {C : Option Nat} {Z : Nat → Prop} {S : List Sl} {bv' hv : Value} {xs : List Value}
set_option maxHeartbeats 4000000 in
set_option maxRecDepth 100000 in
theorem c_same (kd id : Nat) (hk : kd ≤ 255) (hid : id ≤ 4294967295) (hu : usS S ≤ 512) (W : World) (hF : FT W) (h : PageS W B C kd id S) (hr : RefP base W q Z kd id S bv' hv xs) : Calls Tryd.prog 23 #[.pointer (some ⟨B, 0, none⟩), .pointer (some ⟨q, 0, none⟩)] W fun e w' => e = .returned (.bool true) ∧ Gr W w' := by
  have A1 := fun w (g : Gr W w) => p_kind w (pageS_gr h g)
  have A2 := fun w (g : Gr W w) => p_idS w (pageS_gr h g)
  have A3 := fun w (g : Gr W w) => p_freeS w (pageS_gr h g)
  have A4 := fun w (g : Gr W w) => r_used w (refP_gr hr g)
  have A5 := fun w (g : Gr W w) => p_slotsS w (pageS_gr h g)
  have A6 := fun w (g : Gr W w) => (r_slots w (refP_gr hr g)).mono (fun e w' h => by obtain ⟨a, c, h1, h2, h3⟩ := h; exact (⟨a, c, h1, h2, h3, h3⟩ : ∃ ad c, e = .returned (.slice ad (idxT S S.length).length c) ∧ w'.ownsRow w.heap.size 3 1 (.slice ad (idxT S S.length).length c) (idxT S S.length).length (intL (idxT S S.length)) ∧ Gr w w' ∧ Gr w w'))
  have A7 := fun w (g : Gr W w) => p_bytesS kd id hk hid hu w (ft_gr hF g) (pageS_gr h g)
  have A8 := fun w (g : Gr W w) => (r_bytes kd id hk hid hu w (refP_gr hr g)).mono (fun e w' h => by obtain ⟨x, h1, h2, h3, h4⟩ := h; exact (⟨x, h1, h3, h4, h4⟩ : ∃ x, e = .returned (.slice (some ⟨x, 0, none⟩) 512 512) ∧ Full w' x 512 (pgB kd id S) ∧ Gr w w' ∧ Gr w w'))
  obtain ⟨sq, c0, c1, -, -, -, -⟩ := refP_cells hr
  have h60 := hr.le
  have hT := idxT_le S S.length
  obtain ⟨f1, f2⟩ := same_facts hu
  have tk : ((kd : Int) == (kd : Int)) = true := by simp
  have ti : ((id : Int) == (id : Int)) = true := by simp
  have hl1000 : (idxT S S.length).length ≤ 1000 := by clear f1 f2; omega
  obtain ⟨l, hl⟩ : ∃ l, l = idxT S S.length := ⟨_, rfl⟩
  rw [← hl] at A5 A6 hl1000
  obtain ⟨P, hP⟩ : ∃ P, P = pgB kd id S := ⟨_, rfl⟩
  have hPl : P.length ≤ 1000000000 := by rw [hP, pg_len hu h60]; decide
  rw [← hP] at A7 A8
  generalize usS S = us at *
  have tu : ((512 : Int) - (us : Int) == 512 - (us : Int)) = true := by simp
  clear h hr hF hu h60 hT hl hP hk hid
  have H1 := Lib.hid A1
  have H2 := Lib.hid A2
  have H3 := Lib.hid A3
  have H4 := Lib.hid A4
  have H5 := Lib.hid A5
  have H6 := Lib.hid A6
  have H7 := Lib.hid A7
  have H8 := Lib.hid A8
  clear A1 A2 A3 A4 A5 A6 A7 A8
  go_enter Tryd.func23, Tryd.ntmps23
  go_wp2_with fail
  go_wp2_with fail
  try simp only [List.append]
  refine Od.wp_region_ord [(0, false), (2, false), (3, false), (4, false), (5, false), (1, true), (6, false), (7, false), (8, false), (10, false), (11, false), (12, false), (13, false), (9, true), (14, false), (15, false), (16, false), (17, false), (19, false), (18, true), (20, true), (21, false), (22, false), (23, false), (24, false), (25, false), (27, false), (26, true), (28, true), (29, true), (30, false), (31, false), (32, false), (34, false), (33, true), (35, true), (36, true), (37, false), (38, false)] (by kernel_rfl) (by kernel_rfl) ?_
  intro w0 hw0 KQ hKQ
  have cw0_0_0 : w0.cell? ⟨q, 0, none⟩ = some (.int .i64 (kd : Nat)) := cell_gr hw0 (by go_simp)
  have cw0_0_1 : w0.cell? ⟨q, 1, none⟩ = some (.int .i64 (id : Nat)) := cell_gr hw0 (by go_simp)
  have zw0_0 : q < w0.heap.size := World.block_lt_of_cell? _ _ cw0_0_0
  have gw0 : Gr W w0 := Gr.trans (by go_grown) hw0
  skip
  clear hw0
  repeat (first | (refine Od.wpO_skip (by simp only [List.getElem?_toArray, List.getElem?_cons_succ, List.getElem?_cons_zero] <;> rfl) rfl ?_; simp only [Act.put, List.setIfInBounds_toArray, List.set_cons_zero, List.set_cons_succ]) | (refine Od.wpO_pure (by simp only [List.getElem?_toArray, List.getElem?_cons_succ, List.getElem?_cons_zero] <;> rfl) rfl ?_; apply Exists.intro; refine ⟨?_, ?_⟩; (· intro wx gx; obtain ⟨mx, rfl⟩ := spread_of_gr gx; clear gx; all_goals (apply Od.pAt_of_quiet; intro K hK; go_big_quiet_op; first | exact hK _ rfl | (apply Exists.intro; refine ⟨fun _ => ?_, ?_⟩; (· fail); exact hK _ rfl))); try simp only [Act.put, List.setIfInBounds_toArray, List.set_cons_zero, List.set_cons_succ]))
  refine Od.wpO_call (by simp only [List.getElem?_toArray, List.getElem?_cons_succ, List.getElem?_cons_zero] <;> rfl) rfl ?_
  intro QS hQS
  go_wp2_with fail
  go_at_call 59
  (with_reducible refine ((H1.out _ gw0)).mono ?_)
  rintro e w1 ⟨rfl, hw1⟩
  go_wp2_with fail
  apply Exists.intro
  refine ⟨?_, hw1, ?_⟩
  · simp only [Act.put, List.setIfInBounds_toArray, List.set_cons_zero, List.set_cons_succ]; rfl
  have cw1_0_0 : w1.cell? ⟨q, 0, none⟩ = some (.int .i64 (kd : Nat)) := cell_gr hw1 (by go_simp)
  have cw1_0_1 : w1.cell? ⟨q, 1, none⟩ = some (.int .i64 (id : Nat)) := cell_gr hw1 (by go_simp)
  have zw1_0 : q < w1.heap.size := World.block_lt_of_cell? _ _ cw1_0_0
  have gw1 : Gr W w1 := Gr.trans (by have gg := gw0; have gs := gg.size; go_grown) hw1
  clear gw0 zw0_0 cw0_0_0 cw0_0_1
  clear hw1
  try simp only [Act.put, List.setIfInBounds_toArray, List.set_cons_zero, List.set_cons_succ]
  repeat (first | (refine Od.wpO_skip (by simp only [List.getElem?_toArray, List.getElem?_cons_succ, List.getElem?_cons_zero] <;> rfl) rfl ?_; simp only [Act.put, List.setIfInBounds_toArray, List.set_cons_zero, List.set_cons_succ]) | (refine Od.wpO_pure (by simp only [List.getElem?_toArray, List.getElem?_cons_succ, List.getElem?_cons_zero] <;> rfl) rfl ?_; apply Exists.intro; refine ⟨?_, ?_⟩; (· intro wx gx; obtain ⟨mx, rfl⟩ := spread_of_gr gx; clear gx; all_goals (apply Od.pAt_of_quiet; intro K hK; go_big_quiet_op; first | exact hK _ rfl | (apply Exists.intro; refine ⟨fun _ => ?_, ?_⟩; (· fail); exact hK _ rfl))); try simp only [Act.put, List.setIfInBounds_toArray, List.set_cons_zero, List.set_cons_succ]))
  refine Od.wpO_call (by simp only [List.getElem?_toArray, List.getElem?_cons_succ, List.getElem?_cons_zero] <;> rfl) rfl ?_
  intro QS hQS
  go_wp2_with fail
  go_at_call 41
  (with_reducible refine ((H2.out _ gw1)).mono ?_)
  rintro e w2 ⟨rfl, hw2⟩
  go_wp2_with fail
  apply Exists.intro
  refine ⟨?_, hw2, ?_⟩
  · simp only [Act.put, List.setIfInBounds_toArray, List.set_cons_zero, List.set_cons_succ]; rfl
  have cw2_0_0 : w2.cell? ⟨q, 0, none⟩ = some (.int .i64 (kd : Nat)) := cell_gr hw2 (by go_simp)
  have cw2_0_1 : w2.cell? ⟨q, 1, none⟩ = some (.int .i64 (id : Nat)) := cell_gr hw2 (by go_simp)
  have zw2_0 : q < w2.heap.size := World.block_lt_of_cell? _ _ cw2_0_0
  have gw2 : Gr W w2 := Gr.trans (by have gg := gw1; have gs := gg.size; go_grown) hw2
  clear gw1 zw1_0 cw1_0_0 cw1_0_1
  clear hw2
  try simp only [Act.put, List.setIfInBounds_toArray, List.set_cons_zero, List.set_cons_succ]
  repeat (first | (refine Od.wpO_skip (by simp only [List.getElem?_toArray, List.getElem?_cons_succ, List.getElem?_cons_zero] <;> rfl) rfl ?_; simp only [Act.put, List.setIfInBounds_toArray, List.set_cons_zero, List.set_cons_succ]) | (refine Od.wpO_pure (by simp only [List.getElem?_toArray, List.getElem?_cons_succ, List.getElem?_cons_zero] <;> rfl) rfl ?_; apply Exists.intro; refine ⟨?_, ?_⟩; (· intro wx gx; obtain ⟨mx, rfl⟩ := spread_of_gr gx; clear gx; all_goals (apply Od.pAt_of_quiet; intro K hK; go_big_quiet_op; first | exact hK _ rfl | (apply Exists.intro; refine ⟨fun _ => ?_, ?_⟩; (· fail); exact hK _ rfl))); try simp only [Act.put, List.setIfInBounds_toArray, List.set_cons_zero, List.set_cons_succ]))
  refine Od.wpO_call (by simp only [List.getElem?_toArray, List.getElem?_cons_succ, List.getElem?_cons_zero] <;> rfl) rfl ?_
  intro QS hQS
  go_wp2_with fail
  go_at_call 40
  (with_reducible refine ((H3.out _ gw2)).mono ?_)
  rintro e w3 ⟨rfl, hw3⟩
  go_wp2_with fail
  apply Exists.intro
  refine ⟨?_, hw3, ?_⟩
  · simp only [Act.put, List.setIfInBounds_toArray, List.set_cons_zero, List.set_cons_succ]; rfl
  have cw3_0_0 : w3.cell? ⟨q, 0, none⟩ = some (.int .i64 (kd : Nat)) := cell_gr hw3 (by go_simp)
  have cw3_0_1 : w3.cell? ⟨q, 1, none⟩ = some (.int .i64 (id : Nat)) := cell_gr hw3 (by go_simp)
  have zw3_0 : q < w3.heap.size := World.block_lt_of_cell? _ _ cw3_0_0
  have gw3 : Gr W w3 := Gr.trans (by have gg := gw2; have gs := gg.size; go_grown) hw3
  clear gw2 zw2_0 cw2_0_0 cw2_0_1
  clear hw3
  try simp only [Act.put, List.setIfInBounds_toArray, List.set_cons_zero, List.set_cons_succ]
  repeat (first | (refine Od.wpO_skip (by simp only [List.getElem?_toArray, List.getElem?_cons_succ, List.getElem?_cons_zero] <;> rfl) rfl ?_; simp only [Act.put, List.setIfInBounds_toArray, List.set_cons_zero, List.set_cons_succ]) | (refine Od.wpO_pure (by simp only [List.getElem?_toArray, List.getElem?_cons_succ, List.getElem?_cons_zero] <;> rfl) rfl ?_; apply Exists.intro; refine ⟨?_, ?_⟩; (· intro wx gx; obtain ⟨mx, rfl⟩ := spread_of_gr gx; clear gx; all_goals (apply Od.pAt_of_quiet; intro K hK; go_big_quiet_op; first | exact hK _ rfl | (apply Exists.intro; refine ⟨fun _ => ?_, ?_⟩; (· fail); exact hK _ rfl))); try simp only [Act.put, List.setIfInBounds_toArray, List.set_cons_zero, List.set_cons_succ]))
  refine Od.wpO_call (by simp only [List.getElem?_toArray, List.getElem?_cons_succ, List.getElem?_cons_zero] <;> rfl) rfl ?_
  intro QS hQS
  go_wp2_with fail
  go_at_call 48
  (with_reducible refine ((H4.out _ gw3)).mono ?_)
  rintro e w4 ⟨rfl, hw4⟩
  go_wp2_with fail
  apply Exists.intro
  refine ⟨?_, hw4, ?_⟩
  · simp only [Act.put, List.setIfInBounds_toArray, List.set_cons_zero, List.set_cons_succ]; rfl
  have cw4_0_0 : w4.cell? ⟨q, 0, none⟩ = some (.int .i64 (kd : Nat)) := cell_gr hw4 (by go_simp)
  have cw4_0_1 : w4.cell? ⟨q, 1, none⟩ = some (.int .i64 (id : Nat)) := cell_gr hw4 (by go_simp)
  have zw4_0 : q < w4.heap.size := World.block_lt_of_cell? _ _ cw4_0_0
  have gw4 : Gr W w4 := Gr.trans (by have gg := gw3; have gs := gg.size; go_grown) hw4
  clear gw3 zw3_0 cw3_0_0 cw3_0_1
  clear hw4
  try simp only [Act.put, List.setIfInBounds_toArray, List.set_cons_zero, List.set_cons_succ]
  repeat (first | (refine Od.wpO_skip (by simp only [List.getElem?_toArray, List.getElem?_cons_succ, List.getElem?_cons_zero] <;> rfl) rfl ?_; simp only [Act.put, List.setIfInBounds_toArray, List.set_cons_zero, List.set_cons_succ]) | (refine Od.wpO_pure (by simp only [List.getElem?_toArray, List.getElem?_cons_succ, List.getElem?_cons_zero] <;> rfl) rfl ?_; apply Exists.intro; refine ⟨?_, ?_⟩; (· intro wx gx; obtain ⟨mx, rfl⟩ := spread_of_gr gx; clear gx; all_goals (apply Od.pAt_of_quiet; intro K hK; go_big_quiet_op; first | exact hK _ rfl | (apply Exists.intro; refine ⟨fun _ => ?_, ?_⟩; (· fail); exact hK _ rfl))); try simp only [Act.put, List.setIfInBounds_toArray, List.set_cons_zero, List.set_cons_succ]))
  refine Od.wpO_call (by simp only [List.getElem?_toArray, List.getElem?_cons_succ, List.getElem?_cons_zero] <;> rfl) rfl ?_
  intro QS hQS
  go_wp2_with fail
  go_at_call 61
  (with_reducible refine ((H5.out _ gw4)).mono ?_)
  rintro e w5 ⟨sa5, sc5, rfl, os5, hw5⟩
  go_wp2_with fail
  apply Exists.intro
  refine ⟨?_, hw5, ?_⟩
  · simp only [Act.put, List.setIfInBounds_toArray, List.set_cons_zero, List.set_cons_succ]; rfl
  have cw5_0_0 : w5.cell? ⟨q, 0, none⟩ = some (.int .i64 (kd : Nat)) := cell_gr hw5 (by go_simp)
  have cw5_0_1 : w5.cell? ⟨q, 1, none⟩ = some (.int .i64 (id : Nat)) := cell_gr hw5 (by go_simp)
  have zw5_0 : q < w5.heap.size := World.block_lt_of_cell? _ _ cw5_0_0
  have gw5 : Gr W w5 := Gr.trans (by have gg := gw4; have gs := gg.size; go_grown) hw5
  clear gw4 zw4_0 cw4_0_0 cw4_0_1
  clear hw5
  try simp only [Act.put, List.setIfInBounds_toArray, List.set_cons_zero, List.set_cons_succ]
  repeat (first | (refine Od.wpO_skip (by simp only [List.getElem?_toArray, List.getElem?_cons_succ, List.getElem?_cons_zero] <;> rfl) rfl ?_; simp only [Act.put, List.setIfInBounds_toArray, List.set_cons_zero, List.set_cons_succ]) | (refine Od.wpO_pure (by simp only [List.getElem?_toArray, List.getElem?_cons_succ, List.getElem?_cons_zero] <;> rfl) rfl ?_; apply Exists.intro; refine ⟨?_, ?_⟩; (· intro wx gx; obtain ⟨mx, rfl⟩ := spread_of_gr gx; clear gx; all_goals (apply Od.pAt_of_quiet; intro K hK; go_big_quiet_op; first | exact hK _ rfl | (apply Exists.intro; refine ⟨fun _ => ?_, ?_⟩; (· fail); exact hK _ rfl))); try simp only [Act.put, List.setIfInBounds_toArray, List.set_cons_zero, List.set_cons_succ]))
  have O5 := Lib.hid os5
  clear os5
  refine Od.wpO_call (by simp only [List.getElem?_toArray, List.getElem?_cons_succ, List.getElem?_cons_zero] <;> rfl) rfl ?_
  intro QS hQS
  go_wp2_with fail
  go_at_call 62
  (with_reducible refine ((H6.out _ gw5)).mono ?_)
  rintro e w6 ⟨sa6, sc6, rfl, os6, hy6, hw6⟩
  go_wp2_with fail
  apply Exists.intro
  refine ⟨?_, hw6, ?_⟩
  · simp only [Act.put, List.setIfInBounds_toArray, List.set_cons_zero, List.set_cons_succ]; rfl
  have cw6_0_0 : w6.cell? ⟨q, 0, none⟩ = some (.int .i64 (kd : Nat)) := cell_gr hw6 (by go_simp)
  have cw6_0_1 : w6.cell? ⟨q, 1, none⟩ = some (.int .i64 (id : Nat)) := cell_gr hw6 (by go_simp)
  have zw6_0 : q < w6.heap.size := World.block_lt_of_cell? _ _ cw6_0_0
  have gw6 : Gr W w6 := Gr.trans (by have gg := gw5; have gs := gg.size; go_grown) hw6
  clear gw5 zw5_0 cw5_0_0 cw5_0_1
  clear hw6
  try simp only [Act.put, List.setIfInBounds_toArray, List.set_cons_zero, List.set_cons_succ]
  repeat (first | (refine Od.wpO_skip (by simp only [List.getElem?_toArray, List.getElem?_cons_succ, List.getElem?_cons_zero] <;> rfl) rfl ?_; simp only [Act.put, List.setIfInBounds_toArray, List.set_cons_zero, List.set_cons_succ]) | (refine Od.wpO_pure (by simp only [List.getElem?_toArray, List.getElem?_cons_succ, List.getElem?_cons_zero] <;> rfl) rfl ?_; apply Exists.intro; refine ⟨?_, ?_⟩; (· intro wx gx; obtain ⟨mx, rfl⟩ := spread_of_gr gx; clear gx; all_goals (apply Od.pAt_of_quiet; intro K hK; go_big_quiet_op; first | exact hK _ rfl | (apply Exists.intro; refine ⟨fun _ => ?_, ?_⟩; (· fail); exact hK _ rfl))); try simp only [Act.put, List.setIfInBounds_toArray, List.set_cons_zero, List.set_cons_succ]))
  have AI := Lib.hid (c_IntsSame w6 rfl hl1000 (rowOwn_gr O5.out hy6) os6)
  clear os6 O5 hy6
  refine Od.wpO_call (by simp only [List.getElem?_toArray, List.getElem?_cons_succ, List.getElem?_cons_zero] <;> rfl) rfl ?_
  intro QS hQS
  go_wp2_with fail
  go_at_call 60
  (with_reducible refine ((AI.out)).mono ?_)
  rintro e w7 ⟨rfl, hw7⟩
  go_wp2_with fail
  apply Exists.intro
  refine ⟨?_, hw7, ?_⟩
  · simp only [Act.put, List.setIfInBounds_toArray, List.set_cons_zero, List.set_cons_succ]; rfl
  have cw7_0_0 : w7.cell? ⟨q, 0, none⟩ = some (.int .i64 (kd : Nat)) := cell_gr hw7 (by go_simp)
  have cw7_0_1 : w7.cell? ⟨q, 1, none⟩ = some (.int .i64 (id : Nat)) := cell_gr hw7 (by go_simp)
  have zw7_0 : q < w7.heap.size := World.block_lt_of_cell? _ _ cw7_0_0
  have gw7 : Gr W w7 := Gr.trans (by have gg := gw6; have gs := gg.size; go_grown) hw7
  clear gw6 zw6_0 cw6_0_0 cw6_0_1
  clear hw7
  try simp only [Act.put, List.setIfInBounds_toArray, List.set_cons_zero, List.set_cons_succ]
  repeat (first | (refine Od.wpO_skip (by simp only [List.getElem?_toArray, List.getElem?_cons_succ, List.getElem?_cons_zero] <;> rfl) rfl ?_; simp only [Act.put, List.setIfInBounds_toArray, List.set_cons_zero, List.set_cons_succ]) | (refine Od.wpO_pure (by simp only [List.getElem?_toArray, List.getElem?_cons_succ, List.getElem?_cons_zero] <;> rfl) rfl ?_; apply Exists.intro; refine ⟨?_, ?_⟩; (· intro wx gx; obtain ⟨mx, rfl⟩ := spread_of_gr gx; clear gx; all_goals (apply Od.pAt_of_quiet; intro K hK; go_big_quiet_op; first | exact hK _ rfl | (apply Exists.intro; refine ⟨fun _ => ?_, ?_⟩; (· fail); exact hK _ rfl))); try simp only [Act.put, List.setIfInBounds_toArray, List.set_cons_zero, List.set_cons_succ]))
  refine Od.wpO_call (by simp only [List.getElem?_toArray, List.getElem?_cons_succ, List.getElem?_cons_zero] <;> rfl) rfl ?_
  intro QS hQS
  go_wp2_with fail
  go_at_call 22
  (with_reducible refine ((H7.out _ gw7)).mono ?_)
  rintro e w8 ⟨g8, rfl, -, F8, hw8⟩
  go_wp2_with fail
  apply Exists.intro
  refine ⟨?_, hw8, ?_⟩
  · simp only [Act.put, List.setIfInBounds_toArray, List.set_cons_zero, List.set_cons_succ]; rfl
  have cw8_0_0 : w8.cell? ⟨q, 0, none⟩ = some (.int .i64 (kd : Nat)) := cell_gr hw8 (by go_simp)
  have cw8_0_1 : w8.cell? ⟨q, 1, none⟩ = some (.int .i64 (id : Nat)) := cell_gr hw8 (by go_simp)
  have zw8_0 : q < w8.heap.size := World.block_lt_of_cell? _ _ cw8_0_0
  have gw8 : Gr W w8 := Gr.trans (by have gg := gw7; have gs := gg.size; go_grown) hw8
  clear gw7 zw7_0 cw7_0_0 cw7_0_1
  clear hw8
  try simp only [Act.put, List.setIfInBounds_toArray, List.set_cons_zero, List.set_cons_succ]
  repeat (first | (refine Od.wpO_skip (by simp only [List.getElem?_toArray, List.getElem?_cons_succ, List.getElem?_cons_zero] <;> rfl) rfl ?_; simp only [Act.put, List.setIfInBounds_toArray, List.set_cons_zero, List.set_cons_succ]) | (refine Od.wpO_pure (by simp only [List.getElem?_toArray, List.getElem?_cons_succ, List.getElem?_cons_zero] <;> rfl) rfl ?_; apply Exists.intro; refine ⟨?_, ?_⟩; (· intro wx gx; obtain ⟨mx, rfl⟩ := spread_of_gr gx; clear gx; all_goals (apply Od.pAt_of_quiet; intro K hK; go_big_quiet_op; first | exact hK _ rfl | (apply Exists.intro; refine ⟨fun _ => ?_, ?_⟩; (· fail); exact hK _ rfl))); try simp only [Act.put, List.setIfInBounds_toArray, List.set_cons_zero, List.set_cons_succ]))
  have HF8 := Lib.hid F8
  clear F8
  refine Od.wpO_call (by simp only [List.getElem?_toArray, List.getElem?_cons_succ, List.getElem?_cons_zero] <;> rfl) rfl ?_
  intro QS hQS
  go_wp2_with fail
  go_at_call 63
  (with_reducible refine ((H8.out _ gw8)).mono ?_)
  rintro e w9 ⟨g9, rfl, F9, hy9, hw9⟩
  go_wp2_with fail
  apply Exists.intro
  refine ⟨?_, hw9, ?_⟩
  · simp only [Act.put, List.setIfInBounds_toArray, List.set_cons_zero, List.set_cons_succ]; rfl
  have cw9_0_0 : w9.cell? ⟨q, 0, none⟩ = some (.int .i64 (kd : Nat)) := cell_gr hw9 (by go_simp)
  have cw9_0_1 : w9.cell? ⟨q, 1, none⟩ = some (.int .i64 (id : Nat)) := cell_gr hw9 (by go_simp)
  have zw9_0 : q < w9.heap.size := World.block_lt_of_cell? _ _ cw9_0_0
  have gw9 : Gr W w9 := Gr.trans (by have gg := gw8; have gs := gg.size; go_grown) hw9
  clear gw8 zw8_0 cw8_0_0 cw8_0_1
  clear hw9
  try simp only [Act.put, List.setIfInBounds_toArray, List.set_cons_zero, List.set_cons_succ]
  repeat (first | (refine Od.wpO_skip (by simp only [List.getElem?_toArray, List.getElem?_cons_succ, List.getElem?_cons_zero] <;> rfl) rfl ?_; simp only [Act.put, List.setIfInBounds_toArray, List.set_cons_zero, List.set_cons_succ]) | (refine Od.wpO_pure (by simp only [List.getElem?_toArray, List.getElem?_cons_succ, List.getElem?_cons_zero] <;> rfl) rfl ?_; apply Exists.intro; refine ⟨?_, ?_⟩; (· intro wx gx; obtain ⟨mx, rfl⟩ := spread_of_gr gx; clear gx; all_goals (apply Od.pAt_of_quiet; intro K hK; go_big_quiet_op; first | exact hK _ rfl | (apply Exists.intro; refine ⟨fun _ => ?_, ?_⟩; (· fail); exact hK _ rfl))); try simp only [Act.put, List.setIfInBounds_toArray, List.set_cons_zero, List.set_cons_succ]))
  have AB := Lib.hid (c_BytesSame w9 (full_row (full_gr HF8.out hy9)) (full_row F9) hPl)
  clear F9 HF8 hy9
  refine Od.wpO_call (by simp only [List.getElem?_toArray, List.getElem?_cons_succ, List.getElem?_cons_zero] <;> rfl) rfl ?_
  intro QS hQS
  go_wp2_with fail
  go_at_call 20
  (with_reducible refine ((AB.out)).mono ?_)
  rintro e w10 ⟨rfl, hw10⟩
  go_wp2_with fail
  apply Exists.intro
  refine ⟨?_, hw10, ?_⟩
  · simp only [Act.put, List.setIfInBounds_toArray, List.set_cons_zero, List.set_cons_succ]; rfl
  have cw10_0_0 : w10.cell? ⟨q, 0, none⟩ = some (.int .i64 (kd : Nat)) := cell_gr hw10 (by go_simp)
  have cw10_0_1 : w10.cell? ⟨q, 1, none⟩ = some (.int .i64 (id : Nat)) := cell_gr hw10 (by go_simp)
  have zw10_0 : q < w10.heap.size := World.block_lt_of_cell? _ _ cw10_0_0
  have gw10 : Gr W w10 := Gr.trans (by have gg := gw9; have gs := gg.size; go_grown) hw10
  clear gw9 zw9_0 cw9_0_0 cw9_0_1
  clear hw10
  try simp only [Act.put, List.setIfInBounds_toArray, List.set_cons_zero, List.set_cons_succ]
  repeat (first | (refine Od.wpO_skip (by simp only [List.getElem?_toArray, List.getElem?_cons_succ, List.getElem?_cons_zero] <;> rfl) rfl ?_; simp only [Act.put, List.setIfInBounds_toArray, List.set_cons_zero, List.set_cons_succ]) | (refine Od.wpO_pure (by simp only [List.getElem?_toArray, List.getElem?_cons_succ, List.getElem?_cons_zero] <;> rfl) rfl ?_; apply Exists.intro; refine ⟨?_, ?_⟩; (· intro wx gx; obtain ⟨mx, rfl⟩ := spread_of_gr gx; clear gx; all_goals (apply Od.pAt_of_quiet; intro K hK; go_big_quiet_op; first | exact hK _ rfl | (apply Exists.intro; refine ⟨fun _ => ?_, ?_⟩; (· fail); exact hK _ rfl))); try simp only [Act.put, List.setIfInBounds_toArray, List.set_cons_zero, List.set_cons_succ]))
  refine Od.wpO_nil (hKQ _ _ ?_)
  clear hKQ KQ
  go_wp2_with fail
  go_ret
  exact ⟨rfl, gw10⟩
end
end Go.Proofs.YtilijbplfobneaaDoor
