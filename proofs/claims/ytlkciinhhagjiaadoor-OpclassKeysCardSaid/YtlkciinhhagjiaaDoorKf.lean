/- OpclassKeys: the walk, by what is told of the key and of the box -/
import Derived.Test.YtlkciinhhagjiaaDoorKe
namespace Go.Proofs.YtlkciinhhagjiaaDoor
set_option linter.unusedVariables false
set_option linter.unusedSimpArgs false
open Go.ChangeShapes Go.WideShapes Go.ChangeAt Go.RowKit

theorem ki_nil (W : World) : Calls Tryd.prog 9 #[.nilIface, .int .i64 0, .string ⟨#[107, 101, 121]⟩, .int .i64 0] W fun e w' => e = .returned (.bool true) ∧ Gr W w' := c_AlIs_nil keyS 0 W
theorem ki_hit (B : Nat) (W : World) (hE : ErrT W) (h0 : W.cell? ⟨B, 0, none⟩ = some (.string keyS)) (h1 : W.cell? ⟨B, 1, none⟩ = some (.int .i64 0)) (h2 : W.cell? ⟨B, 2, none⟩ = some (.iface 79 (.int .i64 10))) : Calls Tryd.prog 9 #[.iface 68 (.pointer (some ⟨B, 0, none⟩)), .int .i64 10, .string ⟨#[107, 101, 121]⟩, .int .i64 0] W fun e w' => e = .returned (.bool true) ∧ Gr W w' := c_AlIs_hit B keyS 0 10 (by omega) W hE ⟨h0, h1, h2⟩
theorem key_read {a b c d : Int} (ha : Iw a) (hb : Iw b) (hc : Iw c) (hd : Iw d) : (kOk (keyB a b c d) ↔ boxB a b c d = true) ∧ kvl (keyB a b c d) 0 = a ∧ kvl (keyB a b c d) 1 = b ∧ kvl (keyB a b c d) 2 = c ∧ kvl (keyB a b c d) 3 = d := by
  obtain ⟨K, hK⟩ : ∃ K, K = keyB a b c d := ⟨_, rfl⟩
  rw [← hK]
  have e0 : K = Ec.vr (zz a) ++ (Ec.vr (zz b) ++ (Ec.vr (zz c) ++ Ec.vr (zz d))) := by rw [hK]; unfold keyB; simp only [List.append_assoc]
  have u0 : uL (K.drop (kps K 0)) = (zz a, (Ec.vr (zz a)).length) := by
    rw [show K.drop (kps K 0) = K from rfl, e0]; exact uL_vr _ (iw_wd ha) _
  have p1 : kps K 1 = (Ec.vr (zz a)).length := by
    show 0 + (uL (K.drop (kps K 0))).2 = _
    rw [u0, Nat.zero_add]
  have d1 : K.drop (kps K 1) = Ec.vr (zz b) ++ (Ec.vr (zz c) ++ Ec.vr (zz d)) := by
    rw [p1]; conv => lhs; rw [e0]
    exact List.drop_left
  have u1 : uL (K.drop (kps K 1)) = (zz b, (Ec.vr (zz b)).length) := by rw [d1]; exact uL_vr _ (iw_wd hb) _
  have d2 : K.drop (kps K 2) = Ec.vr (zz c) ++ Ec.vr (zz d) := by
    rw [show kps K 2 = kps K 1 + (Ec.vr (zz b)).length from by show kps K 1 + (uL (K.drop (kps K 1))).2 = _; rw [u1], ← List.drop_drop, d1]
    exact List.drop_left
  have u2 : uL (K.drop (kps K 2)) = (zz c, (Ec.vr (zz c)).length) := by rw [d2]; exact uL_vr _ (iw_wd hc) _
  have d3 : K.drop (kps K 3) = Ec.vr (zz d) ++ [] := by
    rw [show kps K 3 = kps K 2 + (Ec.vr (zz c)).length from by show kps K 2 + (uL (K.drop (kps K 2))).2 = _; rw [u2], ← List.drop_drop, d2, List.append_nil]
    exact List.drop_left
  have u3 : uL (K.drop (kps K 3)) = (zz d, (Ec.vr (zz d)).length) := by rw [d3]; exact uL_vr _ (iw_wd hd) _
  have d4 : K.drop (kps K 4) = [] := by
    rw [show kps K 4 = kps K 3 + (Ec.vr (zz d)).length from by show kps K 3 + (uL (K.drop (kps K 3))).2 = _; rw [u3], ← List.drop_drop, d3]
    exact List.drop_left
  have v0 : kvl K 0 = a := by unfold kvl; rw [u0]; exact si_zz ha
  have v1 : kvl K 1 = b := by unfold kvl; rw [u1]; exact si_zz hb
  have v2 : kvl K 2 = c := by unfold kvl; rw [u2]; exact si_zz hc
  have v3 : kvl K 3 = d := by unfold kvl; rw [u3]; exact si_zz hd
  refine ⟨?_, v0, v1, v2, v3⟩
  unfold kOk
  rw [v0, v1, v2, v3, d4]
  refine ⟨fun q => q.2.2, fun q => ⟨fun i hi => ?_, rfl, q⟩⟩
  match i, hi with
  | 0, _ => unfold ksz; rw [u0]; exact (zz_len ha).1
  | 1, _ => unfold ksz; rw [u1]; exact (zz_len hb).1
  | 2, _ => unfold ksz; rw [u2]; exact (zz_len hc).1
  | 3, _ => unfold ksz; rw [u3]; exact (zz_len hd).1
set_option maxHeartbeats 16000000 in
set_option maxRecDepth 100000 in
theorem keys_yy (lx ly hx hy v0 v1 v2 v3 bc : Int) (ad : Option Addr) (n cap : Nat) (K : List UInt8) (W : World) (hn : n ≤ 300) (hK : K.length ≤ 64) (hE : ErrT W)
    (A1 : ∀ w, Gr W w → Calls Tryd.prog 33 #[.slice ad n cap] w fun e w' => e = .returned (.tuple #[.agg #[.int .i64 v0, .int .i64 v1, .int .i64 v2, .int .i64 v3], .nilIface]) ∧ Gr w w')
    (A2 : ∀ w, Gr W w → Calls Tryd.prog 34 #[.slice ad n cap] w fun e w' => e = .returned (.tuple #[.agg #[.int .i64 v0, .int .i64 v1, .int .i64 v2, .int .i64 v3], .bool true]) ∧ Gr w w')
    (A3 : ∀ w, Calls Tryd.prog 35 #[.agg #[.int .i64 lx, .int .i64 ly, .int .i64 hx, .int .i64 hy]] w fun e w' => ∃ g c, e = .returned (.slice (some ⟨g, 0, none⟩) K.length c) ∧ Row w' (.slice (some ⟨g, 0, none⟩) K.length c) K ∧ Gr w w')
    (A4 : ∀ w, Calls Tryd.prog 36 #[.agg #[.int .i64 lx, .int .i64 ly, .int .i64 hx, .int .i64 hy]] w fun e w' => ∃ g c, e = .returned (.slice (some ⟨g, 0, none⟩) K.length c) ∧ Row w' (.slice (some ⟨g, 0, none⟩) K.length c) K ∧ Gr w w' ∧ Gr w w')
    (A5 : ∀ w, Calls Tryd.prog 37 #[.agg #[.int .i64 lx, .int .i64 ly, .int .i64 hx, .int .i64 hy]] w fun e w' => e = .returned (.int .i64 0) ∧ Gr w w')
    (A6 : ∀ w v, Row w v K → Calls Tryd.prog 33 #[v] w fun e w' => e = .returned (.tuple #[.agg #[.int .i64 lx, .int .i64 ly, .int .i64 hx, .int .i64 hy], .nilIface]) ∧ Gr w w') :
    Calls Tryd.prog 6 #[.agg #[.int .i64 lx, .int .i64 ly, .int .i64 hx, .int .i64 hy], .slice ad n cap] W fun e w' => e = .returned (.bool true) ∧ Gr W w' := by
  have t1 : decide ((300 : Int) < (n : Int)) = false := decide_eq_false (by omega)
  have t2 : decide (300 < n) = false := decide_eq_false (by omega)
  have hN : ∀ w, (binOp .neq 28 (.agg #[.int .i64 v0, .int .i64 v1, .int .i64 v2, .int .i64 v3]) (.agg #[.int .i64 v0, .int .i64 v1, .int .i64 v2, .int .i64 v3])).run Tryd.prog w = .ok (.bool false) w := fun w => by simp [go_sem]
  have hQ : ∀ w, (binOp .eql 28 (.agg #[.int .i64 lx, .int .i64 ly, .int .i64 hx, .int .i64 hy]) (.agg #[.int .i64 lx, .int .i64 ly, .int .i64 hx, .int .i64 hy])).run Tryd.prog w = .ok (.bool true) w := fun w => by simp [go_sem]
  have A7 := fun w u v (r : Row w u K) (s : Row w v K) => c_Bytes_same (L := K) w r s (by omega)
  have A8 := fun w => p16_awake w
  have hk9 : (K.length : Int) ≤ 64 := by omega
  have t3 : decide ((K.length : Int) ≤ 64) = true := decide_eq_true hk9
  have t4 : decide (K.length ≤ 64) = true := decide_eq_true hK
  obtain ⟨kn, hkn⟩ : ∃ kn, kn = K.length := ⟨_, rfl⟩
  rw [← hkn] at A3 A4 hk9 t3 t4
  have H1 := Lib.hid A1
  have H2 := Lib.hid A2
  have H3 := Lib.hid A3
  have H4 := Lib.hid A4
  have H5 := Lib.hid A5
  have H6 := Lib.hid A6
  have H7 := Lib.hid A7
  have H8 := Lib.hid A8
  clear A1 A2 A3 A4 A5 A6 A7 A8
  have HE := Lib.hid hE
  clear hn hK hE hkn
  go_enter Tryd.func6, Tryd.ntmps6
  go_wp2_with fail
  go_at_call 33
  refine ((H1.out _ (by go_grown))).mono ?_
  rintro e w1 ⟨rfl, hw1⟩
  have cw1_0_0 : w1.cell? ⟨W.heap.size, 0, none⟩ = some (.int .i64 lx) := cell_gr hw1 (by go_simp)
  have cw1_0_1 : w1.cell? ⟨W.heap.size, 1, none⟩ = some (.int .i64 ly) := cell_gr hw1 (by go_simp)
  have cw1_0_2 : w1.cell? ⟨W.heap.size, 2, none⟩ = some (.int .i64 hx) := cell_gr hw1 (by go_simp)
  have cw1_0_3 : w1.cell? ⟨W.heap.size, 3, none⟩ = some (.int .i64 hy) := cell_gr hw1 (by go_simp)
  have zw1_0 : W.heap.size < w1.heap.size := World.block_lt_of_cell? _ _ cw1_0_0
  have gw1 : Gr W w1 := Gr.trans (by go_grown) hw1
  clear hw1
  go_wp2_with fail
  go_at_call 34
  refine ((H2.out _ (by have gg := gw1; have gs := gg.size; go_grown))).mono ?_
  rintro e w2 ⟨rfl, hw2⟩
  have cw2_0_0 : w2.cell? ⟨W.heap.size, 0, none⟩ = some (.int .i64 lx) := cell_gr hw2 (by go_simp)
  have cw2_0_1 : w2.cell? ⟨W.heap.size, 1, none⟩ = some (.int .i64 ly) := cell_gr hw2 (by go_simp)
  have cw2_0_2 : w2.cell? ⟨W.heap.size, 2, none⟩ = some (.int .i64 hx) := cell_gr hw2 (by go_simp)
  have cw2_0_3 : w2.cell? ⟨W.heap.size, 3, none⟩ = some (.int .i64 hy) := cell_gr hw2 (by go_simp)
  have zw2_0 : W.heap.size < w2.heap.size := World.block_lt_of_cell? _ _ cw2_0_0
  have cw2_1_0 : w2.cell? ⟨w1.heap.size, 0, none⟩ = some (.int .i64 v0) := cell_gr hw2 (by go_simp)
  have cw2_1_1 : w2.cell? ⟨w1.heap.size, 1, none⟩ = some (.int .i64 v1) := cell_gr hw2 (by go_simp)
  have cw2_1_2 : w2.cell? ⟨w1.heap.size, 2, none⟩ = some (.int .i64 v2) := cell_gr hw2 (by go_simp)
  have cw2_1_3 : w2.cell? ⟨w1.heap.size, 3, none⟩ = some (.int .i64 v3) := cell_gr hw2 (by go_simp)
  have zw2_1 : w1.heap.size < w2.heap.size := World.block_lt_of_cell? _ _ cw2_1_0
  have gw2 : Gr W w2 := Gr.trans (by have gg := gw1; have gs := gg.size; go_grown) hw2
  clear hw2 gw1 zw1_0 cw1_0_0 cw1_0_1 cw1_0_2 cw1_0_3
  go_wp2_with fail
  try simp only [List.append]
  refine Od.wp_region_ord [(0, false), (1, false), (2, false), (3, false), (4, false), (5, false), (6, true), (7, false), (8, false), (9, false), (10, false), (12, false), (11, true), (13, true), (14, true), (15, false), (16, false)] (by kernel_rfl) (by kernel_rfl) ?_
  intro w3 hw3 KQ hKQ
  have cw3_0_0 : w3.cell? ⟨W.heap.size, 0, none⟩ = some (.int .i64 lx) := cell_gr hw3 (by go_simp)
  have cw3_0_1 : w3.cell? ⟨W.heap.size, 1, none⟩ = some (.int .i64 ly) := cell_gr hw3 (by go_simp)
  have cw3_0_2 : w3.cell? ⟨W.heap.size, 2, none⟩ = some (.int .i64 hx) := cell_gr hw3 (by go_simp)
  have cw3_0_3 : w3.cell? ⟨W.heap.size, 3, none⟩ = some (.int .i64 hy) := cell_gr hw3 (by go_simp)
  have zw3_0 : W.heap.size < w3.heap.size := World.block_lt_of_cell? _ _ cw3_0_0
  have cw3_1_0 : w3.cell? ⟨w1.heap.size, 0, none⟩ = some (.int .i64 v0) := cell_gr hw3 (by go_simp)
  have cw3_1_1 : w3.cell? ⟨w1.heap.size, 1, none⟩ = some (.int .i64 v1) := cell_gr hw3 (by go_simp)
  have cw3_1_2 : w3.cell? ⟨w1.heap.size, 2, none⟩ = some (.int .i64 v2) := cell_gr hw3 (by go_simp)
  have cw3_1_3 : w3.cell? ⟨w1.heap.size, 3, none⟩ = some (.int .i64 v3) := cell_gr hw3 (by go_simp)
  have zw3_1 : w1.heap.size < w3.heap.size := World.block_lt_of_cell? _ _ cw3_1_0
  have cw3_2_0 : w3.cell? ⟨w2.heap.size, 0, none⟩ = some (.int .i64 v0) := cell_gr hw3 (by go_simp)
  have cw3_2_1 : w3.cell? ⟨w2.heap.size, 1, none⟩ = some (.int .i64 v1) := cell_gr hw3 (by go_simp)
  have cw3_2_2 : w3.cell? ⟨w2.heap.size, 2, none⟩ = some (.int .i64 v2) := cell_gr hw3 (by go_simp)
  have cw3_2_3 : w3.cell? ⟨w2.heap.size, 3, none⟩ = some (.int .i64 v3) := cell_gr hw3 (by go_simp)
  have zw3_2 : w2.heap.size < w3.heap.size := World.block_lt_of_cell? _ _ cw3_2_0
  have gw3 : Gr W w3 := Gr.trans (by have gg := gw2; have gs := gg.size; go_grown) hw3
  clear gw2 zw2_0 cw2_0_0 cw2_0_1 cw2_0_2 cw2_0_3 zw2_1 cw2_1_0 cw2_1_1 cw2_1_2 cw2_1_3
  clear hw3
  repeat (first | (refine Od.wpO_skip (by simp only [List.getElem?_toArray, List.getElem?_cons_succ, List.getElem?_cons_zero] <;> rfl) rfl ?_; simp only [Act.put, List.setIfInBounds_toArray, List.set_cons_zero, List.set_cons_succ]) | (refine Od.wpO_pure (by simp only [List.getElem?_toArray, List.getElem?_cons_succ, List.getElem?_cons_zero] <;> rfl) rfl ?_; apply Exists.intro; refine ⟨?_, ?_⟩; (· intro wx gx; obtain ⟨mx, rfl⟩ := spread_of_gr gx; clear gx; all_goals (apply Od.pAt_of_quiet; intro K hK; go_big_quiet_op; first | exact hK _ rfl | (apply Exists.intro; refine ⟨fun _ => ?_, ?_⟩; (· fail); exact hK _ rfl))); try simp only [Act.put, List.setIfInBounds_toArray, List.set_cons_zero, List.set_cons_succ]))
  refine Od.wpO_call (by simp only [List.getElem?_toArray, List.getElem?_cons_succ, List.getElem?_cons_zero] <;> rfl) rfl ?_
  intro QS hQS
  go_wp2_with fail
  go_at_call 9
  (with_reducible refine ((ki_nil _)).mono ?_)
  rintro e w4 ⟨rfl, hw4⟩
  go_wp2_with fail
  apply Exists.intro
  refine ⟨?_, hw4, ?_⟩
  · simp only [Act.put, List.setIfInBounds_toArray, List.set_cons_zero, List.set_cons_succ]; rfl
  have cw4_0_0 : w4.cell? ⟨W.heap.size, 0, none⟩ = some (.int .i64 lx) := cell_gr hw4 (by go_simp)
  have cw4_0_1 : w4.cell? ⟨W.heap.size, 1, none⟩ = some (.int .i64 ly) := cell_gr hw4 (by go_simp)
  have cw4_0_2 : w4.cell? ⟨W.heap.size, 2, none⟩ = some (.int .i64 hx) := cell_gr hw4 (by go_simp)
  have cw4_0_3 : w4.cell? ⟨W.heap.size, 3, none⟩ = some (.int .i64 hy) := cell_gr hw4 (by go_simp)
  have zw4_0 : W.heap.size < w4.heap.size := World.block_lt_of_cell? _ _ cw4_0_0
  have cw4_1_0 : w4.cell? ⟨w1.heap.size, 0, none⟩ = some (.int .i64 v0) := cell_gr hw4 (by go_simp)
  have cw4_1_1 : w4.cell? ⟨w1.heap.size, 1, none⟩ = some (.int .i64 v1) := cell_gr hw4 (by go_simp)
  have cw4_1_2 : w4.cell? ⟨w1.heap.size, 2, none⟩ = some (.int .i64 v2) := cell_gr hw4 (by go_simp)
  have cw4_1_3 : w4.cell? ⟨w1.heap.size, 3, none⟩ = some (.int .i64 v3) := cell_gr hw4 (by go_simp)
  have zw4_1 : w1.heap.size < w4.heap.size := World.block_lt_of_cell? _ _ cw4_1_0
  have cw4_2_0 : w4.cell? ⟨w2.heap.size, 0, none⟩ = some (.int .i64 v0) := cell_gr hw4 (by go_simp)
  have cw4_2_1 : w4.cell? ⟨w2.heap.size, 1, none⟩ = some (.int .i64 v1) := cell_gr hw4 (by go_simp)
  have cw4_2_2 : w4.cell? ⟨w2.heap.size, 2, none⟩ = some (.int .i64 v2) := cell_gr hw4 (by go_simp)
  have cw4_2_3 : w4.cell? ⟨w2.heap.size, 3, none⟩ = some (.int .i64 v3) := cell_gr hw4 (by go_simp)
  have zw4_2 : w2.heap.size < w4.heap.size := World.block_lt_of_cell? _ _ cw4_2_0
  have gw4 : Gr W w4 := Gr.trans (by have gg := gw3; have gs := gg.size; go_grown) hw4
  clear gw3 zw3_0 cw3_0_0 cw3_0_1 cw3_0_2 cw3_0_3 zw3_1 cw3_1_0 cw3_1_1 cw3_1_2 cw3_1_3 zw3_2 cw3_2_0 cw3_2_1 cw3_2_2 cw3_2_3
  clear hw4
  try simp only [Act.put, List.setIfInBounds_toArray, List.set_cons_zero, List.set_cons_succ]
  repeat (first | (refine Od.wpO_skip (by simp only [List.getElem?_toArray, List.getElem?_cons_succ, List.getElem?_cons_zero] <;> rfl) rfl ?_; simp only [Act.put, List.setIfInBounds_toArray, List.set_cons_zero, List.set_cons_succ]) | (refine Od.wpO_pure (by simp only [List.getElem?_toArray, List.getElem?_cons_succ, List.getElem?_cons_zero] <;> rfl) rfl ?_; apply Exists.intro; refine ⟨?_, ?_⟩; (· intro wx gx; obtain ⟨mx, rfl⟩ := spread_of_gr gx; clear gx; all_goals (apply Od.pAt_of_quiet; intro K hK; go_big_quiet_op; first | exact hK _ rfl | (apply Exists.intro; refine ⟨fun _ => ?_, ?_⟩; (· fail); exact hK _ rfl))); try simp only [Act.put, List.setIfInBounds_toArray, List.set_cons_zero, List.set_cons_succ]))
  refine Od.wpO_call (by simp only [List.getElem?_toArray, List.getElem?_cons_succ, List.getElem?_cons_zero] <;> rfl) rfl ?_
  intro QS hQS
  go_wp2_with fail
  go_at_call 35
  (with_reducible refine ((H3.out _)).mono ?_)
  rintro e w5 ⟨g5, c5, rfl, r5, hw5⟩
  go_wp2_with fail
  apply Exists.intro
  refine ⟨?_, hw5, ?_⟩
  · simp only [Act.put, List.setIfInBounds_toArray, List.set_cons_zero, List.set_cons_succ]; rfl
  have cw5_0_0 : w5.cell? ⟨W.heap.size, 0, none⟩ = some (.int .i64 lx) := cell_gr hw5 (by go_simp)
  have cw5_0_1 : w5.cell? ⟨W.heap.size, 1, none⟩ = some (.int .i64 ly) := cell_gr hw5 (by go_simp)
  have cw5_0_2 : w5.cell? ⟨W.heap.size, 2, none⟩ = some (.int .i64 hx) := cell_gr hw5 (by go_simp)
  have cw5_0_3 : w5.cell? ⟨W.heap.size, 3, none⟩ = some (.int .i64 hy) := cell_gr hw5 (by go_simp)
  have zw5_0 : W.heap.size < w5.heap.size := World.block_lt_of_cell? _ _ cw5_0_0
  have cw5_1_0 : w5.cell? ⟨w1.heap.size, 0, none⟩ = some (.int .i64 v0) := cell_gr hw5 (by go_simp)
  have cw5_1_1 : w5.cell? ⟨w1.heap.size, 1, none⟩ = some (.int .i64 v1) := cell_gr hw5 (by go_simp)
  have cw5_1_2 : w5.cell? ⟨w1.heap.size, 2, none⟩ = some (.int .i64 v2) := cell_gr hw5 (by go_simp)
  have cw5_1_3 : w5.cell? ⟨w1.heap.size, 3, none⟩ = some (.int .i64 v3) := cell_gr hw5 (by go_simp)
  have zw5_1 : w1.heap.size < w5.heap.size := World.block_lt_of_cell? _ _ cw5_1_0
  have cw5_2_0 : w5.cell? ⟨w2.heap.size, 0, none⟩ = some (.int .i64 v0) := cell_gr hw5 (by go_simp)
  have cw5_2_1 : w5.cell? ⟨w2.heap.size, 1, none⟩ = some (.int .i64 v1) := cell_gr hw5 (by go_simp)
  have cw5_2_2 : w5.cell? ⟨w2.heap.size, 2, none⟩ = some (.int .i64 v2) := cell_gr hw5 (by go_simp)
  have cw5_2_3 : w5.cell? ⟨w2.heap.size, 3, none⟩ = some (.int .i64 v3) := cell_gr hw5 (by go_simp)
  have zw5_2 : w2.heap.size < w5.heap.size := World.block_lt_of_cell? _ _ cw5_2_0
  have gw5 : Gr W w5 := Gr.trans (by have gg := gw4; have gs := gg.size; go_grown) hw5
  clear gw4 zw4_0 cw4_0_0 cw4_0_1 cw4_0_2 cw4_0_3 zw4_1 cw4_1_0 cw4_1_1 cw4_1_2 cw4_1_3 zw4_2 cw4_2_0 cw4_2_1 cw4_2_2 cw4_2_3
  clear hw5
  try simp only [Act.put, List.setIfInBounds_toArray, List.set_cons_zero, List.set_cons_succ]
  repeat (first | (refine Od.wpO_skip (by simp only [List.getElem?_toArray, List.getElem?_cons_succ, List.getElem?_cons_zero] <;> rfl) rfl ?_; simp only [Act.put, List.setIfInBounds_toArray, List.set_cons_zero, List.set_cons_succ]) | (refine Od.wpO_pure (by simp only [List.getElem?_toArray, List.getElem?_cons_succ, List.getElem?_cons_zero] <;> rfl) rfl ?_; apply Exists.intro; refine ⟨?_, ?_⟩; (· intro wx gx; obtain ⟨mx, rfl⟩ := spread_of_gr gx; clear gx; all_goals (apply Od.pAt_of_quiet; intro K hK; go_big_quiet_op; first | exact hK _ rfl | (apply Exists.intro; refine ⟨fun _ => ?_, ?_⟩; (· fail); exact hK _ rfl))); try simp only [Act.put, List.setIfInBounds_toArray, List.set_cons_zero, List.set_cons_succ]))
  have R5 := Lib.hid r5
  clear r5
  refine Od.wpO_call (by simp only [List.getElem?_toArray, List.getElem?_cons_succ, List.getElem?_cons_zero] <;> rfl) rfl ?_
  intro QS hQS
  go_wp2_with fail
  go_at_call 36
  (with_reducible refine ((H4.out _)).mono ?_)
  rintro e w6 ⟨g6, c6, rfl, r6, hw6, k6⟩
  go_wp2_with fail
  apply Exists.intro
  refine ⟨?_, hw6, ?_⟩
  · simp only [Act.put, List.setIfInBounds_toArray, List.set_cons_zero, List.set_cons_succ]; rfl
  have cw6_0_0 : w6.cell? ⟨W.heap.size, 0, none⟩ = some (.int .i64 lx) := cell_gr hw6 (by go_simp)
  have cw6_0_1 : w6.cell? ⟨W.heap.size, 1, none⟩ = some (.int .i64 ly) := cell_gr hw6 (by go_simp)
  have cw6_0_2 : w6.cell? ⟨W.heap.size, 2, none⟩ = some (.int .i64 hx) := cell_gr hw6 (by go_simp)
  have cw6_0_3 : w6.cell? ⟨W.heap.size, 3, none⟩ = some (.int .i64 hy) := cell_gr hw6 (by go_simp)
  have zw6_0 : W.heap.size < w6.heap.size := World.block_lt_of_cell? _ _ cw6_0_0
  have cw6_1_0 : w6.cell? ⟨w1.heap.size, 0, none⟩ = some (.int .i64 v0) := cell_gr hw6 (by go_simp)
  have cw6_1_1 : w6.cell? ⟨w1.heap.size, 1, none⟩ = some (.int .i64 v1) := cell_gr hw6 (by go_simp)
  have cw6_1_2 : w6.cell? ⟨w1.heap.size, 2, none⟩ = some (.int .i64 v2) := cell_gr hw6 (by go_simp)
  have cw6_1_3 : w6.cell? ⟨w1.heap.size, 3, none⟩ = some (.int .i64 v3) := cell_gr hw6 (by go_simp)
  have zw6_1 : w1.heap.size < w6.heap.size := World.block_lt_of_cell? _ _ cw6_1_0
  have cw6_2_0 : w6.cell? ⟨w2.heap.size, 0, none⟩ = some (.int .i64 v0) := cell_gr hw6 (by go_simp)
  have cw6_2_1 : w6.cell? ⟨w2.heap.size, 1, none⟩ = some (.int .i64 v1) := cell_gr hw6 (by go_simp)
  have cw6_2_2 : w6.cell? ⟨w2.heap.size, 2, none⟩ = some (.int .i64 v2) := cell_gr hw6 (by go_simp)
  have cw6_2_3 : w6.cell? ⟨w2.heap.size, 3, none⟩ = some (.int .i64 v3) := cell_gr hw6 (by go_simp)
  have zw6_2 : w2.heap.size < w6.heap.size := World.block_lt_of_cell? _ _ cw6_2_0
  have gw6 : Gr W w6 := Gr.trans (by have gg := gw5; have gs := gg.size; go_grown) hw6
  clear gw5 zw5_0 cw5_0_0 cw5_0_1 cw5_0_2 cw5_0_3 zw5_1 cw5_1_0 cw5_1_1 cw5_1_2 cw5_1_3 zw5_2 cw5_2_0 cw5_2_1 cw5_2_2 cw5_2_3
  clear hw6
  try simp only [Act.put, List.setIfInBounds_toArray, List.set_cons_zero, List.set_cons_succ]
  repeat (first | (refine Od.wpO_skip (by simp only [List.getElem?_toArray, List.getElem?_cons_succ, List.getElem?_cons_zero] <;> rfl) rfl ?_; simp only [Act.put, List.setIfInBounds_toArray, List.set_cons_zero, List.set_cons_succ]) | (refine Od.wpO_pure (by simp only [List.getElem?_toArray, List.getElem?_cons_succ, List.getElem?_cons_zero] <;> rfl) rfl ?_; apply Exists.intro; refine ⟨?_, ?_⟩; (· intro wx gx; obtain ⟨mx, rfl⟩ := spread_of_gr gx; clear gx; all_goals (apply Od.pAt_of_quiet; intro K hK; go_big_quiet_op; first | exact hK _ rfl | (apply Exists.intro; refine ⟨fun _ => ?_, ?_⟩; (· fail); exact hK _ rfl))); try simp only [Act.put, List.setIfInBounds_toArray, List.set_cons_zero, List.set_cons_succ]))
  have R6 := Lib.hid r6
  have R56 := Lib.hid (row_gr R5.out k6)
  clear r6 k6 R5
  refine Od.wpO_call (by simp only [List.getElem?_toArray, List.getElem?_cons_succ, List.getElem?_cons_zero] <;> rfl) rfl ?_
  intro QS hQS
  go_wp2_with fail
  go_at_call 21
  (with_reducible refine ((H7.out _ _ _ R56.out R6.out)).mono ?_)
  rintro e w7 ⟨rfl, hw7⟩
  go_wp2_with fail
  apply Exists.intro
  refine ⟨?_, hw7, ?_⟩
  · simp only [Act.put, List.setIfInBounds_toArray, List.set_cons_zero, List.set_cons_succ]; rfl
  have cw7_0_0 : w7.cell? ⟨W.heap.size, 0, none⟩ = some (.int .i64 lx) := cell_gr hw7 (by go_simp)
  have cw7_0_1 : w7.cell? ⟨W.heap.size, 1, none⟩ = some (.int .i64 ly) := cell_gr hw7 (by go_simp)
  have cw7_0_2 : w7.cell? ⟨W.heap.size, 2, none⟩ = some (.int .i64 hx) := cell_gr hw7 (by go_simp)
  have cw7_0_3 : w7.cell? ⟨W.heap.size, 3, none⟩ = some (.int .i64 hy) := cell_gr hw7 (by go_simp)
  have zw7_0 : W.heap.size < w7.heap.size := World.block_lt_of_cell? _ _ cw7_0_0
  have cw7_1_0 : w7.cell? ⟨w1.heap.size, 0, none⟩ = some (.int .i64 v0) := cell_gr hw7 (by go_simp)
  have cw7_1_1 : w7.cell? ⟨w1.heap.size, 1, none⟩ = some (.int .i64 v1) := cell_gr hw7 (by go_simp)
  have cw7_1_2 : w7.cell? ⟨w1.heap.size, 2, none⟩ = some (.int .i64 v2) := cell_gr hw7 (by go_simp)
  have cw7_1_3 : w7.cell? ⟨w1.heap.size, 3, none⟩ = some (.int .i64 v3) := cell_gr hw7 (by go_simp)
  have zw7_1 : w1.heap.size < w7.heap.size := World.block_lt_of_cell? _ _ cw7_1_0
  have cw7_2_0 : w7.cell? ⟨w2.heap.size, 0, none⟩ = some (.int .i64 v0) := cell_gr hw7 (by go_simp)
  have cw7_2_1 : w7.cell? ⟨w2.heap.size, 1, none⟩ = some (.int .i64 v1) := cell_gr hw7 (by go_simp)
  have cw7_2_2 : w7.cell? ⟨w2.heap.size, 2, none⟩ = some (.int .i64 v2) := cell_gr hw7 (by go_simp)
  have cw7_2_3 : w7.cell? ⟨w2.heap.size, 3, none⟩ = some (.int .i64 v3) := cell_gr hw7 (by go_simp)
  have zw7_2 : w2.heap.size < w7.heap.size := World.block_lt_of_cell? _ _ cw7_2_0
  have gw7 : Gr W w7 := Gr.trans (by have gg := gw6; have gs := gg.size; go_grown) hw7
  clear gw6 zw6_0 cw6_0_0 cw6_0_1 cw6_0_2 cw6_0_3 zw6_1 cw6_1_0 cw6_1_1 cw6_1_2 cw6_1_3 zw6_2 cw6_2_0 cw6_2_1 cw6_2_2 cw6_2_3
  clear hw7
  try simp only [Act.put, List.setIfInBounds_toArray, List.set_cons_zero, List.set_cons_succ]
  repeat (first | (refine Od.wpO_skip (by simp only [List.getElem?_toArray, List.getElem?_cons_succ, List.getElem?_cons_zero] <;> rfl) rfl ?_; simp only [Act.put, List.setIfInBounds_toArray, List.set_cons_zero, List.set_cons_succ]) | (refine Od.wpO_pure (by simp only [List.getElem?_toArray, List.getElem?_cons_succ, List.getElem?_cons_zero] <;> rfl) rfl ?_; apply Exists.intro; refine ⟨?_, ?_⟩; (· intro wx gx; obtain ⟨mx, rfl⟩ := spread_of_gr gx; clear gx; all_goals (apply Od.pAt_of_quiet; intro K hK; go_big_quiet_op; first | exact hK _ rfl | (apply Exists.intro; refine ⟨fun _ => ?_, ?_⟩; (· fail); exact hK _ rfl))); try simp only [Act.put, List.setIfInBounds_toArray, List.set_cons_zero, List.set_cons_succ]))
  refine Od.wpO_nil (hKQ _ _ ?_)
  clear hKQ KQ
  go_wp2_with fail
  go_at_call 35
  refine (H3.out _).mono ?_
  rintro e w8 ⟨g8, c8, rfl, r8, x8⟩
  have R8 := Lib.hid r8
  have a0 : w8.cell? ⟨W.heap.size, 0, none⟩ = some (.int .i64 lx) := cell_gr x8 (by go_simp)
  have a1 : w8.cell? ⟨W.heap.size, 1, none⟩ = some (.int .i64 ly) := cell_gr x8 (by go_simp)
  have a2 : w8.cell? ⟨W.heap.size, 2, none⟩ = some (.int .i64 hx) := cell_gr x8 (by go_simp)
  have a3 : w8.cell? ⟨W.heap.size, 3, none⟩ = some (.int .i64 hy) := cell_gr x8 (by go_simp)
  have G8 : Gr W w8 := Gr.trans (by have gg := gw7; have gs := gg.size; go_grown) x8
  clear x8 r8 R56 R6
  go_wp2_with fail
  go_at_call 33
  refine (H6.out _ _ (row_gr R8.out (by go_grown))).mono ?_
  rintro e w9 ⟨rfl, x9⟩
  have b0 : w9.cell? ⟨W.heap.size, 0, none⟩ = some (.int .i64 lx) := cell_gr x9 (by go_simp)
  have b1 : w9.cell? ⟨W.heap.size, 1, none⟩ = some (.int .i64 ly) := cell_gr x9 (by go_simp)
  have b2 : w9.cell? ⟨W.heap.size, 2, none⟩ = some (.int .i64 hx) := cell_gr x9 (by go_simp)
  have b3 : w9.cell? ⟨W.heap.size, 3, none⟩ = some (.int .i64 hy) := cell_gr x9 (by go_simp)
  have q9 := World.block_lt_of_cell? _ _ b0
  have gw9 : Gr W w9 := Gr.trans G8 (Gr.trans (by go_grown) x9)
  clear x9 G8 a0 a1 a2 a3 R8 cw7_0_0 cw7_0_1 cw7_0_2 cw7_0_3 cw7_1_0 cw7_1_1 cw7_1_2 cw7_1_3 cw7_2_0 cw7_2_1 cw7_2_2 cw7_2_3 zw7_0 zw7_1 zw7_2 gw7
  go_wp2_with fail
  try simp only [List.append]
  refine Od.wp_region_ord [(0, false), (1, false), (2, false), (3, true), (4, false), (5, false), (6, false), (7, false), (8, false), (9, false), (10, false), (11, false), (12, false), (13, false), (14, false), (15, false), (16, false), (17, true), (18, false), (19, false), (20, false), (21, false), (22, true), (23, false), (24, false)] (by kernel_rfl) (by kernel_rfl) ?_
  intro wa hwa KQ hKQ
  have cwa_0_0 : wa.cell? ⟨W.heap.size, 0, none⟩ = some (.int .i64 lx) := cell_gr hwa (by go_simp)
  have cwa_0_1 : wa.cell? ⟨W.heap.size, 1, none⟩ = some (.int .i64 ly) := cell_gr hwa (by go_simp)
  have cwa_0_2 : wa.cell? ⟨W.heap.size, 2, none⟩ = some (.int .i64 hx) := cell_gr hwa (by go_simp)
  have cwa_0_3 : wa.cell? ⟨W.heap.size, 3, none⟩ = some (.int .i64 hy) := cell_gr hwa (by go_simp)
  have zwa_0 : W.heap.size < wa.heap.size := World.block_lt_of_cell? _ _ cwa_0_0
  have cwa_1_0 : wa.cell? ⟨w9.heap.size, 0, none⟩ = some (.int .i64 lx) := cell_gr hwa (by go_simp)
  have cwa_1_1 : wa.cell? ⟨w9.heap.size, 1, none⟩ = some (.int .i64 ly) := cell_gr hwa (by go_simp)
  have cwa_1_2 : wa.cell? ⟨w9.heap.size, 2, none⟩ = some (.int .i64 hx) := cell_gr hwa (by go_simp)
  have cwa_1_3 : wa.cell? ⟨w9.heap.size, 3, none⟩ = some (.int .i64 hy) := cell_gr hwa (by go_simp)
  have zwa_1 : w9.heap.size < wa.heap.size := World.block_lt_of_cell? _ _ cwa_1_0
  have gwa : Gr W wa := Gr.trans (by have gg := gw9; have gs := gg.size; go_grown) hwa
  clear gw9
  clear hwa
  repeat (first | (refine Od.wpO_skip (by simp only [List.getElem?_toArray, List.getElem?_cons_succ, List.getElem?_cons_zero] <;> rfl) rfl ?_; simp only [Act.put, List.setIfInBounds_toArray, List.set_cons_zero, List.set_cons_succ]) | (refine Od.wpO_pure (by simp only [List.getElem?_toArray, List.getElem?_cons_succ, List.getElem?_cons_zero] <;> rfl) rfl ?_; apply Exists.intro; refine ⟨?_, ?_⟩; (· intro wx gx; obtain ⟨mx, rfl⟩ := spread_of_gr gx; clear gx; all_goals (apply Od.pAt_of_quiet; intro K hK; go_big_quiet_op; first | exact hK _ rfl | (apply Exists.intro; refine ⟨fun _ => ?_, ?_⟩; (· fail); exact hK _ rfl))); try simp only [Act.put, List.setIfInBounds_toArray, List.set_cons_zero, List.set_cons_succ]))
  refine Od.wpO_call (by simp only [List.getElem?_toArray, List.getElem?_cons_succ, List.getElem?_cons_zero] <;> rfl) rfl ?_
  intro QS hQS
  go_wp2_with fail
  go_at_call 37
  (with_reducible refine ((H5.out _)).mono ?_)
  rintro e wb ⟨rfl, hwb⟩
  go_wp2_with fail
  apply Exists.intro
  refine ⟨?_, hwb, ?_⟩
  · simp only [Act.put, List.setIfInBounds_toArray, List.set_cons_zero, List.set_cons_succ]; rfl
  have cwb_0_0 : wb.cell? ⟨W.heap.size, 0, none⟩ = some (.int .i64 lx) := cell_gr hwb (by go_simp)
  have cwb_0_1 : wb.cell? ⟨W.heap.size, 1, none⟩ = some (.int .i64 ly) := cell_gr hwb (by go_simp)
  have cwb_0_2 : wb.cell? ⟨W.heap.size, 2, none⟩ = some (.int .i64 hx) := cell_gr hwb (by go_simp)
  have cwb_0_3 : wb.cell? ⟨W.heap.size, 3, none⟩ = some (.int .i64 hy) := cell_gr hwb (by go_simp)
  have zwb_0 : W.heap.size < wb.heap.size := World.block_lt_of_cell? _ _ cwb_0_0
  have cwb_1_0 : wb.cell? ⟨w9.heap.size, 0, none⟩ = some (.int .i64 lx) := cell_gr hwb (by go_simp)
  have cwb_1_1 : wb.cell? ⟨w9.heap.size, 1, none⟩ = some (.int .i64 ly) := cell_gr hwb (by go_simp)
  have cwb_1_2 : wb.cell? ⟨w9.heap.size, 2, none⟩ = some (.int .i64 hx) := cell_gr hwb (by go_simp)
  have cwb_1_3 : wb.cell? ⟨w9.heap.size, 3, none⟩ = some (.int .i64 hy) := cell_gr hwb (by go_simp)
  have zwb_1 : w9.heap.size < wb.heap.size := World.block_lt_of_cell? _ _ cwb_1_0
  have gwb : Gr W wb := Gr.trans (by have gg := gwa; have gs := gg.size; go_grown) hwb
  clear gwa zwa_0 cwa_0_0 cwa_0_1 cwa_0_2 cwa_0_3 zwa_1 cwa_1_0 cwa_1_1 cwa_1_2 cwa_1_3
  clear hwb
  try simp only [Act.put, List.setIfInBounds_toArray, List.set_cons_zero, List.set_cons_succ]
  repeat (first | (refine Od.wpO_skip (by simp only [List.getElem?_toArray, List.getElem?_cons_succ, List.getElem?_cons_zero] <;> rfl) rfl ?_; simp only [Act.put, List.setIfInBounds_toArray, List.set_cons_zero, List.set_cons_succ]) | (refine Od.wpO_pure (by simp only [List.getElem?_toArray, List.getElem?_cons_succ, List.getElem?_cons_zero] <;> rfl) rfl ?_; apply Exists.intro; refine ⟨?_, ?_⟩; (· intro wx gx; obtain ⟨mx, rfl⟩ := spread_of_gr gx; clear gx; all_goals (apply Od.pAt_of_quiet; intro K hK; go_big_quiet_op; first | exact hK _ rfl | (apply Exists.intro; refine ⟨fun _ => ?_, ?_⟩; (· fail); exact hK _ rfl))); try simp only [Act.put, List.setIfInBounds_toArray, List.set_cons_zero, List.set_cons_succ]))
  refine Od.wpO_call (by simp only [List.getElem?_toArray, List.getElem?_cons_succ, List.getElem?_cons_zero] <;> rfl) rfl ?_
  intro QS hQS
  go_wp2_with fail
  go_at_call 35
  (with_reducible refine ((H3.out _)).mono ?_)
  rintro e wc ⟨gc, cc, rfl, rc, hwc⟩
  go_wp2_with fail
  apply Exists.intro
  refine ⟨?_, hwc, ?_⟩
  · simp only [Act.put, List.setIfInBounds_toArray, List.set_cons_zero, List.set_cons_succ]; rfl
  have cwc_0_0 : wc.cell? ⟨W.heap.size, 0, none⟩ = some (.int .i64 lx) := cell_gr hwc (by go_simp)
  have cwc_0_1 : wc.cell? ⟨W.heap.size, 1, none⟩ = some (.int .i64 ly) := cell_gr hwc (by go_simp)
  have cwc_0_2 : wc.cell? ⟨W.heap.size, 2, none⟩ = some (.int .i64 hx) := cell_gr hwc (by go_simp)
  have cwc_0_3 : wc.cell? ⟨W.heap.size, 3, none⟩ = some (.int .i64 hy) := cell_gr hwc (by go_simp)
  have zwc_0 : W.heap.size < wc.heap.size := World.block_lt_of_cell? _ _ cwc_0_0
  have cwc_1_0 : wc.cell? ⟨w9.heap.size, 0, none⟩ = some (.int .i64 lx) := cell_gr hwc (by go_simp)
  have cwc_1_1 : wc.cell? ⟨w9.heap.size, 1, none⟩ = some (.int .i64 ly) := cell_gr hwc (by go_simp)
  have cwc_1_2 : wc.cell? ⟨w9.heap.size, 2, none⟩ = some (.int .i64 hx) := cell_gr hwc (by go_simp)
  have cwc_1_3 : wc.cell? ⟨w9.heap.size, 3, none⟩ = some (.int .i64 hy) := cell_gr hwc (by go_simp)
  have zwc_1 : w9.heap.size < wc.heap.size := World.block_lt_of_cell? _ _ cwc_1_0
  have gwc : Gr W wc := Gr.trans (by have gg := gwb; have gs := gg.size; go_grown) hwc
  clear gwb zwb_0 cwb_0_0 cwb_0_1 cwb_0_2 cwb_0_3 zwb_1 cwb_1_0 cwb_1_1 cwb_1_2 cwb_1_3
  clear hwc
  try simp only [Act.put, List.setIfInBounds_toArray, List.set_cons_zero, List.set_cons_succ]
  repeat (first | (refine Od.wpO_skip (by simp only [List.getElem?_toArray, List.getElem?_cons_succ, List.getElem?_cons_zero] <;> rfl) rfl ?_; simp only [Act.put, List.setIfInBounds_toArray, List.set_cons_zero, List.set_cons_succ]) | (refine Od.wpO_pure (by simp only [List.getElem?_toArray, List.getElem?_cons_succ, List.getElem?_cons_zero] <;> rfl) rfl ?_; apply Exists.intro; refine ⟨?_, ?_⟩; (· intro wx gx; obtain ⟨mx, rfl⟩ := spread_of_gr gx; clear gx; all_goals (apply Od.pAt_of_quiet; intro K hK; go_big_quiet_op; first | exact hK _ rfl | (apply Exists.intro; refine ⟨fun _ => ?_, ?_⟩; (· fail); exact hK _ rfl))); try simp only [Act.put, List.setIfInBounds_toArray, List.set_cons_zero, List.set_cons_succ]))
  refine Od.wpO_call (by simp only [List.getElem?_toArray, List.getElem?_cons_succ, List.getElem?_cons_zero] <;> rfl) rfl ?_
  intro QS hQS
  go_wp2_with fail
  go_at_call 32
  (with_reducible refine ((H8.out _)).mono ?_)
  rintro e wd ⟨rfl, hwd⟩
  go_wp2_with fail
  apply Exists.intro
  refine ⟨?_, hwd, ?_⟩
  · simp only [Act.put, List.setIfInBounds_toArray, List.set_cons_zero, List.set_cons_succ]; rfl
  have cwd_0_0 : wd.cell? ⟨W.heap.size, 0, none⟩ = some (.int .i64 lx) := cell_gr hwd (by go_simp)
  have cwd_0_1 : wd.cell? ⟨W.heap.size, 1, none⟩ = some (.int .i64 ly) := cell_gr hwd (by go_simp)
  have cwd_0_2 : wd.cell? ⟨W.heap.size, 2, none⟩ = some (.int .i64 hx) := cell_gr hwd (by go_simp)
  have cwd_0_3 : wd.cell? ⟨W.heap.size, 3, none⟩ = some (.int .i64 hy) := cell_gr hwd (by go_simp)
  have zwd_0 : W.heap.size < wd.heap.size := World.block_lt_of_cell? _ _ cwd_0_0
  have cwd_1_0 : wd.cell? ⟨w9.heap.size, 0, none⟩ = some (.int .i64 lx) := cell_gr hwd (by go_simp)
  have cwd_1_1 : wd.cell? ⟨w9.heap.size, 1, none⟩ = some (.int .i64 ly) := cell_gr hwd (by go_simp)
  have cwd_1_2 : wd.cell? ⟨w9.heap.size, 2, none⟩ = some (.int .i64 hx) := cell_gr hwd (by go_simp)
  have cwd_1_3 : wd.cell? ⟨w9.heap.size, 3, none⟩ = some (.int .i64 hy) := cell_gr hwd (by go_simp)
  have zwd_1 : w9.heap.size < wd.heap.size := World.block_lt_of_cell? _ _ cwd_1_0
  have gwd : Gr W wd := Gr.trans (by have gg := gwc; have gs := gg.size; go_grown) hwd
  clear gwc zwc_0 cwc_0_0 cwc_0_1 cwc_0_2 cwc_0_3 zwc_1 cwc_1_0 cwc_1_1 cwc_1_2 cwc_1_3
  clear hwd
  try simp only [Act.put, List.setIfInBounds_toArray, List.set_cons_zero, List.set_cons_succ]
  repeat (first | (refine Od.wpO_skip (by simp only [List.getElem?_toArray, List.getElem?_cons_succ, List.getElem?_cons_zero] <;> rfl) rfl ?_; simp only [Act.put, List.setIfInBounds_toArray, List.set_cons_zero, List.set_cons_succ]) | (refine Od.wpO_pure (by simp only [List.getElem?_toArray, List.getElem?_cons_succ, List.getElem?_cons_zero] <;> rfl) rfl ?_; apply Exists.intro; refine ⟨?_, ?_⟩; (· intro wx gx; obtain ⟨mx, rfl⟩ := spread_of_gr gx; clear gx; all_goals (apply Od.pAt_of_quiet; intro K hK; go_big_quiet_op; first | exact hK _ rfl | (apply Exists.intro; refine ⟨fun _ => ?_, ?_⟩; (· fail); exact hK _ rfl))); try simp only [Act.put, List.setIfInBounds_toArray, List.set_cons_zero, List.set_cons_succ]))
  refine Od.wpO_nil (hKQ _ _ ?_)
  clear hKQ KQ
  go_wp2_with fail
  go_ret
  exact ⟨rfl, gwd⟩
set_option maxHeartbeats 16000000 in
set_option maxRecDepth 100000 in
theorem keys_yn (lx ly hx hy v0 v1 v2 v3 bc : Int) (ad : Option Addr) (n cap : Nat) (K : List UInt8) (W : World) (hn : n ≤ 300) (hK : K.length ≤ 64) (hE : ErrT W) (hb : (bc == 0) = false)
    (A1 : ∀ w, Gr W w → Calls Tryd.prog 33 #[.slice ad n cap] w fun e w' => e = .returned (.tuple #[.agg #[.int .i64 v0, .int .i64 v1, .int .i64 v2, .int .i64 v3], .nilIface]) ∧ Gr w w')
    (A2 : ∀ w, Gr W w → Calls Tryd.prog 34 #[.slice ad n cap] w fun e w' => e = .returned (.tuple #[.agg #[.int .i64 v0, .int .i64 v1, .int .i64 v2, .int .i64 v3], .bool true]) ∧ Gr w w')
    (A3 : ∀ w, Calls Tryd.prog 35 #[.agg #[.int .i64 lx, .int .i64 ly, .int .i64 hx, .int .i64 hy]] w fun e w' => ∃ g c, e = .returned (.slice (some ⟨g, 0, none⟩) K.length c) ∧ Row w' (.slice (some ⟨g, 0, none⟩) K.length c) K ∧ Gr w w')
    (A4 : ∀ w, Calls Tryd.prog 36 #[.agg #[.int .i64 lx, .int .i64 ly, .int .i64 hx, .int .i64 hy]] w fun e w' => ∃ g c, e = .returned (.slice (some ⟨g, 0, none⟩) K.length c) ∧ Row w' (.slice (some ⟨g, 0, none⟩) K.length c) K ∧ Gr w w' ∧ Gr w w')
    (A5 : ∀ w, Calls Tryd.prog 37 #[.agg #[.int .i64 lx, .int .i64 ly, .int .i64 hx, .int .i64 hy]] w fun e w' => e = .returned (.int .i64 bc) ∧ Gr w w')
    (A6 : ∀ w v, Row w v K → Calls Tryd.prog 33 #[v] w fun e w' => ∃ B, e = .returned (.tuple #[.agg #[.int .i64 0, .int .i64 0, .int .i64 0, .int .i64 0], .iface 68 (.pointer (some ⟨B, 0, none⟩))]) ∧ Gr w w') :
    Calls Tryd.prog 6 #[.agg #[.int .i64 lx, .int .i64 ly, .int .i64 hx, .int .i64 hy], .slice ad n cap] W fun e w' => e = .returned (.bool true) ∧ Gr W w' := by
  have t1 : decide ((300 : Int) < (n : Int)) = false := decide_eq_false (by omega)
  have t2 : decide (300 < n) = false := decide_eq_false (by omega)
  have hN : ∀ w, (binOp .neq 28 (.agg #[.int .i64 v0, .int .i64 v1, .int .i64 v2, .int .i64 v3]) (.agg #[.int .i64 v0, .int .i64 v1, .int .i64 v2, .int .i64 v3])).run Tryd.prog w = .ok (.bool false) w := fun w => by simp [go_sem]
  have A7 := fun w u v (r : Row w u K) (s : Row w v K) => c_Bytes_same (L := K) w r s (by omega)
  have A8 := fun w => p16_awake w
  have hk9 : (K.length : Int) ≤ 64 := by omega
  have t3 : decide ((K.length : Int) ≤ 64) = true := decide_eq_true hk9
  have t4 : decide (K.length ≤ 64) = true := decide_eq_true hK
  obtain ⟨kn, hkn⟩ : ∃ kn, kn = K.length := ⟨_, rfl⟩
  rw [← hkn] at A3 A4 hk9 t3 t4
  have H1 := Lib.hid A1
  have H2 := Lib.hid A2
  have H3 := Lib.hid A3
  have H4 := Lib.hid A4
  have H5 := Lib.hid A5
  have H6 := Lib.hid A6
  have H7 := Lib.hid A7
  have H8 := Lib.hid A8
  clear A1 A2 A3 A4 A5 A6 A7 A8
  have HE := Lib.hid hE
  clear hn hK hE hkn
  go_enter Tryd.func6, Tryd.ntmps6
  go_wp2_with fail
  go_at_call 33
  refine ((H1.out _ (by go_grown))).mono ?_
  rintro e w1 ⟨rfl, hw1⟩
  have cw1_0_0 : w1.cell? ⟨W.heap.size, 0, none⟩ = some (.int .i64 lx) := cell_gr hw1 (by go_simp)
  have cw1_0_1 : w1.cell? ⟨W.heap.size, 1, none⟩ = some (.int .i64 ly) := cell_gr hw1 (by go_simp)
  have cw1_0_2 : w1.cell? ⟨W.heap.size, 2, none⟩ = some (.int .i64 hx) := cell_gr hw1 (by go_simp)
  have cw1_0_3 : w1.cell? ⟨W.heap.size, 3, none⟩ = some (.int .i64 hy) := cell_gr hw1 (by go_simp)
  have zw1_0 : W.heap.size < w1.heap.size := World.block_lt_of_cell? _ _ cw1_0_0
  have gw1 : Gr W w1 := Gr.trans (by go_grown) hw1
  clear hw1
  go_wp2_with fail
  go_at_call 34
  refine ((H2.out _ (by have gg := gw1; have gs := gg.size; go_grown))).mono ?_
  rintro e w2 ⟨rfl, hw2⟩
  have cw2_0_0 : w2.cell? ⟨W.heap.size, 0, none⟩ = some (.int .i64 lx) := cell_gr hw2 (by go_simp)
  have cw2_0_1 : w2.cell? ⟨W.heap.size, 1, none⟩ = some (.int .i64 ly) := cell_gr hw2 (by go_simp)
  have cw2_0_2 : w2.cell? ⟨W.heap.size, 2, none⟩ = some (.int .i64 hx) := cell_gr hw2 (by go_simp)
  have cw2_0_3 : w2.cell? ⟨W.heap.size, 3, none⟩ = some (.int .i64 hy) := cell_gr hw2 (by go_simp)
  have zw2_0 : W.heap.size < w2.heap.size := World.block_lt_of_cell? _ _ cw2_0_0
  have cw2_1_0 : w2.cell? ⟨w1.heap.size, 0, none⟩ = some (.int .i64 v0) := cell_gr hw2 (by go_simp)
  have cw2_1_1 : w2.cell? ⟨w1.heap.size, 1, none⟩ = some (.int .i64 v1) := cell_gr hw2 (by go_simp)
  have cw2_1_2 : w2.cell? ⟨w1.heap.size, 2, none⟩ = some (.int .i64 v2) := cell_gr hw2 (by go_simp)
  have cw2_1_3 : w2.cell? ⟨w1.heap.size, 3, none⟩ = some (.int .i64 v3) := cell_gr hw2 (by go_simp)
  have zw2_1 : w1.heap.size < w2.heap.size := World.block_lt_of_cell? _ _ cw2_1_0
  have gw2 : Gr W w2 := Gr.trans (by have gg := gw1; have gs := gg.size; go_grown) hw2
  clear hw2 gw1 zw1_0 cw1_0_0 cw1_0_1 cw1_0_2 cw1_0_3
  go_wp2_with fail
  try simp only [List.append]
  refine Od.wp_region_ord [(0, false), (1, false), (2, false), (3, false), (4, false), (5, false), (6, true), (7, false), (8, false), (9, false), (10, false), (12, false), (11, true), (13, true), (14, true), (15, false), (16, false)] (by kernel_rfl) (by kernel_rfl) ?_
  intro w3 hw3 KQ hKQ
  have cw3_0_0 : w3.cell? ⟨W.heap.size, 0, none⟩ = some (.int .i64 lx) := cell_gr hw3 (by go_simp)
  have cw3_0_1 : w3.cell? ⟨W.heap.size, 1, none⟩ = some (.int .i64 ly) := cell_gr hw3 (by go_simp)
  have cw3_0_2 : w3.cell? ⟨W.heap.size, 2, none⟩ = some (.int .i64 hx) := cell_gr hw3 (by go_simp)
  have cw3_0_3 : w3.cell? ⟨W.heap.size, 3, none⟩ = some (.int .i64 hy) := cell_gr hw3 (by go_simp)
  have zw3_0 : W.heap.size < w3.heap.size := World.block_lt_of_cell? _ _ cw3_0_0
  have cw3_1_0 : w3.cell? ⟨w1.heap.size, 0, none⟩ = some (.int .i64 v0) := cell_gr hw3 (by go_simp)
  have cw3_1_1 : w3.cell? ⟨w1.heap.size, 1, none⟩ = some (.int .i64 v1) := cell_gr hw3 (by go_simp)
  have cw3_1_2 : w3.cell? ⟨w1.heap.size, 2, none⟩ = some (.int .i64 v2) := cell_gr hw3 (by go_simp)
  have cw3_1_3 : w3.cell? ⟨w1.heap.size, 3, none⟩ = some (.int .i64 v3) := cell_gr hw3 (by go_simp)
  have zw3_1 : w1.heap.size < w3.heap.size := World.block_lt_of_cell? _ _ cw3_1_0
  have cw3_2_0 : w3.cell? ⟨w2.heap.size, 0, none⟩ = some (.int .i64 v0) := cell_gr hw3 (by go_simp)
  have cw3_2_1 : w3.cell? ⟨w2.heap.size, 1, none⟩ = some (.int .i64 v1) := cell_gr hw3 (by go_simp)
  have cw3_2_2 : w3.cell? ⟨w2.heap.size, 2, none⟩ = some (.int .i64 v2) := cell_gr hw3 (by go_simp)
  have cw3_2_3 : w3.cell? ⟨w2.heap.size, 3, none⟩ = some (.int .i64 v3) := cell_gr hw3 (by go_simp)
  have zw3_2 : w2.heap.size < w3.heap.size := World.block_lt_of_cell? _ _ cw3_2_0
  have gw3 : Gr W w3 := Gr.trans (by have gg := gw2; have gs := gg.size; go_grown) hw3
  clear gw2 zw2_0 cw2_0_0 cw2_0_1 cw2_0_2 cw2_0_3 zw2_1 cw2_1_0 cw2_1_1 cw2_1_2 cw2_1_3
  clear hw3
  repeat (first | (refine Od.wpO_skip (by simp only [List.getElem?_toArray, List.getElem?_cons_succ, List.getElem?_cons_zero] <;> rfl) rfl ?_; simp only [Act.put, List.setIfInBounds_toArray, List.set_cons_zero, List.set_cons_succ]) | (refine Od.wpO_pure (by simp only [List.getElem?_toArray, List.getElem?_cons_succ, List.getElem?_cons_zero] <;> rfl) rfl ?_; apply Exists.intro; refine ⟨?_, ?_⟩; (· intro wx gx; obtain ⟨mx, rfl⟩ := spread_of_gr gx; clear gx; all_goals (apply Od.pAt_of_quiet; intro K hK; go_big_quiet_op; first | exact hK _ rfl | (apply Exists.intro; refine ⟨fun _ => ?_, ?_⟩; (· fail); exact hK _ rfl))); try simp only [Act.put, List.setIfInBounds_toArray, List.set_cons_zero, List.set_cons_succ]))
  refine Od.wpO_call (by simp only [List.getElem?_toArray, List.getElem?_cons_succ, List.getElem?_cons_zero] <;> rfl) rfl ?_
  intro QS hQS
  go_wp2_with fail
  go_at_call 9
  (with_reducible refine ((ki_nil _)).mono ?_)
  rintro e w4 ⟨rfl, hw4⟩
  go_wp2_with fail
  apply Exists.intro
  refine ⟨?_, hw4, ?_⟩
  · simp only [Act.put, List.setIfInBounds_toArray, List.set_cons_zero, List.set_cons_succ]; rfl
  have cw4_0_0 : w4.cell? ⟨W.heap.size, 0, none⟩ = some (.int .i64 lx) := cell_gr hw4 (by go_simp)
  have cw4_0_1 : w4.cell? ⟨W.heap.size, 1, none⟩ = some (.int .i64 ly) := cell_gr hw4 (by go_simp)
  have cw4_0_2 : w4.cell? ⟨W.heap.size, 2, none⟩ = some (.int .i64 hx) := cell_gr hw4 (by go_simp)
  have cw4_0_3 : w4.cell? ⟨W.heap.size, 3, none⟩ = some (.int .i64 hy) := cell_gr hw4 (by go_simp)
  have zw4_0 : W.heap.size < w4.heap.size := World.block_lt_of_cell? _ _ cw4_0_0
  have cw4_1_0 : w4.cell? ⟨w1.heap.size, 0, none⟩ = some (.int .i64 v0) := cell_gr hw4 (by go_simp)
  have cw4_1_1 : w4.cell? ⟨w1.heap.size, 1, none⟩ = some (.int .i64 v1) := cell_gr hw4 (by go_simp)
  have cw4_1_2 : w4.cell? ⟨w1.heap.size, 2, none⟩ = some (.int .i64 v2) := cell_gr hw4 (by go_simp)
  have cw4_1_3 : w4.cell? ⟨w1.heap.size, 3, none⟩ = some (.int .i64 v3) := cell_gr hw4 (by go_simp)
  have zw4_1 : w1.heap.size < w4.heap.size := World.block_lt_of_cell? _ _ cw4_1_0
  have cw4_2_0 : w4.cell? ⟨w2.heap.size, 0, none⟩ = some (.int .i64 v0) := cell_gr hw4 (by go_simp)
  have cw4_2_1 : w4.cell? ⟨w2.heap.size, 1, none⟩ = some (.int .i64 v1) := cell_gr hw4 (by go_simp)
  have cw4_2_2 : w4.cell? ⟨w2.heap.size, 2, none⟩ = some (.int .i64 v2) := cell_gr hw4 (by go_simp)
  have cw4_2_3 : w4.cell? ⟨w2.heap.size, 3, none⟩ = some (.int .i64 v3) := cell_gr hw4 (by go_simp)
  have zw4_2 : w2.heap.size < w4.heap.size := World.block_lt_of_cell? _ _ cw4_2_0
  have gw4 : Gr W w4 := Gr.trans (by have gg := gw3; have gs := gg.size; go_grown) hw4
  clear gw3 zw3_0 cw3_0_0 cw3_0_1 cw3_0_2 cw3_0_3 zw3_1 cw3_1_0 cw3_1_1 cw3_1_2 cw3_1_3 zw3_2 cw3_2_0 cw3_2_1 cw3_2_2 cw3_2_3
  clear hw4
  try simp only [Act.put, List.setIfInBounds_toArray, List.set_cons_zero, List.set_cons_succ]
  repeat (first | (refine Od.wpO_skip (by simp only [List.getElem?_toArray, List.getElem?_cons_succ, List.getElem?_cons_zero] <;> rfl) rfl ?_; simp only [Act.put, List.setIfInBounds_toArray, List.set_cons_zero, List.set_cons_succ]) | (refine Od.wpO_pure (by simp only [List.getElem?_toArray, List.getElem?_cons_succ, List.getElem?_cons_zero] <;> rfl) rfl ?_; apply Exists.intro; refine ⟨?_, ?_⟩; (· intro wx gx; obtain ⟨mx, rfl⟩ := spread_of_gr gx; clear gx; all_goals (apply Od.pAt_of_quiet; intro K hK; go_big_quiet_op; first | exact hK _ rfl | (apply Exists.intro; refine ⟨fun _ => ?_, ?_⟩; (· fail); exact hK _ rfl))); try simp only [Act.put, List.setIfInBounds_toArray, List.set_cons_zero, List.set_cons_succ]))
  refine Od.wpO_call (by simp only [List.getElem?_toArray, List.getElem?_cons_succ, List.getElem?_cons_zero] <;> rfl) rfl ?_
  intro QS hQS
  go_wp2_with fail
  go_at_call 35
  (with_reducible refine ((H3.out _)).mono ?_)
  rintro e w5 ⟨g5, c5, rfl, r5, hw5⟩
  go_wp2_with fail
  apply Exists.intro
  refine ⟨?_, hw5, ?_⟩
  · simp only [Act.put, List.setIfInBounds_toArray, List.set_cons_zero, List.set_cons_succ]; rfl
  have cw5_0_0 : w5.cell? ⟨W.heap.size, 0, none⟩ = some (.int .i64 lx) := cell_gr hw5 (by go_simp)
  have cw5_0_1 : w5.cell? ⟨W.heap.size, 1, none⟩ = some (.int .i64 ly) := cell_gr hw5 (by go_simp)
  have cw5_0_2 : w5.cell? ⟨W.heap.size, 2, none⟩ = some (.int .i64 hx) := cell_gr hw5 (by go_simp)
  have cw5_0_3 : w5.cell? ⟨W.heap.size, 3, none⟩ = some (.int .i64 hy) := cell_gr hw5 (by go_simp)
  have zw5_0 : W.heap.size < w5.heap.size := World.block_lt_of_cell? _ _ cw5_0_0
  have cw5_1_0 : w5.cell? ⟨w1.heap.size, 0, none⟩ = some (.int .i64 v0) := cell_gr hw5 (by go_simp)
  have cw5_1_1 : w5.cell? ⟨w1.heap.size, 1, none⟩ = some (.int .i64 v1) := cell_gr hw5 (by go_simp)
  have cw5_1_2 : w5.cell? ⟨w1.heap.size, 2, none⟩ = some (.int .i64 v2) := cell_gr hw5 (by go_simp)
  have cw5_1_3 : w5.cell? ⟨w1.heap.size, 3, none⟩ = some (.int .i64 v3) := cell_gr hw5 (by go_simp)
  have zw5_1 : w1.heap.size < w5.heap.size := World.block_lt_of_cell? _ _ cw5_1_0
  have cw5_2_0 : w5.cell? ⟨w2.heap.size, 0, none⟩ = some (.int .i64 v0) := cell_gr hw5 (by go_simp)
  have cw5_2_1 : w5.cell? ⟨w2.heap.size, 1, none⟩ = some (.int .i64 v1) := cell_gr hw5 (by go_simp)
  have cw5_2_2 : w5.cell? ⟨w2.heap.size, 2, none⟩ = some (.int .i64 v2) := cell_gr hw5 (by go_simp)
  have cw5_2_3 : w5.cell? ⟨w2.heap.size, 3, none⟩ = some (.int .i64 v3) := cell_gr hw5 (by go_simp)
  have zw5_2 : w2.heap.size < w5.heap.size := World.block_lt_of_cell? _ _ cw5_2_0
  have gw5 : Gr W w5 := Gr.trans (by have gg := gw4; have gs := gg.size; go_grown) hw5
  clear gw4 zw4_0 cw4_0_0 cw4_0_1 cw4_0_2 cw4_0_3 zw4_1 cw4_1_0 cw4_1_1 cw4_1_2 cw4_1_3 zw4_2 cw4_2_0 cw4_2_1 cw4_2_2 cw4_2_3
  clear hw5
  try simp only [Act.put, List.setIfInBounds_toArray, List.set_cons_zero, List.set_cons_succ]
  repeat (first | (refine Od.wpO_skip (by simp only [List.getElem?_toArray, List.getElem?_cons_succ, List.getElem?_cons_zero] <;> rfl) rfl ?_; simp only [Act.put, List.setIfInBounds_toArray, List.set_cons_zero, List.set_cons_succ]) | (refine Od.wpO_pure (by simp only [List.getElem?_toArray, List.getElem?_cons_succ, List.getElem?_cons_zero] <;> rfl) rfl ?_; apply Exists.intro; refine ⟨?_, ?_⟩; (· intro wx gx; obtain ⟨mx, rfl⟩ := spread_of_gr gx; clear gx; all_goals (apply Od.pAt_of_quiet; intro K hK; go_big_quiet_op; first | exact hK _ rfl | (apply Exists.intro; refine ⟨fun _ => ?_, ?_⟩; (· fail); exact hK _ rfl))); try simp only [Act.put, List.setIfInBounds_toArray, List.set_cons_zero, List.set_cons_succ]))
  have R5 := Lib.hid r5
  clear r5
  refine Od.wpO_call (by simp only [List.getElem?_toArray, List.getElem?_cons_succ, List.getElem?_cons_zero] <;> rfl) rfl ?_
  intro QS hQS
  go_wp2_with fail
  go_at_call 36
  (with_reducible refine ((H4.out _)).mono ?_)
  rintro e w6 ⟨g6, c6, rfl, r6, hw6, k6⟩
  go_wp2_with fail
  apply Exists.intro
  refine ⟨?_, hw6, ?_⟩
  · simp only [Act.put, List.setIfInBounds_toArray, List.set_cons_zero, List.set_cons_succ]; rfl
  have cw6_0_0 : w6.cell? ⟨W.heap.size, 0, none⟩ = some (.int .i64 lx) := cell_gr hw6 (by go_simp)
  have cw6_0_1 : w6.cell? ⟨W.heap.size, 1, none⟩ = some (.int .i64 ly) := cell_gr hw6 (by go_simp)
  have cw6_0_2 : w6.cell? ⟨W.heap.size, 2, none⟩ = some (.int .i64 hx) := cell_gr hw6 (by go_simp)
  have cw6_0_3 : w6.cell? ⟨W.heap.size, 3, none⟩ = some (.int .i64 hy) := cell_gr hw6 (by go_simp)
  have zw6_0 : W.heap.size < w6.heap.size := World.block_lt_of_cell? _ _ cw6_0_0
  have cw6_1_0 : w6.cell? ⟨w1.heap.size, 0, none⟩ = some (.int .i64 v0) := cell_gr hw6 (by go_simp)
  have cw6_1_1 : w6.cell? ⟨w1.heap.size, 1, none⟩ = some (.int .i64 v1) := cell_gr hw6 (by go_simp)
  have cw6_1_2 : w6.cell? ⟨w1.heap.size, 2, none⟩ = some (.int .i64 v2) := cell_gr hw6 (by go_simp)
  have cw6_1_3 : w6.cell? ⟨w1.heap.size, 3, none⟩ = some (.int .i64 v3) := cell_gr hw6 (by go_simp)
  have zw6_1 : w1.heap.size < w6.heap.size := World.block_lt_of_cell? _ _ cw6_1_0
  have cw6_2_0 : w6.cell? ⟨w2.heap.size, 0, none⟩ = some (.int .i64 v0) := cell_gr hw6 (by go_simp)
  have cw6_2_1 : w6.cell? ⟨w2.heap.size, 1, none⟩ = some (.int .i64 v1) := cell_gr hw6 (by go_simp)
  have cw6_2_2 : w6.cell? ⟨w2.heap.size, 2, none⟩ = some (.int .i64 v2) := cell_gr hw6 (by go_simp)
  have cw6_2_3 : w6.cell? ⟨w2.heap.size, 3, none⟩ = some (.int .i64 v3) := cell_gr hw6 (by go_simp)
  have zw6_2 : w2.heap.size < w6.heap.size := World.block_lt_of_cell? _ _ cw6_2_0
  have gw6 : Gr W w6 := Gr.trans (by have gg := gw5; have gs := gg.size; go_grown) hw6
  clear gw5 zw5_0 cw5_0_0 cw5_0_1 cw5_0_2 cw5_0_3 zw5_1 cw5_1_0 cw5_1_1 cw5_1_2 cw5_1_3 zw5_2 cw5_2_0 cw5_2_1 cw5_2_2 cw5_2_3
  clear hw6
  try simp only [Act.put, List.setIfInBounds_toArray, List.set_cons_zero, List.set_cons_succ]
  repeat (first | (refine Od.wpO_skip (by simp only [List.getElem?_toArray, List.getElem?_cons_succ, List.getElem?_cons_zero] <;> rfl) rfl ?_; simp only [Act.put, List.setIfInBounds_toArray, List.set_cons_zero, List.set_cons_succ]) | (refine Od.wpO_pure (by simp only [List.getElem?_toArray, List.getElem?_cons_succ, List.getElem?_cons_zero] <;> rfl) rfl ?_; apply Exists.intro; refine ⟨?_, ?_⟩; (· intro wx gx; obtain ⟨mx, rfl⟩ := spread_of_gr gx; clear gx; all_goals (apply Od.pAt_of_quiet; intro K hK; go_big_quiet_op; first | exact hK _ rfl | (apply Exists.intro; refine ⟨fun _ => ?_, ?_⟩; (· fail); exact hK _ rfl))); try simp only [Act.put, List.setIfInBounds_toArray, List.set_cons_zero, List.set_cons_succ]))
  have R6 := Lib.hid r6
  have R56 := Lib.hid (row_gr R5.out k6)
  clear r6 k6 R5
  refine Od.wpO_call (by simp only [List.getElem?_toArray, List.getElem?_cons_succ, List.getElem?_cons_zero] <;> rfl) rfl ?_
  intro QS hQS
  go_wp2_with fail
  go_at_call 21
  (with_reducible refine ((H7.out _ _ _ R56.out R6.out)).mono ?_)
  rintro e w7 ⟨rfl, hw7⟩
  go_wp2_with fail
  apply Exists.intro
  refine ⟨?_, hw7, ?_⟩
  · simp only [Act.put, List.setIfInBounds_toArray, List.set_cons_zero, List.set_cons_succ]; rfl
  have cw7_0_0 : w7.cell? ⟨W.heap.size, 0, none⟩ = some (.int .i64 lx) := cell_gr hw7 (by go_simp)
  have cw7_0_1 : w7.cell? ⟨W.heap.size, 1, none⟩ = some (.int .i64 ly) := cell_gr hw7 (by go_simp)
  have cw7_0_2 : w7.cell? ⟨W.heap.size, 2, none⟩ = some (.int .i64 hx) := cell_gr hw7 (by go_simp)
  have cw7_0_3 : w7.cell? ⟨W.heap.size, 3, none⟩ = some (.int .i64 hy) := cell_gr hw7 (by go_simp)
  have zw7_0 : W.heap.size < w7.heap.size := World.block_lt_of_cell? _ _ cw7_0_0
  have cw7_1_0 : w7.cell? ⟨w1.heap.size, 0, none⟩ = some (.int .i64 v0) := cell_gr hw7 (by go_simp)
  have cw7_1_1 : w7.cell? ⟨w1.heap.size, 1, none⟩ = some (.int .i64 v1) := cell_gr hw7 (by go_simp)
  have cw7_1_2 : w7.cell? ⟨w1.heap.size, 2, none⟩ = some (.int .i64 v2) := cell_gr hw7 (by go_simp)
  have cw7_1_3 : w7.cell? ⟨w1.heap.size, 3, none⟩ = some (.int .i64 v3) := cell_gr hw7 (by go_simp)
  have zw7_1 : w1.heap.size < w7.heap.size := World.block_lt_of_cell? _ _ cw7_1_0
  have cw7_2_0 : w7.cell? ⟨w2.heap.size, 0, none⟩ = some (.int .i64 v0) := cell_gr hw7 (by go_simp)
  have cw7_2_1 : w7.cell? ⟨w2.heap.size, 1, none⟩ = some (.int .i64 v1) := cell_gr hw7 (by go_simp)
  have cw7_2_2 : w7.cell? ⟨w2.heap.size, 2, none⟩ = some (.int .i64 v2) := cell_gr hw7 (by go_simp)
  have cw7_2_3 : w7.cell? ⟨w2.heap.size, 3, none⟩ = some (.int .i64 v3) := cell_gr hw7 (by go_simp)
  have zw7_2 : w2.heap.size < w7.heap.size := World.block_lt_of_cell? _ _ cw7_2_0
  have gw7 : Gr W w7 := Gr.trans (by have gg := gw6; have gs := gg.size; go_grown) hw7
  clear gw6 zw6_0 cw6_0_0 cw6_0_1 cw6_0_2 cw6_0_3 zw6_1 cw6_1_0 cw6_1_1 cw6_1_2 cw6_1_3 zw6_2 cw6_2_0 cw6_2_1 cw6_2_2 cw6_2_3
  clear hw7
  try simp only [Act.put, List.setIfInBounds_toArray, List.set_cons_zero, List.set_cons_succ]
  repeat (first | (refine Od.wpO_skip (by simp only [List.getElem?_toArray, List.getElem?_cons_succ, List.getElem?_cons_zero] <;> rfl) rfl ?_; simp only [Act.put, List.setIfInBounds_toArray, List.set_cons_zero, List.set_cons_succ]) | (refine Od.wpO_pure (by simp only [List.getElem?_toArray, List.getElem?_cons_succ, List.getElem?_cons_zero] <;> rfl) rfl ?_; apply Exists.intro; refine ⟨?_, ?_⟩; (· intro wx gx; obtain ⟨mx, rfl⟩ := spread_of_gr gx; clear gx; all_goals (apply Od.pAt_of_quiet; intro K hK; go_big_quiet_op; first | exact hK _ rfl | (apply Exists.intro; refine ⟨fun _ => ?_, ?_⟩; (· fail); exact hK _ rfl))); try simp only [Act.put, List.setIfInBounds_toArray, List.set_cons_zero, List.set_cons_succ]))
  refine Od.wpO_nil (hKQ _ _ ?_)
  clear hKQ KQ
  go_wp2_with fail
  go_at_call 35
  refine (H3.out _).mono ?_
  rintro e w8 ⟨g8, c8, rfl, r8, x8⟩
  have R8 := Lib.hid r8
  have a0 : w8.cell? ⟨W.heap.size, 0, none⟩ = some (.int .i64 lx) := cell_gr x8 (by go_simp)
  have a1 : w8.cell? ⟨W.heap.size, 1, none⟩ = some (.int .i64 ly) := cell_gr x8 (by go_simp)
  have a2 : w8.cell? ⟨W.heap.size, 2, none⟩ = some (.int .i64 hx) := cell_gr x8 (by go_simp)
  have a3 : w8.cell? ⟨W.heap.size, 3, none⟩ = some (.int .i64 hy) := cell_gr x8 (by go_simp)
  have G8 : Gr W w8 := Gr.trans (by have gg := gw7; have gs := gg.size; go_grown) x8
  clear x8 r8 R56 R6
  go_wp2_with fail
  go_at_call 33
  refine (H6.out _ _ (row_gr R8.out (by go_grown))).mono ?_
  rintro e w9 ⟨B9, rfl, x9⟩
  have b0 : w9.cell? ⟨W.heap.size, 0, none⟩ = some (.int .i64 lx) := cell_gr x9 (by go_simp)
  have b1 : w9.cell? ⟨W.heap.size, 1, none⟩ = some (.int .i64 ly) := cell_gr x9 (by go_simp)
  have b2 : w9.cell? ⟨W.heap.size, 2, none⟩ = some (.int .i64 hx) := cell_gr x9 (by go_simp)
  have b3 : w9.cell? ⟨W.heap.size, 3, none⟩ = some (.int .i64 hy) := cell_gr x9 (by go_simp)
  have q9 := World.block_lt_of_cell? _ _ b0
  have gw9 : Gr W w9 := Gr.trans G8 (Gr.trans (by go_grown) x9)
  clear x9 G8 a0 a1 a2 a3 R8 cw7_0_0 cw7_0_1 cw7_0_2 cw7_0_3 cw7_1_0 cw7_1_1 cw7_1_2 cw7_1_3 cw7_2_0 cw7_2_1 cw7_2_2 cw7_2_3 zw7_0 zw7_1 zw7_2 gw7
  go_wp2_with fail
  try simp only [List.append]
  refine Od.wp_region_ord [(0, false), (1, false), (2, false), (3, true), (4, false), (5, false), (6, false), (7, false), (8, false), (9, false), (10, false), (11, false), (12, false), (13, false), (14, false), (15, false), (16, false), (17, true), (18, false), (19, false), (20, false), (21, false), (22, true), (23, false), (24, false)] (by kernel_rfl) (by kernel_rfl) ?_
  intro wa hwa KQ hKQ
  have cwa_0_0 : wa.cell? ⟨W.heap.size, 0, none⟩ = some (.int .i64 lx) := cell_gr hwa (by go_simp)
  have cwa_0_1 : wa.cell? ⟨W.heap.size, 1, none⟩ = some (.int .i64 ly) := cell_gr hwa (by go_simp)
  have cwa_0_2 : wa.cell? ⟨W.heap.size, 2, none⟩ = some (.int .i64 hx) := cell_gr hwa (by go_simp)
  have cwa_0_3 : wa.cell? ⟨W.heap.size, 3, none⟩ = some (.int .i64 hy) := cell_gr hwa (by go_simp)
  have zwa_0 : W.heap.size < wa.heap.size := World.block_lt_of_cell? _ _ cwa_0_0
  have cwa_1_0 : wa.cell? ⟨w9.heap.size, 0, none⟩ = some (.int .i64 0) := cell_gr hwa (by go_simp)
  have cwa_1_1 : wa.cell? ⟨w9.heap.size, 1, none⟩ = some (.int .i64 0) := cell_gr hwa (by go_simp)
  have cwa_1_2 : wa.cell? ⟨w9.heap.size, 2, none⟩ = some (.int .i64 0) := cell_gr hwa (by go_simp)
  have cwa_1_3 : wa.cell? ⟨w9.heap.size, 3, none⟩ = some (.int .i64 0) := cell_gr hwa (by go_simp)
  have zwa_1 : w9.heap.size < wa.heap.size := World.block_lt_of_cell? _ _ cwa_1_0
  have gwa : Gr W wa := Gr.trans (by have gg := gw9; have gs := gg.size; go_grown) hwa
  clear gw9
  clear hwa
  repeat (first | (refine Od.wpO_skip (by simp only [List.getElem?_toArray, List.getElem?_cons_succ, List.getElem?_cons_zero] <;> rfl) rfl ?_; simp only [Act.put, List.setIfInBounds_toArray, List.set_cons_zero, List.set_cons_succ]) | (refine Od.wpO_pure (by simp only [List.getElem?_toArray, List.getElem?_cons_succ, List.getElem?_cons_zero] <;> rfl) rfl ?_; apply Exists.intro; refine ⟨?_, ?_⟩; (· intro wx gx; obtain ⟨mx, rfl⟩ := spread_of_gr gx; clear gx; all_goals (apply Od.pAt_of_quiet; intro K hK; go_big_quiet_op; first | exact hK _ rfl | (apply Exists.intro; refine ⟨fun _ => ?_, ?_⟩; (· fail); exact hK _ rfl))); try simp only [Act.put, List.setIfInBounds_toArray, List.set_cons_zero, List.set_cons_succ]))
  refine Od.wpO_call (by simp only [List.getElem?_toArray, List.getElem?_cons_succ, List.getElem?_cons_zero] <;> rfl) rfl ?_
  intro QS hQS
  go_wp2_with fail
  go_at_call 37
  (with_reducible refine ((H5.out _)).mono ?_)
  rintro e wb ⟨rfl, hwb⟩
  go_wp2_with fail
  apply Exists.intro
  refine ⟨?_, hwb, ?_⟩
  · simp only [Act.put, List.setIfInBounds_toArray, List.set_cons_zero, List.set_cons_succ]; rfl
  have cwb_0_0 : wb.cell? ⟨W.heap.size, 0, none⟩ = some (.int .i64 lx) := cell_gr hwb (by go_simp)
  have cwb_0_1 : wb.cell? ⟨W.heap.size, 1, none⟩ = some (.int .i64 ly) := cell_gr hwb (by go_simp)
  have cwb_0_2 : wb.cell? ⟨W.heap.size, 2, none⟩ = some (.int .i64 hx) := cell_gr hwb (by go_simp)
  have cwb_0_3 : wb.cell? ⟨W.heap.size, 3, none⟩ = some (.int .i64 hy) := cell_gr hwb (by go_simp)
  have zwb_0 : W.heap.size < wb.heap.size := World.block_lt_of_cell? _ _ cwb_0_0
  have cwb_1_0 : wb.cell? ⟨w9.heap.size, 0, none⟩ = some (.int .i64 0) := cell_gr hwb (by go_simp)
  have cwb_1_1 : wb.cell? ⟨w9.heap.size, 1, none⟩ = some (.int .i64 0) := cell_gr hwb (by go_simp)
  have cwb_1_2 : wb.cell? ⟨w9.heap.size, 2, none⟩ = some (.int .i64 0) := cell_gr hwb (by go_simp)
  have cwb_1_3 : wb.cell? ⟨w9.heap.size, 3, none⟩ = some (.int .i64 0) := cell_gr hwb (by go_simp)
  have zwb_1 : w9.heap.size < wb.heap.size := World.block_lt_of_cell? _ _ cwb_1_0
  have gwb : Gr W wb := Gr.trans (by have gg := gwa; have gs := gg.size; go_grown) hwb
  clear gwa zwa_0 cwa_0_0 cwa_0_1 cwa_0_2 cwa_0_3 zwa_1 cwa_1_0 cwa_1_1 cwa_1_2 cwa_1_3
  clear hwb
  try simp only [Act.put, List.setIfInBounds_toArray, List.set_cons_zero, List.set_cons_succ]
  repeat (first | (refine Od.wpO_skip (by simp only [List.getElem?_toArray, List.getElem?_cons_succ, List.getElem?_cons_zero] <;> rfl) rfl ?_; simp only [Act.put, List.setIfInBounds_toArray, List.set_cons_zero, List.set_cons_succ]) | (refine Od.wpO_pure (by simp only [List.getElem?_toArray, List.getElem?_cons_succ, List.getElem?_cons_zero] <;> rfl) rfl ?_; apply Exists.intro; refine ⟨?_, ?_⟩; (· intro wx gx; obtain ⟨mx, rfl⟩ := spread_of_gr gx; clear gx; all_goals (apply Od.pAt_of_quiet; intro K hK; go_big_quiet_op; first | exact hK _ rfl | (apply Exists.intro; refine ⟨fun _ => ?_, ?_⟩; (· fail); exact hK _ rfl))); try simp only [Act.put, List.setIfInBounds_toArray, List.set_cons_zero, List.set_cons_succ]))
  refine Od.wpO_call (by simp only [List.getElem?_toArray, List.getElem?_cons_succ, List.getElem?_cons_zero] <;> rfl) rfl ?_
  intro QS hQS
  go_wp2_with fail
  go_at_call 35
  (with_reducible refine ((H3.out _)).mono ?_)
  rintro e wc ⟨gc, cc, rfl, rc, hwc⟩
  go_wp2_with fail
  apply Exists.intro
  refine ⟨?_, hwc, ?_⟩
  · simp only [Act.put, List.setIfInBounds_toArray, List.set_cons_zero, List.set_cons_succ]; rfl
  have cwc_0_0 : wc.cell? ⟨W.heap.size, 0, none⟩ = some (.int .i64 lx) := cell_gr hwc (by go_simp)
  have cwc_0_1 : wc.cell? ⟨W.heap.size, 1, none⟩ = some (.int .i64 ly) := cell_gr hwc (by go_simp)
  have cwc_0_2 : wc.cell? ⟨W.heap.size, 2, none⟩ = some (.int .i64 hx) := cell_gr hwc (by go_simp)
  have cwc_0_3 : wc.cell? ⟨W.heap.size, 3, none⟩ = some (.int .i64 hy) := cell_gr hwc (by go_simp)
  have zwc_0 : W.heap.size < wc.heap.size := World.block_lt_of_cell? _ _ cwc_0_0
  have cwc_1_0 : wc.cell? ⟨w9.heap.size, 0, none⟩ = some (.int .i64 0) := cell_gr hwc (by go_simp)
  have cwc_1_1 : wc.cell? ⟨w9.heap.size, 1, none⟩ = some (.int .i64 0) := cell_gr hwc (by go_simp)
  have cwc_1_2 : wc.cell? ⟨w9.heap.size, 2, none⟩ = some (.int .i64 0) := cell_gr hwc (by go_simp)
  have cwc_1_3 : wc.cell? ⟨w9.heap.size, 3, none⟩ = some (.int .i64 0) := cell_gr hwc (by go_simp)
  have zwc_1 : w9.heap.size < wc.heap.size := World.block_lt_of_cell? _ _ cwc_1_0
  have gwc : Gr W wc := Gr.trans (by have gg := gwb; have gs := gg.size; go_grown) hwc
  clear gwb zwb_0 cwb_0_0 cwb_0_1 cwb_0_2 cwb_0_3 zwb_1 cwb_1_0 cwb_1_1 cwb_1_2 cwb_1_3
  clear hwc
  try simp only [Act.put, List.setIfInBounds_toArray, List.set_cons_zero, List.set_cons_succ]
  repeat (first | (refine Od.wpO_skip (by simp only [List.getElem?_toArray, List.getElem?_cons_succ, List.getElem?_cons_zero] <;> rfl) rfl ?_; simp only [Act.put, List.setIfInBounds_toArray, List.set_cons_zero, List.set_cons_succ]) | (refine Od.wpO_pure (by simp only [List.getElem?_toArray, List.getElem?_cons_succ, List.getElem?_cons_zero] <;> rfl) rfl ?_; apply Exists.intro; refine ⟨?_, ?_⟩; (· intro wx gx; obtain ⟨mx, rfl⟩ := spread_of_gr gx; clear gx; all_goals (apply Od.pAt_of_quiet; intro K hK; go_big_quiet_op; first | exact hK _ rfl | (apply Exists.intro; refine ⟨fun _ => ?_, ?_⟩; (· fail); exact hK _ rfl))); try simp only [Act.put, List.setIfInBounds_toArray, List.set_cons_zero, List.set_cons_succ]))
  refine Od.wpO_call (by simp only [List.getElem?_toArray, List.getElem?_cons_succ, List.getElem?_cons_zero] <;> rfl) rfl ?_
  intro QS hQS
  go_wp2_with fail
  go_at_call 32
  (with_reducible refine ((H8.out _)).mono ?_)
  rintro e wd ⟨rfl, hwd⟩
  go_wp2_with fail
  apply Exists.intro
  refine ⟨?_, hwd, ?_⟩
  · simp only [Act.put, List.setIfInBounds_toArray, List.set_cons_zero, List.set_cons_succ]; rfl
  have cwd_0_0 : wd.cell? ⟨W.heap.size, 0, none⟩ = some (.int .i64 lx) := cell_gr hwd (by go_simp)
  have cwd_0_1 : wd.cell? ⟨W.heap.size, 1, none⟩ = some (.int .i64 ly) := cell_gr hwd (by go_simp)
  have cwd_0_2 : wd.cell? ⟨W.heap.size, 2, none⟩ = some (.int .i64 hx) := cell_gr hwd (by go_simp)
  have cwd_0_3 : wd.cell? ⟨W.heap.size, 3, none⟩ = some (.int .i64 hy) := cell_gr hwd (by go_simp)
  have zwd_0 : W.heap.size < wd.heap.size := World.block_lt_of_cell? _ _ cwd_0_0
  have cwd_1_0 : wd.cell? ⟨w9.heap.size, 0, none⟩ = some (.int .i64 0) := cell_gr hwd (by go_simp)
  have cwd_1_1 : wd.cell? ⟨w9.heap.size, 1, none⟩ = some (.int .i64 0) := cell_gr hwd (by go_simp)
  have cwd_1_2 : wd.cell? ⟨w9.heap.size, 2, none⟩ = some (.int .i64 0) := cell_gr hwd (by go_simp)
  have cwd_1_3 : wd.cell? ⟨w9.heap.size, 3, none⟩ = some (.int .i64 0) := cell_gr hwd (by go_simp)
  have zwd_1 : w9.heap.size < wd.heap.size := World.block_lt_of_cell? _ _ cwd_1_0
  have gwd : Gr W wd := Gr.trans (by have gg := gwc; have gs := gg.size; go_grown) hwd
  clear gwc zwc_0 cwc_0_0 cwc_0_1 cwc_0_2 cwc_0_3 zwc_1 cwc_1_0 cwc_1_1 cwc_1_2 cwc_1_3
  clear hwd
  try simp only [Act.put, List.setIfInBounds_toArray, List.set_cons_zero, List.set_cons_succ]
  repeat (first | (refine Od.wpO_skip (by simp only [List.getElem?_toArray, List.getElem?_cons_succ, List.getElem?_cons_zero] <;> rfl) rfl ?_; simp only [Act.put, List.setIfInBounds_toArray, List.set_cons_zero, List.set_cons_succ]) | (refine Od.wpO_pure (by simp only [List.getElem?_toArray, List.getElem?_cons_succ, List.getElem?_cons_zero] <;> rfl) rfl ?_; apply Exists.intro; refine ⟨?_, ?_⟩; (· intro wx gx; obtain ⟨mx, rfl⟩ := spread_of_gr gx; clear gx; all_goals (apply Od.pAt_of_quiet; intro K hK; go_big_quiet_op; first | exact hK _ rfl | (apply Exists.intro; refine ⟨fun _ => ?_, ?_⟩; (· fail); exact hK _ rfl))); try simp only [Act.put, List.setIfInBounds_toArray, List.set_cons_zero, List.set_cons_succ]))
  refine Od.wpO_nil (hKQ _ _ ?_)
  clear hKQ KQ
  go_wp2_with fail
  go_ret
  exact ⟨rfl, gwd⟩
set_option maxHeartbeats 16000000 in
set_option maxRecDepth 100000 in
theorem keys_ny (lx ly hx hy v0 v1 v2 v3 bc : Int) (ad : Option Addr) (n cap : Nat) (K : List UInt8) (W : World) (hn : n ≤ 300) (hK : K.length ≤ 64) (hE : ErrT W)
    (A1 : ∀ w, Gr W w → Calls Tryd.prog 33 #[.slice ad n cap] w fun e w' => ∃ B, e = .returned (.tuple #[.agg #[.int .i64 0, .int .i64 0, .int .i64 0, .int .i64 0], .iface 68 (.pointer (some ⟨B, 0, none⟩))]) ∧ FaultAt w' B keyS 0 10 ∧ Gr w w')
    (A2 : ∀ w, Gr W w → Calls Tryd.prog 34 #[.slice ad n cap] w fun e w' => e = .returned (.tuple #[.agg #[.int .i64 0, .int .i64 0, .int .i64 0, .int .i64 0], .bool false]) ∧ Gr w w')
    (A3 : ∀ w, Calls Tryd.prog 35 #[.agg #[.int .i64 lx, .int .i64 ly, .int .i64 hx, .int .i64 hy]] w fun e w' => ∃ g c, e = .returned (.slice (some ⟨g, 0, none⟩) K.length c) ∧ Row w' (.slice (some ⟨g, 0, none⟩) K.length c) K ∧ Gr w w')
    (A4 : ∀ w, Calls Tryd.prog 36 #[.agg #[.int .i64 lx, .int .i64 ly, .int .i64 hx, .int .i64 hy]] w fun e w' => ∃ g c, e = .returned (.slice (some ⟨g, 0, none⟩) K.length c) ∧ Row w' (.slice (some ⟨g, 0, none⟩) K.length c) K ∧ Gr w w' ∧ Gr w w')
    (A5 : ∀ w, Calls Tryd.prog 37 #[.agg #[.int .i64 lx, .int .i64 ly, .int .i64 hx, .int .i64 hy]] w fun e w' => e = .returned (.int .i64 0) ∧ Gr w w')
    (A6 : ∀ w v, Row w v K → Calls Tryd.prog 33 #[v] w fun e w' => e = .returned (.tuple #[.agg #[.int .i64 lx, .int .i64 ly, .int .i64 hx, .int .i64 hy], .nilIface]) ∧ Gr w w') :
    Calls Tryd.prog 6 #[.agg #[.int .i64 lx, .int .i64 ly, .int .i64 hx, .int .i64 hy], .slice ad n cap] W fun e w' => e = .returned (.bool true) ∧ Gr W w' := by
  have t1 : decide ((300 : Int) < (n : Int)) = false := decide_eq_false (by omega)
  have t2 : decide (300 < n) = false := decide_eq_false (by omega)
  have hN : ∀ w, (binOp .neq 28 (.agg #[.int .i64 0, .int .i64 0, .int .i64 0, .int .i64 0]) (.agg #[.int .i64 0, .int .i64 0, .int .i64 0, .int .i64 0])).run Tryd.prog w = .ok (.bool false) w := fun w => by simp [go_sem]
  have hQ : ∀ w, (binOp .eql 28 (.agg #[.int .i64 lx, .int .i64 ly, .int .i64 hx, .int .i64 hy]) (.agg #[.int .i64 lx, .int .i64 ly, .int .i64 hx, .int .i64 hy])).run Tryd.prog w = .ok (.bool true) w := fun w => by simp [go_sem]
  have A7 := fun w u v (r : Row w u K) (s : Row w v K) => c_Bytes_same (L := K) w r s (by omega)
  have A8 := fun w => p16_awake w
  have hk9 : (K.length : Int) ≤ 64 := by omega
  have t3 : decide ((K.length : Int) ≤ 64) = true := decide_eq_true hk9
  have t4 : decide (K.length ≤ 64) = true := decide_eq_true hK
  obtain ⟨kn, hkn⟩ : ∃ kn, kn = K.length := ⟨_, rfl⟩
  rw [← hkn] at A3 A4 hk9 t3 t4
  have H1 := Lib.hid A1
  have H2 := Lib.hid A2
  have H3 := Lib.hid A3
  have H4 := Lib.hid A4
  have H5 := Lib.hid A5
  have H6 := Lib.hid A6
  have H7 := Lib.hid A7
  have H8 := Lib.hid A8
  clear A1 A2 A3 A4 A5 A6 A7 A8
  have HE := Lib.hid hE
  clear hn hK hE hkn
  go_enter Tryd.func6, Tryd.ntmps6
  go_wp2_with fail
  go_at_call 33
  refine (H1.out _ (by go_grown)).mono ?_
  rintro e w1 ⟨B1, rfl, hf, g1⟩
  have HF := Lib.hid hf
  have c0 : w1.cell? ⟨W.heap.size, 0, none⟩ = some (.int .i64 lx) := cell_gr g1 (by go_simp)
  have c1 : w1.cell? ⟨W.heap.size, 1, none⟩ = some (.int .i64 ly) := cell_gr g1 (by go_simp)
  have c2 : w1.cell? ⟨W.heap.size, 2, none⟩ = some (.int .i64 hx) := cell_gr g1 (by go_simp)
  have c3 : w1.cell? ⟨W.heap.size, 3, none⟩ = some (.int .i64 hy) := cell_gr g1 (by go_simp)
  have z0 := World.block_lt_of_cell? _ _ c0
  have gw1 : Gr W w1 := Gr.trans (by go_grown) g1
  clear g1 hf
  go_wp2_with fail
  go_at_call 34
  refine (H2.out _ (by have gg := gw1; have gs := gg.size; go_grown)).mono ?_
  rintro e w2 ⟨rfl, g2⟩
  have HF2 := Lib.hid (faultAt_gr HF.out (Gr.trans (by go_grown) g2))
  have d0 : w2.cell? ⟨W.heap.size, 0, none⟩ = some (.int .i64 lx) := cell_gr g2 (by go_simp)
  have d1 : w2.cell? ⟨W.heap.size, 1, none⟩ = some (.int .i64 ly) := cell_gr g2 (by go_simp)
  have d2 : w2.cell? ⟨W.heap.size, 2, none⟩ = some (.int .i64 hx) := cell_gr g2 (by go_simp)
  have d3 : w2.cell? ⟨W.heap.size, 3, none⟩ = some (.int .i64 hy) := cell_gr g2 (by go_simp)
  have e0 : w2.cell? ⟨w1.heap.size, 0, none⟩ = some (.int .i64 0) := cell_gr g2 (by go_simp)
  have e1 : w2.cell? ⟨w1.heap.size, 1, none⟩ = some (.int .i64 0) := cell_gr g2 (by go_simp)
  have e2 : w2.cell? ⟨w1.heap.size, 2, none⟩ = some (.int .i64 0) := cell_gr g2 (by go_simp)
  have e3 : w2.cell? ⟨w1.heap.size, 3, none⟩ = some (.int .i64 0) := cell_gr g2 (by go_simp)
  have y0 := World.block_lt_of_cell? _ _ d0
  have y1 := World.block_lt_of_cell? _ _ e0
  have gw2 : Gr W w2 := Gr.trans (by have gg := gw1; have gs := gg.size; go_grown) g2
  clear g2 c0 c1 c2 c3 z0 gw1 HF
  obtain ⟨F0, F1, F2⟩ := HF2.out
  have zF := World.block_lt_of_cell? _ _ F0
  go_wp2_with fail
  try simp only [List.append]
  refine Od.wp_region_ord [(0, false), (1, false), (2, false), (3, false), (4, false), (5, false), (6, true), (7, false), (8, false), (9, false), (10, false), (12, false), (11, true), (13, true), (14, true), (15, false), (16, false)] (by kernel_rfl) (by kernel_rfl) ?_
  intro w3 hw3 KQ hKQ
  have cw3_0_0 : w3.cell? ⟨W.heap.size, 0, none⟩ = some (.int .i64 lx) := cell_gr hw3 (by go_simp)
  have cw3_0_1 : w3.cell? ⟨W.heap.size, 1, none⟩ = some (.int .i64 ly) := cell_gr hw3 (by go_simp)
  have cw3_0_2 : w3.cell? ⟨W.heap.size, 2, none⟩ = some (.int .i64 hx) := cell_gr hw3 (by go_simp)
  have cw3_0_3 : w3.cell? ⟨W.heap.size, 3, none⟩ = some (.int .i64 hy) := cell_gr hw3 (by go_simp)
  have zw3_0 : W.heap.size < w3.heap.size := World.block_lt_of_cell? _ _ cw3_0_0
  have cw3_1_0 : w3.cell? ⟨w1.heap.size, 0, none⟩ = some (.int .i64 0) := cell_gr hw3 (by go_simp)
  have cw3_1_1 : w3.cell? ⟨w1.heap.size, 1, none⟩ = some (.int .i64 0) := cell_gr hw3 (by go_simp)
  have cw3_1_2 : w3.cell? ⟨w1.heap.size, 2, none⟩ = some (.int .i64 0) := cell_gr hw3 (by go_simp)
  have cw3_1_3 : w3.cell? ⟨w1.heap.size, 3, none⟩ = some (.int .i64 0) := cell_gr hw3 (by go_simp)
  have zw3_1 : w1.heap.size < w3.heap.size := World.block_lt_of_cell? _ _ cw3_1_0
  have cw3_2_0 : w3.cell? ⟨w2.heap.size, 0, none⟩ = some (.int .i64 0) := cell_gr hw3 (by go_simp)
  have cw3_2_1 : w3.cell? ⟨w2.heap.size, 1, none⟩ = some (.int .i64 0) := cell_gr hw3 (by go_simp)
  have cw3_2_2 : w3.cell? ⟨w2.heap.size, 2, none⟩ = some (.int .i64 0) := cell_gr hw3 (by go_simp)
  have cw3_2_3 : w3.cell? ⟨w2.heap.size, 3, none⟩ = some (.int .i64 0) := cell_gr hw3 (by go_simp)
  have zw3_2 : w2.heap.size < w3.heap.size := World.block_lt_of_cell? _ _ cw3_2_0
  have cw3_3_0 : w3.cell? ⟨B1, 0, none⟩ = some (.string keyS) := cell_gr hw3 (by go_simp)
  have cw3_3_1 : w3.cell? ⟨B1, 1, none⟩ = some (.int .i64 0) := cell_gr hw3 (by go_simp)
  have cw3_3_2 : w3.cell? ⟨B1, 2, none⟩ = some (.iface 79 (.int .i64 10)) := cell_gr hw3 (by go_simp)
  have zw3_3 : B1 < w3.heap.size := World.block_lt_of_cell? _ _ cw3_3_0
  have gw3 : Gr W w3 := Gr.trans (by have gg := gw2; have gs := gg.size; go_grown) hw3
  clear gw2
  clear hw3
  repeat (first | (refine Od.wpO_skip (by simp only [List.getElem?_toArray, List.getElem?_cons_succ, List.getElem?_cons_zero] <;> rfl) rfl ?_; simp only [Act.put, List.setIfInBounds_toArray, List.set_cons_zero, List.set_cons_succ]) | (refine Od.wpO_pure (by simp only [List.getElem?_toArray, List.getElem?_cons_succ, List.getElem?_cons_zero] <;> rfl) rfl ?_; apply Exists.intro; refine ⟨?_, ?_⟩; (· intro wx gx; obtain ⟨mx, rfl⟩ := spread_of_gr gx; clear gx; all_goals (apply Od.pAt_of_quiet; intro K hK; go_big_quiet_op; first | exact hK _ rfl | (apply Exists.intro; refine ⟨fun _ => ?_, ?_⟩; (· fail); exact hK _ rfl))); try simp only [Act.put, List.setIfInBounds_toArray, List.set_cons_zero, List.set_cons_succ]))
  refine Od.wpO_call (by simp only [List.getElem?_toArray, List.getElem?_cons_succ, List.getElem?_cons_zero] <;> rfl) rfl ?_
  intro QS hQS
  go_wp2_with fail
  go_at_call 9
  (with_reducible refine ((ki_hit B1 _ (errT_gr HE.out gw3) cw3_3_0 cw3_3_1 cw3_3_2)).mono ?_)
  rintro e w4 ⟨rfl, hw4⟩
  go_wp2_with fail
  apply Exists.intro
  refine ⟨?_, hw4, ?_⟩
  · simp only [Act.put, List.setIfInBounds_toArray, List.set_cons_zero, List.set_cons_succ]; rfl
  have cw4_0_0 : w4.cell? ⟨W.heap.size, 0, none⟩ = some (.int .i64 lx) := cell_gr hw4 (by go_simp)
  have cw4_0_1 : w4.cell? ⟨W.heap.size, 1, none⟩ = some (.int .i64 ly) := cell_gr hw4 (by go_simp)
  have cw4_0_2 : w4.cell? ⟨W.heap.size, 2, none⟩ = some (.int .i64 hx) := cell_gr hw4 (by go_simp)
  have cw4_0_3 : w4.cell? ⟨W.heap.size, 3, none⟩ = some (.int .i64 hy) := cell_gr hw4 (by go_simp)
  have zw4_0 : W.heap.size < w4.heap.size := World.block_lt_of_cell? _ _ cw4_0_0
  have cw4_1_0 : w4.cell? ⟨w1.heap.size, 0, none⟩ = some (.int .i64 0) := cell_gr hw4 (by go_simp)
  have cw4_1_1 : w4.cell? ⟨w1.heap.size, 1, none⟩ = some (.int .i64 0) := cell_gr hw4 (by go_simp)
  have cw4_1_2 : w4.cell? ⟨w1.heap.size, 2, none⟩ = some (.int .i64 0) := cell_gr hw4 (by go_simp)
  have cw4_1_3 : w4.cell? ⟨w1.heap.size, 3, none⟩ = some (.int .i64 0) := cell_gr hw4 (by go_simp)
  have zw4_1 : w1.heap.size < w4.heap.size := World.block_lt_of_cell? _ _ cw4_1_0
  have cw4_2_0 : w4.cell? ⟨w2.heap.size, 0, none⟩ = some (.int .i64 0) := cell_gr hw4 (by go_simp)
  have cw4_2_1 : w4.cell? ⟨w2.heap.size, 1, none⟩ = some (.int .i64 0) := cell_gr hw4 (by go_simp)
  have cw4_2_2 : w4.cell? ⟨w2.heap.size, 2, none⟩ = some (.int .i64 0) := cell_gr hw4 (by go_simp)
  have cw4_2_3 : w4.cell? ⟨w2.heap.size, 3, none⟩ = some (.int .i64 0) := cell_gr hw4 (by go_simp)
  have zw4_2 : w2.heap.size < w4.heap.size := World.block_lt_of_cell? _ _ cw4_2_0
  have cw4_3_0 : w4.cell? ⟨B1, 0, none⟩ = some (.string keyS) := cell_gr hw4 (by go_simp)
  have cw4_3_1 : w4.cell? ⟨B1, 1, none⟩ = some (.int .i64 0) := cell_gr hw4 (by go_simp)
  have cw4_3_2 : w4.cell? ⟨B1, 2, none⟩ = some (.iface 79 (.int .i64 10)) := cell_gr hw4 (by go_simp)
  have zw4_3 : B1 < w4.heap.size := World.block_lt_of_cell? _ _ cw4_3_0
  have gw4 : Gr W w4 := Gr.trans (by have gg := gw3; have gs := gg.size; go_grown) hw4
  clear gw3 zw3_0 cw3_0_0 cw3_0_1 cw3_0_2 cw3_0_3 zw3_1 cw3_1_0 cw3_1_1 cw3_1_2 cw3_1_3 zw3_2 cw3_2_0 cw3_2_1 cw3_2_2 cw3_2_3 zw3_3 cw3_3_0 cw3_3_1 cw3_3_2
  clear hw4
  try simp only [Act.put, List.setIfInBounds_toArray, List.set_cons_zero, List.set_cons_succ]
  repeat (first | (refine Od.wpO_skip (by simp only [List.getElem?_toArray, List.getElem?_cons_succ, List.getElem?_cons_zero] <;> rfl) rfl ?_; simp only [Act.put, List.setIfInBounds_toArray, List.set_cons_zero, List.set_cons_succ]) | (refine Od.wpO_pure (by simp only [List.getElem?_toArray, List.getElem?_cons_succ, List.getElem?_cons_zero] <;> rfl) rfl ?_; apply Exists.intro; refine ⟨?_, ?_⟩; (· intro wx gx; obtain ⟨mx, rfl⟩ := spread_of_gr gx; clear gx; all_goals (apply Od.pAt_of_quiet; intro K hK; go_big_quiet_op; first | exact hK _ rfl | (apply Exists.intro; refine ⟨fun _ => ?_, ?_⟩; (· fail); exact hK _ rfl))); try simp only [Act.put, List.setIfInBounds_toArray, List.set_cons_zero, List.set_cons_succ]))
  refine Od.wpO_call (by simp only [List.getElem?_toArray, List.getElem?_cons_succ, List.getElem?_cons_zero] <;> rfl) rfl ?_
  intro QS hQS
  go_wp2_with fail
  go_at_call 35
  (with_reducible refine ((H3.out _)).mono ?_)
  rintro e w5 ⟨g5, c5, rfl, r5, hw5⟩
  go_wp2_with fail
  apply Exists.intro
  refine ⟨?_, hw5, ?_⟩
  · simp only [Act.put, List.setIfInBounds_toArray, List.set_cons_zero, List.set_cons_succ]; rfl
  have cw5_0_0 : w5.cell? ⟨W.heap.size, 0, none⟩ = some (.int .i64 lx) := cell_gr hw5 (by go_simp)
  have cw5_0_1 : w5.cell? ⟨W.heap.size, 1, none⟩ = some (.int .i64 ly) := cell_gr hw5 (by go_simp)
  have cw5_0_2 : w5.cell? ⟨W.heap.size, 2, none⟩ = some (.int .i64 hx) := cell_gr hw5 (by go_simp)
  have cw5_0_3 : w5.cell? ⟨W.heap.size, 3, none⟩ = some (.int .i64 hy) := cell_gr hw5 (by go_simp)
  have zw5_0 : W.heap.size < w5.heap.size := World.block_lt_of_cell? _ _ cw5_0_0
  have cw5_1_0 : w5.cell? ⟨w1.heap.size, 0, none⟩ = some (.int .i64 0) := cell_gr hw5 (by go_simp)
  have cw5_1_1 : w5.cell? ⟨w1.heap.size, 1, none⟩ = some (.int .i64 0) := cell_gr hw5 (by go_simp)
  have cw5_1_2 : w5.cell? ⟨w1.heap.size, 2, none⟩ = some (.int .i64 0) := cell_gr hw5 (by go_simp)
  have cw5_1_3 : w5.cell? ⟨w1.heap.size, 3, none⟩ = some (.int .i64 0) := cell_gr hw5 (by go_simp)
  have zw5_1 : w1.heap.size < w5.heap.size := World.block_lt_of_cell? _ _ cw5_1_0
  have cw5_2_0 : w5.cell? ⟨w2.heap.size, 0, none⟩ = some (.int .i64 0) := cell_gr hw5 (by go_simp)
  have cw5_2_1 : w5.cell? ⟨w2.heap.size, 1, none⟩ = some (.int .i64 0) := cell_gr hw5 (by go_simp)
  have cw5_2_2 : w5.cell? ⟨w2.heap.size, 2, none⟩ = some (.int .i64 0) := cell_gr hw5 (by go_simp)
  have cw5_2_3 : w5.cell? ⟨w2.heap.size, 3, none⟩ = some (.int .i64 0) := cell_gr hw5 (by go_simp)
  have zw5_2 : w2.heap.size < w5.heap.size := World.block_lt_of_cell? _ _ cw5_2_0
  have gw5 : Gr W w5 := Gr.trans (by have gg := gw4; have gs := gg.size; go_grown) hw5
  clear gw4 zw4_0 cw4_0_0 cw4_0_1 cw4_0_2 cw4_0_3 zw4_1 cw4_1_0 cw4_1_1 cw4_1_2 cw4_1_3 zw4_2 cw4_2_0 cw4_2_1 cw4_2_2 cw4_2_3 zw4_3 cw4_3_0 cw4_3_1 cw4_3_2
  clear hw5
  try simp only [Act.put, List.setIfInBounds_toArray, List.set_cons_zero, List.set_cons_succ]
  repeat (first | (refine Od.wpO_skip (by simp only [List.getElem?_toArray, List.getElem?_cons_succ, List.getElem?_cons_zero] <;> rfl) rfl ?_; simp only [Act.put, List.setIfInBounds_toArray, List.set_cons_zero, List.set_cons_succ]) | (refine Od.wpO_pure (by simp only [List.getElem?_toArray, List.getElem?_cons_succ, List.getElem?_cons_zero] <;> rfl) rfl ?_; apply Exists.intro; refine ⟨?_, ?_⟩; (· intro wx gx; obtain ⟨mx, rfl⟩ := spread_of_gr gx; clear gx; all_goals (apply Od.pAt_of_quiet; intro K hK; go_big_quiet_op; first | exact hK _ rfl | (apply Exists.intro; refine ⟨fun _ => ?_, ?_⟩; (· fail); exact hK _ rfl))); try simp only [Act.put, List.setIfInBounds_toArray, List.set_cons_zero, List.set_cons_succ]))
  have R5 := Lib.hid r5
  clear r5
  refine Od.wpO_call (by simp only [List.getElem?_toArray, List.getElem?_cons_succ, List.getElem?_cons_zero] <;> rfl) rfl ?_
  intro QS hQS
  go_wp2_with fail
  go_at_call 36
  (with_reducible refine ((H4.out _)).mono ?_)
  rintro e w6 ⟨g6, c6, rfl, r6, hw6, k6⟩
  go_wp2_with fail
  apply Exists.intro
  refine ⟨?_, hw6, ?_⟩
  · simp only [Act.put, List.setIfInBounds_toArray, List.set_cons_zero, List.set_cons_succ]; rfl
  have cw6_0_0 : w6.cell? ⟨W.heap.size, 0, none⟩ = some (.int .i64 lx) := cell_gr hw6 (by go_simp)
  have cw6_0_1 : w6.cell? ⟨W.heap.size, 1, none⟩ = some (.int .i64 ly) := cell_gr hw6 (by go_simp)
  have cw6_0_2 : w6.cell? ⟨W.heap.size, 2, none⟩ = some (.int .i64 hx) := cell_gr hw6 (by go_simp)
  have cw6_0_3 : w6.cell? ⟨W.heap.size, 3, none⟩ = some (.int .i64 hy) := cell_gr hw6 (by go_simp)
  have zw6_0 : W.heap.size < w6.heap.size := World.block_lt_of_cell? _ _ cw6_0_0
  have cw6_1_0 : w6.cell? ⟨w1.heap.size, 0, none⟩ = some (.int .i64 0) := cell_gr hw6 (by go_simp)
  have cw6_1_1 : w6.cell? ⟨w1.heap.size, 1, none⟩ = some (.int .i64 0) := cell_gr hw6 (by go_simp)
  have cw6_1_2 : w6.cell? ⟨w1.heap.size, 2, none⟩ = some (.int .i64 0) := cell_gr hw6 (by go_simp)
  have cw6_1_3 : w6.cell? ⟨w1.heap.size, 3, none⟩ = some (.int .i64 0) := cell_gr hw6 (by go_simp)
  have zw6_1 : w1.heap.size < w6.heap.size := World.block_lt_of_cell? _ _ cw6_1_0
  have cw6_2_0 : w6.cell? ⟨w2.heap.size, 0, none⟩ = some (.int .i64 0) := cell_gr hw6 (by go_simp)
  have cw6_2_1 : w6.cell? ⟨w2.heap.size, 1, none⟩ = some (.int .i64 0) := cell_gr hw6 (by go_simp)
  have cw6_2_2 : w6.cell? ⟨w2.heap.size, 2, none⟩ = some (.int .i64 0) := cell_gr hw6 (by go_simp)
  have cw6_2_3 : w6.cell? ⟨w2.heap.size, 3, none⟩ = some (.int .i64 0) := cell_gr hw6 (by go_simp)
  have zw6_2 : w2.heap.size < w6.heap.size := World.block_lt_of_cell? _ _ cw6_2_0
  have gw6 : Gr W w6 := Gr.trans (by have gg := gw5; have gs := gg.size; go_grown) hw6
  clear gw5 zw5_0 cw5_0_0 cw5_0_1 cw5_0_2 cw5_0_3 zw5_1 cw5_1_0 cw5_1_1 cw5_1_2 cw5_1_3 zw5_2 cw5_2_0 cw5_2_1 cw5_2_2 cw5_2_3
  clear hw6
  try simp only [Act.put, List.setIfInBounds_toArray, List.set_cons_zero, List.set_cons_succ]
  repeat (first | (refine Od.wpO_skip (by simp only [List.getElem?_toArray, List.getElem?_cons_succ, List.getElem?_cons_zero] <;> rfl) rfl ?_; simp only [Act.put, List.setIfInBounds_toArray, List.set_cons_zero, List.set_cons_succ]) | (refine Od.wpO_pure (by simp only [List.getElem?_toArray, List.getElem?_cons_succ, List.getElem?_cons_zero] <;> rfl) rfl ?_; apply Exists.intro; refine ⟨?_, ?_⟩; (· intro wx gx; obtain ⟨mx, rfl⟩ := spread_of_gr gx; clear gx; all_goals (apply Od.pAt_of_quiet; intro K hK; go_big_quiet_op; first | exact hK _ rfl | (apply Exists.intro; refine ⟨fun _ => ?_, ?_⟩; (· fail); exact hK _ rfl))); try simp only [Act.put, List.setIfInBounds_toArray, List.set_cons_zero, List.set_cons_succ]))
  have R6 := Lib.hid r6
  have R56 := Lib.hid (row_gr R5.out k6)
  clear r6 k6 R5
  refine Od.wpO_call (by simp only [List.getElem?_toArray, List.getElem?_cons_succ, List.getElem?_cons_zero] <;> rfl) rfl ?_
  intro QS hQS
  go_wp2_with fail
  go_at_call 21
  (with_reducible refine ((H7.out _ _ _ R56.out R6.out)).mono ?_)
  rintro e w7 ⟨rfl, hw7⟩
  go_wp2_with fail
  apply Exists.intro
  refine ⟨?_, hw7, ?_⟩
  · simp only [Act.put, List.setIfInBounds_toArray, List.set_cons_zero, List.set_cons_succ]; rfl
  have cw7_0_0 : w7.cell? ⟨W.heap.size, 0, none⟩ = some (.int .i64 lx) := cell_gr hw7 (by go_simp)
  have cw7_0_1 : w7.cell? ⟨W.heap.size, 1, none⟩ = some (.int .i64 ly) := cell_gr hw7 (by go_simp)
  have cw7_0_2 : w7.cell? ⟨W.heap.size, 2, none⟩ = some (.int .i64 hx) := cell_gr hw7 (by go_simp)
  have cw7_0_3 : w7.cell? ⟨W.heap.size, 3, none⟩ = some (.int .i64 hy) := cell_gr hw7 (by go_simp)
  have zw7_0 : W.heap.size < w7.heap.size := World.block_lt_of_cell? _ _ cw7_0_0
  have cw7_1_0 : w7.cell? ⟨w1.heap.size, 0, none⟩ = some (.int .i64 0) := cell_gr hw7 (by go_simp)
  have cw7_1_1 : w7.cell? ⟨w1.heap.size, 1, none⟩ = some (.int .i64 0) := cell_gr hw7 (by go_simp)
  have cw7_1_2 : w7.cell? ⟨w1.heap.size, 2, none⟩ = some (.int .i64 0) := cell_gr hw7 (by go_simp)
  have cw7_1_3 : w7.cell? ⟨w1.heap.size, 3, none⟩ = some (.int .i64 0) := cell_gr hw7 (by go_simp)
  have zw7_1 : w1.heap.size < w7.heap.size := World.block_lt_of_cell? _ _ cw7_1_0
  have cw7_2_0 : w7.cell? ⟨w2.heap.size, 0, none⟩ = some (.int .i64 0) := cell_gr hw7 (by go_simp)
  have cw7_2_1 : w7.cell? ⟨w2.heap.size, 1, none⟩ = some (.int .i64 0) := cell_gr hw7 (by go_simp)
  have cw7_2_2 : w7.cell? ⟨w2.heap.size, 2, none⟩ = some (.int .i64 0) := cell_gr hw7 (by go_simp)
  have cw7_2_3 : w7.cell? ⟨w2.heap.size, 3, none⟩ = some (.int .i64 0) := cell_gr hw7 (by go_simp)
  have zw7_2 : w2.heap.size < w7.heap.size := World.block_lt_of_cell? _ _ cw7_2_0
  have gw7 : Gr W w7 := Gr.trans (by have gg := gw6; have gs := gg.size; go_grown) hw7
  clear gw6 zw6_0 cw6_0_0 cw6_0_1 cw6_0_2 cw6_0_3 zw6_1 cw6_1_0 cw6_1_1 cw6_1_2 cw6_1_3 zw6_2 cw6_2_0 cw6_2_1 cw6_2_2 cw6_2_3
  clear hw7
  try simp only [Act.put, List.setIfInBounds_toArray, List.set_cons_zero, List.set_cons_succ]
  repeat (first | (refine Od.wpO_skip (by simp only [List.getElem?_toArray, List.getElem?_cons_succ, List.getElem?_cons_zero] <;> rfl) rfl ?_; simp only [Act.put, List.setIfInBounds_toArray, List.set_cons_zero, List.set_cons_succ]) | (refine Od.wpO_pure (by simp only [List.getElem?_toArray, List.getElem?_cons_succ, List.getElem?_cons_zero] <;> rfl) rfl ?_; apply Exists.intro; refine ⟨?_, ?_⟩; (· intro wx gx; obtain ⟨mx, rfl⟩ := spread_of_gr gx; clear gx; all_goals (apply Od.pAt_of_quiet; intro K hK; go_big_quiet_op; first | exact hK _ rfl | (apply Exists.intro; refine ⟨fun _ => ?_, ?_⟩; (· fail); exact hK _ rfl))); try simp only [Act.put, List.setIfInBounds_toArray, List.set_cons_zero, List.set_cons_succ]))
  refine Od.wpO_nil (hKQ _ _ ?_)
  clear hKQ KQ
  go_wp2_with fail
  go_at_call 35
  refine (H3.out _).mono ?_
  rintro e w8 ⟨g8, c8, rfl, r8, x8⟩
  have R8 := Lib.hid r8
  have a0 : w8.cell? ⟨W.heap.size, 0, none⟩ = some (.int .i64 lx) := cell_gr x8 (by go_simp)
  have a1 : w8.cell? ⟨W.heap.size, 1, none⟩ = some (.int .i64 ly) := cell_gr x8 (by go_simp)
  have a2 : w8.cell? ⟨W.heap.size, 2, none⟩ = some (.int .i64 hx) := cell_gr x8 (by go_simp)
  have a3 : w8.cell? ⟨W.heap.size, 3, none⟩ = some (.int .i64 hy) := cell_gr x8 (by go_simp)
  have G8 : Gr W w8 := Gr.trans (by have gg := gw7; have gs := gg.size; go_grown) x8
  clear x8 r8 R56 R6
  go_wp2_with fail
  go_at_call 33
  refine (H6.out _ _ (row_gr R8.out (by go_grown))).mono ?_
  rintro e w9 ⟨rfl, x9⟩
  have b0 : w9.cell? ⟨W.heap.size, 0, none⟩ = some (.int .i64 lx) := cell_gr x9 (by go_simp)
  have b1 : w9.cell? ⟨W.heap.size, 1, none⟩ = some (.int .i64 ly) := cell_gr x9 (by go_simp)
  have b2 : w9.cell? ⟨W.heap.size, 2, none⟩ = some (.int .i64 hx) := cell_gr x9 (by go_simp)
  have b3 : w9.cell? ⟨W.heap.size, 3, none⟩ = some (.int .i64 hy) := cell_gr x9 (by go_simp)
  have q9 := World.block_lt_of_cell? _ _ b0
  have gw9 : Gr W w9 := Gr.trans G8 (Gr.trans (by go_grown) x9)
  clear x9 G8 a0 a1 a2 a3 R8 cw7_0_0 cw7_0_1 cw7_0_2 cw7_0_3 cw7_1_0 cw7_1_1 cw7_1_2 cw7_1_3 cw7_2_0 cw7_2_1 cw7_2_2 cw7_2_3 zw7_0 zw7_1 zw7_2 gw7
  go_wp2_with fail
  try simp only [List.append]
  refine Od.wp_region_ord [(0, false), (1, false), (2, false), (3, true), (4, false), (5, false), (6, false), (7, false), (8, false), (9, false), (10, false), (11, false), (12, false), (13, false), (14, false), (15, false), (16, false), (17, true), (18, false), (19, false), (20, false), (21, false), (22, true), (23, false), (24, false)] (by kernel_rfl) (by kernel_rfl) ?_
  intro wa hwa KQ hKQ
  have cwa_0_0 : wa.cell? ⟨W.heap.size, 0, none⟩ = some (.int .i64 lx) := cell_gr hwa (by go_simp)
  have cwa_0_1 : wa.cell? ⟨W.heap.size, 1, none⟩ = some (.int .i64 ly) := cell_gr hwa (by go_simp)
  have cwa_0_2 : wa.cell? ⟨W.heap.size, 2, none⟩ = some (.int .i64 hx) := cell_gr hwa (by go_simp)
  have cwa_0_3 : wa.cell? ⟨W.heap.size, 3, none⟩ = some (.int .i64 hy) := cell_gr hwa (by go_simp)
  have zwa_0 : W.heap.size < wa.heap.size := World.block_lt_of_cell? _ _ cwa_0_0
  have cwa_1_0 : wa.cell? ⟨w9.heap.size, 0, none⟩ = some (.int .i64 lx) := cell_gr hwa (by go_simp)
  have cwa_1_1 : wa.cell? ⟨w9.heap.size, 1, none⟩ = some (.int .i64 ly) := cell_gr hwa (by go_simp)
  have cwa_1_2 : wa.cell? ⟨w9.heap.size, 2, none⟩ = some (.int .i64 hx) := cell_gr hwa (by go_simp)
  have cwa_1_3 : wa.cell? ⟨w9.heap.size, 3, none⟩ = some (.int .i64 hy) := cell_gr hwa (by go_simp)
  have zwa_1 : w9.heap.size < wa.heap.size := World.block_lt_of_cell? _ _ cwa_1_0
  have gwa : Gr W wa := Gr.trans (by have gg := gw9; have gs := gg.size; go_grown) hwa
  clear gw9
  clear hwa
  repeat (first | (refine Od.wpO_skip (by simp only [List.getElem?_toArray, List.getElem?_cons_succ, List.getElem?_cons_zero] <;> rfl) rfl ?_; simp only [Act.put, List.setIfInBounds_toArray, List.set_cons_zero, List.set_cons_succ]) | (refine Od.wpO_pure (by simp only [List.getElem?_toArray, List.getElem?_cons_succ, List.getElem?_cons_zero] <;> rfl) rfl ?_; apply Exists.intro; refine ⟨?_, ?_⟩; (· intro wx gx; obtain ⟨mx, rfl⟩ := spread_of_gr gx; clear gx; all_goals (apply Od.pAt_of_quiet; intro K hK; go_big_quiet_op; first | exact hK _ rfl | (apply Exists.intro; refine ⟨fun _ => ?_, ?_⟩; (· fail); exact hK _ rfl))); try simp only [Act.put, List.setIfInBounds_toArray, List.set_cons_zero, List.set_cons_succ]))
  refine Od.wpO_call (by simp only [List.getElem?_toArray, List.getElem?_cons_succ, List.getElem?_cons_zero] <;> rfl) rfl ?_
  intro QS hQS
  go_wp2_with fail
  go_at_call 37
  (with_reducible refine ((H5.out _)).mono ?_)
  rintro e wb ⟨rfl, hwb⟩
  go_wp2_with fail
  apply Exists.intro
  refine ⟨?_, hwb, ?_⟩
  · simp only [Act.put, List.setIfInBounds_toArray, List.set_cons_zero, List.set_cons_succ]; rfl
  have cwb_0_0 : wb.cell? ⟨W.heap.size, 0, none⟩ = some (.int .i64 lx) := cell_gr hwb (by go_simp)
  have cwb_0_1 : wb.cell? ⟨W.heap.size, 1, none⟩ = some (.int .i64 ly) := cell_gr hwb (by go_simp)
  have cwb_0_2 : wb.cell? ⟨W.heap.size, 2, none⟩ = some (.int .i64 hx) := cell_gr hwb (by go_simp)
  have cwb_0_3 : wb.cell? ⟨W.heap.size, 3, none⟩ = some (.int .i64 hy) := cell_gr hwb (by go_simp)
  have zwb_0 : W.heap.size < wb.heap.size := World.block_lt_of_cell? _ _ cwb_0_0
  have cwb_1_0 : wb.cell? ⟨w9.heap.size, 0, none⟩ = some (.int .i64 lx) := cell_gr hwb (by go_simp)
  have cwb_1_1 : wb.cell? ⟨w9.heap.size, 1, none⟩ = some (.int .i64 ly) := cell_gr hwb (by go_simp)
  have cwb_1_2 : wb.cell? ⟨w9.heap.size, 2, none⟩ = some (.int .i64 hx) := cell_gr hwb (by go_simp)
  have cwb_1_3 : wb.cell? ⟨w9.heap.size, 3, none⟩ = some (.int .i64 hy) := cell_gr hwb (by go_simp)
  have zwb_1 : w9.heap.size < wb.heap.size := World.block_lt_of_cell? _ _ cwb_1_0
  have gwb : Gr W wb := Gr.trans (by have gg := gwa; have gs := gg.size; go_grown) hwb
  clear gwa zwa_0 cwa_0_0 cwa_0_1 cwa_0_2 cwa_0_3 zwa_1 cwa_1_0 cwa_1_1 cwa_1_2 cwa_1_3
  clear hwb
  try simp only [Act.put, List.setIfInBounds_toArray, List.set_cons_zero, List.set_cons_succ]
  repeat (first | (refine Od.wpO_skip (by simp only [List.getElem?_toArray, List.getElem?_cons_succ, List.getElem?_cons_zero] <;> rfl) rfl ?_; simp only [Act.put, List.setIfInBounds_toArray, List.set_cons_zero, List.set_cons_succ]) | (refine Od.wpO_pure (by simp only [List.getElem?_toArray, List.getElem?_cons_succ, List.getElem?_cons_zero] <;> rfl) rfl ?_; apply Exists.intro; refine ⟨?_, ?_⟩; (· intro wx gx; obtain ⟨mx, rfl⟩ := spread_of_gr gx; clear gx; all_goals (apply Od.pAt_of_quiet; intro K hK; go_big_quiet_op; first | exact hK _ rfl | (apply Exists.intro; refine ⟨fun _ => ?_, ?_⟩; (· fail); exact hK _ rfl))); try simp only [Act.put, List.setIfInBounds_toArray, List.set_cons_zero, List.set_cons_succ]))
  refine Od.wpO_call (by simp only [List.getElem?_toArray, List.getElem?_cons_succ, List.getElem?_cons_zero] <;> rfl) rfl ?_
  intro QS hQS
  go_wp2_with fail
  go_at_call 35
  (with_reducible refine ((H3.out _)).mono ?_)
  rintro e wc ⟨gc, cc, rfl, rc, hwc⟩
  go_wp2_with fail
  apply Exists.intro
  refine ⟨?_, hwc, ?_⟩
  · simp only [Act.put, List.setIfInBounds_toArray, List.set_cons_zero, List.set_cons_succ]; rfl
  have cwc_0_0 : wc.cell? ⟨W.heap.size, 0, none⟩ = some (.int .i64 lx) := cell_gr hwc (by go_simp)
  have cwc_0_1 : wc.cell? ⟨W.heap.size, 1, none⟩ = some (.int .i64 ly) := cell_gr hwc (by go_simp)
  have cwc_0_2 : wc.cell? ⟨W.heap.size, 2, none⟩ = some (.int .i64 hx) := cell_gr hwc (by go_simp)
  have cwc_0_3 : wc.cell? ⟨W.heap.size, 3, none⟩ = some (.int .i64 hy) := cell_gr hwc (by go_simp)
  have zwc_0 : W.heap.size < wc.heap.size := World.block_lt_of_cell? _ _ cwc_0_0
  have cwc_1_0 : wc.cell? ⟨w9.heap.size, 0, none⟩ = some (.int .i64 lx) := cell_gr hwc (by go_simp)
  have cwc_1_1 : wc.cell? ⟨w9.heap.size, 1, none⟩ = some (.int .i64 ly) := cell_gr hwc (by go_simp)
  have cwc_1_2 : wc.cell? ⟨w9.heap.size, 2, none⟩ = some (.int .i64 hx) := cell_gr hwc (by go_simp)
  have cwc_1_3 : wc.cell? ⟨w9.heap.size, 3, none⟩ = some (.int .i64 hy) := cell_gr hwc (by go_simp)
  have zwc_1 : w9.heap.size < wc.heap.size := World.block_lt_of_cell? _ _ cwc_1_0
  have gwc : Gr W wc := Gr.trans (by have gg := gwb; have gs := gg.size; go_grown) hwc
  clear gwb zwb_0 cwb_0_0 cwb_0_1 cwb_0_2 cwb_0_3 zwb_1 cwb_1_0 cwb_1_1 cwb_1_2 cwb_1_3
  clear hwc
  try simp only [Act.put, List.setIfInBounds_toArray, List.set_cons_zero, List.set_cons_succ]
  repeat (first | (refine Od.wpO_skip (by simp only [List.getElem?_toArray, List.getElem?_cons_succ, List.getElem?_cons_zero] <;> rfl) rfl ?_; simp only [Act.put, List.setIfInBounds_toArray, List.set_cons_zero, List.set_cons_succ]) | (refine Od.wpO_pure (by simp only [List.getElem?_toArray, List.getElem?_cons_succ, List.getElem?_cons_zero] <;> rfl) rfl ?_; apply Exists.intro; refine ⟨?_, ?_⟩; (· intro wx gx; obtain ⟨mx, rfl⟩ := spread_of_gr gx; clear gx; all_goals (apply Od.pAt_of_quiet; intro K hK; go_big_quiet_op; first | exact hK _ rfl | (apply Exists.intro; refine ⟨fun _ => ?_, ?_⟩; (· fail); exact hK _ rfl))); try simp only [Act.put, List.setIfInBounds_toArray, List.set_cons_zero, List.set_cons_succ]))
  refine Od.wpO_call (by simp only [List.getElem?_toArray, List.getElem?_cons_succ, List.getElem?_cons_zero] <;> rfl) rfl ?_
  intro QS hQS
  go_wp2_with fail
  go_at_call 32
  (with_reducible refine ((H8.out _)).mono ?_)
  rintro e wd ⟨rfl, hwd⟩
  go_wp2_with fail
  apply Exists.intro
  refine ⟨?_, hwd, ?_⟩
  · simp only [Act.put, List.setIfInBounds_toArray, List.set_cons_zero, List.set_cons_succ]; rfl
  have cwd_0_0 : wd.cell? ⟨W.heap.size, 0, none⟩ = some (.int .i64 lx) := cell_gr hwd (by go_simp)
  have cwd_0_1 : wd.cell? ⟨W.heap.size, 1, none⟩ = some (.int .i64 ly) := cell_gr hwd (by go_simp)
  have cwd_0_2 : wd.cell? ⟨W.heap.size, 2, none⟩ = some (.int .i64 hx) := cell_gr hwd (by go_simp)
  have cwd_0_3 : wd.cell? ⟨W.heap.size, 3, none⟩ = some (.int .i64 hy) := cell_gr hwd (by go_simp)
  have zwd_0 : W.heap.size < wd.heap.size := World.block_lt_of_cell? _ _ cwd_0_0
  have cwd_1_0 : wd.cell? ⟨w9.heap.size, 0, none⟩ = some (.int .i64 lx) := cell_gr hwd (by go_simp)
  have cwd_1_1 : wd.cell? ⟨w9.heap.size, 1, none⟩ = some (.int .i64 ly) := cell_gr hwd (by go_simp)
  have cwd_1_2 : wd.cell? ⟨w9.heap.size, 2, none⟩ = some (.int .i64 hx) := cell_gr hwd (by go_simp)
  have cwd_1_3 : wd.cell? ⟨w9.heap.size, 3, none⟩ = some (.int .i64 hy) := cell_gr hwd (by go_simp)
  have zwd_1 : w9.heap.size < wd.heap.size := World.block_lt_of_cell? _ _ cwd_1_0
  have gwd : Gr W wd := Gr.trans (by have gg := gwc; have gs := gg.size; go_grown) hwd
  clear gwc zwc_0 cwc_0_0 cwc_0_1 cwc_0_2 cwc_0_3 zwc_1 cwc_1_0 cwc_1_1 cwc_1_2 cwc_1_3
  clear hwd
  try simp only [Act.put, List.setIfInBounds_toArray, List.set_cons_zero, List.set_cons_succ]
  repeat (first | (refine Od.wpO_skip (by simp only [List.getElem?_toArray, List.getElem?_cons_succ, List.getElem?_cons_zero] <;> rfl) rfl ?_; simp only [Act.put, List.setIfInBounds_toArray, List.set_cons_zero, List.set_cons_succ]) | (refine Od.wpO_pure (by simp only [List.getElem?_toArray, List.getElem?_cons_succ, List.getElem?_cons_zero] <;> rfl) rfl ?_; apply Exists.intro; refine ⟨?_, ?_⟩; (· intro wx gx; obtain ⟨mx, rfl⟩ := spread_of_gr gx; clear gx; all_goals (apply Od.pAt_of_quiet; intro K hK; go_big_quiet_op; first | exact hK _ rfl | (apply Exists.intro; refine ⟨fun _ => ?_, ?_⟩; (· fail); exact hK _ rfl))); try simp only [Act.put, List.setIfInBounds_toArray, List.set_cons_zero, List.set_cons_succ]))
  refine Od.wpO_nil (hKQ _ _ ?_)
  clear hKQ KQ
  go_wp2_with fail
  go_ret
  exact ⟨rfl, gwd⟩
set_option maxHeartbeats 16000000 in
set_option maxRecDepth 100000 in
theorem keys_nn (lx ly hx hy v0 v1 v2 v3 bc : Int) (ad : Option Addr) (n cap : Nat) (K : List UInt8) (W : World) (hn : n ≤ 300) (hK : K.length ≤ 64) (hE : ErrT W) (hb : (bc == 0) = false)
    (A1 : ∀ w, Gr W w → Calls Tryd.prog 33 #[.slice ad n cap] w fun e w' => ∃ B, e = .returned (.tuple #[.agg #[.int .i64 0, .int .i64 0, .int .i64 0, .int .i64 0], .iface 68 (.pointer (some ⟨B, 0, none⟩))]) ∧ FaultAt w' B keyS 0 10 ∧ Gr w w')
    (A2 : ∀ w, Gr W w → Calls Tryd.prog 34 #[.slice ad n cap] w fun e w' => e = .returned (.tuple #[.agg #[.int .i64 0, .int .i64 0, .int .i64 0, .int .i64 0], .bool false]) ∧ Gr w w')
    (A3 : ∀ w, Calls Tryd.prog 35 #[.agg #[.int .i64 lx, .int .i64 ly, .int .i64 hx, .int .i64 hy]] w fun e w' => ∃ g c, e = .returned (.slice (some ⟨g, 0, none⟩) K.length c) ∧ Row w' (.slice (some ⟨g, 0, none⟩) K.length c) K ∧ Gr w w')
    (A4 : ∀ w, Calls Tryd.prog 36 #[.agg #[.int .i64 lx, .int .i64 ly, .int .i64 hx, .int .i64 hy]] w fun e w' => ∃ g c, e = .returned (.slice (some ⟨g, 0, none⟩) K.length c) ∧ Row w' (.slice (some ⟨g, 0, none⟩) K.length c) K ∧ Gr w w' ∧ Gr w w')
    (A5 : ∀ w, Calls Tryd.prog 37 #[.agg #[.int .i64 lx, .int .i64 ly, .int .i64 hx, .int .i64 hy]] w fun e w' => e = .returned (.int .i64 bc) ∧ Gr w w')
    (A6 : ∀ w v, Row w v K → Calls Tryd.prog 33 #[v] w fun e w' => ∃ B, e = .returned (.tuple #[.agg #[.int .i64 0, .int .i64 0, .int .i64 0, .int .i64 0], .iface 68 (.pointer (some ⟨B, 0, none⟩))]) ∧ Gr w w') :
    Calls Tryd.prog 6 #[.agg #[.int .i64 lx, .int .i64 ly, .int .i64 hx, .int .i64 hy], .slice ad n cap] W fun e w' => e = .returned (.bool true) ∧ Gr W w' := by
  have t1 : decide ((300 : Int) < (n : Int)) = false := decide_eq_false (by omega)
  have t2 : decide (300 < n) = false := decide_eq_false (by omega)
  have hN : ∀ w, (binOp .neq 28 (.agg #[.int .i64 0, .int .i64 0, .int .i64 0, .int .i64 0]) (.agg #[.int .i64 0, .int .i64 0, .int .i64 0, .int .i64 0])).run Tryd.prog w = .ok (.bool false) w := fun w => by simp [go_sem]
  have A7 := fun w u v (r : Row w u K) (s : Row w v K) => c_Bytes_same (L := K) w r s (by omega)
  have A8 := fun w => p16_awake w
  have hk9 : (K.length : Int) ≤ 64 := by omega
  have t3 : decide ((K.length : Int) ≤ 64) = true := decide_eq_true hk9
  have t4 : decide (K.length ≤ 64) = true := decide_eq_true hK
  obtain ⟨kn, hkn⟩ : ∃ kn, kn = K.length := ⟨_, rfl⟩
  rw [← hkn] at A3 A4 hk9 t3 t4
  have H1 := Lib.hid A1
  have H2 := Lib.hid A2
  have H3 := Lib.hid A3
  have H4 := Lib.hid A4
  have H5 := Lib.hid A5
  have H6 := Lib.hid A6
  have H7 := Lib.hid A7
  have H8 := Lib.hid A8
  clear A1 A2 A3 A4 A5 A6 A7 A8
  have HE := Lib.hid hE
  clear hn hK hE hkn
  go_enter Tryd.func6, Tryd.ntmps6
  go_wp2_with fail
  go_at_call 33
  refine (H1.out _ (by go_grown)).mono ?_
  rintro e w1 ⟨B1, rfl, hf, g1⟩
  have HF := Lib.hid hf
  have c0 : w1.cell? ⟨W.heap.size, 0, none⟩ = some (.int .i64 lx) := cell_gr g1 (by go_simp)
  have c1 : w1.cell? ⟨W.heap.size, 1, none⟩ = some (.int .i64 ly) := cell_gr g1 (by go_simp)
  have c2 : w1.cell? ⟨W.heap.size, 2, none⟩ = some (.int .i64 hx) := cell_gr g1 (by go_simp)
  have c3 : w1.cell? ⟨W.heap.size, 3, none⟩ = some (.int .i64 hy) := cell_gr g1 (by go_simp)
  have z0 := World.block_lt_of_cell? _ _ c0
  have gw1 : Gr W w1 := Gr.trans (by go_grown) g1
  clear g1 hf
  go_wp2_with fail
  go_at_call 34
  refine (H2.out _ (by have gg := gw1; have gs := gg.size; go_grown)).mono ?_
  rintro e w2 ⟨rfl, g2⟩
  have HF2 := Lib.hid (faultAt_gr HF.out (Gr.trans (by go_grown) g2))
  have d0 : w2.cell? ⟨W.heap.size, 0, none⟩ = some (.int .i64 lx) := cell_gr g2 (by go_simp)
  have d1 : w2.cell? ⟨W.heap.size, 1, none⟩ = some (.int .i64 ly) := cell_gr g2 (by go_simp)
  have d2 : w2.cell? ⟨W.heap.size, 2, none⟩ = some (.int .i64 hx) := cell_gr g2 (by go_simp)
  have d3 : w2.cell? ⟨W.heap.size, 3, none⟩ = some (.int .i64 hy) := cell_gr g2 (by go_simp)
  have e0 : w2.cell? ⟨w1.heap.size, 0, none⟩ = some (.int .i64 0) := cell_gr g2 (by go_simp)
  have e1 : w2.cell? ⟨w1.heap.size, 1, none⟩ = some (.int .i64 0) := cell_gr g2 (by go_simp)
  have e2 : w2.cell? ⟨w1.heap.size, 2, none⟩ = some (.int .i64 0) := cell_gr g2 (by go_simp)
  have e3 : w2.cell? ⟨w1.heap.size, 3, none⟩ = some (.int .i64 0) := cell_gr g2 (by go_simp)
  have y0 := World.block_lt_of_cell? _ _ d0
  have y1 := World.block_lt_of_cell? _ _ e0
  have gw2 : Gr W w2 := Gr.trans (by have gg := gw1; have gs := gg.size; go_grown) g2
  clear g2 c0 c1 c2 c3 z0 gw1 HF
  obtain ⟨F0, F1, F2⟩ := HF2.out
  have zF := World.block_lt_of_cell? _ _ F0
  go_wp2_with fail
  try simp only [List.append]
  refine Od.wp_region_ord [(0, false), (1, false), (2, false), (3, false), (4, false), (5, false), (6, true), (7, false), (8, false), (9, false), (10, false), (12, false), (11, true), (13, true), (14, true), (15, false), (16, false)] (by kernel_rfl) (by kernel_rfl) ?_
  intro w3 hw3 KQ hKQ
  have cw3_0_0 : w3.cell? ⟨W.heap.size, 0, none⟩ = some (.int .i64 lx) := cell_gr hw3 (by go_simp)
  have cw3_0_1 : w3.cell? ⟨W.heap.size, 1, none⟩ = some (.int .i64 ly) := cell_gr hw3 (by go_simp)
  have cw3_0_2 : w3.cell? ⟨W.heap.size, 2, none⟩ = some (.int .i64 hx) := cell_gr hw3 (by go_simp)
  have cw3_0_3 : w3.cell? ⟨W.heap.size, 3, none⟩ = some (.int .i64 hy) := cell_gr hw3 (by go_simp)
  have zw3_0 : W.heap.size < w3.heap.size := World.block_lt_of_cell? _ _ cw3_0_0
  have cw3_1_0 : w3.cell? ⟨w1.heap.size, 0, none⟩ = some (.int .i64 0) := cell_gr hw3 (by go_simp)
  have cw3_1_1 : w3.cell? ⟨w1.heap.size, 1, none⟩ = some (.int .i64 0) := cell_gr hw3 (by go_simp)
  have cw3_1_2 : w3.cell? ⟨w1.heap.size, 2, none⟩ = some (.int .i64 0) := cell_gr hw3 (by go_simp)
  have cw3_1_3 : w3.cell? ⟨w1.heap.size, 3, none⟩ = some (.int .i64 0) := cell_gr hw3 (by go_simp)
  have zw3_1 : w1.heap.size < w3.heap.size := World.block_lt_of_cell? _ _ cw3_1_0
  have cw3_2_0 : w3.cell? ⟨w2.heap.size, 0, none⟩ = some (.int .i64 0) := cell_gr hw3 (by go_simp)
  have cw3_2_1 : w3.cell? ⟨w2.heap.size, 1, none⟩ = some (.int .i64 0) := cell_gr hw3 (by go_simp)
  have cw3_2_2 : w3.cell? ⟨w2.heap.size, 2, none⟩ = some (.int .i64 0) := cell_gr hw3 (by go_simp)
  have cw3_2_3 : w3.cell? ⟨w2.heap.size, 3, none⟩ = some (.int .i64 0) := cell_gr hw3 (by go_simp)
  have zw3_2 : w2.heap.size < w3.heap.size := World.block_lt_of_cell? _ _ cw3_2_0
  have cw3_3_0 : w3.cell? ⟨B1, 0, none⟩ = some (.string keyS) := cell_gr hw3 (by go_simp)
  have cw3_3_1 : w3.cell? ⟨B1, 1, none⟩ = some (.int .i64 0) := cell_gr hw3 (by go_simp)
  have cw3_3_2 : w3.cell? ⟨B1, 2, none⟩ = some (.iface 79 (.int .i64 10)) := cell_gr hw3 (by go_simp)
  have zw3_3 : B1 < w3.heap.size := World.block_lt_of_cell? _ _ cw3_3_0
  have gw3 : Gr W w3 := Gr.trans (by have gg := gw2; have gs := gg.size; go_grown) hw3
  clear gw2
  clear hw3
  repeat (first | (refine Od.wpO_skip (by simp only [List.getElem?_toArray, List.getElem?_cons_succ, List.getElem?_cons_zero] <;> rfl) rfl ?_; simp only [Act.put, List.setIfInBounds_toArray, List.set_cons_zero, List.set_cons_succ]) | (refine Od.wpO_pure (by simp only [List.getElem?_toArray, List.getElem?_cons_succ, List.getElem?_cons_zero] <;> rfl) rfl ?_; apply Exists.intro; refine ⟨?_, ?_⟩; (· intro wx gx; obtain ⟨mx, rfl⟩ := spread_of_gr gx; clear gx; all_goals (apply Od.pAt_of_quiet; intro K hK; go_big_quiet_op; first | exact hK _ rfl | (apply Exists.intro; refine ⟨fun _ => ?_, ?_⟩; (· fail); exact hK _ rfl))); try simp only [Act.put, List.setIfInBounds_toArray, List.set_cons_zero, List.set_cons_succ]))
  refine Od.wpO_call (by simp only [List.getElem?_toArray, List.getElem?_cons_succ, List.getElem?_cons_zero] <;> rfl) rfl ?_
  intro QS hQS
  go_wp2_with fail
  go_at_call 9
  (with_reducible refine ((ki_hit B1 _ (errT_gr HE.out gw3) cw3_3_0 cw3_3_1 cw3_3_2)).mono ?_)
  rintro e w4 ⟨rfl, hw4⟩
  go_wp2_with fail
  apply Exists.intro
  refine ⟨?_, hw4, ?_⟩
  · simp only [Act.put, List.setIfInBounds_toArray, List.set_cons_zero, List.set_cons_succ]; rfl
  have cw4_0_0 : w4.cell? ⟨W.heap.size, 0, none⟩ = some (.int .i64 lx) := cell_gr hw4 (by go_simp)
  have cw4_0_1 : w4.cell? ⟨W.heap.size, 1, none⟩ = some (.int .i64 ly) := cell_gr hw4 (by go_simp)
  have cw4_0_2 : w4.cell? ⟨W.heap.size, 2, none⟩ = some (.int .i64 hx) := cell_gr hw4 (by go_simp)
  have cw4_0_3 : w4.cell? ⟨W.heap.size, 3, none⟩ = some (.int .i64 hy) := cell_gr hw4 (by go_simp)
  have zw4_0 : W.heap.size < w4.heap.size := World.block_lt_of_cell? _ _ cw4_0_0
  have cw4_1_0 : w4.cell? ⟨w1.heap.size, 0, none⟩ = some (.int .i64 0) := cell_gr hw4 (by go_simp)
  have cw4_1_1 : w4.cell? ⟨w1.heap.size, 1, none⟩ = some (.int .i64 0) := cell_gr hw4 (by go_simp)
  have cw4_1_2 : w4.cell? ⟨w1.heap.size, 2, none⟩ = some (.int .i64 0) := cell_gr hw4 (by go_simp)
  have cw4_1_3 : w4.cell? ⟨w1.heap.size, 3, none⟩ = some (.int .i64 0) := cell_gr hw4 (by go_simp)
  have zw4_1 : w1.heap.size < w4.heap.size := World.block_lt_of_cell? _ _ cw4_1_0
  have cw4_2_0 : w4.cell? ⟨w2.heap.size, 0, none⟩ = some (.int .i64 0) := cell_gr hw4 (by go_simp)
  have cw4_2_1 : w4.cell? ⟨w2.heap.size, 1, none⟩ = some (.int .i64 0) := cell_gr hw4 (by go_simp)
  have cw4_2_2 : w4.cell? ⟨w2.heap.size, 2, none⟩ = some (.int .i64 0) := cell_gr hw4 (by go_simp)
  have cw4_2_3 : w4.cell? ⟨w2.heap.size, 3, none⟩ = some (.int .i64 0) := cell_gr hw4 (by go_simp)
  have zw4_2 : w2.heap.size < w4.heap.size := World.block_lt_of_cell? _ _ cw4_2_0
  have cw4_3_0 : w4.cell? ⟨B1, 0, none⟩ = some (.string keyS) := cell_gr hw4 (by go_simp)
  have cw4_3_1 : w4.cell? ⟨B1, 1, none⟩ = some (.int .i64 0) := cell_gr hw4 (by go_simp)
  have cw4_3_2 : w4.cell? ⟨B1, 2, none⟩ = some (.iface 79 (.int .i64 10)) := cell_gr hw4 (by go_simp)
  have zw4_3 : B1 < w4.heap.size := World.block_lt_of_cell? _ _ cw4_3_0
  have gw4 : Gr W w4 := Gr.trans (by have gg := gw3; have gs := gg.size; go_grown) hw4
  clear gw3 zw3_0 cw3_0_0 cw3_0_1 cw3_0_2 cw3_0_3 zw3_1 cw3_1_0 cw3_1_1 cw3_1_2 cw3_1_3 zw3_2 cw3_2_0 cw3_2_1 cw3_2_2 cw3_2_3 zw3_3 cw3_3_0 cw3_3_1 cw3_3_2
  clear hw4
  try simp only [Act.put, List.setIfInBounds_toArray, List.set_cons_zero, List.set_cons_succ]
  repeat (first | (refine Od.wpO_skip (by simp only [List.getElem?_toArray, List.getElem?_cons_succ, List.getElem?_cons_zero] <;> rfl) rfl ?_; simp only [Act.put, List.setIfInBounds_toArray, List.set_cons_zero, List.set_cons_succ]) | (refine Od.wpO_pure (by simp only [List.getElem?_toArray, List.getElem?_cons_succ, List.getElem?_cons_zero] <;> rfl) rfl ?_; apply Exists.intro; refine ⟨?_, ?_⟩; (· intro wx gx; obtain ⟨mx, rfl⟩ := spread_of_gr gx; clear gx; all_goals (apply Od.pAt_of_quiet; intro K hK; go_big_quiet_op; first | exact hK _ rfl | (apply Exists.intro; refine ⟨fun _ => ?_, ?_⟩; (· fail); exact hK _ rfl))); try simp only [Act.put, List.setIfInBounds_toArray, List.set_cons_zero, List.set_cons_succ]))
  refine Od.wpO_call (by simp only [List.getElem?_toArray, List.getElem?_cons_succ, List.getElem?_cons_zero] <;> rfl) rfl ?_
  intro QS hQS
  go_wp2_with fail
  go_at_call 35
  (with_reducible refine ((H3.out _)).mono ?_)
  rintro e w5 ⟨g5, c5, rfl, r5, hw5⟩
  go_wp2_with fail
  apply Exists.intro
  refine ⟨?_, hw5, ?_⟩
  · simp only [Act.put, List.setIfInBounds_toArray, List.set_cons_zero, List.set_cons_succ]; rfl
  have cw5_0_0 : w5.cell? ⟨W.heap.size, 0, none⟩ = some (.int .i64 lx) := cell_gr hw5 (by go_simp)
  have cw5_0_1 : w5.cell? ⟨W.heap.size, 1, none⟩ = some (.int .i64 ly) := cell_gr hw5 (by go_simp)
  have cw5_0_2 : w5.cell? ⟨W.heap.size, 2, none⟩ = some (.int .i64 hx) := cell_gr hw5 (by go_simp)
  have cw5_0_3 : w5.cell? ⟨W.heap.size, 3, none⟩ = some (.int .i64 hy) := cell_gr hw5 (by go_simp)
  have zw5_0 : W.heap.size < w5.heap.size := World.block_lt_of_cell? _ _ cw5_0_0
  have cw5_1_0 : w5.cell? ⟨w1.heap.size, 0, none⟩ = some (.int .i64 0) := cell_gr hw5 (by go_simp)
  have cw5_1_1 : w5.cell? ⟨w1.heap.size, 1, none⟩ = some (.int .i64 0) := cell_gr hw5 (by go_simp)
  have cw5_1_2 : w5.cell? ⟨w1.heap.size, 2, none⟩ = some (.int .i64 0) := cell_gr hw5 (by go_simp)
  have cw5_1_3 : w5.cell? ⟨w1.heap.size, 3, none⟩ = some (.int .i64 0) := cell_gr hw5 (by go_simp)
  have zw5_1 : w1.heap.size < w5.heap.size := World.block_lt_of_cell? _ _ cw5_1_0
  have cw5_2_0 : w5.cell? ⟨w2.heap.size, 0, none⟩ = some (.int .i64 0) := cell_gr hw5 (by go_simp)
  have cw5_2_1 : w5.cell? ⟨w2.heap.size, 1, none⟩ = some (.int .i64 0) := cell_gr hw5 (by go_simp)
  have cw5_2_2 : w5.cell? ⟨w2.heap.size, 2, none⟩ = some (.int .i64 0) := cell_gr hw5 (by go_simp)
  have cw5_2_3 : w5.cell? ⟨w2.heap.size, 3, none⟩ = some (.int .i64 0) := cell_gr hw5 (by go_simp)
  have zw5_2 : w2.heap.size < w5.heap.size := World.block_lt_of_cell? _ _ cw5_2_0
  have gw5 : Gr W w5 := Gr.trans (by have gg := gw4; have gs := gg.size; go_grown) hw5
  clear gw4 zw4_0 cw4_0_0 cw4_0_1 cw4_0_2 cw4_0_3 zw4_1 cw4_1_0 cw4_1_1 cw4_1_2 cw4_1_3 zw4_2 cw4_2_0 cw4_2_1 cw4_2_2 cw4_2_3 zw4_3 cw4_3_0 cw4_3_1 cw4_3_2
  clear hw5
  try simp only [Act.put, List.setIfInBounds_toArray, List.set_cons_zero, List.set_cons_succ]
  repeat (first | (refine Od.wpO_skip (by simp only [List.getElem?_toArray, List.getElem?_cons_succ, List.getElem?_cons_zero] <;> rfl) rfl ?_; simp only [Act.put, List.setIfInBounds_toArray, List.set_cons_zero, List.set_cons_succ]) | (refine Od.wpO_pure (by simp only [List.getElem?_toArray, List.getElem?_cons_succ, List.getElem?_cons_zero] <;> rfl) rfl ?_; apply Exists.intro; refine ⟨?_, ?_⟩; (· intro wx gx; obtain ⟨mx, rfl⟩ := spread_of_gr gx; clear gx; all_goals (apply Od.pAt_of_quiet; intro K hK; go_big_quiet_op; first | exact hK _ rfl | (apply Exists.intro; refine ⟨fun _ => ?_, ?_⟩; (· fail); exact hK _ rfl))); try simp only [Act.put, List.setIfInBounds_toArray, List.set_cons_zero, List.set_cons_succ]))
  have R5 := Lib.hid r5
  clear r5
  refine Od.wpO_call (by simp only [List.getElem?_toArray, List.getElem?_cons_succ, List.getElem?_cons_zero] <;> rfl) rfl ?_
  intro QS hQS
  go_wp2_with fail
  go_at_call 36
  (with_reducible refine ((H4.out _)).mono ?_)
  rintro e w6 ⟨g6, c6, rfl, r6, hw6, k6⟩
  go_wp2_with fail
  apply Exists.intro
  refine ⟨?_, hw6, ?_⟩
  · simp only [Act.put, List.setIfInBounds_toArray, List.set_cons_zero, List.set_cons_succ]; rfl
  have cw6_0_0 : w6.cell? ⟨W.heap.size, 0, none⟩ = some (.int .i64 lx) := cell_gr hw6 (by go_simp)
  have cw6_0_1 : w6.cell? ⟨W.heap.size, 1, none⟩ = some (.int .i64 ly) := cell_gr hw6 (by go_simp)
  have cw6_0_2 : w6.cell? ⟨W.heap.size, 2, none⟩ = some (.int .i64 hx) := cell_gr hw6 (by go_simp)
  have cw6_0_3 : w6.cell? ⟨W.heap.size, 3, none⟩ = some (.int .i64 hy) := cell_gr hw6 (by go_simp)
  have zw6_0 : W.heap.size < w6.heap.size := World.block_lt_of_cell? _ _ cw6_0_0
  have cw6_1_0 : w6.cell? ⟨w1.heap.size, 0, none⟩ = some (.int .i64 0) := cell_gr hw6 (by go_simp)
  have cw6_1_1 : w6.cell? ⟨w1.heap.size, 1, none⟩ = some (.int .i64 0) := cell_gr hw6 (by go_simp)
  have cw6_1_2 : w6.cell? ⟨w1.heap.size, 2, none⟩ = some (.int .i64 0) := cell_gr hw6 (by go_simp)
  have cw6_1_3 : w6.cell? ⟨w1.heap.size, 3, none⟩ = some (.int .i64 0) := cell_gr hw6 (by go_simp)
  have zw6_1 : w1.heap.size < w6.heap.size := World.block_lt_of_cell? _ _ cw6_1_0
  have cw6_2_0 : w6.cell? ⟨w2.heap.size, 0, none⟩ = some (.int .i64 0) := cell_gr hw6 (by go_simp)
  have cw6_2_1 : w6.cell? ⟨w2.heap.size, 1, none⟩ = some (.int .i64 0) := cell_gr hw6 (by go_simp)
  have cw6_2_2 : w6.cell? ⟨w2.heap.size, 2, none⟩ = some (.int .i64 0) := cell_gr hw6 (by go_simp)
  have cw6_2_3 : w6.cell? ⟨w2.heap.size, 3, none⟩ = some (.int .i64 0) := cell_gr hw6 (by go_simp)
  have zw6_2 : w2.heap.size < w6.heap.size := World.block_lt_of_cell? _ _ cw6_2_0
  have gw6 : Gr W w6 := Gr.trans (by have gg := gw5; have gs := gg.size; go_grown) hw6
  clear gw5 zw5_0 cw5_0_0 cw5_0_1 cw5_0_2 cw5_0_3 zw5_1 cw5_1_0 cw5_1_1 cw5_1_2 cw5_1_3 zw5_2 cw5_2_0 cw5_2_1 cw5_2_2 cw5_2_3
  clear hw6
  try simp only [Act.put, List.setIfInBounds_toArray, List.set_cons_zero, List.set_cons_succ]
  repeat (first | (refine Od.wpO_skip (by simp only [List.getElem?_toArray, List.getElem?_cons_succ, List.getElem?_cons_zero] <;> rfl) rfl ?_; simp only [Act.put, List.setIfInBounds_toArray, List.set_cons_zero, List.set_cons_succ]) | (refine Od.wpO_pure (by simp only [List.getElem?_toArray, List.getElem?_cons_succ, List.getElem?_cons_zero] <;> rfl) rfl ?_; apply Exists.intro; refine ⟨?_, ?_⟩; (· intro wx gx; obtain ⟨mx, rfl⟩ := spread_of_gr gx; clear gx; all_goals (apply Od.pAt_of_quiet; intro K hK; go_big_quiet_op; first | exact hK _ rfl | (apply Exists.intro; refine ⟨fun _ => ?_, ?_⟩; (· fail); exact hK _ rfl))); try simp only [Act.put, List.setIfInBounds_toArray, List.set_cons_zero, List.set_cons_succ]))
  have R6 := Lib.hid r6
  have R56 := Lib.hid (row_gr R5.out k6)
  clear r6 k6 R5
  refine Od.wpO_call (by simp only [List.getElem?_toArray, List.getElem?_cons_succ, List.getElem?_cons_zero] <;> rfl) rfl ?_
  intro QS hQS
  go_wp2_with fail
  go_at_call 21
  (with_reducible refine ((H7.out _ _ _ R56.out R6.out)).mono ?_)
  rintro e w7 ⟨rfl, hw7⟩
  go_wp2_with fail
  apply Exists.intro
  refine ⟨?_, hw7, ?_⟩
  · simp only [Act.put, List.setIfInBounds_toArray, List.set_cons_zero, List.set_cons_succ]; rfl
  have cw7_0_0 : w7.cell? ⟨W.heap.size, 0, none⟩ = some (.int .i64 lx) := cell_gr hw7 (by go_simp)
  have cw7_0_1 : w7.cell? ⟨W.heap.size, 1, none⟩ = some (.int .i64 ly) := cell_gr hw7 (by go_simp)
  have cw7_0_2 : w7.cell? ⟨W.heap.size, 2, none⟩ = some (.int .i64 hx) := cell_gr hw7 (by go_simp)
  have cw7_0_3 : w7.cell? ⟨W.heap.size, 3, none⟩ = some (.int .i64 hy) := cell_gr hw7 (by go_simp)
  have zw7_0 : W.heap.size < w7.heap.size := World.block_lt_of_cell? _ _ cw7_0_0
  have cw7_1_0 : w7.cell? ⟨w1.heap.size, 0, none⟩ = some (.int .i64 0) := cell_gr hw7 (by go_simp)
  have cw7_1_1 : w7.cell? ⟨w1.heap.size, 1, none⟩ = some (.int .i64 0) := cell_gr hw7 (by go_simp)
  have cw7_1_2 : w7.cell? ⟨w1.heap.size, 2, none⟩ = some (.int .i64 0) := cell_gr hw7 (by go_simp)
  have cw7_1_3 : w7.cell? ⟨w1.heap.size, 3, none⟩ = some (.int .i64 0) := cell_gr hw7 (by go_simp)
  have zw7_1 : w1.heap.size < w7.heap.size := World.block_lt_of_cell? _ _ cw7_1_0
  have cw7_2_0 : w7.cell? ⟨w2.heap.size, 0, none⟩ = some (.int .i64 0) := cell_gr hw7 (by go_simp)
  have cw7_2_1 : w7.cell? ⟨w2.heap.size, 1, none⟩ = some (.int .i64 0) := cell_gr hw7 (by go_simp)
  have cw7_2_2 : w7.cell? ⟨w2.heap.size, 2, none⟩ = some (.int .i64 0) := cell_gr hw7 (by go_simp)
  have cw7_2_3 : w7.cell? ⟨w2.heap.size, 3, none⟩ = some (.int .i64 0) := cell_gr hw7 (by go_simp)
  have zw7_2 : w2.heap.size < w7.heap.size := World.block_lt_of_cell? _ _ cw7_2_0
  have gw7 : Gr W w7 := Gr.trans (by have gg := gw6; have gs := gg.size; go_grown) hw7
  clear gw6 zw6_0 cw6_0_0 cw6_0_1 cw6_0_2 cw6_0_3 zw6_1 cw6_1_0 cw6_1_1 cw6_1_2 cw6_1_3 zw6_2 cw6_2_0 cw6_2_1 cw6_2_2 cw6_2_3
  clear hw7
  try simp only [Act.put, List.setIfInBounds_toArray, List.set_cons_zero, List.set_cons_succ]
  repeat (first | (refine Od.wpO_skip (by simp only [List.getElem?_toArray, List.getElem?_cons_succ, List.getElem?_cons_zero] <;> rfl) rfl ?_; simp only [Act.put, List.setIfInBounds_toArray, List.set_cons_zero, List.set_cons_succ]) | (refine Od.wpO_pure (by simp only [List.getElem?_toArray, List.getElem?_cons_succ, List.getElem?_cons_zero] <;> rfl) rfl ?_; apply Exists.intro; refine ⟨?_, ?_⟩; (· intro wx gx; obtain ⟨mx, rfl⟩ := spread_of_gr gx; clear gx; all_goals (apply Od.pAt_of_quiet; intro K hK; go_big_quiet_op; first | exact hK _ rfl | (apply Exists.intro; refine ⟨fun _ => ?_, ?_⟩; (· fail); exact hK _ rfl))); try simp only [Act.put, List.setIfInBounds_toArray, List.set_cons_zero, List.set_cons_succ]))
  refine Od.wpO_nil (hKQ _ _ ?_)
  clear hKQ KQ
  go_wp2_with fail
  go_at_call 35
  refine (H3.out _).mono ?_
  rintro e w8 ⟨g8, c8, rfl, r8, x8⟩
  have R8 := Lib.hid r8
  have a0 : w8.cell? ⟨W.heap.size, 0, none⟩ = some (.int .i64 lx) := cell_gr x8 (by go_simp)
  have a1 : w8.cell? ⟨W.heap.size, 1, none⟩ = some (.int .i64 ly) := cell_gr x8 (by go_simp)
  have a2 : w8.cell? ⟨W.heap.size, 2, none⟩ = some (.int .i64 hx) := cell_gr x8 (by go_simp)
  have a3 : w8.cell? ⟨W.heap.size, 3, none⟩ = some (.int .i64 hy) := cell_gr x8 (by go_simp)
  have G8 : Gr W w8 := Gr.trans (by have gg := gw7; have gs := gg.size; go_grown) x8
  clear x8 r8 R56 R6
  go_wp2_with fail
  go_at_call 33
  refine (H6.out _ _ (row_gr R8.out (by go_grown))).mono ?_
  rintro e w9 ⟨B9, rfl, x9⟩
  have b0 : w9.cell? ⟨W.heap.size, 0, none⟩ = some (.int .i64 lx) := cell_gr x9 (by go_simp)
  have b1 : w9.cell? ⟨W.heap.size, 1, none⟩ = some (.int .i64 ly) := cell_gr x9 (by go_simp)
  have b2 : w9.cell? ⟨W.heap.size, 2, none⟩ = some (.int .i64 hx) := cell_gr x9 (by go_simp)
  have b3 : w9.cell? ⟨W.heap.size, 3, none⟩ = some (.int .i64 hy) := cell_gr x9 (by go_simp)
  have q9 := World.block_lt_of_cell? _ _ b0
  have gw9 : Gr W w9 := Gr.trans G8 (Gr.trans (by go_grown) x9)
  clear x9 G8 a0 a1 a2 a3 R8 cw7_0_0 cw7_0_1 cw7_0_2 cw7_0_3 cw7_1_0 cw7_1_1 cw7_1_2 cw7_1_3 cw7_2_0 cw7_2_1 cw7_2_2 cw7_2_3 zw7_0 zw7_1 zw7_2 gw7
  go_wp2_with fail
  try simp only [List.append]
  refine Od.wp_region_ord [(0, false), (1, false), (2, false), (3, true), (4, false), (5, false), (6, false), (7, false), (8, false), (9, false), (10, false), (11, false), (12, false), (13, false), (14, false), (15, false), (16, false), (17, true), (18, false), (19, false), (20, false), (21, false), (22, true), (23, false), (24, false)] (by kernel_rfl) (by kernel_rfl) ?_
  intro wa hwa KQ hKQ
  have cwa_0_0 : wa.cell? ⟨W.heap.size, 0, none⟩ = some (.int .i64 lx) := cell_gr hwa (by go_simp)
  have cwa_0_1 : wa.cell? ⟨W.heap.size, 1, none⟩ = some (.int .i64 ly) := cell_gr hwa (by go_simp)
  have cwa_0_2 : wa.cell? ⟨W.heap.size, 2, none⟩ = some (.int .i64 hx) := cell_gr hwa (by go_simp)
  have cwa_0_3 : wa.cell? ⟨W.heap.size, 3, none⟩ = some (.int .i64 hy) := cell_gr hwa (by go_simp)
  have zwa_0 : W.heap.size < wa.heap.size := World.block_lt_of_cell? _ _ cwa_0_0
  have cwa_1_0 : wa.cell? ⟨w9.heap.size, 0, none⟩ = some (.int .i64 0) := cell_gr hwa (by go_simp)
  have cwa_1_1 : wa.cell? ⟨w9.heap.size, 1, none⟩ = some (.int .i64 0) := cell_gr hwa (by go_simp)
  have cwa_1_2 : wa.cell? ⟨w9.heap.size, 2, none⟩ = some (.int .i64 0) := cell_gr hwa (by go_simp)
  have cwa_1_3 : wa.cell? ⟨w9.heap.size, 3, none⟩ = some (.int .i64 0) := cell_gr hwa (by go_simp)
  have zwa_1 : w9.heap.size < wa.heap.size := World.block_lt_of_cell? _ _ cwa_1_0
  have gwa : Gr W wa := Gr.trans (by have gg := gw9; have gs := gg.size; go_grown) hwa
  clear gw9
  clear hwa
  repeat (first | (refine Od.wpO_skip (by simp only [List.getElem?_toArray, List.getElem?_cons_succ, List.getElem?_cons_zero] <;> rfl) rfl ?_; simp only [Act.put, List.setIfInBounds_toArray, List.set_cons_zero, List.set_cons_succ]) | (refine Od.wpO_pure (by simp only [List.getElem?_toArray, List.getElem?_cons_succ, List.getElem?_cons_zero] <;> rfl) rfl ?_; apply Exists.intro; refine ⟨?_, ?_⟩; (· intro wx gx; obtain ⟨mx, rfl⟩ := spread_of_gr gx; clear gx; all_goals (apply Od.pAt_of_quiet; intro K hK; go_big_quiet_op; first | exact hK _ rfl | (apply Exists.intro; refine ⟨fun _ => ?_, ?_⟩; (· fail); exact hK _ rfl))); try simp only [Act.put, List.setIfInBounds_toArray, List.set_cons_zero, List.set_cons_succ]))
  refine Od.wpO_call (by simp only [List.getElem?_toArray, List.getElem?_cons_succ, List.getElem?_cons_zero] <;> rfl) rfl ?_
  intro QS hQS
  go_wp2_with fail
  go_at_call 37
  (with_reducible refine ((H5.out _)).mono ?_)
  rintro e wb ⟨rfl, hwb⟩
  go_wp2_with fail
  apply Exists.intro
  refine ⟨?_, hwb, ?_⟩
  · simp only [Act.put, List.setIfInBounds_toArray, List.set_cons_zero, List.set_cons_succ]; rfl
  have cwb_0_0 : wb.cell? ⟨W.heap.size, 0, none⟩ = some (.int .i64 lx) := cell_gr hwb (by go_simp)
  have cwb_0_1 : wb.cell? ⟨W.heap.size, 1, none⟩ = some (.int .i64 ly) := cell_gr hwb (by go_simp)
  have cwb_0_2 : wb.cell? ⟨W.heap.size, 2, none⟩ = some (.int .i64 hx) := cell_gr hwb (by go_simp)
  have cwb_0_3 : wb.cell? ⟨W.heap.size, 3, none⟩ = some (.int .i64 hy) := cell_gr hwb (by go_simp)
  have zwb_0 : W.heap.size < wb.heap.size := World.block_lt_of_cell? _ _ cwb_0_0
  have cwb_1_0 : wb.cell? ⟨w9.heap.size, 0, none⟩ = some (.int .i64 0) := cell_gr hwb (by go_simp)
  have cwb_1_1 : wb.cell? ⟨w9.heap.size, 1, none⟩ = some (.int .i64 0) := cell_gr hwb (by go_simp)
  have cwb_1_2 : wb.cell? ⟨w9.heap.size, 2, none⟩ = some (.int .i64 0) := cell_gr hwb (by go_simp)
  have cwb_1_3 : wb.cell? ⟨w9.heap.size, 3, none⟩ = some (.int .i64 0) := cell_gr hwb (by go_simp)
  have zwb_1 : w9.heap.size < wb.heap.size := World.block_lt_of_cell? _ _ cwb_1_0
  have gwb : Gr W wb := Gr.trans (by have gg := gwa; have gs := gg.size; go_grown) hwb
  clear gwa zwa_0 cwa_0_0 cwa_0_1 cwa_0_2 cwa_0_3 zwa_1 cwa_1_0 cwa_1_1 cwa_1_2 cwa_1_3
  clear hwb
  try simp only [Act.put, List.setIfInBounds_toArray, List.set_cons_zero, List.set_cons_succ]
  repeat (first | (refine Od.wpO_skip (by simp only [List.getElem?_toArray, List.getElem?_cons_succ, List.getElem?_cons_zero] <;> rfl) rfl ?_; simp only [Act.put, List.setIfInBounds_toArray, List.set_cons_zero, List.set_cons_succ]) | (refine Od.wpO_pure (by simp only [List.getElem?_toArray, List.getElem?_cons_succ, List.getElem?_cons_zero] <;> rfl) rfl ?_; apply Exists.intro; refine ⟨?_, ?_⟩; (· intro wx gx; obtain ⟨mx, rfl⟩ := spread_of_gr gx; clear gx; all_goals (apply Od.pAt_of_quiet; intro K hK; go_big_quiet_op; first | exact hK _ rfl | (apply Exists.intro; refine ⟨fun _ => ?_, ?_⟩; (· fail); exact hK _ rfl))); try simp only [Act.put, List.setIfInBounds_toArray, List.set_cons_zero, List.set_cons_succ]))
  refine Od.wpO_call (by simp only [List.getElem?_toArray, List.getElem?_cons_succ, List.getElem?_cons_zero] <;> rfl) rfl ?_
  intro QS hQS
  go_wp2_with fail
  go_at_call 35
  (with_reducible refine ((H3.out _)).mono ?_)
  rintro e wc ⟨gc, cc, rfl, rc, hwc⟩
  go_wp2_with fail
  apply Exists.intro
  refine ⟨?_, hwc, ?_⟩
  · simp only [Act.put, List.setIfInBounds_toArray, List.set_cons_zero, List.set_cons_succ]; rfl
  have cwc_0_0 : wc.cell? ⟨W.heap.size, 0, none⟩ = some (.int .i64 lx) := cell_gr hwc (by go_simp)
  have cwc_0_1 : wc.cell? ⟨W.heap.size, 1, none⟩ = some (.int .i64 ly) := cell_gr hwc (by go_simp)
  have cwc_0_2 : wc.cell? ⟨W.heap.size, 2, none⟩ = some (.int .i64 hx) := cell_gr hwc (by go_simp)
  have cwc_0_3 : wc.cell? ⟨W.heap.size, 3, none⟩ = some (.int .i64 hy) := cell_gr hwc (by go_simp)
  have zwc_0 : W.heap.size < wc.heap.size := World.block_lt_of_cell? _ _ cwc_0_0
  have cwc_1_0 : wc.cell? ⟨w9.heap.size, 0, none⟩ = some (.int .i64 0) := cell_gr hwc (by go_simp)
  have cwc_1_1 : wc.cell? ⟨w9.heap.size, 1, none⟩ = some (.int .i64 0) := cell_gr hwc (by go_simp)
  have cwc_1_2 : wc.cell? ⟨w9.heap.size, 2, none⟩ = some (.int .i64 0) := cell_gr hwc (by go_simp)
  have cwc_1_3 : wc.cell? ⟨w9.heap.size, 3, none⟩ = some (.int .i64 0) := cell_gr hwc (by go_simp)
  have zwc_1 : w9.heap.size < wc.heap.size := World.block_lt_of_cell? _ _ cwc_1_0
  have gwc : Gr W wc := Gr.trans (by have gg := gwb; have gs := gg.size; go_grown) hwc
  clear gwb zwb_0 cwb_0_0 cwb_0_1 cwb_0_2 cwb_0_3 zwb_1 cwb_1_0 cwb_1_1 cwb_1_2 cwb_1_3
  clear hwc
  try simp only [Act.put, List.setIfInBounds_toArray, List.set_cons_zero, List.set_cons_succ]
  repeat (first | (refine Od.wpO_skip (by simp only [List.getElem?_toArray, List.getElem?_cons_succ, List.getElem?_cons_zero] <;> rfl) rfl ?_; simp only [Act.put, List.setIfInBounds_toArray, List.set_cons_zero, List.set_cons_succ]) | (refine Od.wpO_pure (by simp only [List.getElem?_toArray, List.getElem?_cons_succ, List.getElem?_cons_zero] <;> rfl) rfl ?_; apply Exists.intro; refine ⟨?_, ?_⟩; (· intro wx gx; obtain ⟨mx, rfl⟩ := spread_of_gr gx; clear gx; all_goals (apply Od.pAt_of_quiet; intro K hK; go_big_quiet_op; first | exact hK _ rfl | (apply Exists.intro; refine ⟨fun _ => ?_, ?_⟩; (· fail); exact hK _ rfl))); try simp only [Act.put, List.setIfInBounds_toArray, List.set_cons_zero, List.set_cons_succ]))
  refine Od.wpO_call (by simp only [List.getElem?_toArray, List.getElem?_cons_succ, List.getElem?_cons_zero] <;> rfl) rfl ?_
  intro QS hQS
  go_wp2_with fail
  go_at_call 32
  (with_reducible refine ((H8.out _)).mono ?_)
  rintro e wd ⟨rfl, hwd⟩
  go_wp2_with fail
  apply Exists.intro
  refine ⟨?_, hwd, ?_⟩
  · simp only [Act.put, List.setIfInBounds_toArray, List.set_cons_zero, List.set_cons_succ]; rfl
  have cwd_0_0 : wd.cell? ⟨W.heap.size, 0, none⟩ = some (.int .i64 lx) := cell_gr hwd (by go_simp)
  have cwd_0_1 : wd.cell? ⟨W.heap.size, 1, none⟩ = some (.int .i64 ly) := cell_gr hwd (by go_simp)
  have cwd_0_2 : wd.cell? ⟨W.heap.size, 2, none⟩ = some (.int .i64 hx) := cell_gr hwd (by go_simp)
  have cwd_0_3 : wd.cell? ⟨W.heap.size, 3, none⟩ = some (.int .i64 hy) := cell_gr hwd (by go_simp)
  have zwd_0 : W.heap.size < wd.heap.size := World.block_lt_of_cell? _ _ cwd_0_0
  have cwd_1_0 : wd.cell? ⟨w9.heap.size, 0, none⟩ = some (.int .i64 0) := cell_gr hwd (by go_simp)
  have cwd_1_1 : wd.cell? ⟨w9.heap.size, 1, none⟩ = some (.int .i64 0) := cell_gr hwd (by go_simp)
  have cwd_1_2 : wd.cell? ⟨w9.heap.size, 2, none⟩ = some (.int .i64 0) := cell_gr hwd (by go_simp)
  have cwd_1_3 : wd.cell? ⟨w9.heap.size, 3, none⟩ = some (.int .i64 0) := cell_gr hwd (by go_simp)
  have zwd_1 : w9.heap.size < wd.heap.size := World.block_lt_of_cell? _ _ cwd_1_0
  have gwd : Gr W wd := Gr.trans (by have gg := gwc; have gs := gg.size; go_grown) hwd
  clear gwc zwc_0 cwc_0_0 cwc_0_1 cwc_0_2 cwc_0_3 zwc_1 cwc_1_0 cwc_1_1 cwc_1_2 cwc_1_3
  clear hwd
  try simp only [Act.put, List.setIfInBounds_toArray, List.set_cons_zero, List.set_cons_succ]
  repeat (first | (refine Od.wpO_skip (by simp only [List.getElem?_toArray, List.getElem?_cons_succ, List.getElem?_cons_zero] <;> rfl) rfl ?_; simp only [Act.put, List.setIfInBounds_toArray, List.set_cons_zero, List.set_cons_succ]) | (refine Od.wpO_pure (by simp only [List.getElem?_toArray, List.getElem?_cons_succ, List.getElem?_cons_zero] <;> rfl) rfl ?_; apply Exists.intro; refine ⟨?_, ?_⟩; (· intro wx gx; obtain ⟨mx, rfl⟩ := spread_of_gr gx; clear gx; all_goals (apply Od.pAt_of_quiet; intro K hK; go_big_quiet_op; first | exact hK _ rfl | (apply Exists.intro; refine ⟨fun _ => ?_, ?_⟩; (· fail); exact hK _ rfl))); try simp only [Act.put, List.setIfInBounds_toArray, List.set_cons_zero, List.set_cons_succ]))
  refine Od.wpO_nil (hKQ _ _ ?_)
  clear hKQ KQ
  go_wp2_with fail
  go_ret
  exact ⟨rfl, gwd⟩
end Go.Proofs.YtlkciinhhagjiaaDoor
