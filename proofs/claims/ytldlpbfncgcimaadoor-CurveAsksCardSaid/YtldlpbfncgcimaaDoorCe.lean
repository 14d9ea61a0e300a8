/- curve.Z, curve.Centre -/
import Derived.Test.YtldlpbfncgcimaaDoorCd
namespace Go.Proofs.YtldlpbfncgcimaaDoor
set_option linter.unusedVariables false
open Go.ChangeShapes Go.WideShapes Go.ChangeAt Go.RowKit

theorem or_zv (X Y : Nat) : bits BinOp.or IntKind.u64 (Cv.spr X 31 : Int) ((2 * Cv.spr Y 31 : Nat) : Int) = (Cv.zv X Y : Int) := by
  have h1 := Cv.spr_lt X 31
  have h2 := Cv.spr_lt Y 31
  rw [show (4 : Nat) ^ 31 = 4611686018427387904 from rfl] at h1 h2
  rw [bits_or_u64_nat _ _ (by omega) (by omega), Cv.spr_or]
  rfl
set_option maxHeartbeats 2000000 in
set_option maxRecDepth 100000 in
theorem c_Z (px py : Int) (X Y : Nat) (h : nearB px py = true) (hX : (X : Int) = px + 1073741824) (hY : (Y : Int) = py + 1073741824) (W : World) :
    Calls Tryd.prog 30 #[.agg #[.int .i64 px, .int .i64 py]] W fun e w' => e = .returned (.tuple #[.int .u64 (Cv.zv X Y), .nilIface]) ∧ Gr W w' := by
  have A1 := fun w => c_CheckPoint px py w
  rw [h] at A1
  simp only [if_true] at A1
  obtain ⟨b1, b2, b3, b4⟩ := nearB_iff.1 h
  have A2 := fun w => c_spread X (by omega) w
  have A3 := fun w => c_spread Y (by omega) w
  have s1 : IntKind.i64.wrap (px + 1073741824) = (X : Int) := by rw [← hX]; exact IntWalk.i64_in _ (by omega)
  have s2 : IntKind.i64.wrap (py + 1073741824) = (Y : Int) := by rw [← hY]; exact IntWalk.i64_in _ (by omega)
  have s3 : px + 1073741824 = (X : Int) := hX.symm
  have s4 : py + 1073741824 = (Y : Int) := hY.symm
  have o := or_zv X Y
  have l2 := Cv.spr_lt Y 31
  rw [show (4 : Nat) ^ 31 = 4611686018427387904 from rfl] at l2
  obtain ⟨sx, ex⟩ : ∃ s, s = Cv.spr X 31 := ⟨_, rfl⟩
  obtain ⟨sy, ey⟩ : ∃ s, s = Cv.spr Y 31 := ⟨_, rfl⟩
  obtain ⟨sz, ez⟩ : ∃ s, s = Cv.zv X Y := ⟨_, rfl⟩
  obtain ⟨sd, ed⟩ : ∃ s, s = 2 * sy := ⟨_, rfl⟩
  rw [← ex] at A2 o
  rw [← ey] at A3 o l2
  rw [← ez] at o
  rw [← ed] at o
  have q1 : IntKind.u64.wrap ((sy : Int) * 2) = (sd : Int) := by rw [ed]; rw [show (sy : Int) * 2 = ((2 * sy : Nat) : Int) by omega]; exact IntWalk.u64_in _ (by omega)
  rw [← ez]
  clear ex ey ez ed l2 h hX hY
  have H1 := Lib.hid A1
  have H2 := Lib.hid A2
  have H3 := Lib.hid A3
  clear A1 A2 A3
  go_enter Tryd.func30, Tryd.ntmps30
  go_wp2_with fail
  go_at_call 52
  refine ((H1.out _)).mono ?_
  rintro e w1 ⟨rfl, hw1⟩
  have cw1_0_0 : w1.cell? ⟨W.heap.size, 0, none⟩ = some (.int .i64 px) := cell_gr hw1 (by go_simp)
  have cw1_0_1 : w1.cell? ⟨W.heap.size, 1, none⟩ = some (.int .i64 py) := cell_gr hw1 (by go_simp)
  have zw1_0 : W.heap.size < w1.heap.size := World.block_lt_of_cell? _ _ cw1_0_0
  have gw1 : Gr W w1 := Gr.trans (by go_grown) hw1
  clear hw1
  go_wp2_with fail
  refine wp_region_spread (by kernel_rfl) (by kernel_rfl) ?_
  try simp only [List.append]
  repeat (first | go_big_quiet_skip | (go_big_quiet_want; go_big_quiet_op; (first | go_big_quiet_on | (apply Exists.intro; refine ⟨fun _ => ?_, ?_⟩; (· (first | (go_at_call 54; first | ((with_reducible refine ((H2.out _)).mono ?_); rintro e w' ⟨rfl, hg⟩; exact ⟨rfl, spread_gr hg⟩) | ((with_reducible refine ((H3.out _)).mono ?_); rintro e w' ⟨rfl, hg⟩; exact ⟨rfl, spread_gr hg⟩)))); go_big_quiet_on))))
  refine wpQuiet_nil ?_
  intro w2 hhw2
  have hw2 := Hd.gr_of_spread hhw2
  have cw2_0_0 : w2.cell? ⟨W.heap.size, 0, none⟩ = some (.int .i64 px) := cell_gr hw2 (by go_simp)
  have cw2_0_1 : w2.cell? ⟨W.heap.size, 1, none⟩ = some (.int .i64 py) := cell_gr hw2 (by go_simp)
  have zw2_0 : W.heap.size < w2.heap.size := World.block_lt_of_cell? _ _ cw2_0_0
  have gw2 : Gr W w2 := Gr.trans (by have gg := gw1; have gs := gg.size; go_grown) hw2
  clear hw2 hhw2 gw1 zw1_0 cw1_0_0 cw1_0_1
  go_wp2_with fail
  go_ret2
  exact ⟨rfl, gw2⟩
def RefusedT (W : World) (k : Int) (v : Value) (e : Ending) (w' : World) : Prop := ∃ B, e = .returned (.tuple #[v, .iface 90 (.pointer (some ⟨B, 0, none⟩))]) ∧ W.heap.size ≤ B ∧ FaultAt w' B curveS 0 k ∧ Gr W w'
set_option maxHeartbeats 2000000 in
set_option maxRecDepth 100000 in
theorem c_Z_no (px py : Int) (h : nearB px py = false) (W : World) : Calls Tryd.prog 30 #[.agg #[.int .i64 px, .int .i64 py]] W (RefusedT W 2 (.int .u64 0)) := by
  have A1 := fun w => c_CheckPoint px py w
  rw [h] at A1
  simp only [Bool.false_eq_true, if_false] at A1
  clear h
  have H1 := Lib.hid A1
  clear A1
  go_enter Tryd.func30, Tryd.ntmps30
  go_wp2_with fail
  go_at_call 52
  refine ((H1.out _)).mono ?_
  rintro e w1 ⟨rfl, hw1⟩
  have gw1 : Gr W w1 := Gr.trans (by go_grown) hw1
  clear hw1
  go_wp2_with fail
  go_at_call 53
  refine (c_refuse _ _).mono ?_
  rintro e w2 ⟨B, rfl, hB, hF, hg⟩
  have hs := gw1.size
  go_wp2_with fail
  go_ret2
  exact ⟨B, rfl, by omega, hF, Gr.trans gw1 hg⟩
set_option maxHeartbeats 2000000 in
set_option maxRecDepth 100000 in
theorem c_Centre (lx ly hx hy : Int) (h : boxB lx ly hx hy = true) (W : World) :
    Calls Tryd.prog 38 #[.agg #[.int .i64 lx, .int .i64 ly, .int .i64 hx, .int .i64 hy]] W fun e w' => e = .returned (.tuple #[.agg #[.int .i64 ((lx + hx) / 2), .int .i64 ((ly + hy) / 2)], .nilIface]) ∧ Gr W w' := by
  have A1 := fun w => c_CheckBox_ok h w
  unfold boxB at h
  simp only [Bool.and_eq_true, decide_eq_true_eq] at h
  obtain ⟨b1, b2, b3, b4⟩ := nearB_iff.1 h.1.1.1
  obtain ⟨b5, b6, b7, b8⟩ := nearB_iff.1 h.1.1.2
  have s1 : IntKind.i64.wrap (lx + hx) = lx + hx := IntWalk.i64_in _ (by omega)
  have s2 : IntKind.i64.wrap (ly + hy) = ly + hy := IntWalk.i64_in _ (by omega)
  clear h
  have H1 := Lib.hid A1
  clear A1
  go_enter Tryd.func38, Tryd.ntmps38
  go_wp2_with fail
  go_at_call 57
  refine ((H1.out _)).mono ?_
  rintro e w1 ⟨rfl, hw1⟩
  have cw1_0_0 : w1.cell? ⟨W.heap.size, 0, none⟩ = some (.int .i64 lx) := cell_gr hw1 (by go_simp)
  have cw1_0_1 : w1.cell? ⟨W.heap.size, 1, none⟩ = some (.int .i64 ly) := cell_gr hw1 (by go_simp)
  have cw1_0_2 : w1.cell? ⟨W.heap.size, 2, none⟩ = some (.int .i64 hx) := cell_gr hw1 (by go_simp)
  have cw1_0_3 : w1.cell? ⟨W.heap.size, 3, none⟩ = some (.int .i64 hy) := cell_gr hw1 (by go_simp)
  have zw1_0 : W.heap.size < w1.heap.size := World.block_lt_of_cell? _ _ cw1_0_0
  have cw1_1_0 : w1.cell? ⟨W.heap.size + 1, 0, none⟩ = some (.int .i64 0) := cell_gr hw1 (by go_simp)
  have fw1_1_0 : w1.frozen? ⟨W.heap.size + 1, 0, none⟩ = false := frozen_gr (v := .int .i64 0) hw1 (by go_simp) (by go_simp)
  have cw1_1_1 : w1.cell? ⟨W.heap.size + 1, 1, none⟩ = some (.int .i64 0) := cell_gr hw1 (by go_simp)
  have fw1_1_1 : w1.frozen? ⟨W.heap.size + 1, 1, none⟩ = false := frozen_gr (v := .int .i64 0) hw1 (by go_simp) (by go_simp)
  have zw1_1 : W.heap.size + 1 < w1.heap.size := World.block_lt_of_cell? _ _ cw1_1_0
  have gw1 : Gr W w1 := Gr.trans (by go_grown) hw1
  clear hw1
  go_wp2_with fail
  refine bodyPost_ret (v := .tuple #[.agg #[.int .i64 ((lx + hx) / 2), .int .i64 ((ly + hy) / 2)], .nilIface]) (by simp [results, Tryd.results38, go_sem, *]) rfl ⟨rfl, by have gg := gw1; have gs := gg.size; go_grown⟩
set_option maxHeartbeats 2000000 in
set_option maxRecDepth 100000 in
theorem c_Centre_no (lx ly hx hy : Int) (k : Int) (A1 : ∀ w, Calls Tryd.prog 57 #[.agg #[.int .i64 lx, .int .i64 ly, .int .i64 hx, .int .i64 hy]] w fun e w' => e = .returned (.iface 82 (.int .i64 k)) ∧ Gr w w') (W : World) :
    Calls Tryd.prog 38 #[.agg #[.int .i64 lx, .int .i64 ly, .int .i64 hx, .int .i64 hy]] W (RefusedT W k (.agg #[.int .i64 0, .int .i64 0])) := by
  have H1 := Lib.hid A1
  clear A1
  go_enter Tryd.func38, Tryd.ntmps38
  go_wp2_with fail
  go_at_call 57
  refine ((H1.out _)).mono ?_
  rintro e w1 ⟨rfl, hw1⟩
  have cw1_0_0 : w1.cell? ⟨W.heap.size + 1, 0, none⟩ = some (.int .i64 0) := cell_gr hw1 (by go_simp)
  have fw1_0_0 : w1.frozen? ⟨W.heap.size + 1, 0, none⟩ = false := frozen_gr (v := .int .i64 0) hw1 (by go_simp) (by go_simp)
  have cw1_0_1 : w1.cell? ⟨W.heap.size + 1, 1, none⟩ = some (.int .i64 0) := cell_gr hw1 (by go_simp)
  have fw1_0_1 : w1.frozen? ⟨W.heap.size + 1, 1, none⟩ = false := frozen_gr (v := .int .i64 0) hw1 (by go_simp) (by go_simp)
  have zw1_0 : W.heap.size + 1 < w1.heap.size := World.block_lt_of_cell? _ _ cw1_0_0
  have gw1 : Gr W w1 := Gr.trans (by go_grown) hw1
  clear hw1
  go_wp2_with fail
  go_at_call 53
  refine (c_refuse _ _).mono ?_
  rintro e w2 ⟨B, rfl, hB, hF, hg⟩
  have hs := gw1.size
  have c0 : w2.cell? ⟨W.heap.size + 1, 0, none⟩ = some (.int .i64 0) := cell_gr hg (by go_simp)
  have c1 : w2.cell? ⟨W.heap.size + 1, 1, none⟩ = some (.int .i64 0) := cell_gr hg (by go_simp)
  have f0 : w2.frozen? ⟨W.heap.size + 1, 0, none⟩ = false := frozen_gr (v := .int .i64 0) hg (by go_simp) (by go_simp)
  have f1 : w2.frozen? ⟨W.heap.size + 1, 1, none⟩ = false := frozen_gr (v := .int .i64 0) hg (by go_simp) (by go_simp)
  have g2 := Gr.trans gw1 hg
  obtain ⟨F0, F1, F2⟩ := hF
  have nB : ¬ B = W.heap.size + 1 := by omega
  have zb := World.block_lt_of_cell? _ _ F0
  clear hg
  go_wp2_with fail
  refine bodyPost_ret (v := .tuple #[.agg #[.int .i64 0, .int .i64 0], .iface 90 (.pointer (some ⟨B, 0, none⟩))]) (by simp [results, Tryd.results38, go_sem, *]) rfl ⟨B, rfl, by omega, ⟨by go_simp, by go_simp, by go_simp⟩, by have gg := g2; have gs := gg.size; go_grown⟩

set_option maxHeartbeats 2000000 in
set_option maxRecDepth 100000 in
theorem c_second (n : Nat) (v : Value) (W : World) : Calls Tryd.prog 58 #[.int .u64 n, v] W fun e w' => e = .returned (v) ∧ Gr W w' := by
  go_enter Tryd.func58, Tryd.ntmps58
  go_wp2_with fail
  go_ret
  exact ⟨rfl, by go_grown⟩
end Go.Proofs.YtldlpbfncgcimaaDoor
