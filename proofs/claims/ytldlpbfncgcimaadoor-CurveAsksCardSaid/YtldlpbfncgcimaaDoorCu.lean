/- the document's own Z, Centre; answers of both -/
import Derived.Test.YtldlpbfncgcimaaDoorCt
namespace Go.Proofs.YtldlpbfncgcimaaDoor
set_option linter.unusedVariables false
open Go.ChangeShapes Go.WideShapes Go.ChangeAt Go.RowKit

/-- An error that is just this number, of the curve. -/
def ErrIs (w : World) (v : Value) (k : Nat) : Prop := (v = .nilIface ∧ k = 0) ∨ ∃ B, v = .iface 90 (.pointer (some ⟨B, 0, none⟩)) ∧ 1 ≤ k ∧ k ≤ 15 ∧ FaultAt w B curveS 0 k
theorem errIs_gr {a b : World} {v : Value} {k : Nat} (h : ErrIs a v k) (g : Gr a b) : ErrIs b v k := by
  rcases h with h | ⟨B, h1, h2, h3, h4⟩
  · exact Or.inl h
  · exact Or.inr ⟨B, h1, h2, h3, faultAt_gr h4 g⟩
def Ans (W : World) (x : Value) (k : Nat) (e : Ending) (w' : World) : Prop := ∃ v, e = .returned (.tuple #[x, v]) ∧ ErrIs w' v k ∧ Gr W w'
theorem c_AlIs_any (v : Value) (k : Nat) (W : World) (hE : ErrT W) (h : ErrIs W v k) : Calls Tryd.prog 26 #[v, .int .i64 k, .string curveS, .int .i64 0] W fun e w' => e = .returned (.bool true) ∧ Gr W w' := by
  rcases h with ⟨rfl, rfl⟩ | ⟨B, rfl, h2, h3, h4⟩
  · exact c_AlIs_nil curveS 0 W
  · exact c_AlIs_hit B curveS 0 k ⟨h2, h3⟩ W hE h4
theorem ans_nil {W : World} {x : Value} {e : Ending} {w' : World} (h : e = .returned (.tuple #[x, .nilIface]) ∧ Gr W w') : Ans W x 0 e w' := ⟨_, h.1, Or.inl ⟨rfl, rfl⟩, h.2⟩
theorem ans_ref {W : World} {x : Value} {k : Nat} (hk : 1 ≤ k ∧ k ≤ 15) {e : Ending} {w' : World} (h : RefusedT W k x e w') : Ans W x k e w' := by
  obtain ⟨B, h1, h2, h3, h4⟩ := h
  exact ⟨_, h1, Or.inr ⟨B, rfl, hk.1, hk.2, h3⟩, h4⟩

set_option maxHeartbeats 2000000 in
set_option maxRecDepth 100000 in
theorem c_rZ_no (px py : Int) (h : nearB px py = false) (W : World) : Calls Tryd.prog 31 #[.agg #[.int .i64 px, .int .i64 py]] W fun e w' => e = .returned (.tuple #[.int .u64 0, .int .i64 2]) ∧ Gr W w' := by
  have A1 := fun w => c_rPoint px py w
  rw [h] at A1
  clear h
  have H1 := Lib.hid A1
  clear A1
  go_enter Tryd.func31, Tryd.ntmps31
  go_wp2_with fail
  go_at_call 41
  (with_reducible refine ((H1.out _)).mono ?_)
  rintro e w1 ⟨rfl, hw1⟩
  have gw1 : Gr W w1 := Gr.trans (by go_grown) hw1
  clear hw1
  go_wp2_with fail
  go_ret2
  exact ⟨rfl, gw1⟩
theorem zr_round {j X Y : Nat} (hj : j ≤ 30) (hX : X < 2147483648) (hY : Y < 2147483648) : ∃ qx qy bx b_y P P2 s s1 s' bP bP2 : Nat, s = Cv.spr X j + 2 * Cv.spr Y j ∧ s' = Cv.spr X (j + 1) + 2 * Cv.spr Y (j + 1) ∧
    (X : Int) / 2 ^ j = qx ∧ (X : Int) / 2 ^ min j 64 = qx ∧ (Y : Int) / 2 ^ j = qy ∧ (Y : Int) / 2 ^ min j 64 = qy ∧ bits BinOp.and IntKind.u64 (qx : Int) 1 = bx ∧ bits BinOp.and IntKind.u64 (qy : Int) 1 = b_y ∧
    (2 : Int) ^ (2 * j) = P ∧ (2 : Int) ^ (2 * j + 1) = P2 ∧ IntKind.u64.wrap ((bx : Int) * (P : Int)) = bP ∧ IntKind.u64.wrap ((b_y : Int) * (P2 : Int)) = bP2 ∧ bits BinOp.or IntKind.u64 (s : Int) (bP : Int) = s1 ∧ bits BinOp.or IntKind.u64 (s1 : Int) (bP2 : Int) = s' := by
  have h1 := Cv.spr_lt X j
  have h2 := Cv.spr_lt Y j
  have hP : (4 : Nat) ^ j ≤ 1152921504606846976 := Nat.pow_le_pow_right (n := 4) (by omega) hj
  have e4 : (4 : Nat) ^ j = 2 ^ (2 * j) := by rw [Nat.pow_mul]
  have e5 : 2 * (4 : Nat) ^ j = 2 ^ (2 * j + 1) := by rw [e4, Nat.pow_succ]; omega
  have qX : X / 2 ^ j ≤ X := Nat.div_le_self _ _
  have qY : Y / 2 ^ j ≤ Y := Nat.div_le_self _ _
  have bX : X / 2 ^ j % 2 * 4 ^ j ≤ 1 * 4 ^ j := Nat.mul_le_mul_right _ (by omega)
  have bY : Y / 2 ^ j % 2 * (2 * 4 ^ j) ≤ 1 * (2 * 4 ^ j) := Nat.mul_le_mul_right _ (by omega)
  refine ⟨X / 2 ^ j, Y / 2 ^ j, X / 2 ^ j % 2, Y / 2 ^ j % 2, 4 ^ j, 2 * 4 ^ j, _, Cv.spr X j + 2 * Cv.spr Y j + X / 2 ^ j % 2 * 4 ^ j, _, X / 2 ^ j % 2 * 4 ^ j, Y / 2 ^ j % 2 * (2 * 4 ^ j), rfl, rfl, by norm_cast, ?_, by norm_cast, ?_, ?_, ?_, ?_, ?_, ?_, ?_, ?_, ?_⟩
  · rw [Nat.min_eq_left (by omega)]; norm_cast
  · rw [Nat.min_eq_left (by omega)]; norm_cast
  · have e := bits_and_u64_nat (X / 2 ^ j) 1 (by omega) (by omega)
    rw [Nat.and_one_is_mod] at e; exact e
  · have e := bits_and_u64_nat (Y / 2 ^ j) 1 (by omega) (by omega)
    rw [Nat.and_one_is_mod] at e; exact e
  · rw [e4]; norm_cast
  · rw [e5]; norm_cast
  · rw [← Int.natCast_mul]; exact IntWalk.u64_in _ (by omega)
  · rw [← Int.natCast_mul]; exact IntWalk.u64_in _ (by omega)
  · rw [bits_or_u64_nat _ _ (by omega) (by omega)]
    congr 1
    have e := Nat.two_pow_add_eq_or_of_lt (i := 2 * j) (b := Cv.spr X j + 2 * Cv.spr Y j) (by rw [← e4]; omega) (X / 2 ^ j % 2)
    rw [← e4] at e
    rw [Nat.or_comm, Nat.mul_comm (X / 2 ^ j % 2), ← e, Nat.add_comm]
  · rw [bits_or_u64_nat _ _ (by omega) (by omega)]
    congr 1
    have e := Nat.two_pow_add_eq_or_of_lt (i := 2 * j + 1) (b := Cv.spr X j + 2 * Cv.spr Y j + X / 2 ^ j % 2 * 4 ^ j) (by rw [← e5]; omega) (Y / 2 ^ j % 2)
    rw [← e5] at e
    rw [Nat.or_comm, Nat.mul_comm (Y / 2 ^ j % 2), ← e, Cv.spr, Cv.spr]
    grind
set_option maxHeartbeats 4000000 in
set_option maxRecDepth 100000 in
theorem c_rZ (px py : Int) (X Y : Nat) (h : nearB px py = true) (hX : (X : Int) = px + 1073741824) (hY : (Y : Int) = py + 1073741824) (W : World) :
    Calls Tryd.prog 31 #[.agg #[.int .i64 px, .int .i64 py]] W fun e w' => e = .returned (.tuple #[.int .u64 (Cv.zv X Y), .int .i64 0]) ∧ Gr W w' := by
  have A1 := fun w => c_rPoint px py w
  rw [h] at A1
  obtain ⟨b1, b2, b3, b4⟩ := nearB_iff.1 h
  have s3 : px + 1073741824 = (X : Int) := hX.symm
  have s4 : py + 1073741824 = (Y : Int) := hY.symm
  have HX := Lib.hid (show X < 2147483648 ∧ Y < 2147483648 by omega)
  have x1 : (X : Int) ≤ 2147483647 := by omega
  have y1 : (Y : Int) ≤ 2147483647 := by omega
  clear h hX hY
  have H1 := Lib.hid A1
  clear A1
  go_enter Tryd.func31, Tryd.ntmps31
  go_wp2_with fail
  go_at_call 41
  (with_reducible refine ((H1.out _)).mono ?_)
  rintro e w1 ⟨rfl, hw1⟩
  have cw1_0_0 : w1.cell? ⟨W.heap.size, 0, none⟩ = some (.int .i64 px) := cell_gr hw1 (by go_simp)
  have cw1_0_1 : w1.cell? ⟨W.heap.size, 1, none⟩ = some (.int .i64 py) := cell_gr hw1 (by go_simp)
  have zw1_0 : W.heap.size < w1.heap.size := World.block_lt_of_cell? _ _ cw1_0_0
  have gw1 : Gr W w1 := Gr.trans (by go_grown) hw1
  clear hw1
  go_wp2_with fail
  go_loopg [6, 7] 31 (fun k s i wr => ∃ j : Nat, j + k = 31 ∧ i = .int .i64 j ∧ s = .int .u64 ((Cv.spr X j + 2 * Cv.spr Y j : Nat) : Int) ∧ Gr W wr)
  case atStart => exact ⟨0, by omega, rfl, rfl, gw1⟩
  case round =>
    obtain ⟨j, hk, rfl, rfl, gwr⟩ := hrel
    by_cases hj : j < 31
    · have t1 : decide ((j : Int) < 31) = true := decide_eq_true (by omega)
      have t2 : (j : Int) ≤ 30 := by omega
      have t3 : (0 : Int) ≤ (j : Int) := by omega
      obtain ⟨qx, qy, bx, b_y, Pw, P2, s, s1, s', bP, bP2, e1, e2, k1, k2, k3, k4, k5, k6, k7, k8, k9, ka, kb, kc⟩ := zr_round (j := j) (X := X) (Y := Y) (by omega) HX.out.1 HX.out.2
      have m1 : IntKind.i64.wrap (2 * (j : Int)) = ((2 * j : Nat) : Int) := by rw [IntWalk.i64_in _ (by omega)]; omega
      have m2 : IntKind.i64.wrap (((2 * j : Nat) : Int) + 1) = ((2 * j + 1 : Nat) : Int) := by rw [IntWalk.i64_in _ (by omega)]; omega
      have HE := Lib.hid e2
      rw [← e1]
      clear e1 e2
      go_wp2_with fail
      go_wp2_with fail
      refine wp_region_spread (by kernel_rfl) (by kernel_rfl) ?_
      try simp only [List.append]
      repeat (first | go_big_quiet_skip | (go_big_quiet_want; go_big_quiet_op; (first | go_big_quiet_on | (apply Exists.intro; refine ⟨fun _ => ?_, ?_⟩; (· fail); go_big_quiet_on))))
      refine wpQuiet_nil ?_
      intro w2 hhw2
      have hw2 := Hd.gr_of_spread hhw2
      have gw2 : Gr W w2 := Gr.trans (by have gg := gwr; have gs := gg.size; go_grown) hw2
      clear hw2 hhw2 gwr
      go_wp2_with fail
      go_roundg (31 - (j + 1))
      case measure => omega
      case rel => exact ⟨j + 1, by omega, by go_num, by rw [← HE.out], gw2⟩
    · obtain rfl : j = 31 := by omega
      go_wp2_with fail
      go_ret2
      exact ⟨rfl, gwr⟩
theorem Z_both (px py : Int) : ∃ z k : Nat, (∀ w, Calls Tryd.prog 30 #[.agg #[.int .i64 px, .int .i64 py]] w (Ans w (.int .u64 z) k)) ∧ ∀ w, Calls Tryd.prog 31 #[.agg #[.int .i64 px, .int .i64 py]] w fun e w' => e = .returned (.tuple #[.int .u64 z, .int .i64 k]) ∧ Gr w w' := by
  cases h : nearB px py with
  | false => exact ⟨0, 2, fun w => (c_Z_no px py h w).mono fun e w' hh => ans_ref (k := 2) (by omega) hh, fun w => c_rZ_no px py h w⟩
  | true =>
    obtain ⟨b1, b2, b3, b4⟩ := nearB_iff.1 h
    obtain ⟨X, hX⟩ : ∃ n : Nat, (n : Int) = px + 1073741824 := ⟨(px + 1073741824).toNat, Int.toNat_of_nonneg (by omega)⟩
    obtain ⟨Y, hY⟩ : ∃ n : Nat, (n : Int) = py + 1073741824 := ⟨(py + 1073741824).toNat, Int.toNat_of_nonneg (by omega)⟩
    exact ⟨Cv.zv X Y, 0, fun w => (c_Z px py X Y h hX hY w).mono fun e w' hh => ans_nil hh, fun w => c_rZ px py X Y h hX hY w⟩
set_option maxHeartbeats 2000000 in
set_option maxRecDepth 100000 in
theorem c_rCentre_no (lx ly hx hy k : Int) (z1 : (k == 0) = false) (z2 : (k != 0) = true) (A1 : ∀ w, Calls Tryd.prog 42 #[.agg #[.int .i64 lx, .int .i64 ly, .int .i64 hx, .int .i64 hy]] w fun e w' => e = .returned (.int .i64 k) ∧ Gr w w') (W : World) :
    Calls Tryd.prog 39 #[.agg #[.int .i64 lx, .int .i64 ly, .int .i64 hx, .int .i64 hy]] W fun e w' => e = .returned (.tuple #[.agg #[.int .i64 0, .int .i64 0], .int .i64 k]) ∧ Gr W w' := by
  have H1 := Lib.hid A1
  clear A1
  go_enter Tryd.func39, Tryd.ntmps39
  go_wp2_with fail
  go_at_call 42
  (with_reducible refine ((H1.out _)).mono ?_)
  rintro e w1 ⟨rfl, hw1⟩
  have cw1_0_0 : w1.cell? ⟨W.heap.size + 1, 0, none⟩ = some (.int .i64 0) := cell_gr hw1 (by go_simp)
  have fw1_0_0 : w1.frozen? ⟨W.heap.size + 1, 0, none⟩ = false := frozen_gr (v := .int .i64 0) hw1 (by go_simp) (by go_simp)
  have cw1_0_1 : w1.cell? ⟨W.heap.size + 1, 1, none⟩ = some (.int .i64 0) := cell_gr hw1 (by go_simp)
  have fw1_0_1 : w1.frozen? ⟨W.heap.size + 1, 1, none⟩ = false := frozen_gr (v := .int .i64 0) hw1 (by go_simp) (by go_simp)
  have zw1_0 : W.heap.size + 1 < w1.heap.size := World.block_lt_of_cell? _ _ cw1_0_0
  have gw1 : Gr W w1 := Gr.trans (by go_grown) hw1
  clear hw1
  go_wp2_with fail
  refine bodyPost_ret (v := .tuple #[.agg #[.int .i64 0, .int .i64 0], .int .i64 k]) (by simp [results, Tryd.results39, go_sem, *]) rfl ⟨rfl, by have gg := gw1; have gs := gg.size; go_grown⟩
set_option maxHeartbeats 2000000 in
set_option maxRecDepth 100000 in
theorem c_rCentre (lx ly hx hy : Int) (h : boxB lx ly hx hy = true) (W : World) :
    Calls Tryd.prog 39 #[.agg #[.int .i64 lx, .int .i64 ly, .int .i64 hx, .int .i64 hy]] W fun e w' => e = .returned (.tuple #[.agg #[.int .i64 ((lx + hx) / 2), .int .i64 ((ly + hy) / 2)], .int .i64 0]) ∧ Gr W w' := by
  have A1 := fun w => c_rCheckBox lx ly hx hy w
  have e0 : boxCode lx ly hx hy = 0 := by
    have := boxCode_zero (lx := lx) (ly := ly) (hx := hx) (hy := hy)
    rw [h] at this
    simpa using this
  rw [e0] at A1
  unfold boxB at h
  simp only [Bool.and_eq_true, decide_eq_true_eq] at h
  obtain ⟨b1, b2, b3, b4⟩ := nearB_iff.1 h.1.1.1
  obtain ⟨b5, b6, b7, b8⟩ := nearB_iff.1 h.1.1.2
  clear h e0
  have H1 := Lib.hid A1
  clear A1
  go_enter Tryd.func39, Tryd.ntmps39
  go_wp2_with fail
  go_at_call 42
  (with_reducible refine ((H1.out _)).mono ?_)
  rintro e w1 ⟨rfl, hw1⟩
  have cw1_0_0 : w1.cell? ⟨W.heap.size, 0, none⟩ = some (.int .i64 lx) := cell_gr hw1 (by go_simp)
  have cw1_0_1 : w1.cell? ⟨W.heap.size, 1, none⟩ = some (.int .i64 ly) := cell_gr hw1 (by go_simp)
  have cw1_0_2 : w1.cell? ⟨W.heap.size, 2, none⟩ = some (.int .i64 hx) := cell_gr hw1 (by go_simp)
  have cw1_0_3 : w1.cell? ⟨W.heap.size, 3, none⟩ = some (.int .i64 hy) := cell_gr hw1 (by go_simp)
  have zw1_0 : W.heap.size < w1.heap.size := World.block_lt_of_cell? _ _ cw1_0_0
  have cw1_1_0 : w1.cell? ⟨W.heap.size + 1, 0, none⟩ = some (.int .i64 0) := cell_gr hw1 (by go_simp)
  have fw1_1_0 : w1.frozen? ⟨W.heap.size + 1, 0, none⟩ = false := frozen_gr (v := .int .i64 0) hw1 (by go_simp) (by go_simp)
  have cw1_1_1 : w1.cell? ⟨W.heap.size + 1, 1, none⟩ = some (.int .i64 0) := cell_gr hw1 (by go_simp)
  have fw1_1_1 : w1.frozen? ⟨W.heap.size + 1, 1, none⟩ = false := frozen_gr (v := .int .i64 0) hw1 (by go_simp) (by go_simp)
  have zw1_1 : W.heap.size + 1 < w1.heap.size := World.block_lt_of_cell? _ _ cw1_1_0
  have gw1 : Gr W w1 := Gr.trans (by go_grown) hw1
  clear hw1
  go_wp2_with fail
  refine bodyPost_ret (v := .tuple #[.agg #[.int .i64 ((lx + hx) / 2), .int .i64 ((ly + hy) / 2)], .int .i64 0]) (by simp [results, Tryd.results39, go_sem, *]) rfl ⟨rfl, by have gg := gw1; have gs := gg.size; go_grown⟩
theorem Centre_both (lx ly hx hy : Int) : ∃ (mx my : Int) (k : Nat), (∀ w, Calls Tryd.prog 38 #[.agg #[.int .i64 lx, .int .i64 ly, .int .i64 hx, .int .i64 hy]] w (Ans w (.agg #[.int .i64 mx, .int .i64 my]) k)) ∧ ∀ w, Calls Tryd.prog 39 #[.agg #[.int .i64 lx, .int .i64 ly, .int .i64 hx, .int .i64 hy]] w fun e w' => e = .returned (.tuple #[.agg #[.int .i64 mx, .int .i64 my], .int .i64 k]) ∧ Gr w w' := by
  cases hb : boxB lx ly hx hy with
  | false =>
    obtain ⟨z, hz, e1, e2⟩ := boxErr_code hb
    obtain ⟨k, rfl⟩ : ∃ k : Nat, z = k := ⟨z.toNat, by omega⟩
    have A1 := fun w => c_CheckBox lx ly hx hy w
    have A2 := fun w => c_rCheckBox lx ly hx hy w
    rw [e1] at A1
    rw [e2] at A2
    exact ⟨0, 0, k, fun w => (c_Centre_no lx ly hx hy k A1 w).mono fun e w' hh => ans_ref (k := k) (by omega) hh, fun w => c_rCentre_no lx ly hx hy k (by rw [← Bool.not_eq_true, beq_iff_eq]; omega) (by rw [bne_iff_ne]; omega) A2 w⟩
  | true => exact ⟨_, _, 0, fun w => (c_Centre lx ly hx hy hb w).mono fun e w' hh => ans_nil hh, fun w => c_rCentre lx ly hx hy hb w⟩
end Go.Proofs.YtldlpbfncgcimaaDoor
