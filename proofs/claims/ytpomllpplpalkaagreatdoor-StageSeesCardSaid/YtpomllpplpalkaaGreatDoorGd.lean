/- the document's rings: over, clash -/
import Derived.Test.YtpomllpplpalkaaGreatDoorGc
import Derived.Test.YtpomllpplpalkaaGreatDoorZo
import Derived.BigRegion
namespace Go.Proofs.YtpomllpplpalkaaGreatDoor
set_option linter.unusedVariables false
open Go.ChangeShapes Go.WideShapes Go.ChangeAt Go.RowKit

set_option maxHeartbeats 2000000 in
set_option maxRecDepth 100000 in
theorem over_core (ax ay cx cy bx by' x d : Int) (q1 q2 r : Bool) (W : World)
    (E1 : ∀ w, (binOp .neq 58 (.agg #[.int .i64 ax, .int .i64 ay]) (.agg #[.int .i64 cx, .int .i64 cy])).run Tryz.prog w = .ok (.bool q1) w)
    (E2 : ∀ w, (binOp .neq 58 (.agg #[.int .i64 bx, .int .i64 by']) (.agg #[.int .i64 cx, .int .i64 cy])).run Tryz.prog w = .ok (.bool q2) w)
    (A1 : ∀ w, Calls Tryz.prog 134 #[.agg #[.int .i64 cx, .int .i64 cy], .agg #[.int .i64 ax, .int .i64 ay], .agg #[.int .i64 bx, .int .i64 by']] w fun e w' => e = .returned (.int .i64 x) ∧ Gr w w')
    (A2 : ∀ w, Calls Tryz.prog 135 #[.agg #[.int .i64 cx, .int .i64 cy], .agg #[.int .i64 ax, .int .i64 ay], .agg #[.int .i64 bx, .int .i64 by']] w fun e w' => e = .returned (.int .i64 d) ∧ Gr w w')
    (hr : r = (q1 && (q2 && (decide (x = 0) && decide (0 < d))))) :
    Calls Tryz.prog 213 #[.agg #[.int .i64 ax, .int .i64 ay], .agg #[.int .i64 cx, .int .i64 cy], .agg #[.int .i64 bx, .int .i64 by']] W fun e w' => e = .returned (.bool r) ∧ Gr W w' := by
  have H1 := Lib.hid A1
  have H2 := Lib.hid A2
  clear A1 A2
  subst hr
  cases q1
  · go_enter Tryz.func213, Tryz.ntmps213
    go_wp2_with fail
    go_ret
    exact ⟨rfl, by go_grown⟩
  cases q2
  · go_enter Tryz.func213, Tryz.ntmps213
    go_wp2_with fail
    go_ret
    exact ⟨rfl, by go_grown⟩
  simp only [Bool.true_and]
  by_cases hx : x = 0
  · subst hx
    simp only [decide_true, Bool.true_and]
    by_cases hd : 0 < d
    · rw [decide_eq_true hd]
      have t1 : decide ((0 : Int) < d) = true := decide_eq_true hd
      go_enter Tryz.func213, Tryz.ntmps213
      go_wp2_with fail
      go_at_call 134
      (with_reducible refine ((H1.out _)).mono ?_)
      rintro e w1 ⟨rfl, hw1⟩
      have cw1_0_0 : w1.cell? ⟨W.heap.size, 0, none⟩ = some (.int .i64 ax) := cell_gr hw1 (by go_simp)
      have cw1_0_1 : w1.cell? ⟨W.heap.size, 1, none⟩ = some (.int .i64 ay) := cell_gr hw1 (by go_simp)
      have zw1_0 : W.heap.size < w1.heap.size := World.block_lt_of_cell? _ _ cw1_0_0
      have cw1_1_0 : w1.cell? ⟨W.heap.size + 1, 0, none⟩ = some (.int .i64 cx) := cell_gr hw1 (by go_simp)
      have cw1_1_1 : w1.cell? ⟨W.heap.size + 1, 1, none⟩ = some (.int .i64 cy) := cell_gr hw1 (by go_simp)
      have zw1_1 : W.heap.size + 1 < w1.heap.size := World.block_lt_of_cell? _ _ cw1_1_0
      have cw1_2_0 : w1.cell? ⟨W.heap.size + 1 + 1, 0, none⟩ = some (.int .i64 bx) := cell_gr hw1 (by go_simp)
      have cw1_2_1 : w1.cell? ⟨W.heap.size + 1 + 1, 1, none⟩ = some (.int .i64 by') := cell_gr hw1 (by go_simp)
      have zw1_2 : W.heap.size + 1 + 1 < w1.heap.size := World.block_lt_of_cell? _ _ cw1_2_0
      have gw1 : Gr W w1 := Gr.trans (by go_grown) hw1
      clear hw1
      go_wp2_with fail
      go_at_call 135
      (with_reducible refine ((H2.out _)).mono ?_)
      rintro e w2 ⟨rfl, hw2⟩
      have cw2_0_0 : w2.cell? ⟨W.heap.size, 0, none⟩ = some (.int .i64 ax) := cell_gr hw2 (by go_simp)
      have cw2_0_1 : w2.cell? ⟨W.heap.size, 1, none⟩ = some (.int .i64 ay) := cell_gr hw2 (by go_simp)
      have zw2_0 : W.heap.size < w2.heap.size := World.block_lt_of_cell? _ _ cw2_0_0
      have cw2_1_0 : w2.cell? ⟨W.heap.size + 1, 0, none⟩ = some (.int .i64 cx) := cell_gr hw2 (by go_simp)
      have cw2_1_1 : w2.cell? ⟨W.heap.size + 1, 1, none⟩ = some (.int .i64 cy) := cell_gr hw2 (by go_simp)
      have zw2_1 : W.heap.size + 1 < w2.heap.size := World.block_lt_of_cell? _ _ cw2_1_0
      have cw2_2_0 : w2.cell? ⟨W.heap.size + 1 + 1, 0, none⟩ = some (.int .i64 bx) := cell_gr hw2 (by go_simp)
      have cw2_2_1 : w2.cell? ⟨W.heap.size + 1 + 1, 1, none⟩ = some (.int .i64 by') := cell_gr hw2 (by go_simp)
      have zw2_2 : W.heap.size + 1 + 1 < w2.heap.size := World.block_lt_of_cell? _ _ cw2_2_0
      have gw2 : Gr W w2 := Gr.trans (by have gg := gw1; have gs := gg.size; go_grown) hw2
      clear hw2 gw1 zw1_0 cw1_0_0 cw1_0_1 zw1_1 cw1_1_0 cw1_1_1 zw1_2 cw1_2_0 cw1_2_1
      go_wp2_with fail
      go_ret
      exact ⟨rfl, by go_grown⟩
    · rw [decide_eq_false hd]
      have t1 : decide ((0 : Int) < d) = false := decide_eq_false hd
      go_enter Tryz.func213, Tryz.ntmps213
      go_wp2_with fail
      go_at_call 134
      (with_reducible refine ((H1.out _)).mono ?_)
      rintro e w1 ⟨rfl, hw1⟩
      have cw1_0_0 : w1.cell? ⟨W.heap.size, 0, none⟩ = some (.int .i64 ax) := cell_gr hw1 (by go_simp)
      have cw1_0_1 : w1.cell? ⟨W.heap.size, 1, none⟩ = some (.int .i64 ay) := cell_gr hw1 (by go_simp)
      have zw1_0 : W.heap.size < w1.heap.size := World.block_lt_of_cell? _ _ cw1_0_0
      have cw1_1_0 : w1.cell? ⟨W.heap.size + 1, 0, none⟩ = some (.int .i64 cx) := cell_gr hw1 (by go_simp)
      have cw1_1_1 : w1.cell? ⟨W.heap.size + 1, 1, none⟩ = some (.int .i64 cy) := cell_gr hw1 (by go_simp)
      have zw1_1 : W.heap.size + 1 < w1.heap.size := World.block_lt_of_cell? _ _ cw1_1_0
      have cw1_2_0 : w1.cell? ⟨W.heap.size + 1 + 1, 0, none⟩ = some (.int .i64 bx) := cell_gr hw1 (by go_simp)
      have cw1_2_1 : w1.cell? ⟨W.heap.size + 1 + 1, 1, none⟩ = some (.int .i64 by') := cell_gr hw1 (by go_simp)
      have zw1_2 : W.heap.size + 1 + 1 < w1.heap.size := World.block_lt_of_cell? _ _ cw1_2_0
      have gw1 : Gr W w1 := Gr.trans (by go_grown) hw1
      clear hw1
      go_wp2_with fail
      go_at_call 135
      (with_reducible refine ((H2.out _)).mono ?_)
      rintro e w2 ⟨rfl, hw2⟩
      have cw2_0_0 : w2.cell? ⟨W.heap.size, 0, none⟩ = some (.int .i64 ax) := cell_gr hw2 (by go_simp)
      have cw2_0_1 : w2.cell? ⟨W.heap.size, 1, none⟩ = some (.int .i64 ay) := cell_gr hw2 (by go_simp)
      have zw2_0 : W.heap.size < w2.heap.size := World.block_lt_of_cell? _ _ cw2_0_0
      have cw2_1_0 : w2.cell? ⟨W.heap.size + 1, 0, none⟩ = some (.int .i64 cx) := cell_gr hw2 (by go_simp)
      have cw2_1_1 : w2.cell? ⟨W.heap.size + 1, 1, none⟩ = some (.int .i64 cy) := cell_gr hw2 (by go_simp)
      have zw2_1 : W.heap.size + 1 < w2.heap.size := World.block_lt_of_cell? _ _ cw2_1_0
      have cw2_2_0 : w2.cell? ⟨W.heap.size + 1 + 1, 0, none⟩ = some (.int .i64 bx) := cell_gr hw2 (by go_simp)
      have cw2_2_1 : w2.cell? ⟨W.heap.size + 1 + 1, 1, none⟩ = some (.int .i64 by') := cell_gr hw2 (by go_simp)
      have zw2_2 : W.heap.size + 1 + 1 < w2.heap.size := World.block_lt_of_cell? _ _ cw2_2_0
      have gw2 : Gr W w2 := Gr.trans (by have gg := gw1; have gs := gg.size; go_grown) hw2
      clear hw2 gw1 zw1_0 cw1_0_0 cw1_0_1 zw1_1 cw1_1_0 cw1_1_1 zw1_2 cw1_2_0 cw1_2_1
      go_wp2_with fail
      go_ret
      exact ⟨rfl, by go_grown⟩
  · have t1 : (x == 0) = false := by simpa using hx
    rw [decide_eq_false hx, Bool.false_and]
    go_enter Tryz.func213, Tryz.ntmps213
    go_wp2_with fail
    go_at_call 134
    (with_reducible refine ((H1.out _)).mono ?_)
    rintro e w1 ⟨rfl, hw1⟩
    have cw1_0_0 : w1.cell? ⟨W.heap.size, 0, none⟩ = some (.int .i64 ax) := cell_gr hw1 (by go_simp)
    have cw1_0_1 : w1.cell? ⟨W.heap.size, 1, none⟩ = some (.int .i64 ay) := cell_gr hw1 (by go_simp)
    have zw1_0 : W.heap.size < w1.heap.size := World.block_lt_of_cell? _ _ cw1_0_0
    have cw1_1_0 : w1.cell? ⟨W.heap.size + 1, 0, none⟩ = some (.int .i64 cx) := cell_gr hw1 (by go_simp)
    have cw1_1_1 : w1.cell? ⟨W.heap.size + 1, 1, none⟩ = some (.int .i64 cy) := cell_gr hw1 (by go_simp)
    have zw1_1 : W.heap.size + 1 < w1.heap.size := World.block_lt_of_cell? _ _ cw1_1_0
    have cw1_2_0 : w1.cell? ⟨W.heap.size + 1 + 1, 0, none⟩ = some (.int .i64 bx) := cell_gr hw1 (by go_simp)
    have cw1_2_1 : w1.cell? ⟨W.heap.size + 1 + 1, 1, none⟩ = some (.int .i64 by') := cell_gr hw1 (by go_simp)
    have zw1_2 : W.heap.size + 1 + 1 < w1.heap.size := World.block_lt_of_cell? _ _ cw1_2_0
    have gw1 : Gr W w1 := Gr.trans (by go_grown) hw1
    clear hw1
    go_wp2_with fail
    go_ret
    exact ⟨rfl, by go_grown⟩
theorem c_gOver (ax ay cx cy bx by' : Int) (h1 : nearB ax ay = true) (h2 : nearB cx cy = true) (h3 : nearB bx by' = true) (W : World) :
    Calls Tryz.prog 213 #[.agg #[.int .i64 ax, .int .i64 ay], .agg #[.int .i64 cx, .int .i64 cy], .agg #[.int .i64 bx, .int .i64 by']] W fun e w' => e = .returned (.bool (Rg.ovF ax ay cx cy bx by')) ∧ Gr W w' := by
  have e : crossZ cx cy ax ay bx by' = cr cx cy ax ay bx by' := by unfold crossZ cr; rw [h1, h2, h3]; rfl
  exact over_core ax ay cx cy bx by' _ _ _ _ _ W (nePt ax ay cx cy) (nePt bx by' cx cy) (c_rCross cx cy ax ay bx by') (c_dot cx cy ax ay bx by' h2 h1 h3) (by rw [e]; rfl)
def TwoAt (W : World) (x0 y0 x1 y1 : Int) (p q : Value) (wx : World) : Prop := ∃ b1 b2 : Nat, p = .pointer (some ⟨b1, 0, none⟩) ∧ q = .pointer (some ⟨b2, 0, none⟩) ∧ wx.cell? ⟨b1, 0, none⟩ = some (.int .i64 x0) ∧ wx.cell? ⟨b1, 1, none⟩ = some (.int .i64 y0) ∧ wx.cell? ⟨b2, 0, none⟩ = some (.int .i64 x1) ∧ wx.cell? ⟨b2, 1, none⟩ = some (.int .i64 y1) ∧ Gr W wx
theorem nx_rem {n j : Nat} (h : j < n) (hn : n ≤ 1000000) : Int.tmod ((j : Int) + 1) (n : Int) = (Rg.nx1 n j : Nat) ∧ ((j : Int) + 1) % (n : Int) = (Rg.nx1 n j : Nat) := by
  have e : ((j : Int) + 1) % (n : Int) = (Rg.nx1 n j : Nat) := by
    unfold Rg.nx1
    split
    · rename_i h1
      have : (j : Int) + 1 = (n : Int) := by omega
      rw [this]; simp
    · rename_i h1
      rw [Int.emod_eq_of_lt (by omega) (by omega)]; omega
  refine ⟨?_, e⟩
  rw [Int.tmod_eq_emod_of_nonneg (by omega)]
  exact e
set_option maxHeartbeats 8000000 in
set_option maxRecDepth 100000 in
theorem c_rclash {n : Nat} {X Y : Nat → Int} {v : Value} (W : World) (h : Pts W v n X Y) (hnr : ∀ k, k < n → nearB (X k) (Y k) = true) (i j : Nat) (hij : i < j) (hj : j < n) (hn3 : 3 ≤ n) (hn : n ≤ 1000000) :
    Calls Tryz.prog 173 #[v, .int .i64 i, .int .i64 j] W fun e w' => e = .returned (.bool (Rg.clF n X Y i j)) ∧ Gr W w' := by
  obtain ⟨ad, cap, B, off, rfl, h1, h2, h3, h4⟩ := h
  obtain rfl := h3 (by omega)
  have hxn : Rg.nx1 n j < n := by unfold Rg.nx1; split <;> omega
  obtain ⟨i0, i1⟩ := h4 i (by omega)
  obtain ⟨j0, j1⟩ := h4 j hj
  obtain ⟨z0, z1⟩ := h4 (Rg.nx1 n j) hxn
  obtain ⟨s0, s1⟩ := h4 (i + 1) (by omega)
  have e1 : Rg.foF (X i) (Y i) (X (i + 1)) (Y (i + 1)) (X (Rg.nx1 n j)) (Y (Rg.nx1 n j)) = Rg.ovF (X i) (Y i) (X (i + 1)) (Y (i + 1)) (X (Rg.nx1 n j)) (Y (Rg.nx1 n j)) := Rg.fo_ov (hnr i (by omega)) (hnr (i + 1) (by omega)) (hnr _ hxn)
  have e2 : i = 0 → Rg.foF (X j) (Y j) (X 0) (Y 0) (X 1) (Y 1) = Rg.ovF (X (i + 1)) (Y (i + 1)) (X i) (Y i) (X j) (Y j) := fun h0 => by
    subst h0
    rw [← Rg.fo_flip]
    exact Rg.fo_ov (hnr 1 (by omega)) (hnr 0 (by omega)) (hnr j hj)
  have O1 := Lib.hid (c_gOver (X i) (Y i) (X (i + 1)) (Y (i + 1)) (X (Rg.nx1 n j)) (Y (Rg.nx1 n j)) (hnr i (by omega)) (hnr (i + 1) (by omega)) (hnr _ hxn))
  have O2 := Lib.hid (c_gOver (X (i + 1)) (Y (i + 1)) (X i) (Y i) (X j) (Y j) (hnr (i + 1) (by omega)) (hnr i (by omega)) (hnr j hj))
  have O3 := Lib.hid (c_rMeet (X i) (Y i) (X (i + 1)) (Y (i + 1)) (X j) (Y j) (X (Rg.nx1 n j)) (Y (Rg.nx1 n j)))
  have er := nx_rem hj hn
  have hv : Rg.clF n X Y i j = (if j = i + 1 then Rg.ovF (X i) (Y i) (X (i + 1)) (Y (i + 1)) (X (Rg.nx1 n j)) (Y (Rg.nx1 n j)) else if i = 0 ∧ j + 1 = n then Rg.ovF (X (i + 1)) (Y (i + 1)) (X i) (Y i) (X j) (Y j) else meG (X i) (Y i) (X (i + 1)) (Y (i + 1)) (X j) (Y j) (X (Rg.nx1 n j)) (Y (Rg.nx1 n j))) := by
    unfold Rg.clF
    by_cases c1 : j = i + 1
    · rw [if_pos c1, if_pos c1, ← e1, ← c1]
    · rw [if_neg c1, if_neg c1]
      by_cases c2 : i = 0 ∧ j + 1 = n
      · rw [if_pos c2, if_pos c2, e2 c2.1]
      · rw [if_neg c2, if_neg c2]
  rw [hv]
  clear hv e1 e2 hnr h3 h4
  generalize Rg.ovF (X i) (Y i) (X (i + 1)) (Y (i + 1)) (X (Rg.nx1 n j)) (Y (Rg.nx1 n j)) = r1 at O1 ⊢
  generalize Rg.ovF (X (i + 1)) (Y (i + 1)) (X i) (Y i) (X j) (Y j) = r2 at O2 ⊢
  generalize meG (X i) (Y i) (X (i + 1)) (Y (i + 1)) (X j) (Y j) (X (Rg.nx1 n j)) (Y (Rg.nx1 n j)) = r3 at O3 ⊢
  obtain ⟨r, hr⟩ : ∃ r : Bool, r = (if j = i + 1 then r1 else if i = 0 ∧ j + 1 = n then r2 else r3) := ⟨_, rfl⟩
  rw [← hr]
  have HRR := Lib.hid hr
  clear hr
  generalize hnx : Rg.nx1 n j = nx at *
  generalize X nx = nxx at *
  generalize Y nx = nxy at *
  generalize X i = xi at *
  generalize Y i = yi at *
  generalize X j = xj at *
  generalize Y j = yj at *
  generalize X (i + 1) = xs at *
  generalize Y (i + 1) = ys at *
  have hB := World.block_lt_of_cell? _ _ i0
  have hib : (i : Int) ≤ 1000000 := by omega
  have hjb : (j : Int) ≤ 1000000 := by omega
  have hnb : (n : Int) ≤ 1000000 := by omega
  have b1 : (i : Int) < (n : Int) := by omega
  have b2 : (j : Int) < (n : Int) := by omega
  have b5 : (i : Int) + 1 < (n : Int) := by omega
  have b6 : (nx : Int) < (n : Int) := by omega
  have b7 : ((n : Int) == 0) = false := by simp; omega
  have b8 : (n : Int) ≠ 0 := by omega
  obtain ⟨er1, er2⟩ := er
  have T := Lib.hid (And.intro er1 er2)
  have c1d : (j = i + 1 ∧ ((j : Int) == (i : Int) + 1) = true) ∨ (j ≠ i + 1 ∧ ((j : Int) == (i : Int) + 1) = false) := by
    by_cases c : j = i + 1
    · exact Or.inl ⟨c, by simp; omega⟩
    · exact Or.inr ⟨c, by simp; omega⟩
  have HC := Lib.hid c1d
  clear hnx er1 er2 c1d
  have w0 : IntKind.i64.wrap ((i : Int) + 1) = (i : Int) + 1 := IntWalk.i64_in _ (by omega)
  go_enter Tryz.func173, Tryz.ntmps173
  go_upto_region 2 with fail
  go_cut [8, 9] from 14 to 22 (fun p q wx => TwoAt W xi yi xs ys p q wx)
  case first =>
    go_region
    all_goals (go_wp2_with fail; go_meet; exact ⟨_, _, rfl, rfl, by go_simp, by go_simp, by go_simp, by go_simp, by go_grown⟩)
  case rest =>
    obtain ⟨b8', b9, rfl, rfl, p0, p1, p2, p3, gwc⟩ := hcut
    clear w0
    have j0' := cell_gr gwc j0
    have j1' := cell_gr gwc j1
    have z0' := cell_gr gwc z0
    have z1' := cell_gr gwc z1
    have hBc := World.block_lt_of_cell? _ _ j0'
    have w1 : IntKind.i64.wrap ((j : Int) + 1) = (j : Int) + 1 := IntWalk.i64_in _ (by omega)
    have w2 : IntKind.i64.wrap (nx : Int) = (nx : Int) := IntWalk.i64_in _ (by omega)
    have tr1 := T.out.1
    have tr2 := T.out.2
    clear i0 i1 j0 j1 z0 z1 s0 s1
    go_upto_region 3 with fail
    go_cut [10, 11] from 23 to 33 (fun p q wx => TwoAt wc xj yj nxx nxy p q wx)
    case first =>
      go_region
      all_goals (go_wp2_with fail; go_meet; exact ⟨_, _, rfl, rfl, by go_simp, by go_simp, by go_simp, by go_simp, by go_grown⟩)
    case rest =>
      obtain ⟨b10, b11, rfl, rfl, m0, m1, m2, m3, gwd⟩ := hcut
      replace p0 := cell_gr gwd p0
      replace p1 := cell_gr gwd p1
      replace p2 := cell_gr gwd p2
      replace p3 := cell_gr gwd p3
      have G2 := Gr.trans gwc gwd
      clear j0' j1' z0' z1' w1 w2 tr1 tr2 gwc gwd hBc hB T
      rcases HC.out with ⟨c1, t1⟩ | ⟨c1, t1⟩
      · have HE := Lib.hid (show r = r1 by rw [HRR.out, if_pos c1])
        clear c1
        go_wp2_with fail
        go_at_call 213
        (with_reducible refine (O1.out _).mono ?_)
        rintro e wz ⟨rfl, gz⟩
        go_wp2_with fail
        go_ret
        exact ⟨by rw [HE.out]; rfl, Gr.trans G2 gz⟩
      · by_cases c2 : i = 0 ∧ j + 1 = n
        · have HE := Lib.hid (show r = r2 by rw [HRR.out, if_neg c1, if_pos c2])
          have t2 : ((i : Int) == 0) = true := by simp [c2.1]
          have t3 : ((j : Int) == (n : Int) - 1) = true := by simp; omega
          clear c2 c1
          go_wp2_with fail
          go_at_call 213
          (with_reducible refine (O2.out _).mono ?_)
          rintro e wz ⟨rfl, gz⟩
          go_wp2_with fail
          go_ret
          exact ⟨by rw [HE.out]; rfl, Gr.trans G2 gz⟩
        · have HE := Lib.hid (show r = r3 by rw [HRR.out, if_neg c1, if_neg c2])
          by_cases c3 : i = 0
          · have t2 : ((i : Int) == 0) = true := by simp [c3]
            have t3 : ((j : Int) == (n : Int) - 1) = false := by simp; omega
            clear c2 c1 c3
            go_wp2_with fail
            go_at_call 129
            (with_reducible refine (O3.out _).mono ?_)
            rintro e wz ⟨rfl, gz⟩
            go_wp2_with fail
            go_ret
            exact ⟨by rw [HE.out]; rfl, Gr.trans G2 gz⟩
          · have t2 : ((i : Int) == 0) = false := by simp [c3]
            clear c2 c1 c3
            go_wp2_with fail
            go_at_call 129
            (with_reducible refine (O3.out _).mono ?_)
            rintro e wz ⟨rfl, gz⟩
            go_wp2_with fail
            go_ret
            exact ⟨by rw [HE.out]; rfl, Gr.trans G2 gz⟩
def RRingTo (W : World) (n : Nat) (X Y : Nat → Int) (e : Ending) (w' : World) : Prop := e = .returned (.tuple #[.int .i64 ((Rg.ringC n X Y).1 : Nat), .int .i64 ((Rg.ringC n X Y).2 : Nat)]) ∧ Gr W w'
theorem rringTo {W w' : World} {n : Nat} {X Y : Nat → Int} {k id : Nat} (e : Rg.ringC n X Y = (k, id)) (g : Gr W w') : RRingTo W n X Y (.returned (.tuple #[.int .i64 k, .int .i64 id])) w' := by
  refine ⟨?_, g⟩
  rw [e]
end Go.Proofs.YtpomllpplpalkaaGreatDoor
