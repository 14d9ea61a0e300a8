/- ring: blame, next, folds, clash; Check; ring: the edges of a ring, one behind the other; signed -/
import Derived.Test.YtogflfepkddbhaaDoorGa
import Derived.Test.YtogflfepkddbhaaDoorRi
import Derived.Test.YtogflfepkddbhaaDoorCp
import Derived.RangeFuncNested
import Derived.RangeFuncBound
import Derived.RangeFuncCalls
import Derived.RangeFuncLeaves
import Derived.Shelf.Abstract
import Derived.Shelf.RegionOpen
import Derived.OwnWalkIn
import Derived.TacticsInMore
import Derived.LoopNIn
import Derived.LoopIn
namespace Go.Proofs.YtogflfepkddbhaaDoor
set_option linter.unusedVariables false
open Go.ChangeShapes Go.WideShapes Go.ChangeAt Go.RowKit

/-- A row of points. -/
def Pts (w : World) (v : Value) (n : Nat) (X Y : Nat → Int) : Prop :=
  ∃ (ad : Option Addr) (cap B off : Nat), v = .slice ad n cap ∧ n ≤ cap ∧ cap ≤ 9223372036854775807 ∧ (0 < n → ad = some ⟨B, off, none⟩) ∧ ∀ k, k < n → w.cell? ⟨B, off + k * 2, none⟩ = some (.int .i64 (X k)) ∧ w.cell? ⟨B, off + k * 2 + 1, none⟩ = some (.int .i64 (Y k))
theorem pts_gr {a b : World} {v : Value} {n : Nat} {X Y : Nat → Int} (h : Pts a v n X Y) (g : Gr a b) : Pts b v n X Y := by
  obtain ⟨ad, cap, B, off, h1, h2, h3, h4, h5⟩ := h
  exact ⟨ad, cap, B, off, h1, h2, h3, h4, fun k hk => ⟨cell_gr g (h5 k hk).1, cell_gr g (h5 k hk).2⟩⟩
abbrev ringS : ByteArray := ⟨#[114, 105, 110, 103]⟩
set_option maxRecDepth 100000 in
theorem c_blame (id k : Int) (W : World) : Calls Tryd.prog 52 #[.int .i64 id, .iface 78 (.int .i64 k)] W fun e w' => ∃ B, e = .returned (.iface 72 (.pointer (some ⟨B, 0, none⟩))) ∧ W.heap.size ≤ B ∧ FaultAt w' B ringS id k ∧ Gr W w' := by
  go_enter Tryd.func52, Tryd.ntmps52
  go_wp2_with fail
  go_ret
  exact ⟨_, rfl, Nat.le_refl _, ⟨by go_simp, by go_simp, by go_simp⟩, by go_grown⟩
set_option maxHeartbeats 1000000 in
set_option maxRecDepth 100000 in
theorem c_next {n : Nat} {X Y : Nat → Int} {v : Value} (W : World) (h : Pts W v n X Y) (i : Nat) (hi : i < n) (hn : n ≤ 1000000) :
    Calls Tryd.prog 80 #[v, .int .i64 i] W fun e w' => e = .returned (.agg #[.int .i64 (X (Rg.nx1 n i)), .int .i64 (Y (Rg.nx1 n i))]) ∧ Gr W w' := by
  obtain ⟨ad, cap, B, off, rfl, h1, h2, h3, h4⟩ := h
  obtain rfl := h3 (by omega)
  have hib : (i : Int) ≤ 1000000 := by omega
  by_cases c : i + 1 = n
  · have e : Rg.nx1 n i = 0 := by unfold Rg.nx1; rw [if_pos c]
    obtain ⟨k0, k1⟩ := h4 0 (by omega)
    rw [Nat.zero_mul, Nat.add_zero] at k0 k1
    rw [e]
    obtain ⟨x, ex⟩ : ∃ x, x = X 0 := ⟨_, rfl⟩
    obtain ⟨y, ey⟩ : ∃ x, x = Y 0 := ⟨_, rfl⟩
    rw [← ex] at k0 ⊢
    rw [← ey] at k1 ⊢
    have t1 : ((i : Int) + 1 == (n : Int)) = true := by simp; omega
    have t2 : (0 : Int) < (n : Int) := by omega
    have t3 : 0 < n := by omega
    have hB := World.block_lt_of_cell? _ _ k0
    clear h3 h4 e ex ey c
    go_enter Tryd.func80, Tryd.ntmps80
    go_wp2_with fail
    refine bodyPost_ret (v := .agg #[.int .i64 x, .int .i64 y]) (by simp [results, Tryd.results80, go_sem, *]) rfl ⟨rfl, by go_grown⟩
  · have e : Rg.nx1 n i = i + 1 := by unfold Rg.nx1; rw [if_neg c]
    obtain ⟨k0, k1⟩ := h4 (i + 1) (by omega)
    rw [e]
    obtain ⟨x, ex⟩ : ∃ x, x = X (i + 1) := ⟨_, rfl⟩
    obtain ⟨y, ey⟩ : ∃ x, x = Y (i + 1) := ⟨_, rfl⟩
    rw [← ex] at k0 ⊢
    rw [← ey] at k1 ⊢
    have t1 : ((i : Int) + 1 == (n : Int)) = false := by simp; omega
    have t2 : (i : Int) + 1 < (n : Int) := by omega
    have hB := World.block_lt_of_cell? _ _ k0
    clear h3 h4 e ex ey c
    go_enter Tryd.func80, Tryd.ntmps80
    go_wp2_with fail
    refine bodyPost_ret (v := .agg #[.int .i64 x, .int .i64 y]) (by simp [results, Tryd.results80, go_sem, *]) rfl ⟨rfl, by go_grown⟩
theorem nePt (ax ay bx by' : Int) (w : World) : (binOp .neq 30 (.agg #[.int .i64 ax, .int .i64 ay]) (.agg #[.int .i64 bx, .int .i64 by'])).run Tryd.prog w = .ok (.bool (!(decide (ax = bx) && decide (ay = by')))) w := by
  by_cases h1 : ax = bx <;> by_cases h2 : ay = by' <;> simp [go_sem, h1, h2]
set_option maxHeartbeats 2000000 in
set_option maxRecDepth 100000 in
theorem folds_core (ax ay bx by' cx cy : Int) (q1 o1 q2 o2 r : Bool) (W : World)
    (E1 : ∀ w, (binOp .neq 30 (.agg #[.int .i64 cx, .int .i64 cy]) (.agg #[.int .i64 bx, .int .i64 by'])).run Tryd.prog w = .ok (.bool q1) w)
    (E2 : ∀ w, (binOp .neq 30 (.agg #[.int .i64 ax, .int .i64 ay]) (.agg #[.int .i64 bx, .int .i64 by'])).run Tryd.prog w = .ok (.bool q2) w)
    (A1 : ∀ w, Calls Tryd.prog 98 #[.agg #[.int .i64 ax, .int .i64 ay], .agg #[.int .i64 bx, .int .i64 by'], .agg #[.int .i64 cx, .int .i64 cy]] w fun e w' => e = .returned (.bool o1) ∧ Gr w w')
    (A2 : ∀ w, Calls Tryd.prog 98 #[.agg #[.int .i64 bx, .int .i64 by'], .agg #[.int .i64 cx, .int .i64 cy], .agg #[.int .i64 ax, .int .i64 ay]] w fun e w' => e = .returned (.bool o2) ∧ Gr w w')
    (hr : r = ((q1 && o1) || (q2 && o2))) :
    Calls Tryd.prog 79 #[.agg #[.int .i64 ax, .int .i64 ay], .agg #[.int .i64 bx, .int .i64 by'], .agg #[.int .i64 cx, .int .i64 cy]] W fun e w' => e = .returned (.bool r) ∧ Gr W w' := by
  have H1 := Lib.hid A1
  have H2 := Lib.hid A2
  clear A1 A2
  subst hr
  cases q1
  · cases q2
    · go_enter Tryd.func79, Tryd.ntmps79
      go_wp2_with fail
      go_ret
      exact ⟨rfl, by go_grown⟩
    · simp only [Bool.false_and, Bool.true_and, Bool.false_or]
      go_enter Tryd.func79, Tryd.ntmps79
      go_wp2_with fail
      go_at_call 98
      (with_reducible refine ((H2.out _)).mono ?_)
      rintro e w1 ⟨rfl, hw1⟩
      have cw1_0_0 : w1.cell? ⟨W.heap.size, 0, none⟩ = some (.int .i64 ax) := cell_gr hw1 (by go_simp)
      have cw1_0_1 : w1.cell? ⟨W.heap.size, 1, none⟩ = some (.int .i64 ay) := cell_gr hw1 (by go_simp)
      have zw1_0 : W.heap.size < w1.heap.size := World.block_lt_of_cell? _ _ cw1_0_0
      have cw1_1_0 : w1.cell? ⟨W.heap.size + 1, 0, none⟩ = some (.int .i64 bx) := cell_gr hw1 (by go_simp)
      have cw1_1_1 : w1.cell? ⟨W.heap.size + 1, 1, none⟩ = some (.int .i64 by') := cell_gr hw1 (by go_simp)
      have zw1_1 : W.heap.size + 1 < w1.heap.size := World.block_lt_of_cell? _ _ cw1_1_0
      have cw1_2_0 : w1.cell? ⟨W.heap.size + 1 + 1, 0, none⟩ = some (.int .i64 cx) := cell_gr hw1 (by go_simp)
      have cw1_2_1 : w1.cell? ⟨W.heap.size + 1 + 1, 1, none⟩ = some (.int .i64 cy) := cell_gr hw1 (by go_simp)
      have zw1_2 : W.heap.size + 1 + 1 < w1.heap.size := World.block_lt_of_cell? _ _ cw1_2_0
      have gw1 : Gr W w1 := Gr.trans (by go_grown) hw1
      clear hw1
      go_wp2_with fail
      go_ret
      exact ⟨rfl, by go_grown⟩
  · cases o1
    · cases q2
      · go_enter Tryd.func79, Tryd.ntmps79
        go_wp2_with fail
        go_at_call 98
        (with_reducible refine ((H1.out _)).mono ?_)
        rintro e w1 ⟨rfl, hw1⟩
        have cw1_0_0 : w1.cell? ⟨W.heap.size, 0, none⟩ = some (.int .i64 ax) := cell_gr hw1 (by go_simp)
        have cw1_0_1 : w1.cell? ⟨W.heap.size, 1, none⟩ = some (.int .i64 ay) := cell_gr hw1 (by go_simp)
        have zw1_0 : W.heap.size < w1.heap.size := World.block_lt_of_cell? _ _ cw1_0_0
        have cw1_1_0 : w1.cell? ⟨W.heap.size + 1, 0, none⟩ = some (.int .i64 bx) := cell_gr hw1 (by go_simp)
        have cw1_1_1 : w1.cell? ⟨W.heap.size + 1, 1, none⟩ = some (.int .i64 by') := cell_gr hw1 (by go_simp)
        have zw1_1 : W.heap.size + 1 < w1.heap.size := World.block_lt_of_cell? _ _ cw1_1_0
        have cw1_2_0 : w1.cell? ⟨W.heap.size + 1 + 1, 0, none⟩ = some (.int .i64 cx) := cell_gr hw1 (by go_simp)
        have cw1_2_1 : w1.cell? ⟨W.heap.size + 1 + 1, 1, none⟩ = some (.int .i64 cy) := cell_gr hw1 (by go_simp)
        have zw1_2 : W.heap.size + 1 + 1 < w1.heap.size := World.block_lt_of_cell? _ _ cw1_2_0
        have gw1 : Gr W w1 := Gr.trans (by go_grown) hw1
        clear hw1
        go_wp2_with fail
        go_ret
        exact ⟨rfl, by go_grown⟩
      · simp only [Bool.and_false, Bool.true_and, Bool.false_or]
        go_enter Tryd.func79, Tryd.ntmps79
        go_wp2_with fail
        go_at_call 98
        (with_reducible refine ((H1.out _)).mono ?_)
        rintro e w1 ⟨rfl, hw1⟩
        have cw1_0_0 : w1.cell? ⟨W.heap.size, 0, none⟩ = some (.int .i64 ax) := cell_gr hw1 (by go_simp)
        have cw1_0_1 : w1.cell? ⟨W.heap.size, 1, none⟩ = some (.int .i64 ay) := cell_gr hw1 (by go_simp)
        have zw1_0 : W.heap.size < w1.heap.size := World.block_lt_of_cell? _ _ cw1_0_0
        have cw1_1_0 : w1.cell? ⟨W.heap.size + 1, 0, none⟩ = some (.int .i64 bx) := cell_gr hw1 (by go_simp)
        have cw1_1_1 : w1.cell? ⟨W.heap.size + 1, 1, none⟩ = some (.int .i64 by') := cell_gr hw1 (by go_simp)
        have zw1_1 : W.heap.size + 1 < w1.heap.size := World.block_lt_of_cell? _ _ cw1_1_0
        have cw1_2_0 : w1.cell? ⟨W.heap.size + 1 + 1, 0, none⟩ = some (.int .i64 cx) := cell_gr hw1 (by go_simp)
        have cw1_2_1 : w1.cell? ⟨W.heap.size + 1 + 1, 1, none⟩ = some (.int .i64 cy) := cell_gr hw1 (by go_simp)
        have zw1_2 : W.heap.size + 1 + 1 < w1.heap.size := World.block_lt_of_cell? _ _ cw1_2_0
        have gw1 : Gr W w1 := Gr.trans (by go_grown) hw1
        clear hw1
        go_wp2_with fail
        go_at_call 98
        (with_reducible refine ((H2.out _)).mono ?_)
        rintro e w2 ⟨rfl, hw2⟩
        have cw2_0_0 : w2.cell? ⟨W.heap.size, 0, none⟩ = some (.int .i64 ax) := cell_gr hw2 (by go_simp)
        have cw2_0_1 : w2.cell? ⟨W.heap.size, 1, none⟩ = some (.int .i64 ay) := cell_gr hw2 (by go_simp)
        have zw2_0 : W.heap.size < w2.heap.size := World.block_lt_of_cell? _ _ cw2_0_0
        have cw2_1_0 : w2.cell? ⟨W.heap.size + 1, 0, none⟩ = some (.int .i64 bx) := cell_gr hw2 (by go_simp)
        have cw2_1_1 : w2.cell? ⟨W.heap.size + 1, 1, none⟩ = some (.int .i64 by') := cell_gr hw2 (by go_simp)
        have zw2_1 : W.heap.size + 1 < w2.heap.size := World.block_lt_of_cell? _ _ cw2_1_0
        have cw2_2_0 : w2.cell? ⟨W.heap.size + 1 + 1, 0, none⟩ = some (.int .i64 cx) := cell_gr hw2 (by go_simp)
        have cw2_2_1 : w2.cell? ⟨W.heap.size + 1 + 1, 1, none⟩ = some (.int .i64 cy) := cell_gr hw2 (by go_simp)
        have zw2_2 : W.heap.size + 1 + 1 < w2.heap.size := World.block_lt_of_cell? _ _ cw2_2_0
        have gw2 : Gr W w2 := Gr.trans (by have gg := gw1; have gs := gg.size; go_grown) hw2
        clear hw2 gw1 zw1_0 cw1_0_0 cw1_0_1 zw1_1 cw1_1_0 cw1_1_1 zw1_2 cw1_2_0 cw1_2_1
        go_wp2_with fail
        go_ret
        exact ⟨rfl, by go_grown⟩
    · simp only [Bool.and_true, Bool.true_or]
      go_enter Tryd.func79, Tryd.ntmps79
      go_wp2_with fail
      go_at_call 98
      (with_reducible refine ((H1.out _)).mono ?_)
      rintro e w1 ⟨rfl, hw1⟩
      have cw1_0_0 : w1.cell? ⟨W.heap.size, 0, none⟩ = some (.int .i64 ax) := cell_gr hw1 (by go_simp)
      have cw1_0_1 : w1.cell? ⟨W.heap.size, 1, none⟩ = some (.int .i64 ay) := cell_gr hw1 (by go_simp)
      have zw1_0 : W.heap.size < w1.heap.size := World.block_lt_of_cell? _ _ cw1_0_0
      have cw1_1_0 : w1.cell? ⟨W.heap.size + 1, 0, none⟩ = some (.int .i64 bx) := cell_gr hw1 (by go_simp)
      have cw1_1_1 : w1.cell? ⟨W.heap.size + 1, 1, none⟩ = some (.int .i64 by') := cell_gr hw1 (by go_simp)
      have zw1_1 : W.heap.size + 1 < w1.heap.size := World.block_lt_of_cell? _ _ cw1_1_0
      have cw1_2_0 : w1.cell? ⟨W.heap.size + 1 + 1, 0, none⟩ = some (.int .i64 cx) := cell_gr hw1 (by go_simp)
      have cw1_2_1 : w1.cell? ⟨W.heap.size + 1 + 1, 1, none⟩ = some (.int .i64 cy) := cell_gr hw1 (by go_simp)
      have zw1_2 : W.heap.size + 1 + 1 < w1.heap.size := World.block_lt_of_cell? _ _ cw1_2_0
      have gw1 : Gr W w1 := Gr.trans (by go_grown) hw1
      clear hw1
      go_wp2_with fail
      go_ret
      exact ⟨rfl, by go_grown⟩
theorem c_folds (ax ay bx by' cx cy : Int) (W : World) : Calls Tryd.prog 79 #[.agg #[.int .i64 ax, .int .i64 ay], .agg #[.int .i64 bx, .int .i64 by'], .agg #[.int .i64 cx, .int .i64 cy]] W fun e w' => e = .returned (.bool (Rg.foF ax ay bx by' cx cy)) ∧ Gr W w' :=
  folds_core ax ay bx by' cx cy _ _ _ _ _ W (nePt cx cy bx by') (nePt ax ay bx by') (c_gOn ax ay bx by' cx cy) (c_gOn bx by' cx cy ax ay) rfl
set_option maxHeartbeats 4000000 in
set_option maxRecDepth 100000 in
theorem c_clash {n : Nat} {X Y : Nat → Int} {v : Value} (W : World) (h : Pts W v n X Y) (i j : Nat) (hij : i < j) (hj : j < n) (hn3 : 3 ≤ n) (hn : n ≤ 1000000) :
    Calls Tryd.prog 53 #[v, .int .i64 i, .int .i64 j] W fun e w' => e = .returned (.bool (Rg.clF n X Y i j)) ∧ Gr W w' := by
  have HP := Lib.hid h
  have NX := Lib.hid (fun w (g : Gr W w) => c_next w (pts_gr h g) j hj hn)
  obtain ⟨ad, cap, B, off, rfl, h1, h2, h3, h4⟩ := h
  obtain rfl := h3 (by omega)
  obtain ⟨i0, i1⟩ := h4 i (by omega)
  obtain ⟨j0, j1⟩ := h4 j hj
  obtain ⟨z0, z1⟩ := h4 0 (by omega)
  obtain ⟨o0, o1⟩ := h4 1 (by omega)
  obtain ⟨s0, s1⟩ := h4 (i + 1) (by omega)
  rw [Nat.zero_mul, Nat.add_zero] at z0 z1
  rw [Nat.one_mul] at o0 o1
  have hib : (i : Int) ≤ 1000000 := by omega
  have hjb : (j : Int) ≤ 1000000 := by omega
  have b1 : (i : Int) < (n : Int) := by omega
  have b2 : (j : Int) < (n : Int) := by omega
  have b3 : (1 : Int) < (n : Int) := by omega
  have b4 : (0 : Int) < (n : Int) := by omega
  have b5 : (i : Int) + 1 < (n : Int) := by omega
  unfold Rg.clF
  generalize X (Rg.nx1 n j) = nxx at NX ⊢
  generalize Y (Rg.nx1 n j) = nxy at NX ⊢
  generalize X i = xi at i0 ⊢
  generalize Y i = yi at i1 ⊢
  generalize X j = xj at j0 ⊢
  generalize Y j = yj at j1 ⊢
  generalize X 0 = x0 at z0 ⊢
  generalize Y 0 = y0 at z1 ⊢
  generalize X 1 = x1 at o0 ⊢
  generalize Y 1 = y1 at o1 ⊢
  generalize X (i + 1) = xs at s0 ⊢
  generalize Y (i + 1) = ys at s1 ⊢
  clear h3 h4 HP
  by_cases c1 : j = i + 1
  · have t1 : ((j : Int) == (i : Int) + 1) = true := by simp; omega
    rw [if_pos c1]
    have F := Lib.hid (c_folds xi yi xj yj nxx nxy)
    generalize Rg.foF xi yi xj yj nxx nxy = q at F ⊢
    clear c1 z0 z1 o0 o1 s0 s1
    go_enter Tryd.func53, Tryd.ntmps53
    go_wp2_with fail
    refine wp_region_spread (by kernel_rfl) (by kernel_rfl) ?_
    try simp only [List.append]
    repeat (first | go_big_quiet_skip | (go_big_quiet_want; go_big_quiet_op; (first | go_big_quiet_on | (apply Exists.intro; refine ⟨fun _ => ?_, ?_⟩; (· (first | (go_at_call 80; first | ((with_reducible refine ((NX.out _ (gr_spread _ _))).mono ?_); rintro e w' ⟨rfl, hg⟩; exact ⟨rfl, spread_gr hg⟩)) | (go_at_call 79; first | ((with_reducible refine ((F.out _)).mono ?_); rintro e w' ⟨rfl, hg⟩; exact ⟨rfl, spread_gr hg⟩)))); go_big_quiet_on))))
    refine wpQuiet_nil ?_
    intro wr hr
    obtain ⟨mr, rfl⟩ := hr
    go_wp2_with fail
    go_ret
    exact ⟨rfl, gr_spread _ _⟩
  have t1 : ((j : Int) == (i : Int) + 1) = false := by simp; omega
  rw [if_neg c1]
  by_cases c2 : i = 0 ∧ j + 1 = n
  · rw [if_pos c2]
    have t2 : ((i : Int) == 0) = true := by simp [c2.1]
    have t3 : ((j : Int) == (n : Int) - 1) = true := by simp; omega
    have F := Lib.hid (c_folds xj yj x0 y0 x1 y1)
    generalize Rg.foF xj yj x0 y0 x1 y1 = q at F ⊢
    clear c2 s0 s1 i0 i1 NX c1
    go_enter Tryd.func53, Tryd.ntmps53
    go_wp2_with fail
    refine wp_region_spread (by kernel_rfl) (by kernel_rfl) ?_
    try simp only [List.append]
    repeat (first | go_big_quiet_skip | (go_big_quiet_want; go_big_quiet_op; (first | go_big_quiet_on | (apply Exists.intro; refine ⟨fun _ => ?_, ?_⟩; (· (first | (go_at_call 79; first | ((with_reducible refine ((F.out _)).mono ?_); rintro e w' ⟨rfl, hg⟩; exact ⟨rfl, spread_gr hg⟩)))); go_big_quiet_on))))
    refine wpQuiet_nil ?_
    intro wr hr
    obtain ⟨mr, rfl⟩ := hr
    go_wp2_with fail
    go_ret
    exact ⟨rfl, gr_spread _ _⟩
  rw [if_neg c2]
  have F := Lib.hid (c_gMeet xi yi xs ys xj yj nxx nxy)
  generalize meG xi yi xs ys xj yj nxx nxy = q at F ⊢
  by_cases c3 : i = 0
  · have t2 : ((i : Int) == 0) = true := by simp [c3]
    have t3 : ((j : Int) == (n : Int) - 1) = false := by simp; omega
    clear c2 c3 c1 z0 z1 o0 o1
    go_enter Tryd.func53, Tryd.ntmps53
    go_wp2_with fail
    refine wp_region_spread (by kernel_rfl) (by kernel_rfl) ?_
    try simp only [List.append]
    repeat (first | go_big_quiet_skip | (go_big_quiet_want; go_big_quiet_op; (first | go_big_quiet_on | (apply Exists.intro; refine ⟨fun _ => ?_, ?_⟩; (· (first | (go_at_call 80; first | ((with_reducible refine ((NX.out _ (gr_spread _ _))).mono ?_); rintro e w' ⟨rfl, hg⟩; exact ⟨rfl, spread_gr hg⟩)) | (go_at_call 81; first | ((with_reducible refine ((F.out _)).mono ?_); rintro e w' ⟨rfl, hg⟩; exact ⟨rfl, spread_gr hg⟩)))); go_big_quiet_on))))
    refine wpQuiet_nil ?_
    intro wr hr
    obtain ⟨mr, rfl⟩ := hr
    go_wp2_with fail
    go_ret
    exact ⟨rfl, gr_spread _ _⟩
  · have t2 : ((i : Int) == 0) = false := by simp [c3]
    clear c2 c3 c1 z0 z1 o0 o1
    go_enter Tryd.func53, Tryd.ntmps53
    go_wp2_with fail
    refine wp_region_spread (by kernel_rfl) (by kernel_rfl) ?_
    try simp only [List.append]
    repeat (first | go_big_quiet_skip | (go_big_quiet_want; go_big_quiet_op; (first | go_big_quiet_on | (apply Exists.intro; refine ⟨fun _ => ?_, ?_⟩; (· (first | (go_at_call 80; first | ((with_reducible refine ((NX.out _ (gr_spread _ _))).mono ?_); rintro e w' ⟨rfl, hg⟩; exact ⟨rfl, spread_gr hg⟩)) | (go_at_call 81; first | ((with_reducible refine ((F.out _)).mono ?_); rintro e w' ⟨rfl, hg⟩; exact ⟨rfl, spread_gr hg⟩)))); go_big_quiet_on))))
    refine wpQuiet_nil ?_
    intro wr hr
    obtain ⟨mr, rfl⟩ := hr
    go_wp2_with fail
    go_ret
    exact ⟨rfl, gr_spread _ _⟩
end Go.Proofs.YtogflfepkddbhaaDoor
namespace Go.Proofs.YtogflfepkddbhaaDoor
set_option linter.unusedVariables false
open Go.ChangeShapes Go.WideShapes Go.ChangeAt Go.RowKit

/-- An error, by its number: none, or a Fault of this op and id that wraps it. -/
def AErr (op : ByteArray) (w : World) (v : Value) (id k : Nat) : Prop := (v = .nilIface ∧ k = 0) ∨ ∃ B, v = .iface 72 (.pointer (some ⟨B, 0, none⟩)) ∧ 1 ≤ k ∧ k ≤ 15 ∧ FaultAt w B op id k
theorem aerr_gr {op : ByteArray} {a b : World} {v : Value} {id k : Nat} (h : AErr op a v id k) (g : Gr a b) : AErr op b v id k := by
  rcases h with h | ⟨B, h1, h2, h3, h4⟩
  · exact Or.inl h
  · exact Or.inr ⟨B, h1, h2, h3, faultAt_gr h4 g⟩
theorem eqPt2 (ax ay bx by' : Int) (w : World) : (binOp .eql 30 (.agg #[.int .i64 ax, .int .i64 ay]) (.agg #[.int .i64 bx, .int .i64 by'])).run Tryd.prog w = .ok (.bool (decide (ax = bx) && decide (ay = by'))) w := by
  rw [eqPt, Bool.decide_and]
def RingTo (W : World) (n : Nat) (X Y : Nat → Int) (e : Ending) (w' : World) : Prop := ∃ x, e = .returned x ∧ AErr ringS w' x (Rg.ringC n X Y).2 (Rg.ringC n X Y).1 ∧ Gr W w'
theorem ringTo_err {W w' : World} {n : Nat} {X Y : Nat → Int} {k id B : Nat} (e : Rg.ringC n X Y = (k, id)) (h1 : 1 ≤ k ∧ k ≤ 15) (hF : FaultAt w' B ringS id k) (g : Gr W w') :
    RingTo W n X Y (.returned (.iface 72 (.pointer (some ⟨B, 0, none⟩)))) w' := by
  refine ⟨_, rfl, ?_, g⟩
  rw [e]
  exact Or.inr ⟨B, rfl, h1.1, h1.2, hF⟩
set_option maxHeartbeats 8000000 in
set_option maxRecDepth 100000 in
theorem c_ringCheck {n : Nat} {X Y : Nat → Int} {v : Value} (W : World) (h : Pts W v n X Y) :
    Calls Tryd.prog 34 #[v] W (RingTo W n X Y) := by
  have HP := Lib.hid h
  obtain ⟨ad, cap, B, off, rfl, h1, h2, h3, h4⟩ := h
  have h2i : (n : Int) ≤ 9223372036854775807 := by omega
  by_cases c1 : n < 3
  · have t1 : decide ((n : Int) < 3) = true := decide_eq_true (by omega)
    have t2 : (n : Int) < 3 := by omega
    have hk := Rg.ringC_3 (X := X) (Y := Y) (show n < 3 ∨ 64 < n by omega)
    have HK := Lib.hid hk
    clear hk h3 h4 c1
    go_enter Tryd.func34, Tryd.ntmps34
    go_wp2_with fail
    go_at_call 52
    (with_reducible refine (c_blame n 3 _).mono ?_)
    rintro e w1 ⟨B1, rfl, hB, hFa, g1⟩
    go_wp2_with fail
    go_ret
    exact ringTo_err HK.out (by decide) hFa g1
  have t1 : decide ((n : Int) < 3) = false := decide_eq_false (by omega)
  have t2 : ¬ (n : Int) < 3 := by omega
  by_cases c2 : 64 < n
  · have t3 : decide ((64 : Int) < (n : Int)) = true := decide_eq_true (by omega)
    have t4 : (64 : Int) < (n : Int) := by omega
    have hk := Rg.ringC_3 (X := X) (Y := Y) (show n < 3 ∨ 64 < n by omega)
    have HK := Lib.hid hk
    clear hk h3 h4 c1
    go_enter Tryd.func34, Tryd.ntmps34
    go_wp2_with fail
    go_at_call 52
    (with_reducible refine (c_blame n 3 _).mono ?_)
    rintro e w1 ⟨B1, rfl, hB, hFa, g1⟩
    go_wp2_with fail
    go_ret
    exact ringTo_err HK.out (by decide) hFa g1
  have t3 : decide ((64 : Int) < (n : Int)) = false := decide_eq_false (by omega)
  have t4 : ¬ (64 : Int) < (n : Int) := by omega
  have hn64 : (n : Int) ≤ 64 := by omega
  have hn0 : ¬ (n < 3 ∨ 64 < n) := by omega
  obtain rfl := h3 (by omega)
  have HX := Lib.hid h4
  have HN := Lib.hid hn0
  clear h3 h4 hn0
  go_enter Tryd.func34, Tryd.ntmps34
  go_wp2_with fail
  go_loopg [22] n (fun k y wr => ∃ i : Nat, y = .int .i64 i ∧ i ≤ n ∧ k = n - i ∧ (∀ m, m < i → nearB (X m) (Y m) = true) ∧ Gr W wr)
  case atStart => exact ⟨0, rfl, Nat.zero_le _, by omega, fun m hm => absurd hm (by omega), Below.refl _ _⟩
  case round =>
    obtain ⟨i, rfl, hi, hk, hnr, hg⟩ := hrel
    have HNR := Lib.hid hnr
    clear hnr
    by_cases hin : i < n
    · have ti : decide ((i : Int) < (n : Int)) = true := decide_eq_true (by omega)
      have ti2 : decide (i < n) = true := decide_eq_true hin
      have ti3 : (i : Int) < (n : Int) := by omega
      obtain ⟨k0, k1⟩ := HX.out i hin
      have p0 := cell_gr hg k0
      have p1 := cell_gr hg k1
      have CP := c_CheckPoint (X i) (Y i)
      have hmm : n - (i + 1) < gk := by omega
      clear k0 k1 hk
      cases hq : nearB (X i) (Y i)
      · rw [hq, if_neg (by decide)] at CP
        have hk := Rg.ringC_2 HN.out hin hq HNR.out
        have HC := Lib.hid CP
        have HK := Lib.hid hk
        generalize X i = x at p0 HC
        generalize Y i = y at p1 HC
        clear CP hk hq
        go_wp2_with fail
        go_at_call 48
        (with_reducible refine (HC.out _).mono ?_)
        rintro e w1 ⟨rfl, g1⟩
        have G1 : Gr W w1 := Gr.trans (Gr.trans hg (by go_grown)) g1
        go_wp2_with fail
        go_at_call 52
        (with_reducible refine (c_blame i 2 _).mono ?_)
        rintro e w2 ⟨B1, rfl, hB, hFa, g2⟩
        go_wp2_with fail
        go_ret
        exact ringTo_err HK.out (by decide) hFa (Gr.trans G1 g2)
      · rw [hq, if_pos rfl] at CP
        have hnx : ∀ m, m < i + 1 → nearB (X m) (Y m) = true := fun m hm => by
          rcases Nat.lt_succ_iff_lt_or_eq.1 hm with h | rfl
          · exact HNR.out m h
          · exact hq
        have HC := Lib.hid CP
        have HNX := Lib.hid hnx
        generalize X i = x at p0 HC
        generalize Y i = y at p1 HC
        clear CP hq hnx
        go_wp2_with fail
        go_at_call 48
        (with_reducible refine (HC.out _).mono ?_)
        rintro e w1 ⟨rfl, g1⟩
        have G1 : Gr W w1 := Gr.trans (Gr.trans hg (by go_grown)) g1
        go_wp2_with fail
        go_roundg (n - (i + 1))
        case measure => exact hmm
        case rel => exact ⟨i + 1, by go_num, hin, rfl, HNX.out, G1⟩
    · obtain rfl : n = i := by omega
      have ti : decide ((n : Int) < (n : Int)) = false := decide_eq_false (by omega)
      have ti2 : decide (n < n) = false := decide_eq_false (by omega)
      clear hk hin
      go_wp2_with fail
      obtain ⟨wo, rfl⟩ : ∃ wo : World, wo = wr := ⟨_, rfl⟩
      go_loopg [37] n (fun k y wr => ∃ i : Nat, y = .int .i64 i ∧ i ≤ n ∧ k = n - i ∧ (∀ a, a < i → ∀ b, a < b → b < n → Rg.bdF n X Y a b = false) ∧ Gr W wr)
      case atStart => exact ⟨0, rfl, Nat.zero_le _, by omega, fun a ha => absurd ha (by omega), hg⟩
      case round =>
        obtain ⟨i, rfl, hi, hk, hbd, hg2⟩ := hrel
        have HB := Lib.hid hbd
        clear hbd
        by_cases hin : i < n
        · have ti : decide ((i : Int) < (n : Int)) = true := decide_eq_true (by omega)
          have ti2 : decide (i < n) = true := decide_eq_true hin
          have ti3 : (i : Int) < (n : Int) := by omega
          have hmm : n - (i + 1) < gk := by omega
          clear hk
          go_wp2_with fail
          obtain ⟨wp, rfl⟩ : ∃ wp : World, wp = wr := ⟨_, rfl⟩
          go_loopg [7] (n - (i + 1)) (fun k y wr => ∃ j : Nat, y = .int .i64 j ∧ i < j ∧ j ≤ n ∧ k = n - j ∧ (∀ b, i < b → b < j → Rg.bdF n X Y i b = false) ∧ Gr W wr)
          case atStart => exact ⟨i + 1, by go_num, by omega, by omega, rfl, fun b h1 h2 => absurd h1 (by omega), hg2⟩
          case round =>
            obtain ⟨j, rfl, hij, hj, hk, hbj, hg3⟩ := hrel
            have HBJ := Lib.hid hbj
            clear hbj
            by_cases hjn : j < n
            · have tj : decide ((j : Int) < (n : Int)) = true := decide_eq_true (by omega)
              have tj2 : decide (j < n) = true := decide_eq_true hjn
              have tj3 : (j : Int) < (n : Int) := by omega
              obtain ⟨k0, k1⟩ := HX.out i hin
              obtain ⟨l0, l1⟩ := HX.out j hjn
              have p0 := cell_gr hg3 k0
              have p1 := cell_gr hg3 k1
              have q0 := cell_gr hg3 l0
              have q1 := cell_gr hg3 l1
              have CC := fun w (g : Gr wr w) => c_clash w (pts_gr HP.out (Gr.trans hg3 g)) i j hij hjn (by have := HN.out; omega) (by omega)
              have E := eqPt2 (X i) (Y i) (X j) (Y j)
              have hbe : Rg.bdF n X Y i j = ((decide (X i = X j) && decide (Y i = Y j)) || Rg.clF n X Y i j) := rfl
              generalize (decide (X i = X j) && decide (Y i = Y j)) = qe at E hbe
              generalize Rg.clF n X Y i j = qc at CC hbe
              generalize X i = xi at p0 E
              generalize Y i = yi at p1 E
              generalize X j = xj at q0 E
              generalize Y j = yj at q1 E
              have HC := Lib.hid CC
              have hmm2 : n - (j + 1) < gk := by omega
              clear CC k0 k1 l0 l1 hk
              cases qe
              · cases qc
                · have hnx : ∀ b, i < b → b < j + 1 → Rg.bdF n X Y i b = false := fun b h1 h2 => by
                    rcases Nat.lt_succ_iff_lt_or_eq.1 h2 with h | rfl
                    · exact HBJ.out b h1 h
                    · exact hbe
                  have HNX := Lib.hid hnx
                  clear hnx hbe
                  have gwr := hg3
                  go_wp2_with fail
                  refine wp_region_spread (by kernel_rfl) (by kernel_rfl) ?_
                  try simp only [List.append]
                  repeat (first | go_big_quiet_skip | (go_big_quiet_want; go_big_quiet_op; (first | go_big_quiet_on | (apply Exists.intro; refine ⟨fun _ => ?_, ?_⟩; (· (first | (go_at_call 53; first | ((with_reducible refine ((HC.out _ (gr_spread _ _))).mono ?_); rintro e w' ⟨rfl, hg⟩; exact ⟨rfl, spread_gr hg⟩)))); go_big_quiet_on))))
                  refine wpQuiet_nil ?_
                  intro wr hr
                  obtain ⟨mr, rfl⟩ := hr
                  have G1 := Gr.trans hg3 (gr_spread wr mr)
                  go_wp2_with fail
                  go_roundg (n - (j + 1))
                  case measure => exact hmm2
                  case rel => exact ⟨j + 1, by go_num, by omega, hjn, rfl, HNX.out, G1⟩
                · have hk := Rg.ringC_4 HN.out HNR.out hij hjn hbe HB.out
                  have HK := Lib.hid hk
                  clear hk hbe
                  have gwr := hg3
                  go_wp2_with fail
                  refine wp_region_spread (by kernel_rfl) (by kernel_rfl) ?_
                  try simp only [List.append]
                  repeat (first | go_big_quiet_skip | (go_big_quiet_want; go_big_quiet_op; (first | go_big_quiet_on | (apply Exists.intro; refine ⟨fun _ => ?_, ?_⟩; (· (first | (go_at_call 53; first | ((with_reducible refine ((HC.out _ (gr_spread _ _))).mono ?_); rintro e w' ⟨rfl, hg⟩; exact ⟨rfl, spread_gr hg⟩)))); go_big_quiet_on))))
                  refine wpQuiet_nil ?_
                  intro wr hr
                  obtain ⟨mr, rfl⟩ := hr
                  have G1 := Gr.trans hg3 (gr_spread wr mr)
                  go_wp2_with fail
                  go_at_call 52
                  (with_reducible refine (c_blame i 4 _).mono ?_)
                  rintro e w2 ⟨B1, rfl, hB, hFa, g2⟩
                  go_wp2_with fail
                  go_ret
                  exact ringTo_err HK.out (by decide) hFa (Gr.trans G1 g2)
              · have hk := Rg.ringC_4 HN.out HNR.out hij hjn (hbe.trans (Bool.true_or _)) HB.out
                have HK := Lib.hid hk
                clear hk hbe
                have gwr := hg3
                go_wp2_with fail
                refine wp_region_spread (by kernel_rfl) (by kernel_rfl) ?_
                try simp only [List.append]
                repeat (first | go_big_quiet_skip | (go_big_quiet_want; go_big_quiet_op; (first | go_big_quiet_on | (apply Exists.intro; refine ⟨fun _ => ?_, ?_⟩; (· fail); go_big_quiet_on))))
                refine wpQuiet_nil ?_
                intro wr hr
                obtain ⟨mr, rfl⟩ := hr
                have G1 := Gr.trans hg3 (gr_spread wr mr)
                go_wp2_with fail
                go_at_call 52
                (with_reducible refine (c_blame i 4 _).mono ?_)
                rintro e w2 ⟨B1, rfl, hB, hFa, g2⟩
                go_wp2_with fail
                go_ret
                exact ringTo_err HK.out (by decide) hFa (Gr.trans G1 g2)
            · obtain rfl : n = j := by omega
              have tj : decide ((n : Int) < (n : Int)) = false := decide_eq_false (by omega)
              have tj2 : decide (n < n) = false := decide_eq_false (by omega)
              have hnx : ∀ a, a < i + 1 → ∀ b, a < b → b < n → Rg.bdF n X Y a b = false := fun a ha b h1 h2 => by
                rcases Nat.lt_succ_iff_lt_or_eq.1 ha with h | rfl
                · exact HB.out a h b h1 h2
                · exact HBJ.out b h1 h2
              have HNX := Lib.hid hnx
              clear hnx hk hjn
              go_wp2_with fail
              go_roundg (n - (i + 1))
              case measure => exact hmm
              case rel => exact ⟨i + 1, by go_num, hin, rfl, HNX.out, hg3⟩
        · obtain rfl : n = i := by omega
          have ti4 : decide ((n : Int) < (n : Int)) = false := decide_eq_false (by omega)
          have hk0 := Rg.ringC_0 HN.out HNR.out HB.out
          have HK := Lib.hid hk0
          clear hk0 hk hin
          go_wp2_with fail
          go_ret
          exact ⟨.nilIface, rfl, by rw [HK.out]; exact Or.inl ⟨rfl, rfl⟩, hg2⟩
end Go.Proofs.YtogflfepkddbhaaDoor
namespace Go.Proofs.YtogflfepkddbhaaDoor
set_option linter.unusedVariables false
open Go.ChangeShapes Go.WideShapes Go.ChangeAt Go.RowKit Go.Shelf

attribute [local go_sem] Oper.semAt_some
/-- The ends of the k-th edge. -/
abbrev edgeV (n : Nat) (X Y : Nat → Int) (k : Nat) : Array Value := #[.agg #[.int .i64 (X k), .int .i64 (Y k)], .agg #[.int .i64 (X (Rg.nx1 n k)), .int .i64 (Y (Rg.nx1 n k))]]
theorem gr_grown {a b : World} (g : Gr a b) : a.grownBy b none := ⟨g.os, g.tape, g.output, g.size, fun k hk _ => g.block k hk⟩
/-- Two blocks stay as they are. -/
def KK (B C : Nat) (a b : World) : Prop := a.heap.size ≤ b.heap.size ∧ b.heap[B]? = a.heap[B]? ∧ b.heap[C]? = a.heap[C]?
theorem KK.refl (B C : Nat) (a : World) : KK B C a a := ⟨Nat.le_refl _, rfl, rfl⟩
theorem KK.trans {B C : Nat} {a b c : World} (h : KK B C a b) (k : KK B C b c) : KK B C a c := ⟨Nat.le_trans h.1 k.1, k.2.1.trans h.2.1, k.2.2.trans h.2.2⟩
theorem KK.gr {B C : Nat} {a b c : World} (h : KK B C a b) (g : Gr b c) (h1 : B < b.heap.size) (h2 : C < b.heap.size) : KK B C a c := h.trans ⟨g.size, g.block B h1, g.block C h2⟩
theorem cell_heap {a b : World} {B o : Nat} (h : b.heap[B]? = a.heap[B]?) : b.cell? ⟨B, o, none⟩ = a.cell? ⟨B, o, none⟩ := by
  simp only [World.cell?, h]
theorem KK.cell1 {B C o : Nat} {a b : World} {u : Value} (h : KK B C a b) (hc : a.cell? ⟨B, o, none⟩ = some u) : b.cell? ⟨B, o, none⟩ = some u := (cell_heap h.2.1).trans hc
theorem KK.cell2 {B C o : Nat} {a b : World} {u : Value} (h : KK B C a b) (hc : a.cell? ⟨C, o, none⟩ = some u) : b.cell? ⟨C, o, none⟩ = some u := (cell_heap h.2.2).trans hc
theorem kk_put {B C N : Nat} (h1 : B < N) (h2 : C < N) (W : World) (l : Nat) (o o' : Obj) (hl : N ≤ l) (_ : W.heap[l]? = some o) (_ : o.isCells = false) (_ : o.isWalk = false) : KK B C W (W.putObj l o') := by
  refine ⟨by simp, ?_, ?_⟩
  · exact World.putObj_heap_other (by omega)
  · exact World.putObj_heap_other (by omega)
end Go.Proofs.YtogflfepkddbhaaDoor
namespace Go.Proofs.YtogflfepkddbhaaDoor
set_option linter.unusedVariables false
open Go.ChangeShapes Go.WideShapes Go.ChangeAt Go.RowKit Go.Shelf

attribute [local go_sem] Oper.semAt_some
/-- A block of two numbers. -/
def Box2 (W : World) (B : Nat) (x y : Int) : Prop := W.heap[B]? = some (.cells #[.int .i64 x, .int .i64 y] 30 (0, 0))
theorem Box2.lt {W : World} {B : Nat} {x y : Int} (h : Box2 W B x y) : B < W.heap.size := (Array.getElem?_eq_some_iff.1 h).1
theorem Box2.cells {W : World} {B : Nat} {x y : Int} (h : Box2 W B x y) : W.cell? ⟨B, 0, none⟩ = some (.int .i64 x) ∧ W.cell? ⟨B, 1, none⟩ = some (.int .i64 y) := by
  constructor <;> simp [World.cell?, show W.heap[B]? = _ from h]
theorem Box2.kept {W W' : World} {row : Option Nat} {B : Nat} {x y : Int} (h : Box2 W B x y) (hg : W.grownBy W' row) (hne : some B ≠ row) : Box2 W' B x y := (hg.block B h.lt hne).trans h
theorem Box2.new (W : World) (x y : Int) : Box2 (W.alloc (.cells #[.int .i64 x, .int .i64 y] 30)) W.heap.size x y := World.alloc_heap_new W _
theorem Box2.alloc {W : World} {B : Nat} {x y : Int} (h : Box2 W B x y) (o : Obj) : Box2 (W.alloc o) B x y := h.kept (World.grownBy_alloc W o none) (by simp)
theorem box2_notcells {W W' : World} {row : Option Nat} {B : Nat} {x y : Int} (h : Box2 W B x y) (hg : W.grownBy W' row) (hr : ∀ r, row = some r → ∃ o : Obj, W.heap[r]? = some o ∧ o.isCells = false) : Box2 W' B x y := by
  refine h.kept hg fun e => ?_
  obtain ⟨o, h1, h2⟩ := hr B e.symm
  rw [show W.heap[B]? = _ from h] at h1
  cases h1
  cases h2
theorem gr_keeps {a b : World} (g : Gr a b) : KeepsOthers a b := ⟨g.size, fun k o hk ho => (g.block k (Array.getElem?_eq_some_iff.1 hk).1).trans hk⟩
/-- What has been added up. -/
def csW (n : Nat) (X Y : Nat → Int) (pre : List Nat) : Int := pre.foldl (fun s k => IntKind.i64.wrap (s + crossZ (X 0) (Y 0) (X k) (Y k) (X (Rg.nx1 n k)) (Y (Rg.nx1 n k)))) 0
theorem csW_snoc (n : Nat) (X Y : Nat → Int) (pre : List Nat) (k : Nat) : csW n X Y (pre ++ [k]) = IntKind.i64.wrap (csW n X Y pre + crossZ (X 0) (Y 0) (X k) (Y k) (X (Rg.nx1 n k)) (Y (Rg.nx1 n k))) := by
  unfold csW; rw [List.foldl_append]; rfl
theorem csW_all {n : Nat} {X Y : Nat → Int} (hnr : ∀ k, k < n → nearB (X k) (Y k) = true) (h1 : 1 ≤ n) : ∀ k, k ≤ n → csW n X Y (List.range k) = IntKind.i64.wrap (Rg.crS n X Y k) := by
  intro k
  induction k with
  | zero => intro _; rfl
  | succ k ih =>
    intro hk
    have hx : Rg.nx1 n k < n := by unfold Rg.nx1; split <;> omega
    rw [List.range_succ, csW_snoc, ih (by omega)]
    have e : crossZ (X 0) (Y 0) (X k) (Y k) (X (Rg.nx1 n k)) (Y (Rg.nx1 n k)) = cr (X 0) (Y 0) (X k) (Y k) (X (Rg.nx1 n k)) (Y (Rg.nx1 n k)) := by
      unfold crossZ cr; rw [hnr 0 (by omega), hnr k (by omega), hnr _ hx]; rfl
    rw [e]
    simp only [Rg.crS]
    rw [IntKind.wrap_i64, IntKind.wrap_i64, IntKind.wrap_i64]
    omega
end Go.Proofs.YtogflfepkddbhaaDoor
