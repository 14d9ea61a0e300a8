/- segm: what its functions answer -/
import Derived.Test.YtogflfepkddbhaaDoorZa
import Derived.Test.YtogflfepkddbhaaDoorPq
namespace Go.Proofs.YtogflfepkddbhaaDoor
set_option linter.unusedVariables false
open Go.ChangeShapes Go.WideShapes Go.ChangeAt Go.RowKit

theorem run_min (x y : Int) (w : World) : (Builtin.min_ #[3, 3] 3 #[.int .i64 x, .int .i64 y]).run Tryd.prog w = .ok (.int .i64 (minZ x y)) w := by simp [Builtin.min_, Builtin.min2, go_sem, minZ]
theorem run_maxZ (x y : Int) (w : World) : (Builtin.max_ #[3, 3] 3 #[.int .i64 x, .int .i64 y]).run Tryd.prog w = .ok (.int .i64 (maxZ x y)) w := by simp [Builtin.max_, Builtin.max2, go_sem, maxZ]

theorem c_gMayBe (n : Nat) (X Y : Nat → Int) (b : Nat) (w : World) (hn : n ≤ 100) (hb : b < w.heap.size)
    (hc : ∀ k, k < n → w.cell? ⟨b, k * 2, none⟩ = some (.int .i64 (X k)) ∧ w.cell? ⟨b, k * 2 + 1, none⟩ = some (.int .i64 (Y k))) :
    Calls Tryd.prog 100 #[.slice (some ⟨b, 0, none⟩) n n] w fun e w' => e = .returned (.bool (allB X Y n)) ∧ Gr w w' := by
  go_enter Tryd.func100, Tryd.ntmps100
  go_wp2_with fail
  go_loopg [7] n (fun k v wr => ∃ i : Nat, i ≤ n ∧ k = n - i ∧ v = .int .i64 i ∧ allB X Y i = true ∧ Gr w wr)
  case atStart => exact ⟨0, by omega, by omega, rfl, rfl, Gr.of_eq rfl⟩
  case round =>
    obtain ⟨i, hi, hk, rfl, hall, hg⟩ := hrel
    by_cases h : i < n
    · have ti : decide ((i : Int) < (n : Int)) = true := decide_eq_true (by omega)
      have ti2 : decide (i < n) = true := decide_eq_true h
      have c0 := cell_gr hg (hc i h).1
      have c1 := cell_gr hg (hc i h).2
      obtain ⟨q, hq⟩ : ∃ q, q = nearB (X i) (Y i) := ⟨_, rfl⟩
      have hC := c_CheckPoint (X i) (Y i)
      rw [← hq] at hC
      cases q
      · have e : allB X Y n = false := by
          rw [← Bool.not_eq_true, allB_iff]
          intro H
          rw [H i h] at hq
          cases hq
        have HE := Lib.hid e
        rw [if_neg (by simp)] at hC
        have hN := Lib.hid hC
        clear hall e hq hc hC
        go_wp2_with (go_at_call 48; (with_reducible refine (hN.out _).mono ?_); rintro e w' ⟨rfl, hg1⟩)
        go_ret
        exact ⟨by rw [HE.out]; rfl, Gr.trans (Gr.trans hg (by go_grown)) hg1⟩
      · have e : allB X Y (i + 1) = true := by simp only [allB, hall, ← hq]; rfl
        have HE := Lib.hid e
        rw [if_pos rfl] at hC
        have hN := Lib.hid hC
        clear hall e hq hc hC
        go_wp2_with (go_at_call 48; (with_reducible refine (hN.out _).mono ?_); rintro e w' ⟨rfl, hg1⟩)
        go_roundg (n - (i + 1))
        case measure => omega
        case rel => exact ⟨i + 1, by omega, rfl, by go_num, HE.out, Gr.trans (Gr.trans hg (by go_grown)) hg1⟩
    · have e : i = n := by omega
      subst e
      go_wp2_with fail
      go_ret
      exact ⟨by simp [hall], hg⟩
theorem c_gMayBe2 (ax ay bx by' : Int) (q : Bool) (hq : q = (nearB ax ay && nearB bx by')) (b : Nat) (w : World) (hb : b < w.heap.size)
    (k0 : w.cell? ⟨b, 0, none⟩ = some (.int .i64 ax)) (k1 : w.cell? ⟨b, 1, none⟩ = some (.int .i64 ay)) (k2 : w.cell? ⟨b, 2, none⟩ = some (.int .i64 bx)) (k3 : w.cell? ⟨b, 3, none⟩ = some (.int .i64 by')) :
    Calls Tryd.prog 100 #[.slice (some ⟨b, 0, none⟩) 2 2] w fun e w' => e = .returned (.bool q) ∧ Gr w w' := by
  have h := c_gMayBe 2 (fun k => [ax, bx].getD k 0) (fun k => [ay, by'].getD k 0) b w (by omega) hb (fun k hk => by
    rcases (by omega : k = 0 ∨ k = 1) with rfl | rfl
    · exact ⟨k0, k1⟩
    · exact ⟨k2, k3⟩)
  have e : allB (fun k => [ax, bx].getD k 0) (fun k => [ay, by'].getD k 0) 2 = q := by simp [allB, hq]
  rw [e] at h
  exact h
theorem c_gMayBe3 (ax ay bx by' cx cy : Int) (q : Bool) (hq : q = (nearB ax ay && nearB bx by' && nearB cx cy)) (b : Nat) (w : World) (hb : b < w.heap.size)
    (k0 : w.cell? ⟨b, 0, none⟩ = some (.int .i64 ax)) (k1 : w.cell? ⟨b, 1, none⟩ = some (.int .i64 ay)) (k2 : w.cell? ⟨b, 2, none⟩ = some (.int .i64 bx)) (k3 : w.cell? ⟨b, 3, none⟩ = some (.int .i64 by'))
    (k4 : w.cell? ⟨b, 4, none⟩ = some (.int .i64 cx)) (k5 : w.cell? ⟨b, 5, none⟩ = some (.int .i64 cy)) :
    Calls Tryd.prog 100 #[.slice (some ⟨b, 0, none⟩) 3 3] w fun e w' => e = .returned (.bool q) ∧ Gr w w' := by
  have h := c_gMayBe 3 (fun k => [ax, bx, cx].getD k 0) (fun k => [ay, by', cy].getD k 0) b w (by omega) hb (fun k hk => by
    rcases (by omega : k = 0 ∨ k = 1 ∨ k = 2) with rfl | rfl | rfl
    · exact ⟨k0, k1⟩
    · exact ⟨k2, k3⟩
    · exact ⟨k4, k5⟩)
  have e : allB (fun k => [ax, bx, cx].getD k 0) (fun k => [ay, by', cy].getD k 0) 3 = q := by simp [allB, hq]
  rw [e] at h
  exact h
theorem c_gMayBe4 (ax ay bx by' cx cy dx dy : Int) (q : Bool) (hq : q = (nearB ax ay && nearB bx by' && nearB cx cy && nearB dx dy)) (b : Nat) (w : World) (hb : b < w.heap.size)
    (k0 : w.cell? ⟨b, 0, none⟩ = some (.int .i64 ax)) (k1 : w.cell? ⟨b, 1, none⟩ = some (.int .i64 ay)) (k2 : w.cell? ⟨b, 2, none⟩ = some (.int .i64 bx)) (k3 : w.cell? ⟨b, 3, none⟩ = some (.int .i64 by'))
    (k4 : w.cell? ⟨b, 4, none⟩ = some (.int .i64 cx)) (k5 : w.cell? ⟨b, 5, none⟩ = some (.int .i64 cy)) (k6 : w.cell? ⟨b, 6, none⟩ = some (.int .i64 dx)) (k7 : w.cell? ⟨b, 7, none⟩ = some (.int .i64 dy)) :
    Calls Tryd.prog 100 #[.slice (some ⟨b, 0, none⟩) 4 4] w fun e w' => e = .returned (.bool q) ∧ Gr w w' := by
  have h := c_gMayBe 4 (fun k => [ax, bx, cx, dx].getD k 0) (fun k => [ay, by', cy, dy].getD k 0) b w (by omega) hb (fun k hk => by
    rcases (by omega : k = 0 ∨ k = 1 ∨ k = 2 ∨ k = 3) with rfl | rfl | rfl | rfl
    · exact ⟨k0, k1⟩
    · exact ⟨k2, k3⟩
    · exact ⟨k4, k5⟩
    · exact ⟨k6, k7⟩)
  have e : allB (fun k => [ax, bx, cx, dx].getD k 0) (fun k => [ay, by', cy, dy].getD k 0) 4 = q := by simp [allB, hq]
  rw [e] at h
  exact h

/-- What 'on' answers. -/
def onC (ax ay bx by' px py : Int) : Bool := btw ax ay bx by' px py && (cmpZ (crossZ ax ay bx by' px py) 0 == 0)
set_option maxHeartbeats 1000000 in
set_option maxRecDepth 100000 in
theorem on_core (ax ay bx by' px py m1 m2 m3 m4 k : Int) (r : Bool) (W : World)
    (M1 : ∀ w, (Builtin.min_ #[3, 3] 3 #[.int .i64 ax, .int .i64 bx]).run Tryd.prog w = .ok (.int .i64 m1) w)
    (M2 : ∀ w, (Builtin.max_ #[3, 3] 3 #[.int .i64 ax, .int .i64 bx]).run Tryd.prog w = .ok (.int .i64 m2) w)
    (M3 : ∀ w, (Builtin.min_ #[3, 3] 3 #[.int .i64 ay, .int .i64 by']).run Tryd.prog w = .ok (.int .i64 m3) w)
    (M4 : ∀ w, (Builtin.max_ #[3, 3] 3 #[.int .i64 ay, .int .i64 by']).run Tryd.prog w = .ok (.int .i64 m4) w)
    (A1 : ∀ w, Calls Tryd.prog 35 #[.agg #[.int .i64 ax, .int .i64 ay], .agg #[.int .i64 bx, .int .i64 by'], .agg #[.int .i64 px, .int .i64 py]] w fun e w' => e = .returned (.int .i64 k) ∧ Gr w w')
    (hc : (¬ m1 ≤ px ∧ r = false) ∨ (m1 ≤ px ∧ ¬ px ≤ m2 ∧ r = false) ∨ (m1 ≤ px ∧ px ≤ m2 ∧ ¬ m3 ≤ py ∧ r = false) ∨ (m1 ≤ px ∧ px ≤ m2 ∧ m3 ≤ py ∧ ¬ py ≤ m4 ∧ r = false) ∨ (m1 ≤ px ∧ px ≤ m2 ∧ m3 ≤ py ∧ py ≤ m4 ∧ (k == 0) = r)) :
    Calls Tryd.prog 102 #[.agg #[.int .i64 ax, .int .i64 ay], .agg #[.int .i64 bx, .int .i64 by'], .agg #[.int .i64 px, .int .i64 py]] W fun e w' => e = .returned (.bool r) ∧ Gr W w' := by
  have H1 := Lib.hid A1
  clear A1
  rcases hc with ⟨a1, rfl⟩ | ⟨a1, a2, rfl⟩ | ⟨a1, a2, a3, rfl⟩ | ⟨a1, a2, a3, a4, rfl⟩ | ⟨a1, a2, a3, a4, a5⟩
  iterate 4
    · go_enter Tryd.func102, Tryd.ntmps102
      go_wp2_with fail
      go_ret
      exact ⟨rfl, by go_grown⟩
  · go_enter Tryd.func102, Tryd.ntmps102
    go_wp2_with fail
    go_at_call 35
    refine ((H1.out _)).mono ?_
    rintro e w1 ⟨rfl, hw1⟩
    have cw1_0_0 : w1.cell? ⟨W.heap.size, 0, none⟩ = some (.int .i64 ax) := cell_gr hw1 (by go_simp)
    have cw1_0_1 : w1.cell? ⟨W.heap.size, 1, none⟩ = some (.int .i64 ay) := cell_gr hw1 (by go_simp)
    have zw1_0 : W.heap.size < w1.heap.size := World.block_lt_of_cell? _ _ cw1_0_0
    have cw1_1_0 : w1.cell? ⟨W.heap.size + 1, 0, none⟩ = some (.int .i64 bx) := cell_gr hw1 (by go_simp)
    have cw1_1_1 : w1.cell? ⟨W.heap.size + 1, 1, none⟩ = some (.int .i64 by') := cell_gr hw1 (by go_simp)
    have zw1_1 : W.heap.size + 1 < w1.heap.size := World.block_lt_of_cell? _ _ cw1_1_0
    have cw1_2_0 : w1.cell? ⟨W.heap.size + 1 + 1, 0, none⟩ = some (.int .i64 px) := cell_gr hw1 (by go_simp)
    have cw1_2_1 : w1.cell? ⟨W.heap.size + 1 + 1, 1, none⟩ = some (.int .i64 py) := cell_gr hw1 (by go_simp)
    have zw1_2 : W.heap.size + 1 + 1 < w1.heap.size := World.block_lt_of_cell? _ _ cw1_2_0
    have gw1 : Gr W w1 := Gr.trans (by go_grown) hw1
    clear hw1
    go_wp2_with fail
    go_ret
    exact ⟨rfl, by go_grown⟩
theorem c_gon (ax ay bx by' px py : Int) (W : World) : Calls Tryd.prog 102 #[.agg #[.int .i64 ax, .int .i64 ay], .agg #[.int .i64 bx, .int .i64 by'], .agg #[.int .i64 px, .int .i64 py]] W fun e w' => e = .returned (.bool (onC ax ay bx by' px py)) ∧ Gr W w' := by
  refine on_core ax ay bx by' px py _ _ _ _ _ _ W (run_min _ _) (run_maxZ _ _) (run_min _ _) (run_maxZ _ _) (c_Orient ax ay bx by' px py) ?_
  unfold onC btw
  generalize minZ ax bx = m1
  generalize maxZ ax bx = m2
  generalize minZ ay by' = m3
  generalize maxZ ay by' = m4
  by_cases a1 : m1 ≤ px <;> by_cases a2 : px ≤ m2 <;> by_cases a3 : m3 ≤ py <;> by_cases a4 : py ≤ m4 <;> simp [a1, a2, a3, a4]
/-- Orient's answer. -/
def orZ (ax ay bx by' cx cy : Int) : Int := cmpZ (crossZ ax ay bx by' cx cy) 0
theorem orZ_cases (ax ay bx by' cx cy : Int) : orZ ax ay bx by' cx cy = -1 ∨ orZ ax ay bx by' cx cy = 0 ∨ orZ ax ay bx by' cx cy = 1 := by
  unfold orZ cmpZ; split <;> (try split) <;> simp
theorem mul3 {a b : Int} (ha : a = -1 ∨ a = 0 ∨ a = 1) (hb : b = -1 ∨ b = 0 ∨ b = 1) : a * b = 1 ∨ a * b = -1 ∨ a * b = 0 := by
  rcases ha with rfl | rfl | rfl <;> rcases hb with rfl | rfl | rfl <;> simp
set_option maxHeartbeats 1000000 in
set_option maxRecDepth 100000 in
theorem sides_core (ax ay bx by' cx cy dx dy k1 k2 p r : Int) (W : World) (e1 : wrap64 (k1 * k2) = p) (e2 : IntKind.i64.wrap (k1 * k2) = p) (hp : (p = 1 ∧ r = 0) ∨ (p = -1 ∧ r = 1) ∨ (p = 0 ∧ r = 2))
    (A1 : ∀ w, Calls Tryd.prog 35 #[.agg #[.int .i64 ax, .int .i64 ay], .agg #[.int .i64 bx, .int .i64 by'], .agg #[.int .i64 cx, .int .i64 cy]] w fun e w' => e = .returned (.int .i64 k1) ∧ Gr w w')
    (A2 : ∀ w, Calls Tryd.prog 35 #[.agg #[.int .i64 ax, .int .i64 ay], .agg #[.int .i64 bx, .int .i64 by'], .agg #[.int .i64 dx, .int .i64 dy]] w fun e w' => e = .returned (.int .i64 k2) ∧ Gr w w') :
    Calls Tryd.prog 101 #[.agg #[.int .i64 ax, .int .i64 ay], .agg #[.int .i64 bx, .int .i64 by'], .agg #[.int .i64 cx, .int .i64 cy], .agg #[.int .i64 dx, .int .i64 dy]] W fun e w' => e = .returned (.int .i64 r) ∧ Gr W w' := by
  have H1 := Lib.hid A1
  have H2 := Lib.hid A2
  clear A1 A2
  rcases hp with ⟨rfl, rfl⟩ | ⟨rfl, rfl⟩ | ⟨rfl, rfl⟩
  all_goals
    go_enter Tryd.func101, Tryd.ntmps101
    go_wp2_with fail
    generalize hhw0 : ((((W.alloc (.cells #[.int .i64 ax, .int .i64 ay] 30)).alloc (.cells #[.int .i64 bx, .int .i64 by'] 30)).alloc (.cells #[.int .i64 cx, .int .i64 cy] 30)).alloc (.cells #[.int .i64 dx, .int .i64 dy] 30)) = w0
    have cw0_0_0 : w0.cell? ⟨W.heap.size, 0, none⟩ = some (.int .i64 ax) := by subst hhw0; go_simp
    have cw0_0_1 : w0.cell? ⟨W.heap.size, 1, none⟩ = some (.int .i64 ay) := by subst hhw0; go_simp
    have zw0_0 : W.heap.size < w0.heap.size := World.block_lt_of_cell? _ _ cw0_0_0
    have cw0_1_0 : w0.cell? ⟨W.heap.size + 1, 0, none⟩ = some (.int .i64 bx) := by subst hhw0; go_simp
    have cw0_1_1 : w0.cell? ⟨W.heap.size + 1, 1, none⟩ = some (.int .i64 by') := by subst hhw0; go_simp
    have zw0_1 : W.heap.size + 1 < w0.heap.size := World.block_lt_of_cell? _ _ cw0_1_0
    have cw0_2_0 : w0.cell? ⟨W.heap.size + 1 + 1, 0, none⟩ = some (.int .i64 cx) := by subst hhw0; go_simp
    have cw0_2_1 : w0.cell? ⟨W.heap.size + 1 + 1, 1, none⟩ = some (.int .i64 cy) := by subst hhw0; go_simp
    have zw0_2 : W.heap.size + 1 + 1 < w0.heap.size := World.block_lt_of_cell? _ _ cw0_2_0
    have cw0_3_0 : w0.cell? ⟨W.heap.size + 1 + 1 + 1, 0, none⟩ = some (.int .i64 dx) := by subst hhw0; go_simp
    have cw0_3_1 : w0.cell? ⟨W.heap.size + 1 + 1 + 1, 1, none⟩ = some (.int .i64 dy) := by subst hhw0; go_simp
    have zw0_3 : W.heap.size + 1 + 1 + 1 < w0.heap.size := World.block_lt_of_cell? _ _ cw0_3_0
    have gw0 : Gr W w0 := by subst hhw0; go_grown
    clear hhw0
    refine wp_region_spread (by kernel_rfl) (by kernel_rfl) ?_
    try simp only [List.append]
    repeat (first | go_big_quiet_skip | (go_big_quiet_want; go_big_quiet_op; (first | go_big_quiet_on | (apply Exists.intro; refine ⟨fun _ => ?_, ?_⟩; (· (first | (go_at_call 35; first | ((with_reducible refine ((H1.out _)).mono ?_); rintro e w' ⟨rfl, hg⟩; exact ⟨rfl, spread_gr hg⟩) | ((with_reducible refine ((H2.out _)).mono ?_); rintro e w' ⟨rfl, hg⟩; exact ⟨rfl, spread_gr hg⟩)))); go_big_quiet_on))))
    refine wpQuiet_nil ?_
    intro wr hr
    obtain ⟨mr, rfl⟩ := hr
    go_wp2_with fail
    go_ret
    exact ⟨rfl, Gr.trans (by have gg := gw0; have gs := gg.size; go_grown) (gr_spread _ _)⟩
theorem c_sides (ax ay bx by' cx cy dx dy : Int) (W : World) : Calls Tryd.prog 101 #[.agg #[.int .i64 ax, .int .i64 ay], .agg #[.int .i64 bx, .int .i64 by'], .agg #[.int .i64 cx, .int .i64 cy], .agg #[.int .i64 dx, .int .i64 dy]] W fun e w' => e = .returned (.int .i64 (sdZ (orZ ax ay bx by' cx cy * orZ ax ay bx by' dx dy))) ∧ Gr W w' := by
  have h := mul3 (orZ_cases ax ay bx by' cx cy) (orZ_cases ax ay bx by' dx dy)
  refine sides_core ax ay bx by' cx cy dx dy _ _ _ _ W (IntWalk.wrap64_in _ (by unfold orZ at h; omega)) (IntWalk.i64_in _ (by unfold orZ at h; omega)) ?_ (c_Orient ax ay bx by' cx cy) (c_Orient ax ay bx by' dx dy)
  unfold orZ sdZ at *
  rcases h with h | h | h <;> rw [h] <;> simp
set_option maxHeartbeats 1000000 in
set_option maxRecDepth 100000 in
theorem apart_core (ax ay bx by' cx cy dx dy m1 m2 m3 m4 n1 n2 n3 n4 : Int) (r : Bool) (W : World)
    (M1 : ∀ w, (Builtin.max_ #[3, 3] 3 #[.int .i64 ax, .int .i64 bx]).run Tryd.prog w = .ok (.int .i64 m1) w)
    (M2 : ∀ w, (Builtin.min_ #[3, 3] 3 #[.int .i64 cx, .int .i64 dx]).run Tryd.prog w = .ok (.int .i64 m2) w)
    (M3 : ∀ w, (Builtin.max_ #[3, 3] 3 #[.int .i64 cx, .int .i64 dx]).run Tryd.prog w = .ok (.int .i64 m3) w)
    (M4 : ∀ w, (Builtin.min_ #[3, 3] 3 #[.int .i64 ax, .int .i64 bx]).run Tryd.prog w = .ok (.int .i64 m4) w)
    (N1 : ∀ w, (Builtin.max_ #[3, 3] 3 #[.int .i64 ay, .int .i64 by']).run Tryd.prog w = .ok (.int .i64 n1) w)
    (N2 : ∀ w, (Builtin.min_ #[3, 3] 3 #[.int .i64 cy, .int .i64 dy]).run Tryd.prog w = .ok (.int .i64 n2) w)
    (N3 : ∀ w, (Builtin.max_ #[3, 3] 3 #[.int .i64 cy, .int .i64 dy]).run Tryd.prog w = .ok (.int .i64 n3) w)
    (N4 : ∀ w, (Builtin.min_ #[3, 3] 3 #[.int .i64 ay, .int .i64 by']).run Tryd.prog w = .ok (.int .i64 n4) w)
    (hc : (m1 < m2 ∧ r = true) ∨ (¬ m1 < m2 ∧ m3 < m4 ∧ r = true) ∨ (¬ m1 < m2 ∧ ¬ m3 < m4 ∧ n1 < n2 ∧ r = true) ∨ (¬ m1 < m2 ∧ ¬ m3 < m4 ∧ ¬ n1 < n2 ∧ n3 < n4 ∧ r = true) ∨ (¬ m1 < m2 ∧ ¬ m3 < m4 ∧ ¬ n1 < n2 ∧ ¬ n3 < n4 ∧ r = false)) :
    Calls Tryd.prog 99 #[.agg #[.int .i64 ax, .int .i64 ay], .agg #[.int .i64 bx, .int .i64 by'], .agg #[.int .i64 cx, .int .i64 cy], .agg #[.int .i64 dx, .int .i64 dy]] W fun e w' => e = .returned (.bool r) ∧ Gr W w' := by
  rcases hc with ⟨a1, rfl⟩ | ⟨a1, a2, rfl⟩ | ⟨a1, a2, a3, rfl⟩ | ⟨a1, a2, a3, a4, rfl⟩ | ⟨a1, a2, a3, a4, rfl⟩
  all_goals
    go_enter Tryd.func99, Tryd.ntmps99
    go_wp2_with fail
    go_ret
    exact ⟨by first | rfl | simp [a4], by go_grown⟩
theorem c_apart (ax ay bx by' cx cy dx dy : Int) (W : World) : Calls Tryd.prog 99 #[.agg #[.int .i64 ax, .int .i64 ay], .agg #[.int .i64 bx, .int .i64 by'], .agg #[.int .i64 cx, .int .i64 cy], .agg #[.int .i64 dx, .int .i64 dy]] W fun e w' => e = .returned (.bool (apF ax ay bx by' cx cy dx dy)) ∧ Gr W w' := by
  refine apart_core ax ay bx by' cx cy dx dy _ _ _ _ _ _ _ _ _ W (run_maxZ _ _) (run_min _ _) (run_maxZ _ _) (run_min _ _) (run_maxZ _ _) (run_min _ _) (run_maxZ _ _) (run_min _ _) ?_
  unfold apF
  generalize maxZ ax bx = m1
  generalize minZ cx dx = m2
  generalize maxZ cx dx = m3
  generalize minZ ax bx = m4
  generalize maxZ ay by' = n1
  generalize minZ cy dy = n2
  generalize maxZ cy dy = n3
  generalize minZ ay by' = n4
  by_cases a1 : m1 < m2 <;> by_cases a2 : m3 < m4 <;> by_cases a3 : n1 < n2 <;> by_cases a4 : n3 < n4 <;> simp [a1, a2, a3, a4]
/-- On's answer, of any points. -/
def onG (ax ay bx by' px py : Int) : Bool := (nearB ax ay && nearB bx by' && nearB px py) && onF ax ay bx by' px py
theorem onC_eq {ax ay bx by' px py : Int} (h : (nearB ax ay && nearB bx by' && nearB px py) = true) : onC ax ay bx by' px py = onF ax ay bx by' px py := by
  unfold onC onF sg cr crossZ
  rw [if_pos h]
set_option maxHeartbeats 1000000 in
set_option maxRecDepth 100000 in
theorem gOn_core (ax ay bx by' px py : Int) (q o r : Bool) (W : World) (hc : (q = false ∧ r = false) ∨ (q = true ∧ r = o))
    (A1 : ∀ b w, b < w.heap.size → w.cell? ⟨b, 0, none⟩ = some (.int .i64 ax) → w.cell? ⟨b, 1, none⟩ = some (.int .i64 ay) → w.cell? ⟨b, 2, none⟩ = some (.int .i64 bx) → w.cell? ⟨b, 3, none⟩ = some (.int .i64 by') → w.cell? ⟨b, 4, none⟩ = some (.int .i64 px) → w.cell? ⟨b, 5, none⟩ = some (.int .i64 py) →
      Calls Tryd.prog 100 #[.slice (some ⟨b, 0, none⟩) 3 3] w fun e w' => e = .returned (.bool q) ∧ Gr w w')
    (A2 : ∀ w, Calls Tryd.prog 102 #[.agg #[.int .i64 ax, .int .i64 ay], .agg #[.int .i64 bx, .int .i64 by'], .agg #[.int .i64 px, .int .i64 py]] w fun e w' => e = .returned (.bool o) ∧ Gr w w') :
    Calls Tryd.prog 98 #[.agg #[.int .i64 ax, .int .i64 ay], .agg #[.int .i64 bx, .int .i64 by'], .agg #[.int .i64 px, .int .i64 py]] W fun e w' => e = .returned (.bool r) ∧ Gr W w' := by
  have H1 := Lib.hid A1
  have H2 := Lib.hid A2
  clear A1 A2
  rcases hc with ⟨rfl, rfl⟩ | ⟨rfl, rfl⟩
  · go_enter Tryd.func98, Tryd.ntmps98
    go_wp2_with fail
    go_at_call 100
    refine ((H1.out _ _ (by go_simp) (by go_simp) (by go_simp) (by go_simp) (by go_simp) (by go_simp) (by go_simp))).mono ?_
    rintro e w1 ⟨rfl, hw1⟩
    have cw1_0_0 : w1.cell? ⟨W.heap.size, 0, none⟩ = some (.int .i64 ax) := cell_gr hw1 (by go_simp)
    have cw1_0_1 : w1.cell? ⟨W.heap.size, 1, none⟩ = some (.int .i64 ay) := cell_gr hw1 (by go_simp)
    have zw1_0 : W.heap.size < w1.heap.size := World.block_lt_of_cell? _ _ cw1_0_0
    have cw1_1_0 : w1.cell? ⟨W.heap.size + 1, 0, none⟩ = some (.int .i64 bx) := cell_gr hw1 (by go_simp)
    have cw1_1_1 : w1.cell? ⟨W.heap.size + 1, 1, none⟩ = some (.int .i64 by') := cell_gr hw1 (by go_simp)
    have zw1_1 : W.heap.size + 1 < w1.heap.size := World.block_lt_of_cell? _ _ cw1_1_0
    have cw1_2_0 : w1.cell? ⟨W.heap.size + 1 + 1, 0, none⟩ = some (.int .i64 px) := cell_gr hw1 (by go_simp)
    have cw1_2_1 : w1.cell? ⟨W.heap.size + 1 + 1, 1, none⟩ = some (.int .i64 py) := cell_gr hw1 (by go_simp)
    have zw1_2 : W.heap.size + 1 + 1 < w1.heap.size := World.block_lt_of_cell? _ _ cw1_2_0
    have gw1 : Gr W w1 := Gr.trans (by go_grown) hw1
    clear hw1
    go_wp2_with fail
    go_ret
    exact ⟨rfl, by go_grown⟩
  · go_enter Tryd.func98, Tryd.ntmps98
    go_wp2_with fail
    go_at_call 100
    refine ((H1.out _ _ (by go_simp) (by go_simp) (by go_simp) (by go_simp) (by go_simp) (by go_simp) (by go_simp))).mono ?_
    rintro e w1 ⟨rfl, hw1⟩
    have cw1_0_0 : w1.cell? ⟨W.heap.size, 0, none⟩ = some (.int .i64 ax) := cell_gr hw1 (by go_simp)
    have cw1_0_1 : w1.cell? ⟨W.heap.size, 1, none⟩ = some (.int .i64 ay) := cell_gr hw1 (by go_simp)
    have zw1_0 : W.heap.size < w1.heap.size := World.block_lt_of_cell? _ _ cw1_0_0
    have cw1_1_0 : w1.cell? ⟨W.heap.size + 1, 0, none⟩ = some (.int .i64 bx) := cell_gr hw1 (by go_simp)
    have cw1_1_1 : w1.cell? ⟨W.heap.size + 1, 1, none⟩ = some (.int .i64 by') := cell_gr hw1 (by go_simp)
    have zw1_1 : W.heap.size + 1 < w1.heap.size := World.block_lt_of_cell? _ _ cw1_1_0
    have cw1_2_0 : w1.cell? ⟨W.heap.size + 1 + 1, 0, none⟩ = some (.int .i64 px) := cell_gr hw1 (by go_simp)
    have cw1_2_1 : w1.cell? ⟨W.heap.size + 1 + 1, 1, none⟩ = some (.int .i64 py) := cell_gr hw1 (by go_simp)
    have zw1_2 : W.heap.size + 1 + 1 < w1.heap.size := World.block_lt_of_cell? _ _ cw1_2_0
    have gw1 : Gr W w1 := Gr.trans (by go_grown) hw1
    clear hw1
    go_wp2_with fail
    go_at_call 102
    refine ((H2.out _)).mono ?_
    rintro e w2 ⟨rfl, hw2⟩
    have cw2_0_0 : w2.cell? ⟨W.heap.size, 0, none⟩ = some (.int .i64 ax) := cell_gr hw2 (by go_simp)
    have cw2_0_1 : w2.cell? ⟨W.heap.size, 1, none⟩ = some (.int .i64 ay) := cell_gr hw2 (by go_simp)
    have zw2_0 : W.heap.size < w2.heap.size := World.block_lt_of_cell? _ _ cw2_0_0
    have cw2_1_0 : w2.cell? ⟨W.heap.size + 1, 0, none⟩ = some (.int .i64 bx) := cell_gr hw2 (by go_simp)
    have cw2_1_1 : w2.cell? ⟨W.heap.size + 1, 1, none⟩ = some (.int .i64 by') := cell_gr hw2 (by go_simp)
    have zw2_1 : W.heap.size + 1 < w2.heap.size := World.block_lt_of_cell? _ _ cw2_1_0
    have cw2_2_0 : w2.cell? ⟨W.heap.size + 1 + 1, 0, none⟩ = some (.int .i64 px) := cell_gr hw2 (by go_simp)
    have cw2_2_1 : w2.cell? ⟨W.heap.size + 1 + 1, 1, none⟩ = some (.int .i64 py) := cell_gr hw2 (by go_simp)
    have zw2_2 : W.heap.size + 1 + 1 < w2.heap.size := World.block_lt_of_cell? _ _ cw2_2_0
    have gw2 : Gr W w2 := Gr.trans (by have gg := gw1; have gs := gg.size; go_grown) hw2
    clear hw2 gw1 zw1_0 cw1_0_0 cw1_0_1 zw1_1 cw1_1_0 cw1_1_1 zw1_2 cw1_2_0 cw1_2_1
    go_wp2_with fail
    go_ret
    exact ⟨rfl, by go_grown⟩
theorem c_gOn (ax ay bx by' px py : Int) (W : World) : Calls Tryd.prog 98 #[.agg #[.int .i64 ax, .int .i64 ay], .agg #[.int .i64 bx, .int .i64 by'], .agg #[.int .i64 px, .int .i64 py]] W fun e w' => e = .returned (.bool (onG ax ay bx by' px py)) ∧ Gr W w' := by
  refine gOn_core ax ay bx by' px py _ _ _ W ?_ (fun b w => c_gMayBe3 ax ay bx by' px py _ rfl b w) (c_gon ax ay bx by' px py)
  unfold onG
  cases h : (nearB ax ay && nearB bx by' && nearB px py)
  · exact Or.inl ⟨rfl, rfl⟩
  · exact Or.inr ⟨rfl, by rw [onC_eq h]; rfl⟩
end Go.Proofs.YtogflfepkddbhaaDoor
