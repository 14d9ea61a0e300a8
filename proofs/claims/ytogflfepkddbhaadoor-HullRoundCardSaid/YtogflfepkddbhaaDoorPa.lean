/- plane: points that may be, and what turns on them; plane: Cross, Orient, Square; plane: Orient, Square, boxes; plane: what turns on boxes; plane: Dist; what the document fixes; PlaneTurns; the document's own boxes; PlaneMeets; points, boxes and distances: what holds of them; PlaneSquares; plane: join, Union of two, Area, Grow -/
import Derived.Test.YtogflfepkddbhaaDoorK
import Derived.Test.YtogflfepkddbhaaDoorH
namespace Go.Proofs.YtogflfepkddbhaaDoor
set_option linter.unusedVariables false
open Go.ChangeShapes Go.WideShapes Go.ChangeAt Go.RowKit

/-- A point that may be. -/
def nearB (x y : Int) : Bool := decide (-1073741823 ≤ x) && decide (x ≤ 1073741823) && decide (-1073741823 ≤ y) && decide (y ≤ 1073741823)
theorem nearB_iff {x y : Int} : nearB x y = true ↔ -1073741823 ≤ x ∧ x ≤ 1073741823 ∧ -1073741823 ≤ y ∧ y ≤ 1073741823 := by
  unfold nearB; simp [and_assoc]

theorem c_near (x y : Int) (w : World) :
    Calls Tryd.prog 68 #[.agg #[.int .i64 x, .int .i64 y]] w fun e w' => e = .returned (.bool (nearB x y)) ∧ Gr w w' := by
  by_cases h1 : -1073741823 ≤ x
  · by_cases h2 : x ≤ 1073741823
    · by_cases h3 : -1073741823 ≤ y
      · by_cases h4 : y ≤ 1073741823
        · have e : nearB x y = true := nearB_iff.2 ⟨h1, h2, h3, h4⟩
          rw [e]
          go_enter Tryd.func68, Tryd.ntmps68
          go_wp2
          go_ret
          exact ⟨rfl, by go_grown⟩
        · have e : nearB x y = false := by unfold nearB; simp [h4]
          rw [e]
          go_enter Tryd.func68, Tryd.ntmps68
          go_wp2
          go_ret
          exact ⟨rfl, by go_grown⟩
      · have e : nearB x y = false := by unfold nearB; simp [h3]
        rw [e]
        go_enter Tryd.func68, Tryd.ntmps68
        go_wp2
        go_ret
        exact ⟨rfl, by go_grown⟩
    · have e : nearB x y = false := by unfold nearB; simp [h2]
      rw [e]
      go_enter Tryd.func68, Tryd.ntmps68
      go_wp2
      go_ret
      exact ⟨rfl, by go_grown⟩
  · have e : nearB x y = false := by unfold nearB; simp [h1]
    rw [e]
    go_enter Tryd.func68, Tryd.ntmps68
    go_wp2
    go_ret
    exact ⟨rfl, by go_grown⟩

/-- All of n points may be. -/
def allB (X Y : Nat → Int) : Nat → Bool
  | 0 => true
  | n + 1 => allB X Y n && nearB (X n) (Y n)
theorem allB_iff (X Y : Nat → Int) (n : Nat) : allB X Y n = true ↔ ∀ k, k < n → nearB (X k) (Y k) = true := by
  induction n with
  | zero => simp [allB]
  | succ n ih =>
    simp only [allB, Bool.and_eq_true, ih]
    constructor
    · rintro ⟨h1, h2⟩ k hk
      rcases Nat.lt_succ_iff_lt_or_eq.1 hk with h | rfl
      · exact h1 k h
      · exact h2
    · intro h
      exact ⟨fun k hk => h k (by omega), h n (by omega)⟩

theorem c_allNear (n : Nat) (X Y : Nat → Int) (b : Nat) (w : World) (hn : n ≤ 100) (hb : b < w.heap.size)
    (hc : ∀ k, k < n → w.cell? ⟨b, k * 2, none⟩ = some (.int .i64 (X k)) ∧ w.cell? ⟨b, k * 2 + 1, none⟩ = some (.int .i64 (Y k))) :
    Calls Tryd.prog 82 #[.slice (some ⟨b, 0, none⟩) n n] w fun e w' => e = .returned (.bool (allB X Y n)) ∧ Gr w w' := by
  go_enter Tryd.func82, Tryd.ntmps82
  go_wp2_with fail
  go_loopg [7] n (fun k v wr => ∃ i : Nat, i ≤ n ∧ k = n - i ∧ v = .int .i64 i ∧ allB X Y i = true ∧ Gr w wr)
  case atStart => exact ⟨0, by omega, by omega, rfl, rfl, Gr.of_eq rfl⟩
  case round =>
    obtain ⟨i, hi, hk, rfl, hall, hg⟩ := hrel
    by_cases h : i < n
    · have ti : decide ((i : Int) < (n : Int)) = true := decide_eq_true (by omega)
      have ti2 : decide (i < n) = true := decide_eq_true h
      have c0 := cell_gr hg (hc i h).1
      have c1 := cell_gr hg (hc i h).2
      obtain ⟨q, hq⟩ : ∃ q, q = nearB (X i) (Y i) := ⟨_, rfl⟩
      have hN := Lib.hid (c_near (X i) (Y i))
      rw [← hq] at hN
      cases q
      · have e : allB X Y n = false := by
          rw [← Bool.not_eq_true, allB_iff]
          intro H
          rw [H i h] at hq
          cases hq
        have HE := Lib.hid e
        clear hall e hq hc
        go_wp2_with (go_at_call 68; (with_reducible refine (hN.out _).mono ?_); rintro e w' ⟨rfl, hg1⟩)
        go_ret
        exact ⟨by rw [HE.out]; rfl, Gr.trans (Gr.trans hg (by go_grown)) hg1⟩
      · have e : allB X Y (i + 1) = true := by simp only [allB, hall, ← hq]; rfl
        have HE := Lib.hid e
        clear hall e hq hc
        go_wp2_with (go_at_call 68; (with_reducible refine (hN.out _).mono ?_); rintro e w' ⟨rfl, hg1⟩)
        go_roundg (n - (i + 1))
        case measure => omega
        case rel => exact ⟨i + 1, by omega, rfl, by go_num, HE.out, Gr.trans (Gr.trans hg (by go_grown)) hg1⟩
    · have e : i = n := by omega
      subst e
      go_wp2_with fail
      go_ret
      exact ⟨by simp [hall], hg⟩
end Go.Proofs.YtogflfepkddbhaaDoor
namespace Go.Proofs.YtogflfepkddbhaaDoor
set_option linter.unusedVariables false
open Go.ChangeShapes Go.WideShapes Go.ChangeAt Go.RowKit

theorem mul_near {x y : Int} (hx : -2147483646 ≤ x ∧ x ≤ 2147483646) (hy : -2147483646 ≤ y ∧ y ≤ 2147483646) : -4611686009837453316 ≤ x * y ∧ x * y ≤ 4611686009837453316 := by
  have h1 : x.natAbs * y.natAbs ≤ 2147483646 * 2147483646 := Nat.mul_le_mul (by omega) (by omega)
  have h2 : (x * y).natAbs = x.natAbs * y.natAbs := Int.natAbs_mul x y
  omega
/-- Cross's answer. -/
def crossZ (ax ay bx by' cx cy : Int) : Int := if nearB ax ay && nearB bx by' && nearB cx cy then (bx - ax) * (cy - ay) - (by' - ay) * (cx - ax) else 0

theorem c_rPoint (x y : Int) (w : World) :
    Calls Tryd.prog 19 #[.agg #[.int .i64 x, .int .i64 y]] w fun e w' => e = .returned (.bool (nearB x y)) ∧ Gr w w' := by
  by_cases h1 : -1073741823 ≤ x
  · by_cases h2 : x ≤ 1073741823
    · by_cases h3 : -1073741823 ≤ y
      · by_cases h4 : y ≤ 1073741823
        · have e : nearB x y = true := nearB_iff.2 ⟨h1, h2, h3, h4⟩
          rw [e]
          go_enter Tryd.func19, Tryd.ntmps19
          go_wp2
          go_ret
          exact ⟨rfl, by go_grown⟩
        · have e : nearB x y = false := by unfold nearB; simp [h4]
          rw [e]
          go_enter Tryd.func19, Tryd.ntmps19
          go_wp2
          go_ret
          exact ⟨rfl, by go_grown⟩
      · have e : nearB x y = false := by unfold nearB; simp [h3]
        rw [e]
        go_enter Tryd.func19, Tryd.ntmps19
        go_wp2
        go_ret
        exact ⟨rfl, by go_grown⟩
    · have e : nearB x y = false := by unfold nearB; simp [h2]
      rw [e]
      go_enter Tryd.func19, Tryd.ntmps19
      go_wp2
      go_ret
      exact ⟨rfl, by go_grown⟩
  · have e : nearB x y = false := by unfold nearB; simp [h1]
    rw [e]
    go_enter Tryd.func19, Tryd.ntmps19
    go_wp2
    go_ret
    exact ⟨rfl, by go_grown⟩

/-- cmp.Compare's answer. -/
def cmpZ (a b : Int) : Int := if a < b then -1 else if b < a then 1 else 0
theorem cmpZ_lt {a b : Int} (h : a < b) : cmpZ a b = -1 := if_pos h
theorem cmpZ_gt {a b : Int} (h : b < a) : cmpZ a b = 1 := by unfold cmpZ; rw [if_neg (by omega), if_pos h]
theorem cmpZ_eq (a : Int) : cmpZ a a = 0 := by unfold cmpZ; simp
theorem c_cmpInt (a b : Int) (w : World) :
    Calls Tryd.prog 29 #[.int .i64 a, .int .i64 b] w fun e w' => e = .returned (.int .i64 (cmpZ a b)) ∧ Gr w w' := by
  rcases Int.lt_trichotomy a b with h | h | h
  · rw [cmpZ_lt h]
    have h2 : ¬ b < a := by omega
    go_enter Tryd.func29, Tryd.ntmps29
    go_wp2
    go_ret
    exact ⟨rfl, by go_grown⟩
  · subst h
    rw [cmpZ_eq]
    go_enter Tryd.func29, Tryd.ntmps29
    go_wp2
    go_ret
    exact ⟨rfl, by go_grown⟩
  · rw [cmpZ_gt h]
    have h2 : ¬ a < b := by omega
    go_enter Tryd.func29, Tryd.ntmps29
    go_wp2
    go_ret
    exact ⟨rfl, by go_grown⟩

theorem c_allNear2 (ax ay bx by' : Int) (b : Nat) (w : World) (hb : b < w.heap.size)
    (k0 : w.cell? ⟨b, 0, none⟩ = some (.int .i64 ax)) (k1 : w.cell? ⟨b, 1, none⟩ = some (.int .i64 ay)) (k2 : w.cell? ⟨b, 2, none⟩ = some (.int .i64 bx)) (k3 : w.cell? ⟨b, 3, none⟩ = some (.int .i64 by')) :
    Calls Tryd.prog 82 #[.slice (some ⟨b, 0, none⟩) 2 2] w fun e w' => e = .returned (.bool (nearB ax ay && nearB bx by')) ∧ Gr w w' := by
  have h := c_allNear 2 (fun k => [ax, bx].getD k 0) (fun k => [ay, by'].getD k 0) b w (by omega) hb (fun k hk => by
    rcases (by omega : k = 0 ∨ k = 1) with rfl | rfl
    · exact ⟨k0, k1⟩
    · exact ⟨k2, k3⟩)
  have e : allB (fun k => [ax, bx].getD k 0) (fun k => [ay, by'].getD k 0) 2 = (nearB ax ay && nearB bx by') := by simp [allB]
  rw [e] at h
  exact h
theorem c_allNear3 (ax ay bx by' cx cy : Int) (b : Nat) (w : World) (hb : b < w.heap.size)
    (k0 : w.cell? ⟨b, 0, none⟩ = some (.int .i64 ax)) (k1 : w.cell? ⟨b, 1, none⟩ = some (.int .i64 ay)) (k2 : w.cell? ⟨b, 2, none⟩ = some (.int .i64 bx)) (k3 : w.cell? ⟨b, 3, none⟩ = some (.int .i64 by'))
    (k4 : w.cell? ⟨b, 4, none⟩ = some (.int .i64 cx)) (k5 : w.cell? ⟨b, 5, none⟩ = some (.int .i64 cy)) :
    Calls Tryd.prog 82 #[.slice (some ⟨b, 0, none⟩) 3 3] w fun e w' => e = .returned (.bool (nearB ax ay && nearB bx by' && nearB cx cy)) ∧ Gr w w' := by
  have h := c_allNear 3 (fun k => [ax, bx, cx].getD k 0) (fun k => [ay, by', cy].getD k 0) b w (by omega) hb (fun k hk => by
    rcases (by omega : k = 0 ∨ k = 1 ∨ k = 2) with rfl | rfl | rfl
    · exact ⟨k0, k1⟩
    · exact ⟨k2, k3⟩
    · exact ⟨k4, k5⟩)
  have e : allB (fun k => [ax, bx, cx].getD k 0) (fun k => [ay, by', cy].getD k 0) 3 = (nearB ax ay && nearB bx by' && nearB cx cy) := by simp [allB]
  rw [e] at h
  exact h

set_option maxRecDepth 100000 in
theorem c_Cross (ax ay bx by' cx cy : Int) (W : World) :
    Calls Tryd.prog 54 #[.agg #[.int .i64 ax, .int .i64 ay], .agg #[.int .i64 bx, .int .i64 by'], .agg #[.int .i64 cx, .int .i64 cy]] W fun e w' => e = .returned (.int .i64 (crossZ ax ay bx by' cx cy)) ∧ Gr W w' := by
  obtain ⟨q, hq⟩ : ∃ q, q = (nearB ax ay && nearB bx by' && nearB cx cy) := ⟨_, rfl⟩
  have HA : ∀ b w, b < w.heap.size → w.cell? ⟨b, 0, none⟩ = some (.int .i64 ax) → w.cell? ⟨b, 1, none⟩ = some (.int .i64 ay) → w.cell? ⟨b, 2, none⟩ = some (.int .i64 bx) → w.cell? ⟨b, 3, none⟩ = some (.int .i64 by') → w.cell? ⟨b, 4, none⟩ = some (.int .i64 cx) → w.cell? ⟨b, 5, none⟩ = some (.int .i64 cy) →
      Calls Tryd.prog 82 #[.slice (some ⟨b, 0, none⟩) 3 3] w fun e w' => e = .returned (.bool q) ∧ Gr w w' := fun b w hb k0 k1 k2 k3 k4 k5 => by
    rw [hq]
    exact c_allNear3 ax ay bx by' cx cy b w hb k0 k1 k2 k3 k4 k5
  have H := Lib.hid HA
  clear HA
  unfold crossZ
  rw [← hq]
  cases q
  · clear hq
    go_enter Tryd.func54, Tryd.ntmps54
    go_wp2_with fail
    go_at_call 82
    refine ((H.out _ _ (by go_simp) (by go_simp) (by go_simp) (by go_simp) (by go_simp) (by go_simp) (by go_simp))).mono ?_
    rintro e w1 ⟨rfl, hw1⟩
    have cw1_0_0 : w1.cell? ⟨W.heap.size, 0, none⟩ = some (.int .i64 ax) := cell_gr hw1 (by go_simp)
    have cw1_0_1 : w1.cell? ⟨W.heap.size, 1, none⟩ = some (.int .i64 ay) := cell_gr hw1 (by go_simp)
    have zw1_0 : W.heap.size < w1.heap.size := World.block_lt_of_cell? _ _ cw1_0_0
    have cw1_1_0 : w1.cell? ⟨W.heap.size + 1, 0, none⟩ = some (.int .i64 bx) := cell_gr hw1 (by go_simp)
    have cw1_1_1 : w1.cell? ⟨W.heap.size + 1, 1, none⟩ = some (.int .i64 by') := cell_gr hw1 (by go_simp)
    have zw1_1 : W.heap.size + 1 < w1.heap.size := World.block_lt_of_cell? _ _ cw1_1_0
    have cw1_2_0 : w1.cell? ⟨W.heap.size + 1 + 1, 0, none⟩ = some (.int .i64 cx) := cell_gr hw1 (by go_simp)
    have cw1_2_1 : w1.cell? ⟨W.heap.size + 1 + 1, 1, none⟩ = some (.int .i64 cy) := cell_gr hw1 (by go_simp)
    have zw1_2 : W.heap.size + 1 + 1 < w1.heap.size := World.block_lt_of_cell? _ _ cw1_2_0
    have gw1 : Gr W w1 := Gr.trans (by go_grown) hw1
    clear hw1
    go_wp2_with fail
    go_ret
    exact ⟨rfl, by go_grown⟩
  · have hq' : (nearB ax ay = true ∧ nearB bx by' = true) ∧ nearB cx cy = true := by simpa using hq.symm
    have n1 := nearB_iff.1 hq'.1.1
    have n2 := nearB_iff.1 hq'.1.2
    have n3 := nearB_iff.1 hq'.2
    have m1 := mul_near (x := bx - ax) (y := cy - ay) (by omega) (by omega)
    have m2 := mul_near (x := by' - ay) (y := cx - ax) (by omega) (by omega)
    obtain ⟨p1, hp1⟩ : ∃ p, p = (bx - ax) * (cy - ay) := ⟨_, rfl⟩
    obtain ⟨p2, hp2⟩ : ∃ p, p = (by' - ay) * (cx - ax) := ⟨_, rfl⟩
    rw [← hp1] at m1
    rw [← hp2] at m2
    have e1 : wrap64 (bx - ax) = bx - ax := IntWalk.wrap64_in _ (by omega)
    have e2 : wrap64 (cy - ay) = cy - ay := IntWalk.wrap64_in _ (by omega)
    have e3 : wrap64 (by' - ay) = by' - ay := IntWalk.wrap64_in _ (by omega)
    have e4 : wrap64 (cx - ax) = cx - ax := IntWalk.wrap64_in _ (by omega)
    have e5 : wrap64 ((bx - ax) * (cy - ay)) = p1 := by rw [← hp1]; exact IntWalk.wrap64_in _ (by omega)
    have e6 : wrap64 ((by' - ay) * (cx - ax)) = p2 := by rw [← hp2]; exact IntWalk.wrap64_in _ (by omega)
    have e7 : wrap64 (p1 - p2) = p1 - p2 := IntWalk.wrap64_in _ (by omega)
    have f1 : IntKind.i64.wrap (bx - ax) = bx - ax := IntWalk.i64_in _ (by omega)
    have f2 : IntKind.i64.wrap (cy - ay) = cy - ay := IntWalk.i64_in _ (by omega)
    have f3 : IntKind.i64.wrap (by' - ay) = by' - ay := IntWalk.i64_in _ (by omega)
    have f4 : IntKind.i64.wrap (cx - ax) = cx - ax := IntWalk.i64_in _ (by omega)
    have f5 : IntKind.i64.wrap ((bx - ax) * (cy - ay)) = p1 := by rw [← hp1]; exact IntWalk.i64_in _ (by omega)
    have f6 : IntKind.i64.wrap ((by' - ay) * (cx - ax)) = p2 := by rw [← hp2]; exact IntWalk.i64_in _ (by omega)
    have f7 : IntKind.i64.wrap (p1 - p2) = p1 - p2 := IntWalk.i64_in _ (by omega)
    rw [← hp1, ← hp2]
    clear hq hq' n1 n2 n3 m1 m2 hp1 hp2
    go_enter Tryd.func54, Tryd.ntmps54
    go_wp2_with fail
    go_at_call 82
    refine ((H.out _ _ (by go_simp) (by go_simp) (by go_simp) (by go_simp) (by go_simp) (by go_simp) (by go_simp))).mono ?_
    rintro e w1 ⟨rfl, hw1⟩
    have cw1_0_0 : w1.cell? ⟨W.heap.size, 0, none⟩ = some (.int .i64 ax) := cell_gr hw1 (by go_simp)
    have cw1_0_1 : w1.cell? ⟨W.heap.size, 1, none⟩ = some (.int .i64 ay) := cell_gr hw1 (by go_simp)
    have zw1_0 : W.heap.size < w1.heap.size := World.block_lt_of_cell? _ _ cw1_0_0
    have cw1_1_0 : w1.cell? ⟨W.heap.size + 1, 0, none⟩ = some (.int .i64 bx) := cell_gr hw1 (by go_simp)
    have cw1_1_1 : w1.cell? ⟨W.heap.size + 1, 1, none⟩ = some (.int .i64 by') := cell_gr hw1 (by go_simp)
    have zw1_1 : W.heap.size + 1 < w1.heap.size := World.block_lt_of_cell? _ _ cw1_1_0
    have cw1_2_0 : w1.cell? ⟨W.heap.size + 1 + 1, 0, none⟩ = some (.int .i64 cx) := cell_gr hw1 (by go_simp)
    have cw1_2_1 : w1.cell? ⟨W.heap.size + 1 + 1, 1, none⟩ = some (.int .i64 cy) := cell_gr hw1 (by go_simp)
    have zw1_2 : W.heap.size + 1 + 1 < w1.heap.size := World.block_lt_of_cell? _ _ cw1_2_0
    have gw1 : Gr W w1 := Gr.trans (by go_grown) hw1
    clear hw1
    go_wp2_with fail
    go_ret
    exact ⟨rfl, by go_grown⟩
end Go.Proofs.YtogflfepkddbhaaDoor
namespace Go.Proofs.YtogflfepkddbhaaDoor
set_option linter.unusedVariables false
open Go.ChangeShapes Go.WideShapes Go.ChangeAt Go.RowKit

/-- A box that may be. -/
def boxB (lx ly hx hy : Int) : Bool := nearB lx ly && nearB hx hy && decide (lx ≤ hx) && decide (ly ≤ hy)
theorem sq_nonneg (x : Int) : 0 ≤ x * x := by
  rcases Int.le_total 0 x with h | h
  · exact Int.mul_nonneg h h
  · exact Int.mul_nonneg_of_nonpos_of_nonpos h h
/-- What CheckBox answers. -/
def boxErr (lx ly hx hy : Int) : Value := if nearB lx ly && nearB hx hy then (if decide (lx ≤ hx) && decide (ly ≤ hy) then .nilIface else .iface 78 (.int .i64 1)) else .iface 78 (.int .i64 2)

theorem c_Orient (ax ay bx by' cx cy : Int) (w : World) :
    Calls Tryd.prog 35 #[.agg #[.int .i64 ax, .int .i64 ay], .agg #[.int .i64 bx, .int .i64 by'], .agg #[.int .i64 cx, .int .i64 cy]] w fun e w' => e = .returned (.int .i64 (cmpZ (crossZ ax ay bx by' cx cy) 0)) ∧ Gr w w' := by
  go_enter Tryd.func35, Tryd.ntmps35
  go_wp2_with (first | (go_at_call 54; (with_reducible refine (c_Cross ax ay bx by' cx cy _).mono ?_); rintro e w' ⟨rfl, hg⟩) | (go_at_call 29; (with_reducible refine (c_cmpInt _ _ _).mono ?_); rintro e w'' ⟨rfl, hg2⟩))
  go_ret
  exact ⟨rfl, Gr.trans (Gr.trans (by go_grown) hg) hg2⟩

theorem c_squares (x y : Int) (hx : -2147483646 ≤ x ∧ x ≤ 2147483646) (hy : -2147483646 ≤ y ∧ y ≤ 2147483646) (w : World) :
    Calls Tryd.prog 83 #[.int .i64 x, .int .i64 y] w fun e w' => e = .returned (.agg #[.int .u64 0, .int .u64 (x * x + y * y), .int .u64 1]) ∧ Gr w w' := by
  have m1 := mul_near hx hx
  have m2 := mul_near hy hy
  obtain ⟨p1, hp1⟩ : ∃ p, p = x * x := ⟨_, rfl⟩
  obtain ⟨p2, hp2⟩ : ∃ p, p = y * y := ⟨_, rfl⟩
  have q1 : 0 ≤ p1 := by rw [hp1]; exact sq_nonneg x
  have q2 : 0 ≤ p2 := by rw [hp2]; exact sq_nonneg y
  rw [← hp1] at m1
  rw [← hp2] at m2
  have e1 : wrap64 (x * x) = p1 := by rw [← hp1]; exact IntWalk.wrap64_in _ (by omega)
  have e2 : wrap64 (y * y) = p2 := by rw [← hp2]; exact IntWalk.wrap64_in _ (by omega)
  have e3 : wrap64 (p1 + p2) = p1 + p2 := IntWalk.wrap64_in _ (by omega)
  have f1 : IntKind.i64.wrap (x * x) = p1 := by rw [← hp1]; exact IntWalk.i64_in _ (by omega)
  have f2 : IntKind.i64.wrap (y * y) = p2 := by rw [← hp2]; exact IntWalk.i64_in _ (by omega)
  have f3 : IntKind.i64.wrap (p1 + p2) = p1 + p2 := IntWalk.i64_in _ (by omega)
  have f4 : IntKind.u64.wrap (p1 + p2) = p1 + p2 := IntWalk.u64_in _ (by omega)
  rw [← hp1, ← hp2]
  clear hp1 hp2 m1 m2 q1 q2 hx hy
  go_enter Tryd.func83, Tryd.ntmps83
  go_wp2
  refine bodyPost_ret (v := .agg #[.int .u64 0, .int .u64 (p1 + p2), .int .u64 1]) (by simp [results, Tryd.results83, go_sem, *]) rfl ⟨rfl, by go_grown⟩

end Go.Proofs.YtogflfepkddbhaaDoor
namespace Go.Proofs.YtogflfepkddbhaaDoor
set_option linter.unusedVariables false
open Go.ChangeShapes Go.WideShapes Go.ChangeAt Go.RowKit

theorem boxErr_true {lx ly hx hy : Int} (h : boxB lx ly hx hy = true) : boxErr lx ly hx hy = .nilIface := by
  unfold boxB at h
  unfold boxErr
  rw [Bool.and_eq_true, Bool.and_eq_true] at h
  rw [if_pos h.1.1, if_pos]
  rw [h.1.2, h.2]; rfl
theorem boxErr_false {lx ly hx hy : Int} (h : boxB lx ly hx hy = false) : ∃ k : Int, boxErr lx ly hx hy = .iface 78 (.int .i64 k) := by
  unfold boxB at h
  unfold boxErr
  by_cases h1 : (nearB lx ly && nearB hx hy) = true
  · rw [if_pos h1]
    by_cases h2 : (decide (lx ≤ hx) && decide (ly ≤ hy)) = true
    · rw [h1, Bool.true_and, h2] at h
      cases h
    · rw [if_neg h2]
      exact ⟨_, rfl⟩
  · rw [if_neg h1]
    exact ⟨_, rfl⟩
/-- All of n boxes may be. -/
def allBox (A B C D : Nat → Int) : Nat → Bool
  | 0 => true
  | n + 1 => allBox A B C D n && boxB (A n) (B n) (C n) (D n)
theorem allBox_iff (A B C D : Nat → Int) (n : Nat) : allBox A B C D n = true ↔ ∀ k, k < n → boxB (A k) (B k) (C k) (D k) = true := by
  induction n with
  | zero => simp [allBox]
  | succ n ih =>
    simp only [allBox, Bool.and_eq_true, ih]
    constructor
    · rintro ⟨h1, h2⟩ k hk
      rcases Nat.lt_succ_iff_lt_or_eq.1 hk with h | rfl
      · exact h1 k h
      · exact h2
    · intro h
      exact ⟨fun k hk => h k (by omega), h n (by omega)⟩

/-- The box has the point. -/
def inB (lx ly hx hy px py : Int) : Bool := decide (lx ≤ px) && decide (px ≤ hx) && decide (ly ≤ py) && decide (py ≤ hy)
/-- How far v is from lo to hi. -/
def beyZ (lo hi v : Int) : Int := if v < lo then lo - v else if hi < v then v - hi else 0
/-- Square's answer, of points that may be. -/
def sqZ (ax ay bx by' : Int) : Int := (bx - ax) * (bx - ax) + (by' - ay) * (by' - ay)
set_option maxHeartbeats 1000000 in
theorem c_Square_no (ax ay bx by' : Int) (W : World) (hq : (nearB ax ay && nearB bx by') = false) :
    Calls Tryd.prog 55 #[.agg #[.int .i64 ax, .int .i64 ay], .agg #[.int .i64 bx, .int .i64 by']] W fun e w' => e = .returned (.agg #[.int .u64 0, .int .u64 0, .int .u64 0]) ∧ Gr W w' := by
  have M : ∀ b w, b < w.heap.size → w.cell? ⟨b, 0, none⟩ = some (.int .i64 ax) → w.cell? ⟨b, 1, none⟩ = some (.int .i64 ay) → w.cell? ⟨b, 2, none⟩ = some (.int .i64 bx) → w.cell? ⟨b, 3, none⟩ = some (.int .i64 by') →
      Calls Tryd.prog 82 #[.slice (some ⟨b, 0, none⟩) 2 2] w fun e w' => e = .returned (.bool false) ∧ Gr w w' := fun b w hb k0 k1 k2 k3 => by
    rw [← hq]; exact c_allNear2 ax ay bx by' b w hb k0 k1 k2 k3
  have H1 := Lib.hid M
  clear M hq
  go_enter Tryd.func55, Tryd.ntmps55
  go_wp2_with fail
  go_at_call 82
  refine ((H1.out _ _ (by go_simp) (by go_simp) (by go_simp) (by go_simp) (by go_simp))).mono ?_
  rintro e w1 ⟨rfl, hw1⟩
  have cw1_0_0 : w1.cell? ⟨W.heap.size, 0, none⟩ = some (.int .i64 ax) := cell_gr hw1 (by go_simp)
  have cw1_0_1 : w1.cell? ⟨W.heap.size, 1, none⟩ = some (.int .i64 ay) := cell_gr hw1 (by go_simp)
  have zw1_0 : W.heap.size < w1.heap.size := World.block_lt_of_cell? _ _ cw1_0_0
  have cw1_1_0 : w1.cell? ⟨W.heap.size + 1, 0, none⟩ = some (.int .i64 bx) := cell_gr hw1 (by go_simp)
  have cw1_1_1 : w1.cell? ⟨W.heap.size + 1, 1, none⟩ = some (.int .i64 by') := cell_gr hw1 (by go_simp)
  have zw1_1 : W.heap.size + 1 < w1.heap.size := World.block_lt_of_cell? _ _ cw1_1_0
  have cw1_2_0 : w1.cell? ⟨W.heap.size + 1 + 1, 0, none⟩ = some (.int .u64 0) := cell_gr hw1 (by go_simp)
  have fw1_2_0 : w1.frozen? ⟨W.heap.size + 1 + 1, 0, none⟩ = false := frozen_gr (v := .int .u64 0) hw1 (by go_simp) (by go_simp)
  have cw1_2_1 : w1.cell? ⟨W.heap.size + 1 + 1, 1, none⟩ = some (.int .u64 0) := cell_gr hw1 (by go_simp)
  have fw1_2_1 : w1.frozen? ⟨W.heap.size + 1 + 1, 1, none⟩ = false := frozen_gr (v := .int .u64 0) hw1 (by go_simp) (by go_simp)
  have cw1_2_2 : w1.cell? ⟨W.heap.size + 1 + 1, 2, none⟩ = some (.int .u64 0) := cell_gr hw1 (by go_simp)
  have fw1_2_2 : w1.frozen? ⟨W.heap.size + 1 + 1, 2, none⟩ = false := frozen_gr (v := .int .u64 0) hw1 (by go_simp) (by go_simp)
  have zw1_2 : W.heap.size + 1 + 1 < w1.heap.size := World.block_lt_of_cell? _ _ cw1_2_0
  have gw1 : Gr W w1 := Gr.trans (by go_grown) hw1
  clear hw1
  go_wp2_with fail
  refine bodyPost_ret (v := .agg #[.int .u64 0, .int .u64 0, .int .u64 0]) (by simp [results, Tryd.results55, go_sem, *]) rfl ⟨rfl, by go_grown⟩
set_option maxHeartbeats 1000000 in
theorem c_Square2 (ax ay bx by' : Int) (W : World) (hq : nearB ax ay = true ∧ nearB bx by' = true) :
    Calls Tryd.prog 55 #[.agg #[.int .i64 ax, .int .i64 ay], .agg #[.int .i64 bx, .int .i64 by']] W fun e w' => e = .returned (.agg #[.int .u64 0, .int .u64 (sqZ ax ay bx by'), .int .u64 1]) ∧ Gr W w' := by
  have M : ∀ b w, b < w.heap.size → w.cell? ⟨b, 0, none⟩ = some (.int .i64 ax) → w.cell? ⟨b, 1, none⟩ = some (.int .i64 ay) → w.cell? ⟨b, 2, none⟩ = some (.int .i64 bx) → w.cell? ⟨b, 3, none⟩ = some (.int .i64 by') →
      Calls Tryd.prog 82 #[.slice (some ⟨b, 0, none⟩) 2 2] w fun e w' => e = .returned (.bool true) ∧ Gr w w' := fun b w hb k0 k1 k2 k3 => by
    have := c_allNear2 ax ay bx by' b w hb k0 k1 k2 k3
    rw [hq.1, hq.2] at this
    exact this
  have n1 := nearB_iff.1 hq.1
  have n2 := nearB_iff.1 hq.2
  have Q := c_squares (bx - ax) (by' - ay) (by omega) (by omega)
  have e1 : wrap64 (bx - ax) = bx - ax := IntWalk.wrap64_in _ (by omega)
  have e2 : wrap64 (by' - ay) = by' - ay := IntWalk.wrap64_in _ (by omega)
  have f1 : IntKind.i64.wrap (bx - ax) = bx - ax := IntWalk.i64_in _ (by omega)
  have f2 : IntKind.i64.wrap (by' - ay) = by' - ay := IntWalk.i64_in _ (by omega)
  obtain ⟨z, hz⟩ : ∃ z, z = sqZ ax ay bx by' := ⟨_, rfl⟩
  have hz' : (bx - ax) * (bx - ax) + (by' - ay) * (by' - ay) = z := hz.symm
  rw [← hz]
  rw [hz'] at Q
  have H1 := Lib.hid M
  have H2 := Lib.hid Q
  clear M Q hq n1 n2 hz hz'
  go_enter Tryd.func55, Tryd.ntmps55
  go_wp2_with fail
  go_at_call 82
  refine ((H1.out _ _ (by go_simp) (by go_simp) (by go_simp) (by go_simp) (by go_simp))).mono ?_
  rintro e w1 ⟨rfl, hw1⟩
  have cw1_0_0 : w1.cell? ⟨W.heap.size, 0, none⟩ = some (.int .i64 ax) := cell_gr hw1 (by go_simp)
  have cw1_0_1 : w1.cell? ⟨W.heap.size, 1, none⟩ = some (.int .i64 ay) := cell_gr hw1 (by go_simp)
  have zw1_0 : W.heap.size < w1.heap.size := World.block_lt_of_cell? _ _ cw1_0_0
  have cw1_1_0 : w1.cell? ⟨W.heap.size + 1, 0, none⟩ = some (.int .i64 bx) := cell_gr hw1 (by go_simp)
  have cw1_1_1 : w1.cell? ⟨W.heap.size + 1, 1, none⟩ = some (.int .i64 by') := cell_gr hw1 (by go_simp)
  have zw1_1 : W.heap.size + 1 < w1.heap.size := World.block_lt_of_cell? _ _ cw1_1_0
  have cw1_2_0 : w1.cell? ⟨W.heap.size + 1 + 1, 0, none⟩ = some (.int .u64 0) := cell_gr hw1 (by go_simp)
  have fw1_2_0 : w1.frozen? ⟨W.heap.size + 1 + 1, 0, none⟩ = false := frozen_gr (v := .int .u64 0) hw1 (by go_simp) (by go_simp)
  have cw1_2_1 : w1.cell? ⟨W.heap.size + 1 + 1, 1, none⟩ = some (.int .u64 0) := cell_gr hw1 (by go_simp)
  have fw1_2_1 : w1.frozen? ⟨W.heap.size + 1 + 1, 1, none⟩ = false := frozen_gr (v := .int .u64 0) hw1 (by go_simp) (by go_simp)
  have cw1_2_2 : w1.cell? ⟨W.heap.size + 1 + 1, 2, none⟩ = some (.int .u64 0) := cell_gr hw1 (by go_simp)
  have fw1_2_2 : w1.frozen? ⟨W.heap.size + 1 + 1, 2, none⟩ = false := frozen_gr (v := .int .u64 0) hw1 (by go_simp) (by go_simp)
  have zw1_2 : W.heap.size + 1 + 1 < w1.heap.size := World.block_lt_of_cell? _ _ cw1_2_0
  have gw1 : Gr W w1 := Gr.trans (by go_grown) hw1
  clear hw1
  go_wp2_with fail
  go_at_call 83
  refine ((H2.out _)).mono ?_
  rintro e w2 ⟨rfl, hw2⟩
  have cw2_0_0 : w2.cell? ⟨W.heap.size, 0, none⟩ = some (.int .i64 ax) := cell_gr hw2 (by go_simp)
  have cw2_0_1 : w2.cell? ⟨W.heap.size, 1, none⟩ = some (.int .i64 ay) := cell_gr hw2 (by go_simp)
  have zw2_0 : W.heap.size < w2.heap.size := World.block_lt_of_cell? _ _ cw2_0_0
  have cw2_1_0 : w2.cell? ⟨W.heap.size + 1, 0, none⟩ = some (.int .i64 bx) := cell_gr hw2 (by go_simp)
  have cw2_1_1 : w2.cell? ⟨W.heap.size + 1, 1, none⟩ = some (.int .i64 by') := cell_gr hw2 (by go_simp)
  have zw2_1 : W.heap.size + 1 < w2.heap.size := World.block_lt_of_cell? _ _ cw2_1_0
  have cw2_2_0 : w2.cell? ⟨W.heap.size + 1 + 1, 0, none⟩ = some (.int .u64 0) := cell_gr hw2 (by go_simp)
  have fw2_2_0 : w2.frozen? ⟨W.heap.size + 1 + 1, 0, none⟩ = false := frozen_gr (v := .int .u64 0) hw2 (by go_simp) (by go_simp)
  have cw2_2_1 : w2.cell? ⟨W.heap.size + 1 + 1, 1, none⟩ = some (.int .u64 0) := cell_gr hw2 (by go_simp)
  have fw2_2_1 : w2.frozen? ⟨W.heap.size + 1 + 1, 1, none⟩ = false := frozen_gr (v := .int .u64 0) hw2 (by go_simp) (by go_simp)
  have cw2_2_2 : w2.cell? ⟨W.heap.size + 1 + 1, 2, none⟩ = some (.int .u64 0) := cell_gr hw2 (by go_simp)
  have fw2_2_2 : w2.frozen? ⟨W.heap.size + 1 + 1, 2, none⟩ = false := frozen_gr (v := .int .u64 0) hw2 (by go_simp) (by go_simp)
  have zw2_2 : W.heap.size + 1 + 1 < w2.heap.size := World.block_lt_of_cell? _ _ cw2_2_0
  have gw2 : Gr W w2 := Gr.trans (by have gg := gw1; have gs := gg.size; go_grown) hw2
  clear hw2 gw1 zw1_0 cw1_0_0 cw1_0_1 zw1_1 cw1_1_0 cw1_1_1 zw1_2 cw1_2_0 fw1_2_0 cw1_2_1 fw1_2_1 cw1_2_2 fw1_2_2
  go_wp2_with fail
  refine bodyPost_ret (v := .agg #[.int .u64 0, .int .u64 z, .int .u64 1]) (by simp [results, Tryd.results55, go_sem, *]) rfl ⟨rfl, by go_grown⟩
end Go.Proofs.YtogflfepkddbhaaDoor
namespace Go.Proofs.YtogflfepkddbhaaDoor
set_option linter.unusedVariables false
open Go.ChangeShapes Go.WideShapes Go.ChangeAt Go.RowKit

/-- Dist's answer, of what may be. -/
def distZ (lx ly hx hy px py : Int) : Int := beyZ lx hx px * beyZ lx hx px + beyZ ly hy py * beyZ ly hy py
theorem boxB_iff {lx ly hx hy : Int} : boxB lx ly hx hy = true ↔ (nearB lx ly = true ∧ nearB hx hy = true) ∧ lx ≤ hx ∧ ly ≤ hy := by
  unfold boxB
  simp [and_assoc]
theorem bey_near {lo hi v : Int} (h : lo ≤ hi) (h1 : -1073741823 ≤ lo ∧ lo ≤ 1073741823) (h2 : -1073741823 ≤ hi ∧ hi ≤ 1073741823) (h3 : -1073741823 ≤ v ∧ v ≤ 1073741823) : -2147483646 ≤ beyZ lo hi v ∧ beyZ lo hi v ≤ 2147483646 := by
  unfold beyZ
  split <;> (try split) <;> omega
theorem p_Orient (w : World) : Calls Tryd.prog 35 #[.agg #[.int .i64 0, .int .i64 0], .agg #[.int .i64 1, .int .i64 0], .agg #[.int .i64 0, .int .i64 1]] w fun e w' => e = .returned (.int .i64 1) ∧ Gr w w' := c_Orient 0 0 1 0 0 1 w
theorem cross_turn (ax ay bx by' cx cy : Int) : crossZ bx by' cx cy ax ay = crossZ ax ay bx by' cx cy := by
  unfold crossZ
  cases nearB ax ay <;> cases nearB bx by' <;> cases nearB cx cy <;> simp <;> grind
theorem cross_swap (ax ay bx by' cx cy : Int) : crossZ bx by' ax ay cx cy = -crossZ ax ay bx by' cx cy := by
  unfold crossZ
  cases nearB ax ay <;> cases nearB bx by' <;> cases nearB cx cy <;> simp <;> grind
theorem cross_same (ax ay bx by' : Int) : crossZ ax ay ax ay bx by' = 0 := by
  unfold crossZ
  cases nearB ax ay <;> cases nearB bx by' <;> simp
theorem cross_bound (ax ay bx by' cx cy : Int) : -9223372019674906632 ≤ crossZ ax ay bx by' cx cy ∧ crossZ ax ay bx by' cx cy ≤ 9223372019674906632 := by
  unfold crossZ
  split
  · rename_i hq
    have hq' : (nearB ax ay = true ∧ nearB bx by' = true) ∧ nearB cx cy = true := by simpa using hq
    have n1 := nearB_iff.1 hq'.1.1
    have n2 := nearB_iff.1 hq'.1.2
    have n3 := nearB_iff.1 hq'.2
    have m1 := mul_near (x := bx - ax) (y := cy - ay) (by omega) (by omega)
    have m2 := mul_near (x := by' - ay) (y := cx - ax) (by omega) (by omega)
    omega
  · omega
theorem cmpZ_neg (x : Int) : cmpZ (-x) 0 = -cmpZ x 0 := by unfold cmpZ; split <;> split <;> (try split) <;> (try split) <;> omega
end Go.Proofs.YtogflfepkddbhaaDoor
namespace Go.Proofs.YtogflfepkddbhaaDoor
set_option linter.unusedVariables false
open Go.ChangeShapes Go.WideShapes Go.ChangeAt Go.RowKit

/-- The document's CheckBox's answer. -/
def boxCode (lx ly hx hy : Int) : Int := if nearB lx ly && nearB hx hy then (if decide (lx ≤ hx) && decide (ly ≤ hy) then 0 else 1) else 2
theorem boxCode_zero {lx ly hx hy : Int} : (boxCode lx ly hx hy == 0) = boxB lx ly hx hy := by
  unfold boxCode boxB
  cases nearB lx ly <;> cases nearB hx hy <;> cases decide (lx ≤ hx) <;> cases decide (ly ≤ hy) <;> rfl

theorem c_rCheckBox (lx ly hx hy : Int) (W : World) :
    Calls Tryd.prog 44 #[.agg #[.int .i64 lx, .int .i64 ly, .int .i64 hx, .int .i64 hy]] W fun e w' => e = .returned (.int .i64 (boxCode lx ly hx hy)) ∧ Gr W w' := by
  have H1 := Lib.hid (c_rPoint lx ly)
  have H2 := Lib.hid (c_rPoint hx hy)
  obtain ⟨q, hq⟩ : ∃ q, q = nearB lx ly := ⟨_, rfl⟩
  obtain ⟨r, hr⟩ : ∃ r, r = nearB hx hy := ⟨_, rfl⟩
  unfold boxCode
  rw [← hq] at H1 ⊢
  rw [← hr] at H2 ⊢
  have T1 : decide (lx ≤ hx) = !decide (hx < lx) := by by_cases h : hx < lx <;> simp [h] <;> omega
  have T2 : decide (ly ≤ hy) = !decide (hy < ly) := by by_cases h : hy < ly <;> simp [h] <;> omega
  rw [T1, T2]
  clear T1 T2 hq hr
  cases q
  · simp only [Bool.false_and, Bool.false_eq_true, if_false]
    go_enter Tryd.func44, Tryd.ntmps44
    go_wp2_with fail
    go_at_call 19
    refine ((H1.out _)).mono ?_
    rintro e w1 ⟨rfl, hw1⟩
    have cw1_0_0 : w1.cell? ⟨W.heap.size, 0, none⟩ = some (.int .i64 lx) := cell_gr hw1 (by go_simp)
    have cw1_0_1 : w1.cell? ⟨W.heap.size, 1, none⟩ = some (.int .i64 ly) := cell_gr hw1 (by go_simp)
    have cw1_0_2 : w1.cell? ⟨W.heap.size, 2, none⟩ = some (.int .i64 hx) := cell_gr hw1 (by go_simp)
    have cw1_0_3 : w1.cell? ⟨W.heap.size, 3, none⟩ = some (.int .i64 hy) := cell_gr hw1 (by go_simp)
    have zw1_0 : W.heap.size < w1.heap.size := World.block_lt_of_cell? _ _ cw1_0_0
    have gw1 : Gr W w1 := Gr.trans (by go_grown) hw1
    clear hw1
    go_wp2_with fail
    go_ret
    exact ⟨rfl, by go_grown⟩
  · cases r
    · simp only [Bool.and_false, Bool.false_eq_true, if_false]
      go_enter Tryd.func44, Tryd.ntmps44
      go_wp2_with fail
      go_at_call 19
      refine ((H1.out _)).mono ?_
      rintro e w1 ⟨rfl, hw1⟩
      have cw1_0_0 : w1.cell? ⟨W.heap.size, 0, none⟩ = some (.int .i64 lx) := cell_gr hw1 (by go_simp)
      have cw1_0_1 : w1.cell? ⟨W.heap.size, 1, none⟩ = some (.int .i64 ly) := cell_gr hw1 (by go_simp)
      have cw1_0_2 : w1.cell? ⟨W.heap.size, 2, none⟩ = some (.int .i64 hx) := cell_gr hw1 (by go_simp)
      have cw1_0_3 : w1.cell? ⟨W.heap.size, 3, none⟩ = some (.int .i64 hy) := cell_gr hw1 (by go_simp)
      have zw1_0 : W.heap.size < w1.heap.size := World.block_lt_of_cell? _ _ cw1_0_0
      have gw1 : Gr W w1 := Gr.trans (by go_grown) hw1
      clear hw1
      go_wp2_with fail
      go_at_call 19
      refine ((H2.out _)).mono ?_
      rintro e w2 ⟨rfl, hw2⟩
      have cw2_0_0 : w2.cell? ⟨W.heap.size, 0, none⟩ = some (.int .i64 lx) := cell_gr hw2 (by go_simp)
      have cw2_0_1 : w2.cell? ⟨W.heap.size, 1, none⟩ = some (.int .i64 ly) := cell_gr hw2 (by go_simp)
      have cw2_0_2 : w2.cell? ⟨W.heap.size, 2, none⟩ = some (.int .i64 hx) := cell_gr hw2 (by go_simp)
      have cw2_0_3 : w2.cell? ⟨W.heap.size, 3, none⟩ = some (.int .i64 hy) := cell_gr hw2 (by go_simp)
      have zw2_0 : W.heap.size < w2.heap.size := World.block_lt_of_cell? _ _ cw2_0_0
      have gw2 : Gr W w2 := Gr.trans (by have gg := gw1; have gs := gg.size; go_grown) hw2
      clear hw2 gw1 zw1_0 cw1_0_0 cw1_0_1 cw1_0_2 cw1_0_3
      go_wp2_with fail
      go_ret
      exact ⟨rfl, by go_grown⟩
    · simp only [Bool.and_true, if_true]
      by_cases a1 : hx < lx
      · simp only [a1, decide_true, Bool.not_true, Bool.false_and, Bool.false_eq_true, if_false]
        have b1 : ¬ lx ≤ hx := by omega
        go_enter Tryd.func44, Tryd.ntmps44
        go_wp2_with fail
        go_at_call 19
        refine ((H1.out _)).mono ?_
        rintro e w1 ⟨rfl, hw1⟩
        have cw1_0_0 : w1.cell? ⟨W.heap.size, 0, none⟩ = some (.int .i64 lx) := cell_gr hw1 (by go_simp)
        have cw1_0_1 : w1.cell? ⟨W.heap.size, 1, none⟩ = some (.int .i64 ly) := cell_gr hw1 (by go_simp)
        have cw1_0_2 : w1.cell? ⟨W.heap.size, 2, none⟩ = some (.int .i64 hx) := cell_gr hw1 (by go_simp)
        have cw1_0_3 : w1.cell? ⟨W.heap.size, 3, none⟩ = some (.int .i64 hy) := cell_gr hw1 (by go_simp)
        have zw1_0 : W.heap.size < w1.heap.size := World.block_lt_of_cell? _ _ cw1_0_0
        have gw1 : Gr W w1 := Gr.trans (by go_grown) hw1
        clear hw1
        go_wp2_with fail
        go_at_call 19
        refine ((H2.out _)).mono ?_
        rintro e w2 ⟨rfl, hw2⟩
        have cw2_0_0 : w2.cell? ⟨W.heap.size, 0, none⟩ = some (.int .i64 lx) := cell_gr hw2 (by go_simp)
        have cw2_0_1 : w2.cell? ⟨W.heap.size, 1, none⟩ = some (.int .i64 ly) := cell_gr hw2 (by go_simp)
        have cw2_0_2 : w2.cell? ⟨W.heap.size, 2, none⟩ = some (.int .i64 hx) := cell_gr hw2 (by go_simp)
        have cw2_0_3 : w2.cell? ⟨W.heap.size, 3, none⟩ = some (.int .i64 hy) := cell_gr hw2 (by go_simp)
        have zw2_0 : W.heap.size < w2.heap.size := World.block_lt_of_cell? _ _ cw2_0_0
        have gw2 : Gr W w2 := Gr.trans (by have gg := gw1; have gs := gg.size; go_grown) hw2
        clear hw2 gw1 zw1_0 cw1_0_0 cw1_0_1 cw1_0_2 cw1_0_3
        go_wp2_with fail
        go_ret
        exact ⟨rfl, by go_grown⟩
      · by_cases a2 : hy < ly
        · simp only [a1, a2, decide_true, decide_false, Bool.not_true, Bool.not_false, Bool.true_and, Bool.false_eq_true, if_false]
          go_enter Tryd.func44, Tryd.ntmps44
          go_wp2_with fail
          go_at_call 19
          refine ((H1.out _)).mono ?_
          rintro e w1 ⟨rfl, hw1⟩
          have cw1_0_0 : w1.cell? ⟨W.heap.size, 0, none⟩ = some (.int .i64 lx) := cell_gr hw1 (by go_simp)
          have cw1_0_1 : w1.cell? ⟨W.heap.size, 1, none⟩ = some (.int .i64 ly) := cell_gr hw1 (by go_simp)
          have cw1_0_2 : w1.cell? ⟨W.heap.size, 2, none⟩ = some (.int .i64 hx) := cell_gr hw1 (by go_simp)
          have cw1_0_3 : w1.cell? ⟨W.heap.size, 3, none⟩ = some (.int .i64 hy) := cell_gr hw1 (by go_simp)
          have zw1_0 : W.heap.size < w1.heap.size := World.block_lt_of_cell? _ _ cw1_0_0
          have gw1 : Gr W w1 := Gr.trans (by go_grown) hw1
          clear hw1
          go_wp2_with fail
          go_at_call 19
          refine ((H2.out _)).mono ?_
          rintro e w2 ⟨rfl, hw2⟩
          have cw2_0_0 : w2.cell? ⟨W.heap.size, 0, none⟩ = some (.int .i64 lx) := cell_gr hw2 (by go_simp)
          have cw2_0_1 : w2.cell? ⟨W.heap.size, 1, none⟩ = some (.int .i64 ly) := cell_gr hw2 (by go_simp)
          have cw2_0_2 : w2.cell? ⟨W.heap.size, 2, none⟩ = some (.int .i64 hx) := cell_gr hw2 (by go_simp)
          have cw2_0_3 : w2.cell? ⟨W.heap.size, 3, none⟩ = some (.int .i64 hy) := cell_gr hw2 (by go_simp)
          have zw2_0 : W.heap.size < w2.heap.size := World.block_lt_of_cell? _ _ cw2_0_0
          have gw2 : Gr W w2 := Gr.trans (by have gg := gw1; have gs := gg.size; go_grown) hw2
          clear hw2 gw1 zw1_0 cw1_0_0 cw1_0_1 cw1_0_2 cw1_0_3
          go_wp2_with fail
          go_ret
          exact ⟨rfl, by go_grown⟩
        · simp only [a1, a2, decide_false, Bool.not_false, Bool.and_self, if_true]
          go_enter Tryd.func44, Tryd.ntmps44
          go_wp2_with fail
          go_at_call 19
          refine ((H1.out _)).mono ?_
          rintro e w1 ⟨rfl, hw1⟩
          have cw1_0_0 : w1.cell? ⟨W.heap.size, 0, none⟩ = some (.int .i64 lx) := cell_gr hw1 (by go_simp)
          have cw1_0_1 : w1.cell? ⟨W.heap.size, 1, none⟩ = some (.int .i64 ly) := cell_gr hw1 (by go_simp)
          have cw1_0_2 : w1.cell? ⟨W.heap.size, 2, none⟩ = some (.int .i64 hx) := cell_gr hw1 (by go_simp)
          have cw1_0_3 : w1.cell? ⟨W.heap.size, 3, none⟩ = some (.int .i64 hy) := cell_gr hw1 (by go_simp)
          have zw1_0 : W.heap.size < w1.heap.size := World.block_lt_of_cell? _ _ cw1_0_0
          have gw1 : Gr W w1 := Gr.trans (by go_grown) hw1
          clear hw1
          go_wp2_with fail
          go_at_call 19
          refine ((H2.out _)).mono ?_
          rintro e w2 ⟨rfl, hw2⟩
          have cw2_0_0 : w2.cell? ⟨W.heap.size, 0, none⟩ = some (.int .i64 lx) := cell_gr hw2 (by go_simp)
          have cw2_0_1 : w2.cell? ⟨W.heap.size, 1, none⟩ = some (.int .i64 ly) := cell_gr hw2 (by go_simp)
          have cw2_0_2 : w2.cell? ⟨W.heap.size, 2, none⟩ = some (.int .i64 hx) := cell_gr hw2 (by go_simp)
          have cw2_0_3 : w2.cell? ⟨W.heap.size, 3, none⟩ = some (.int .i64 hy) := cell_gr hw2 (by go_simp)
          have zw2_0 : W.heap.size < w2.heap.size := World.block_lt_of_cell? _ _ cw2_0_0
          have gw2 : Gr W w2 := Gr.trans (by have gg := gw1; have gs := gg.size; go_grown) hw2
          clear hw2 gw1 zw1_0 cw1_0_0 cw1_0_1 cw1_0_2 cw1_0_3
          go_wp2_with fail
          go_ret
          exact ⟨rfl, by go_grown⟩

/-- Two boxes meet, if they may be. -/
def meetB (lx ly hx hy mx my nx ny : Int) : Bool := decide (lx ≤ nx) && decide (mx ≤ hx) && decide (ly ≤ ny) && decide (my ≤ hy)
end Go.Proofs.YtogflfepkddbhaaDoor
namespace Go.Proofs.YtogflfepkddbhaaDoor
set_option linter.unusedVariables false
open Go.ChangeShapes Go.WideShapes Go.ChangeAt Go.RowKit

theorem bool_and {a b : Bool} {p q : Prop} (h1 : a = true ↔ p) (h2 : b = true ↔ q) : (a && b) = true ↔ p ∧ q := by
  rw [Bool.and_eq_true, h1, h2]
theorem inB_iff {lx ly hx hy px py : Int} : inB lx ly hx hy px py = true ↔ lx ≤ px ∧ px ≤ hx ∧ ly ≤ py ∧ py ≤ hy := by
  unfold inB; simp [and_assoc]
theorem meetB_iff {lx ly hx hy mx my nx ny : Int} : meetB lx ly hx hy mx my nx ny = true ↔ lx ≤ nx ∧ mx ≤ hx ∧ ly ≤ ny ∧ my ≤ hy := by
  unfold meetB; simp [and_assoc]
theorem sq_zero {x : Int} : x * x = 0 ↔ x = 0 := by
  rw [Int.mul_eq_zero]; simp
theorem bey_zero {lo hi v : Int} (h : lo ≤ hi) : beyZ lo hi v = 0 ↔ lo ≤ v ∧ v ≤ hi := by
  unfold beyZ
  split <;> (try split) <;> omega
theorem distZ_zero {lx ly hx hy px py : Int} (h1 : lx ≤ hx) (h2 : ly ≤ hy) : distZ lx ly hx hy px py = 0 ↔ inB lx ly hx hy px py = true := by
  rw [inB_iff]
  have a1 := sq_nonneg (beyZ lx hx px)
  have a2 := sq_nonneg (beyZ ly hy py)
  have b1 := sq_zero (x := beyZ lx hx px)
  have b2 := sq_zero (x := beyZ ly hy py)
  have c1 := bey_zero (v := px) h1
  have c2 := bey_zero (v := py) h2
  unfold distZ
  constructor
  · intro h
    have d1 := b1.1 (by omega)
    have d2 := b2.1 (by omega)
    have e1 := c1.1 d1
    have e2 := c2.1 d2
    exact ⟨e1.1, e1.2, e2.1, e2.2⟩
  · rintro ⟨e1, e2, e3, e4⟩
    have d1 := b1.2 (c1.2 ⟨e1, e2⟩)
    have d2 := b2.2 (c2.2 ⟨e3, e4⟩)
    omega
theorem distZ_nonneg (lx ly hx hy px py : Int) : 0 ≤ distZ lx ly hx hy px py := by
  have a1 := sq_nonneg (beyZ lx hx px)
  have a2 := sq_nonneg (beyZ ly hy py)
  unfold distZ; omega
/-- Two distances of whole numbers, held against each other. -/
theorem eqDist (z y : Int) (w : World) : (binOp .eql 37 (.agg #[.int .u64 0, .int .u64 z, .int .u64 1]) (.agg #[.int .u64 0, .int .u64 y, .int .u64 1])).run Tryd.prog w = .ok (.bool (decide (z = y))) w := by
  by_cases h1 : z = y
  · subst h1
    simp [go_sem]
  · have e : (z == y) = false := by simpa using h1
    simp [go_sem, h1, e]
/-- Two boxes, held against each other. -/
theorem eqBox (lx ly hx hy mx my nx ny : Int) (w : World) : (binOp .eql 45 (.agg #[.int .i64 lx, .int .i64 ly, .int .i64 hx, .int .i64 hy]) (.agg #[.int .i64 mx, .int .i64 my, .int .i64 nx, .int .i64 ny])).run Tryd.prog w = .ok (.bool (decide (lx = mx ∧ ly = my ∧ hx = nx ∧ hy = ny))) w := by
  by_cases h1 : lx = mx
  · subst h1
    by_cases h2 : ly = my
    · subst h2
      by_cases h3 : hx = nx
      · subst h3
        by_cases h4 : hy = ny
        · subst h4
          simp [go_sem]
        · have e : (hy == ny) = false := by simpa using h4
          simp [go_sem, h4, e]
      · have e : (hx == nx) = false := by simpa using h3
        simp [go_sem, h3, e]
    · have e : (ly == my) = false := by simpa using h2
      simp [go_sem, h2, e]
  · have e : (lx == mx) = false := by simpa using h1
    simp [go_sem, h1, e]
theorem run_max (x y z : Int) (h : z = if x < y then y else x) (w : World) : (Builtin.max_ #[3, 3] 3 #[.int .i64 x, .int .i64 y]).run Tryd.prog w = .ok (.int .i64 z) w := by
  rw [h]
  simp [Builtin.max_, Builtin.max2, go_sem]

end Go.Proofs.YtogflfepkddbhaaDoor
namespace Go.Proofs.YtogflfepkddbhaaDoor
set_option linter.unusedVariables false
open Go.ChangeShapes Go.WideShapes Go.ChangeAt Go.RowKit

theorem c_Num (h l d : Int) (w : World) : Calls Tryd.prog 42 #[.agg #[.int .u64 h, .int .u64 l, .int .u64 d]] w fun e w' => e = .returned (.agg #[.int .u64 h, .int .u64 l]) ∧ Gr w w' := by
  go_enter Tryd.func42, Tryd.ntmps42
  go_wp2
  go_returns
  exact ⟨rfl, by go_grown⟩

theorem sqZ_nonneg (ax ay bx by' : Int) : 0 ≤ sqZ ax ay bx by' := by
  have a1 := sq_nonneg (bx - ax)
  have a2 := sq_nonneg (by' - ay)
  unfold sqZ; omega
theorem sqZ_bound {ax ay bx by' : Int} (h1 : nearB ax ay = true) (h2 : nearB bx by' = true) : sqZ ax ay bx by' ≤ 9223372019674906632 := by
  have n1 := nearB_iff.1 h1
  have n2 := nearB_iff.1 h2
  have m1 := mul_near (x := bx - ax) (y := bx - ax) (by omega) (by omega)
  have m2 := mul_near (x := by' - ay) (y := by' - ay) (by omega) (by omega)
  unfold sqZ; omega
theorem sqZ_comm (ax ay bx by' : Int) : sqZ bx by' ax ay = sqZ ax ay bx by' := by unfold sqZ; grind
theorem sqZ_split (ax ay bx by' : Int) : sqZ ax ay bx by' = sqZ ax ay bx ay + sqZ bx ay bx by' := by unfold sqZ; grind
theorem sqZ_zero (ax ay bx by' : Int) : sqZ ax ay bx by' = 0 ↔ ax = bx ∧ ay = by' := by
  have a1 := sq_nonneg (bx - ax)
  have a2 := sq_nonneg (by' - ay)
  have b1 := sq_zero (x := bx - ax)
  have b2 := sq_zero (x := by' - ay)
  unfold sqZ
  constructor
  · intro h
    have d1 := b1.1 (by omega)
    have d2 := b2.1 (by omega)
    omega
  · rintro ⟨rfl, rfl⟩
    simp
theorem bey_sq (a v : Int) : beyZ a a v * beyZ a a v = (v - a) * (v - a) := by
  unfold beyZ
  split
  · grind
  · split
    · rfl
    · have : v - a = 0 := by omega
      rw [this]
theorem eqPt (ax ay bx by' : Int) (w : World) : (binOp .eql 30 (.agg #[.int .i64 ax, .int .i64 ay]) (.agg #[.int .i64 bx, .int .i64 by'])).run Tryd.prog w = .ok (.bool (decide (ax = bx ∧ ay = by'))) w := by
  by_cases h1 : ax = bx
  · subst h1
    by_cases h2 : ay = by'
    · subst h2
      simp [go_sem]
    · have e : (ay == by') = false := by simpa using h2
      simp [go_sem, h2, e]
  · have e : (ax == bx) = false := by simpa using h1
    simp [go_sem, h1, e]
end Go.Proofs.YtogflfepkddbhaaDoor
namespace Go.Proofs.YtogflfepkddbhaaDoor
set_option linter.unusedVariables false
open Go.ChangeShapes Go.WideShapes Go.ChangeAt Go.RowKit

set_option maxRecDepth 100000 in
theorem p_Is_nil (k : Int) (w : World) : Calls Tryd.prog 63 #[.nilIface, .iface 78 (.int .i64 k)] w fun e w' => e = .returned (.bool false) ∧ Gr w w' := by
  have hb : ∀ w, (binOp .eql 26 .nilIface (.iface 78 (.int .i64 k))).run Tryd.prog w = .ok (.bool false) w := fun _ => rfl
  go_enter Tryd.func63, Tryd.ntmps63
  go_wp2_with fail
  go_ret
  exact ⟨rfl, by go_grown⟩
def minZ (a b : Int) : Int := if b < a then b else a
def maxZ (a b : Int) : Int := if a < b then b else a
set_option maxHeartbeats 1000000 in
set_option maxRecDepth 100000 in
theorem c_join (lx ly hx hy mx my nx ny : Int) (W : World) :
    Calls Tryd.prog 62 #[.agg #[.int .i64 lx, .int .i64 ly, .int .i64 hx, .int .i64 hy], .agg #[.int .i64 mx, .int .i64 my, .int .i64 nx, .int .i64 ny]] W fun e w' => e = .returned (.agg #[.int .i64 (minZ lx mx), .int .i64 (minZ ly my), .int .i64 (maxZ hx nx), .int .i64 (maxZ hy ny)]) ∧ Gr W w' := by
  have m1 : ∀ w, (Builtin.min_ #[3, 3] 3 #[.int .i64 lx, .int .i64 mx]).run Tryd.prog w = .ok (.int .i64 (minZ lx mx)) w := fun w => by simp [Builtin.min_, Builtin.min2, go_sem, minZ]
  have m2 : ∀ w, (Builtin.min_ #[3, 3] 3 #[.int .i64 ly, .int .i64 my]).run Tryd.prog w = .ok (.int .i64 (minZ ly my)) w := fun w => by simp [Builtin.min_, Builtin.min2, go_sem, minZ]
  have m3 : ∀ w, (Builtin.max_ #[3, 3] 3 #[.int .i64 hx, .int .i64 nx]).run Tryd.prog w = .ok (.int .i64 (maxZ hx nx)) w := fun w => by simp [Builtin.max_, Builtin.max2, go_sem, maxZ]
  have m4 : ∀ w, (Builtin.max_ #[3, 3] 3 #[.int .i64 hy, .int .i64 ny]).run Tryd.prog w = .ok (.int .i64 (maxZ hy ny)) w := fun w => by simp [Builtin.max_, Builtin.max2, go_sem, maxZ]
  go_enter Tryd.func62, Tryd.ntmps62
  go_wp2_with fail
  refine bodyPost_ret (v := .agg #[.int .i64 (minZ lx mx), .int .i64 (minZ ly my), .int .i64 (maxZ hx nx), .int .i64 (maxZ hy ny)]) (by simp [results, Tryd.results62, go_sem, *]) rfl ⟨rfl, by go_grown⟩
theorem minZ_self (a : Int) : minZ a a = a := by unfold minZ; simp
theorem maxZ_self (a : Int) : maxZ a a = a := by unfold maxZ; simp
theorem c_join_self (lx ly hx hy : Int) (W : World) :
    Calls Tryd.prog 62 #[.agg #[.int .i64 lx, .int .i64 ly, .int .i64 hx, .int .i64 hy], .agg #[.int .i64 lx, .int .i64 ly, .int .i64 hx, .int .i64 hy]] W fun e w' => e = .returned (.agg #[.int .i64 lx, .int .i64 ly, .int .i64 hx, .int .i64 hy]) ∧ Gr W w' := by
  have h := c_join lx ly hx hy lx ly hx hy W
  simp only [minZ_self, maxZ_self] at h
  exact h
end Go.Proofs.YtogflfepkddbhaaDoor
