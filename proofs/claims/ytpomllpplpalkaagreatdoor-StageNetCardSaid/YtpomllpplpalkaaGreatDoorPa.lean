/- plane: points that may be, and what turns on them; plane: Cross, Orient, Square; plane: Orient, Square, boxes; plane: what turns on boxes; plane: Dist; what the document fixes; PlaneTurns; the document's own boxes; PlaneMeets; points, boxes and distances: what holds of them; PlaneSquares; plane: join, Union of two, Area, Grow -/
import Derived.Test.YtpomllpplpalkaaGreatDoorK
import Derived.Test.YtpomllpplpalkaaGreatDoorH
namespace Go.Proofs.YtpomllpplpalkaaGreatDoor
set_option linter.unusedVariables false
open Go.ChangeShapes Go.WideShapes Go.ChangeAt Go.RowKit

def nearB (x y : Int) : Bool := decide (-1073741823 ≤ x) && decide (x ≤ 1073741823) && decide (-1073741823 ≤ y) && decide (y ≤ 1073741823)
theorem nearB_iff {x y : Int} : nearB x y = true ↔ -1073741823 ≤ x ∧ x ≤ 1073741823 ∧ -1073741823 ≤ y ∧ y ≤ 1073741823 := by
  unfold nearB; simp [and_assoc]

theorem c_near (x y : Int) (w : World) :
    Calls Tryz.prog 114 #[.agg #[.int .i64 x, .int .i64 y]] w fun e w' => e = .returned (.bool (nearB x y)) ∧ Gr w w' := by
  by_cases h1 : -1073741823 ≤ x
  · by_cases h2 : x ≤ 1073741823
    · by_cases h3 : -1073741823 ≤ y
      · by_cases h4 : y ≤ 1073741823
        · have e : nearB x y = true := nearB_iff.2 ⟨h1, h2, h3, h4⟩
          rw [e]
          go_enter Tryz.func114, Tryz.ntmps114
          go_wp2
          go_ret
          exact ⟨rfl, by go_grown⟩
        · have e : nearB x y = false := by unfold nearB; simp [h4]
          rw [e]
          go_enter Tryz.func114, Tryz.ntmps114
          go_wp2
          go_ret
          exact ⟨rfl, by go_grown⟩
      · have e : nearB x y = false := by unfold nearB; simp [h3]
        rw [e]
        go_enter Tryz.func114, Tryz.ntmps114
        go_wp2
        go_ret
        exact ⟨rfl, by go_grown⟩
    · have e : nearB x y = false := by unfold nearB; simp [h2]
      rw [e]
      go_enter Tryz.func114, Tryz.ntmps114
      go_wp2
      go_ret
      exact ⟨rfl, by go_grown⟩
  · have e : nearB x y = false := by unfold nearB; simp [h1]
    rw [e]
    go_enter Tryz.func114, Tryz.ntmps114
    go_wp2
    go_ret
    exact ⟨rfl, by go_grown⟩

def allB (X Y : Nat → Int) : Nat → Bool
  | 0 => true
  | n + 1 => allB X Y n && nearB (X n) (Y n)
theorem allB_iff (X Y : Nat → Int) (n : Nat) : allB X Y n = true ↔ ∀ k, k < n → nearB (X k) (Y k) = true := by
  induction n with
  | zero => simp [allB]
  | succ n ih =>
    simp only [allB, Bool.and_eq_true, ih]
    constructor
    · rintro ⟨h1, h2⟩ k hk
      rcases Nat.lt_succ_iff_lt_or_eq.1 hk with h | rfl
      · exact h1 k h
      · exact h2
    · intro h
      exact ⟨fun k hk => h k (by omega), h n (by omega)⟩

theorem c_allNear (n : Nat) (X Y : Nat → Int) (b : Nat) (w : World) (hn : n ≤ 100) (hb : b < w.heap.size)
    (hc : ∀ k, k < n → w.cell? ⟨b, k * 2, none⟩ = some (.int .i64 (X k)) ∧ w.cell? ⟨b, k * 2 + 1, none⟩ = some (.int .i64 (Y k))) :
    Calls Tryz.prog 206 #[.slice (some ⟨b, 0, none⟩) n n] w fun e w' => e = .returned (.bool (allB X Y n)) ∧ Gr w w' := by
  go_enter Tryz.func206, Tryz.ntmps206
  go_wp2_with fail
  go_loopg [7] n (fun k v wr => ∃ i : Nat, i ≤ n ∧ k = n - i ∧ v = .int .i64 i ∧ allB X Y i = true ∧ Gr w wr)
  case atStart => exact ⟨0, by omega, by omega, rfl, rfl, Gr.of_eq rfl⟩
  case round =>
    obtain ⟨i, hi, hk, rfl, hall, hg⟩ := hrel
    by_cases h : i < n
    · have ti : decide ((i : Int) < (n : Int)) = true := decide_eq_true (by omega)
      have ti2 : decide (i < n) = true := decide_eq_true h
      have c0 := cell_gr hg (hc i h).1
      have c1 := cell_gr hg (hc i h).2
      obtain ⟨q, hq⟩ : ∃ q, q = nearB (X i) (Y i) := ⟨_, rfl⟩
      have hN := Lib.hid (c_near (X i) (Y i))
      rw [← hq] at hN
      cases q
      · have e : allB X Y n = false := by
          rw [← Bool.not_eq_true, allB_iff]
          intro H
          rw [H i h] at hq
          cases hq
        have HE := Lib.hid e
        clear hall e hq hc
        go_wp2_with (go_at_call 114; (with_reducible refine (hN.out _).mono ?_); rintro e w' ⟨rfl, hg1⟩)
        go_ret
        exact ⟨by rw [HE.out]; rfl, Gr.trans (Gr.trans hg (by go_grown)) hg1⟩
      · have e : allB X Y (i + 1) = true := by simp only [allB, hall, ← hq]; rfl
        have HE := Lib.hid e
        clear hall e hq hc
        go_wp2_with (go_at_call 114; (with_reducible refine (hN.out _).mono ?_); rintro e w' ⟨rfl, hg1⟩)
        go_roundg (n - (i + 1))
        case measure => omega
        case rel => exact ⟨i + 1, by omega, rfl, by go_num, HE.out, Gr.trans (Gr.trans hg (by go_grown)) hg1⟩
    · have e : i = n := by omega
      subst e
      go_wp2_with fail
      go_ret
      exact ⟨by simp [hall], hg⟩
end Go.Proofs.YtpomllpplpalkaaGreatDoor
namespace Go.Proofs.YtpomllpplpalkaaGreatDoor
set_option linter.unusedVariables false
open Go.ChangeShapes Go.WideShapes Go.ChangeAt Go.RowKit

theorem mul_near {x y : Int} (hx : -2147483646 ≤ x ∧ x ≤ 2147483646) (hy : -2147483646 ≤ y ∧ y ≤ 2147483646) : -4611686009837453316 ≤ x * y ∧ x * y ≤ 4611686009837453316 := by
  have h1 : x.natAbs * y.natAbs ≤ 2147483646 * 2147483646 := Nat.mul_le_mul (by omega) (by omega)
  have h2 : (x * y).natAbs = x.natAbs * y.natAbs := Int.natAbs_mul x y
  omega
def crossZ (ax ay bx by' cx cy : Int) : Int := if nearB ax ay && nearB bx by' && nearB cx cy then (bx - ax) * (cy - ay) - (by' - ay) * (cx - ax) else 0

theorem c_rPoint (x y : Int) (w : World) :
    Calls Tryz.prog 52 #[.agg #[.int .i64 x, .int .i64 y]] w fun e w' => e = .returned (.bool (nearB x y)) ∧ Gr w w' := by
  by_cases h1 : -1073741823 ≤ x
  · by_cases h2 : x ≤ 1073741823
    · by_cases h3 : -1073741823 ≤ y
      · by_cases h4 : y ≤ 1073741823
        · have e : nearB x y = true := nearB_iff.2 ⟨h1, h2, h3, h4⟩
          rw [e]
          go_enter Tryz.func52, Tryz.ntmps52
          go_wp2
          go_ret
          exact ⟨rfl, by go_grown⟩
        · have e : nearB x y = false := by unfold nearB; simp [h4]
          rw [e]
          go_enter Tryz.func52, Tryz.ntmps52
          go_wp2
          go_ret
          exact ⟨rfl, by go_grown⟩
      · have e : nearB x y = false := by unfold nearB; simp [h3]
        rw [e]
        go_enter Tryz.func52, Tryz.ntmps52
        go_wp2
        go_ret
        exact ⟨rfl, by go_grown⟩
    · have e : nearB x y = false := by unfold nearB; simp [h2]
      rw [e]
      go_enter Tryz.func52, Tryz.ntmps52
      go_wp2
      go_ret
      exact ⟨rfl, by go_grown⟩
  · have e : nearB x y = false := by unfold nearB; simp [h1]
    rw [e]
    go_enter Tryz.func52, Tryz.ntmps52
    go_wp2
    go_ret
    exact ⟨rfl, by go_grown⟩

def cmpZ (a b : Int) : Int := if a < b then -1 else if b < a then 1 else 0
theorem cmpZ_lt {a b : Int} (h : a < b) : cmpZ a b = -1 := if_pos h
theorem cmpZ_gt {a b : Int} (h : b < a) : cmpZ a b = 1 := by unfold cmpZ; rw [if_neg (by omega), if_pos h]
theorem cmpZ_eq (a : Int) : cmpZ a a = 0 := by unfold cmpZ; simp
theorem c_cmpInt (a b : Int) (w : World) :
    Calls Tryz.prog 229 #[.int .i64 a, .int .i64 b] w fun e w' => e = .returned (.int .i64 (cmpZ a b)) ∧ Gr w w' := by
  rcases Int.lt_trichotomy a b with h | h | h
  · rw [cmpZ_lt h]
    have h2 : ¬ b < a := by omega
    go_enter Tryz.func229, Tryz.ntmps229
    go_wp2
    go_ret
    exact ⟨rfl, by go_grown⟩
  · subst h
    rw [cmpZ_eq]
    go_enter Tryz.func229, Tryz.ntmps229
    go_wp2
    go_ret
    exact ⟨rfl, by go_grown⟩
  · rw [cmpZ_gt h]
    have h2 : ¬ a < b := by omega
    go_enter Tryz.func229, Tryz.ntmps229
    go_wp2
    go_ret
    exact ⟨rfl, by go_grown⟩

theorem c_allNear3 (ax ay bx by' cx cy : Int) (b : Nat) (w : World) (hb : b < w.heap.size)
    (k0 : w.cell? ⟨b, 0, none⟩ = some (.int .i64 ax)) (k1 : w.cell? ⟨b, 1, none⟩ = some (.int .i64 ay)) (k2 : w.cell? ⟨b, 2, none⟩ = some (.int .i64 bx)) (k3 : w.cell? ⟨b, 3, none⟩ = some (.int .i64 by'))
    (k4 : w.cell? ⟨b, 4, none⟩ = some (.int .i64 cx)) (k5 : w.cell? ⟨b, 5, none⟩ = some (.int .i64 cy)) :
    Calls Tryz.prog 206 #[.slice (some ⟨b, 0, none⟩) 3 3] w fun e w' => e = .returned (.bool (nearB ax ay && nearB bx by' && nearB cx cy)) ∧ Gr w w' := by
  have h := c_allNear 3 (fun k => [ax, bx, cx].getD k 0) (fun k => [ay, by', cy].getD k 0) b w (by omega) hb (fun k hk => by
    rcases (by omega : k = 0 ∨ k = 1 ∨ k = 2) with rfl | rfl | rfl
    · exact ⟨k0, k1⟩
    · exact ⟨k2, k3⟩
    · exact ⟨k4, k5⟩)
  have e : allB (fun k => [ax, bx, cx].getD k 0) (fun k => [ay, by', cy].getD k 0) 3 = (nearB ax ay && nearB bx by' && nearB cx cy) := by simp [allB]
  rw [e] at h
  exact h

set_option maxRecDepth 100000 in
theorem c_Cross (ax ay bx by' cx cy : Int) (W : World) :
    Calls Tryz.prog 167 #[.agg #[.int .i64 ax, .int .i64 ay], .agg #[.int .i64 bx, .int .i64 by'], .agg #[.int .i64 cx, .int .i64 cy]] W fun e w' => e = .returned (.int .i64 (crossZ ax ay bx by' cx cy)) ∧ Gr W w' := by
  obtain ⟨q, hq⟩ : ∃ q, q = (nearB ax ay && nearB bx by' && nearB cx cy) := ⟨_, rfl⟩
  have HA : ∀ b w, b < w.heap.size → w.cell? ⟨b, 0, none⟩ = some (.int .i64 ax) → w.cell? ⟨b, 1, none⟩ = some (.int .i64 ay) → w.cell? ⟨b, 2, none⟩ = some (.int .i64 bx) → w.cell? ⟨b, 3, none⟩ = some (.int .i64 by') → w.cell? ⟨b, 4, none⟩ = some (.int .i64 cx) → w.cell? ⟨b, 5, none⟩ = some (.int .i64 cy) →
      Calls Tryz.prog 206 #[.slice (some ⟨b, 0, none⟩) 3 3] w fun e w' => e = .returned (.bool q) ∧ Gr w w' := fun b w hb k0 k1 k2 k3 k4 k5 => by
    rw [hq]
    exact c_allNear3 ax ay bx by' cx cy b w hb k0 k1 k2 k3 k4 k5
  have H := Lib.hid HA
  clear HA
  unfold crossZ
  rw [← hq]
  cases q
  · clear hq
    go_enter Tryz.func167, Tryz.ntmps167
    go_wp2_with fail
    go_at_call 206
    refine ((H.out _ _ (by go_simp) (by go_simp) (by go_simp) (by go_simp) (by go_simp) (by go_simp) (by go_simp))).mono ?_
    rintro e w1 ⟨rfl, hw1⟩
    have cw1_0_0 : w1.cell? ⟨W.heap.size, 0, none⟩ = some (.int .i64 ax) := cell_gr hw1 (by go_simp)
    have cw1_0_1 : w1.cell? ⟨W.heap.size, 1, none⟩ = some (.int .i64 ay) := cell_gr hw1 (by go_simp)
    have zw1_0 : W.heap.size < w1.heap.size := World.block_lt_of_cell? _ _ cw1_0_0
    have cw1_1_0 : w1.cell? ⟨W.heap.size + 1, 0, none⟩ = some (.int .i64 bx) := cell_gr hw1 (by go_simp)
    have cw1_1_1 : w1.cell? ⟨W.heap.size + 1, 1, none⟩ = some (.int .i64 by') := cell_gr hw1 (by go_simp)
    have zw1_1 : W.heap.size + 1 < w1.heap.size := World.block_lt_of_cell? _ _ cw1_1_0
    have cw1_2_0 : w1.cell? ⟨W.heap.size + 1 + 1, 0, none⟩ = some (.int .i64 cx) := cell_gr hw1 (by go_simp)
    have cw1_2_1 : w1.cell? ⟨W.heap.size + 1 + 1, 1, none⟩ = some (.int .i64 cy) := cell_gr hw1 (by go_simp)
    have zw1_2 : W.heap.size + 1 + 1 < w1.heap.size := World.block_lt_of_cell? _ _ cw1_2_0
    have gw1 : Gr W w1 := Gr.trans (by go_grown) hw1
    clear hw1
    go_wp2_with fail
    go_ret
    exact ⟨rfl, by go_grown⟩
  · have hq' : (nearB ax ay = true ∧ nearB bx by' = true) ∧ nearB cx cy = true := by simpa using hq.symm
    have n1 := nearB_iff.1 hq'.1.1
    have n2 := nearB_iff.1 hq'.1.2
    have n3 := nearB_iff.1 hq'.2
    have m1 := mul_near (x := bx - ax) (y := cy - ay) (by omega) (by omega)
    have m2 := mul_near (x := by' - ay) (y := cx - ax) (by omega) (by omega)
    obtain ⟨p1, hp1⟩ : ∃ p, p = (bx - ax) * (cy - ay) := ⟨_, rfl⟩
    obtain ⟨p2, hp2⟩ : ∃ p, p = (by' - ay) * (cx - ax) := ⟨_, rfl⟩
    rw [← hp1] at m1
    rw [← hp2] at m2
    have e1 : wrap64 (bx - ax) = bx - ax := IntWalk.wrap64_in _ (by omega)
    have e2 : wrap64 (cy - ay) = cy - ay := IntWalk.wrap64_in _ (by omega)
    have e3 : wrap64 (by' - ay) = by' - ay := IntWalk.wrap64_in _ (by omega)
    have e4 : wrap64 (cx - ax) = cx - ax := IntWalk.wrap64_in _ (by omega)
    have e5 : wrap64 ((bx - ax) * (cy - ay)) = p1 := by rw [← hp1]; exact IntWalk.wrap64_in _ (by omega)
    have e6 : wrap64 ((by' - ay) * (cx - ax)) = p2 := by rw [← hp2]; exact IntWalk.wrap64_in _ (by omega)
    have e7 : wrap64 (p1 - p2) = p1 - p2 := IntWalk.wrap64_in _ (by omega)
    have f1 : IntKind.i64.wrap (bx - ax) = bx - ax := IntWalk.i64_in _ (by omega)
    have f2 : IntKind.i64.wrap (cy - ay) = cy - ay := IntWalk.i64_in _ (by omega)
    have f3 : IntKind.i64.wrap (by' - ay) = by' - ay := IntWalk.i64_in _ (by omega)
    have f4 : IntKind.i64.wrap (cx - ax) = cx - ax := IntWalk.i64_in _ (by omega)
    have f5 : IntKind.i64.wrap ((bx - ax) * (cy - ay)) = p1 := by rw [← hp1]; exact IntWalk.i64_in _ (by omega)
    have f6 : IntKind.i64.wrap ((by' - ay) * (cx - ax)) = p2 := by rw [← hp2]; exact IntWalk.i64_in _ (by omega)
    have f7 : IntKind.i64.wrap (p1 - p2) = p1 - p2 := IntWalk.i64_in _ (by omega)
    rw [← hp1, ← hp2]
    clear hq hq' n1 n2 n3 m1 m2 hp1 hp2
    go_enter Tryz.func167, Tryz.ntmps167
    go_wp2_with fail
    go_at_call 206
    refine ((H.out _ _ (by go_simp) (by go_simp) (by go_simp) (by go_simp) (by go_simp) (by go_simp) (by go_simp))).mono ?_
    rintro e w1 ⟨rfl, hw1⟩
    have cw1_0_0 : w1.cell? ⟨W.heap.size, 0, none⟩ = some (.int .i64 ax) := cell_gr hw1 (by go_simp)
    have cw1_0_1 : w1.cell? ⟨W.heap.size, 1, none⟩ = some (.int .i64 ay) := cell_gr hw1 (by go_simp)
    have zw1_0 : W.heap.size < w1.heap.size := World.block_lt_of_cell? _ _ cw1_0_0
    have cw1_1_0 : w1.cell? ⟨W.heap.size + 1, 0, none⟩ = some (.int .i64 bx) := cell_gr hw1 (by go_simp)
    have cw1_1_1 : w1.cell? ⟨W.heap.size + 1, 1, none⟩ = some (.int .i64 by') := cell_gr hw1 (by go_simp)
    have zw1_1 : W.heap.size + 1 < w1.heap.size := World.block_lt_of_cell? _ _ cw1_1_0
    have cw1_2_0 : w1.cell? ⟨W.heap.size + 1 + 1, 0, none⟩ = some (.int .i64 cx) := cell_gr hw1 (by go_simp)
    have cw1_2_1 : w1.cell? ⟨W.heap.size + 1 + 1, 1, none⟩ = some (.int .i64 cy) := cell_gr hw1 (by go_simp)
    have zw1_2 : W.heap.size + 1 + 1 < w1.heap.size := World.block_lt_of_cell? _ _ cw1_2_0
    have gw1 : Gr W w1 := Gr.trans (by go_grown) hw1
    clear hw1
    go_wp2_with fail
    go_ret
    exact ⟨rfl, by go_grown⟩
end Go.Proofs.YtpomllpplpalkaaGreatDoor
namespace Go.Proofs.YtpomllpplpalkaaGreatDoor
set_option linter.unusedVariables false
open Go.ChangeShapes Go.WideShapes Go.ChangeAt Go.RowKit

theorem sq_nonneg (x : Int) : 0 ≤ x * x := by
  rcases Int.le_total 0 x with h | h
  · exact Int.mul_nonneg h h
  · exact Int.mul_nonneg_of_nonpos_of_nonpos h h
def boxErr (lx ly hx hy : Int) : Value := if nearB lx ly && nearB hx hy then (if decide (lx ≤ hx) && decide (ly ≤ hy) then .nilIface else .iface 107 (.int .i64 1)) else .iface 107 (.int .i64 2)

theorem c_Orient (ax ay bx by' cx cy : Int) (w : World) :
    Calls Tryz.prog 204 #[.agg #[.int .i64 ax, .int .i64 ay], .agg #[.int .i64 bx, .int .i64 by'], .agg #[.int .i64 cx, .int .i64 cy]] w fun e w' => e = .returned (.int .i64 (cmpZ (crossZ ax ay bx by' cx cy) 0)) ∧ Gr w w' := by
  go_enter Tryz.func204, Tryz.ntmps204
  go_wp2_with (first | (go_at_call 167; (with_reducible refine (c_Cross ax ay bx by' cx cy _).mono ?_); rintro e w' ⟨rfl, hg⟩) | (go_at_call 229; (with_reducible refine (c_cmpInt _ _ _).mono ?_); rintro e w'' ⟨rfl, hg2⟩))
  go_ret
  exact ⟨rfl, Gr.trans (Gr.trans (by go_grown) hg) hg2⟩

theorem c_CheckBox (lx ly hx hy : Int) (W : World) :
    Calls Tryz.prog 148 #[.agg #[.int .i64 lx, .int .i64 ly, .int .i64 hx, .int .i64 hy]] W fun e w' => e = .returned (boxErr lx ly hx hy) ∧ Gr W w' := by
  have H1 := Lib.hid (c_near lx ly)
  have H2 := Lib.hid (c_near hx hy)
  obtain ⟨q, hq⟩ : ∃ q, q = nearB lx ly := ⟨_, rfl⟩
  obtain ⟨r, hr⟩ : ∃ r, r = nearB hx hy := ⟨_, rfl⟩
  unfold boxErr
  rw [← hq] at H1 ⊢
  rw [← hr] at H2 ⊢
  have T1 : decide (lx ≤ hx) = !decide (hx < lx) := by by_cases h : hx < lx <;> simp [h] <;> omega
  have T2 : decide (ly ≤ hy) = !decide (hy < ly) := by by_cases h : hy < ly <;> simp [h] <;> omega
  rw [T1, T2]
  clear T1 T2 hq hr
  cases q
  · simp only [Bool.false_and, Bool.false_eq_true, if_false]
    go_enter Tryz.func148, Tryz.ntmps148
    go_wp2_with fail
    go_at_call 114
    refine ((H1.out _)).mono ?_
    rintro e w1 ⟨rfl, hw1⟩
    have cw1_0_0 : w1.cell? ⟨W.heap.size, 0, none⟩ = some (.int .i64 lx) := cell_gr hw1 (by go_simp)
    have cw1_0_1 : w1.cell? ⟨W.heap.size, 1, none⟩ = some (.int .i64 ly) := cell_gr hw1 (by go_simp)
    have cw1_0_2 : w1.cell? ⟨W.heap.size, 2, none⟩ = some (.int .i64 hx) := cell_gr hw1 (by go_simp)
    have cw1_0_3 : w1.cell? ⟨W.heap.size, 3, none⟩ = some (.int .i64 hy) := cell_gr hw1 (by go_simp)
    have zw1_0 : W.heap.size < w1.heap.size := World.block_lt_of_cell? _ _ cw1_0_0
    have gw1 : Gr W w1 := Gr.trans (by go_grown) hw1
    clear hw1
    go_wp2_with fail
    go_ret
    exact ⟨rfl, by go_grown⟩
  · cases r
    · simp only [Bool.and_false, Bool.false_eq_true, if_false]
      go_enter Tryz.func148, Tryz.ntmps148
      go_wp2_with fail
      go_at_call 114
      refine ((H1.out _)).mono ?_
      rintro e w1 ⟨rfl, hw1⟩
      have cw1_0_0 : w1.cell? ⟨W.heap.size, 0, none⟩ = some (.int .i64 lx) := cell_gr hw1 (by go_simp)
      have cw1_0_1 : w1.cell? ⟨W.heap.size, 1, none⟩ = some (.int .i64 ly) := cell_gr hw1 (by go_simp)
      have cw1_0_2 : w1.cell? ⟨W.heap.size, 2, none⟩ = some (.int .i64 hx) := cell_gr hw1 (by go_simp)
      have cw1_0_3 : w1.cell? ⟨W.heap.size, 3, none⟩ = some (.int .i64 hy) := cell_gr hw1 (by go_simp)
      have zw1_0 : W.heap.size < w1.heap.size := World.block_lt_of_cell? _ _ cw1_0_0
      have gw1 : Gr W w1 := Gr.trans (by go_grown) hw1
      clear hw1
      go_wp2_with fail
      go_at_call 114
      refine ((H2.out _)).mono ?_
      rintro e w2 ⟨rfl, hw2⟩
      have cw2_0_0 : w2.cell? ⟨W.heap.size, 0, none⟩ = some (.int .i64 lx) := cell_gr hw2 (by go_simp)
      have cw2_0_1 : w2.cell? ⟨W.heap.size, 1, none⟩ = some (.int .i64 ly) := cell_gr hw2 (by go_simp)
      have cw2_0_2 : w2.cell? ⟨W.heap.size, 2, none⟩ = some (.int .i64 hx) := cell_gr hw2 (by go_simp)
      have cw2_0_3 : w2.cell? ⟨W.heap.size, 3, none⟩ = some (.int .i64 hy) := cell_gr hw2 (by go_simp)
      have zw2_0 : W.heap.size < w2.heap.size := World.block_lt_of_cell? _ _ cw2_0_0
      have gw2 : Gr W w2 := Gr.trans (by have gg := gw1; have gs := gg.size; go_grown) hw2
      clear hw2 gw1 zw1_0 cw1_0_0 cw1_0_1 cw1_0_2 cw1_0_3
      go_wp2_with fail
      go_ret
      exact ⟨rfl, by go_grown⟩
    · simp only [Bool.and_true, if_true]
      by_cases a1 : hx < lx
      · simp only [a1, decide_true, Bool.not_true, Bool.false_and, Bool.false_eq_true, if_false]
        have b1 : ¬ lx ≤ hx := by omega
        go_enter Tryz.func148, Tryz.ntmps148
        go_wp2_with fail
        go_at_call 114
        refine ((H1.out _)).mono ?_
        rintro e w1 ⟨rfl, hw1⟩
        have cw1_0_0 : w1.cell? ⟨W.heap.size, 0, none⟩ = some (.int .i64 lx) := cell_gr hw1 (by go_simp)
        have cw1_0_1 : w1.cell? ⟨W.heap.size, 1, none⟩ = some (.int .i64 ly) := cell_gr hw1 (by go_simp)
        have cw1_0_2 : w1.cell? ⟨W.heap.size, 2, none⟩ = some (.int .i64 hx) := cell_gr hw1 (by go_simp)
        have cw1_0_3 : w1.cell? ⟨W.heap.size, 3, none⟩ = some (.int .i64 hy) := cell_gr hw1 (by go_simp)
        have zw1_0 : W.heap.size < w1.heap.size := World.block_lt_of_cell? _ _ cw1_0_0
        have gw1 : Gr W w1 := Gr.trans (by go_grown) hw1
        clear hw1
        go_wp2_with fail
        go_at_call 114
        refine ((H2.out _)).mono ?_
        rintro e w2 ⟨rfl, hw2⟩
        have cw2_0_0 : w2.cell? ⟨W.heap.size, 0, none⟩ = some (.int .i64 lx) := cell_gr hw2 (by go_simp)
        have cw2_0_1 : w2.cell? ⟨W.heap.size, 1, none⟩ = some (.int .i64 ly) := cell_gr hw2 (by go_simp)
        have cw2_0_2 : w2.cell? ⟨W.heap.size, 2, none⟩ = some (.int .i64 hx) := cell_gr hw2 (by go_simp)
        have cw2_0_3 : w2.cell? ⟨W.heap.size, 3, none⟩ = some (.int .i64 hy) := cell_gr hw2 (by go_simp)
        have zw2_0 : W.heap.size < w2.heap.size := World.block_lt_of_cell? _ _ cw2_0_0
        have gw2 : Gr W w2 := Gr.trans (by have gg := gw1; have gs := gg.size; go_grown) hw2
        clear hw2 gw1 zw1_0 cw1_0_0 cw1_0_1 cw1_0_2 cw1_0_3
        go_wp2_with fail
        go_ret
        exact ⟨rfl, by go_grown⟩
      · by_cases a2 : hy < ly
        · simp only [a1, a2, decide_true, decide_false, Bool.not_true, Bool.not_false, Bool.true_and, Bool.false_eq_true, if_false]
          go_enter Tryz.func148, Tryz.ntmps148
          go_wp2_with fail
          go_at_call 114
          refine ((H1.out _)).mono ?_
          rintro e w1 ⟨rfl, hw1⟩
          have cw1_0_0 : w1.cell? ⟨W.heap.size, 0, none⟩ = some (.int .i64 lx) := cell_gr hw1 (by go_simp)
          have cw1_0_1 : w1.cell? ⟨W.heap.size, 1, none⟩ = some (.int .i64 ly) := cell_gr hw1 (by go_simp)
          have cw1_0_2 : w1.cell? ⟨W.heap.size, 2, none⟩ = some (.int .i64 hx) := cell_gr hw1 (by go_simp)
          have cw1_0_3 : w1.cell? ⟨W.heap.size, 3, none⟩ = some (.int .i64 hy) := cell_gr hw1 (by go_simp)
          have zw1_0 : W.heap.size < w1.heap.size := World.block_lt_of_cell? _ _ cw1_0_0
          have gw1 : Gr W w1 := Gr.trans (by go_grown) hw1
          clear hw1
          go_wp2_with fail
          go_at_call 114
          refine ((H2.out _)).mono ?_
          rintro e w2 ⟨rfl, hw2⟩
          have cw2_0_0 : w2.cell? ⟨W.heap.size, 0, none⟩ = some (.int .i64 lx) := cell_gr hw2 (by go_simp)
          have cw2_0_1 : w2.cell? ⟨W.heap.size, 1, none⟩ = some (.int .i64 ly) := cell_gr hw2 (by go_simp)
          have cw2_0_2 : w2.cell? ⟨W.heap.size, 2, none⟩ = some (.int .i64 hx) := cell_gr hw2 (by go_simp)
          have cw2_0_3 : w2.cell? ⟨W.heap.size, 3, none⟩ = some (.int .i64 hy) := cell_gr hw2 (by go_simp)
          have zw2_0 : W.heap.size < w2.heap.size := World.block_lt_of_cell? _ _ cw2_0_0
          have gw2 : Gr W w2 := Gr.trans (by have gg := gw1; have gs := gg.size; go_grown) hw2
          clear hw2 gw1 zw1_0 cw1_0_0 cw1_0_1 cw1_0_2 cw1_0_3
          go_wp2_with fail
          go_ret
          exact ⟨rfl, by go_grown⟩
        · simp only [a1, a2, decide_false, Bool.not_false, Bool.and_self, if_true]
          go_enter Tryz.func148, Tryz.ntmps148
          go_wp2_with fail
          go_at_call 114
          refine ((H1.out _)).mono ?_
          rintro e w1 ⟨rfl, hw1⟩
          have cw1_0_0 : w1.cell? ⟨W.heap.size, 0, none⟩ = some (.int .i64 lx) := cell_gr hw1 (by go_simp)
          have cw1_0_1 : w1.cell? ⟨W.heap.size, 1, none⟩ = some (.int .i64 ly) := cell_gr hw1 (by go_simp)
          have cw1_0_2 : w1.cell? ⟨W.heap.size, 2, none⟩ = some (.int .i64 hx) := cell_gr hw1 (by go_simp)
          have cw1_0_3 : w1.cell? ⟨W.heap.size, 3, none⟩ = some (.int .i64 hy) := cell_gr hw1 (by go_simp)
          have zw1_0 : W.heap.size < w1.heap.size := World.block_lt_of_cell? _ _ cw1_0_0
          have gw1 : Gr W w1 := Gr.trans (by go_grown) hw1
          clear hw1
          go_wp2_with fail
          go_at_call 114
          refine ((H2.out _)).mono ?_
          rintro e w2 ⟨rfl, hw2⟩
          have cw2_0_0 : w2.cell? ⟨W.heap.size, 0, none⟩ = some (.int .i64 lx) := cell_gr hw2 (by go_simp)
          have cw2_0_1 : w2.cell? ⟨W.heap.size, 1, none⟩ = some (.int .i64 ly) := cell_gr hw2 (by go_simp)
          have cw2_0_2 : w2.cell? ⟨W.heap.size, 2, none⟩ = some (.int .i64 hx) := cell_gr hw2 (by go_simp)
          have cw2_0_3 : w2.cell? ⟨W.heap.size, 3, none⟩ = some (.int .i64 hy) := cell_gr hw2 (by go_simp)
          have zw2_0 : W.heap.size < w2.heap.size := World.block_lt_of_cell? _ _ cw2_0_0
          have gw2 : Gr W w2 := Gr.trans (by have gg := gw1; have gs := gg.size; go_grown) hw2
          clear hw2 gw1 zw1_0 cw1_0_0 cw1_0_1 cw1_0_2 cw1_0_3
          go_wp2_with fail
          go_ret
          exact ⟨rfl, by go_grown⟩
end Go.Proofs.YtpomllpplpalkaaGreatDoor
namespace Go.Proofs.YtpomllpplpalkaaGreatDoor
set_option linter.unusedVariables false
open Go.ChangeShapes Go.WideShapes Go.ChangeAt Go.RowKit

end Go.Proofs.YtpomllpplpalkaaGreatDoor
namespace Go.Proofs.YtpomllpplpalkaaGreatDoor
set_option linter.unusedVariables false
open Go.ChangeShapes Go.WideShapes Go.ChangeAt Go.RowKit

end Go.Proofs.YtpomllpplpalkaaGreatDoor
namespace Go.Proofs.YtpomllpplpalkaaGreatDoor
set_option linter.unusedVariables false
open Go.ChangeShapes Go.WideShapes Go.ChangeAt Go.RowKit

def boxCode (lx ly hx hy : Int) : Int := if nearB lx ly && nearB hx hy then (if decide (lx ≤ hx) && decide (ly ≤ hy) then 0 else 1) else 2
theorem c_rCheckBox (lx ly hx hy : Int) (W : World) :
    Calls Tryz.prog 125 #[.agg #[.int .i64 lx, .int .i64 ly, .int .i64 hx, .int .i64 hy]] W fun e w' => e = .returned (.int .i64 (boxCode lx ly hx hy)) ∧ Gr W w' := by
  have H1 := Lib.hid (c_rPoint lx ly)
  have H2 := Lib.hid (c_rPoint hx hy)
  obtain ⟨q, hq⟩ : ∃ q, q = nearB lx ly := ⟨_, rfl⟩
  obtain ⟨r, hr⟩ : ∃ r, r = nearB hx hy := ⟨_, rfl⟩
  unfold boxCode
  rw [← hq] at H1 ⊢
  rw [← hr] at H2 ⊢
  have T1 : decide (lx ≤ hx) = !decide (hx < lx) := by by_cases h : hx < lx <;> simp [h] <;> omega
  have T2 : decide (ly ≤ hy) = !decide (hy < ly) := by by_cases h : hy < ly <;> simp [h] <;> omega
  rw [T1, T2]
  clear T1 T2 hq hr
  cases q
  · simp only [Bool.false_and, Bool.false_eq_true, if_false]
    go_enter Tryz.func125, Tryz.ntmps125
    go_wp2_with fail
    go_at_call 52
    refine ((H1.out _)).mono ?_
    rintro e w1 ⟨rfl, hw1⟩
    have cw1_0_0 : w1.cell? ⟨W.heap.size, 0, none⟩ = some (.int .i64 lx) := cell_gr hw1 (by go_simp)
    have cw1_0_1 : w1.cell? ⟨W.heap.size, 1, none⟩ = some (.int .i64 ly) := cell_gr hw1 (by go_simp)
    have cw1_0_2 : w1.cell? ⟨W.heap.size, 2, none⟩ = some (.int .i64 hx) := cell_gr hw1 (by go_simp)
    have cw1_0_3 : w1.cell? ⟨W.heap.size, 3, none⟩ = some (.int .i64 hy) := cell_gr hw1 (by go_simp)
    have zw1_0 : W.heap.size < w1.heap.size := World.block_lt_of_cell? _ _ cw1_0_0
    have gw1 : Gr W w1 := Gr.trans (by go_grown) hw1
    clear hw1
    go_wp2_with fail
    go_ret
    exact ⟨rfl, by go_grown⟩
  · cases r
    · simp only [Bool.and_false, Bool.false_eq_true, if_false]
      go_enter Tryz.func125, Tryz.ntmps125
      go_wp2_with fail
      go_at_call 52
      refine ((H1.out _)).mono ?_
      rintro e w1 ⟨rfl, hw1⟩
      have cw1_0_0 : w1.cell? ⟨W.heap.size, 0, none⟩ = some (.int .i64 lx) := cell_gr hw1 (by go_simp)
      have cw1_0_1 : w1.cell? ⟨W.heap.size, 1, none⟩ = some (.int .i64 ly) := cell_gr hw1 (by go_simp)
      have cw1_0_2 : w1.cell? ⟨W.heap.size, 2, none⟩ = some (.int .i64 hx) := cell_gr hw1 (by go_simp)
      have cw1_0_3 : w1.cell? ⟨W.heap.size, 3, none⟩ = some (.int .i64 hy) := cell_gr hw1 (by go_simp)
      have zw1_0 : W.heap.size < w1.heap.size := World.block_lt_of_cell? _ _ cw1_0_0
      have gw1 : Gr W w1 := Gr.trans (by go_grown) hw1
      clear hw1
      go_wp2_with fail
      go_at_call 52
      refine ((H2.out _)).mono ?_
      rintro e w2 ⟨rfl, hw2⟩
      have cw2_0_0 : w2.cell? ⟨W.heap.size, 0, none⟩ = some (.int .i64 lx) := cell_gr hw2 (by go_simp)
      have cw2_0_1 : w2.cell? ⟨W.heap.size, 1, none⟩ = some (.int .i64 ly) := cell_gr hw2 (by go_simp)
      have cw2_0_2 : w2.cell? ⟨W.heap.size, 2, none⟩ = some (.int .i64 hx) := cell_gr hw2 (by go_simp)
      have cw2_0_3 : w2.cell? ⟨W.heap.size, 3, none⟩ = some (.int .i64 hy) := cell_gr hw2 (by go_simp)
      have zw2_0 : W.heap.size < w2.heap.size := World.block_lt_of_cell? _ _ cw2_0_0
      have gw2 : Gr W w2 := Gr.trans (by have gg := gw1; have gs := gg.size; go_grown) hw2
      clear hw2 gw1 zw1_0 cw1_0_0 cw1_0_1 cw1_0_2 cw1_0_3
      go_wp2_with fail
      go_ret
      exact ⟨rfl, by go_grown⟩
    · simp only [Bool.and_true, if_true]
      by_cases a1 : hx < lx
      · simp only [a1, decide_true, Bool.not_true, Bool.false_and, Bool.false_eq_true, if_false]
        have b1 : ¬ lx ≤ hx := by omega
        go_enter Tryz.func125, Tryz.ntmps125
        go_wp2_with fail
        go_at_call 52
        refine ((H1.out _)).mono ?_
        rintro e w1 ⟨rfl, hw1⟩
        have cw1_0_0 : w1.cell? ⟨W.heap.size, 0, none⟩ = some (.int .i64 lx) := cell_gr hw1 (by go_simp)
        have cw1_0_1 : w1.cell? ⟨W.heap.size, 1, none⟩ = some (.int .i64 ly) := cell_gr hw1 (by go_simp)
        have cw1_0_2 : w1.cell? ⟨W.heap.size, 2, none⟩ = some (.int .i64 hx) := cell_gr hw1 (by go_simp)
        have cw1_0_3 : w1.cell? ⟨W.heap.size, 3, none⟩ = some (.int .i64 hy) := cell_gr hw1 (by go_simp)
        have zw1_0 : W.heap.size < w1.heap.size := World.block_lt_of_cell? _ _ cw1_0_0
        have gw1 : Gr W w1 := Gr.trans (by go_grown) hw1
        clear hw1
        go_wp2_with fail
        go_at_call 52
        refine ((H2.out _)).mono ?_
        rintro e w2 ⟨rfl, hw2⟩
        have cw2_0_0 : w2.cell? ⟨W.heap.size, 0, none⟩ = some (.int .i64 lx) := cell_gr hw2 (by go_simp)
        have cw2_0_1 : w2.cell? ⟨W.heap.size, 1, none⟩ = some (.int .i64 ly) := cell_gr hw2 (by go_simp)
        have cw2_0_2 : w2.cell? ⟨W.heap.size, 2, none⟩ = some (.int .i64 hx) := cell_gr hw2 (by go_simp)
        have cw2_0_3 : w2.cell? ⟨W.heap.size, 3, none⟩ = some (.int .i64 hy) := cell_gr hw2 (by go_simp)
        have zw2_0 : W.heap.size < w2.heap.size := World.block_lt_of_cell? _ _ cw2_0_0
        have gw2 : Gr W w2 := Gr.trans (by have gg := gw1; have gs := gg.size; go_grown) hw2
        clear hw2 gw1 zw1_0 cw1_0_0 cw1_0_1 cw1_0_2 cw1_0_3
        go_wp2_with fail
        go_ret
        exact ⟨rfl, by go_grown⟩
      · by_cases a2 : hy < ly
        · simp only [a1, a2, decide_true, decide_false, Bool.not_true, Bool.not_false, Bool.true_and, Bool.false_eq_true, if_false]
          go_enter Tryz.func125, Tryz.ntmps125
          go_wp2_with fail
          go_at_call 52
          refine ((H1.out _)).mono ?_
          rintro e w1 ⟨rfl, hw1⟩
          have cw1_0_0 : w1.cell? ⟨W.heap.size, 0, none⟩ = some (.int .i64 lx) := cell_gr hw1 (by go_simp)
          have cw1_0_1 : w1.cell? ⟨W.heap.size, 1, none⟩ = some (.int .i64 ly) := cell_gr hw1 (by go_simp)
          have cw1_0_2 : w1.cell? ⟨W.heap.size, 2, none⟩ = some (.int .i64 hx) := cell_gr hw1 (by go_simp)
          have cw1_0_3 : w1.cell? ⟨W.heap.size, 3, none⟩ = some (.int .i64 hy) := cell_gr hw1 (by go_simp)
          have zw1_0 : W.heap.size < w1.heap.size := World.block_lt_of_cell? _ _ cw1_0_0
          have gw1 : Gr W w1 := Gr.trans (by go_grown) hw1
          clear hw1
          go_wp2_with fail
          go_at_call 52
          refine ((H2.out _)).mono ?_
          rintro e w2 ⟨rfl, hw2⟩
          have cw2_0_0 : w2.cell? ⟨W.heap.size, 0, none⟩ = some (.int .i64 lx) := cell_gr hw2 (by go_simp)
          have cw2_0_1 : w2.cell? ⟨W.heap.size, 1, none⟩ = some (.int .i64 ly) := cell_gr hw2 (by go_simp)
          have cw2_0_2 : w2.cell? ⟨W.heap.size, 2, none⟩ = some (.int .i64 hx) := cell_gr hw2 (by go_simp)
          have cw2_0_3 : w2.cell? ⟨W.heap.size, 3, none⟩ = some (.int .i64 hy) := cell_gr hw2 (by go_simp)
          have zw2_0 : W.heap.size < w2.heap.size := World.block_lt_of_cell? _ _ cw2_0_0
          have gw2 : Gr W w2 := Gr.trans (by have gg := gw1; have gs := gg.size; go_grown) hw2
          clear hw2 gw1 zw1_0 cw1_0_0 cw1_0_1 cw1_0_2 cw1_0_3
          go_wp2_with fail
          go_ret
          exact ⟨rfl, by go_grown⟩
        · simp only [a1, a2, decide_false, Bool.not_false, Bool.and_self, if_true]
          go_enter Tryz.func125, Tryz.ntmps125
          go_wp2_with fail
          go_at_call 52
          refine ((H1.out _)).mono ?_
          rintro e w1 ⟨rfl, hw1⟩
          have cw1_0_0 : w1.cell? ⟨W.heap.size, 0, none⟩ = some (.int .i64 lx) := cell_gr hw1 (by go_simp)
          have cw1_0_1 : w1.cell? ⟨W.heap.size, 1, none⟩ = some (.int .i64 ly) := cell_gr hw1 (by go_simp)
          have cw1_0_2 : w1.cell? ⟨W.heap.size, 2, none⟩ = some (.int .i64 hx) := cell_gr hw1 (by go_simp)
          have cw1_0_3 : w1.cell? ⟨W.heap.size, 3, none⟩ = some (.int .i64 hy) := cell_gr hw1 (by go_simp)
          have zw1_0 : W.heap.size < w1.heap.size := World.block_lt_of_cell? _ _ cw1_0_0
          have gw1 : Gr W w1 := Gr.trans (by go_grown) hw1
          clear hw1
          go_wp2_with fail
          go_at_call 52
          refine ((H2.out _)).mono ?_
          rintro e w2 ⟨rfl, hw2⟩
          have cw2_0_0 : w2.cell? ⟨W.heap.size, 0, none⟩ = some (.int .i64 lx) := cell_gr hw2 (by go_simp)
          have cw2_0_1 : w2.cell? ⟨W.heap.size, 1, none⟩ = some (.int .i64 ly) := cell_gr hw2 (by go_simp)
          have cw2_0_2 : w2.cell? ⟨W.heap.size, 2, none⟩ = some (.int .i64 hx) := cell_gr hw2 (by go_simp)
          have cw2_0_3 : w2.cell? ⟨W.heap.size, 3, none⟩ = some (.int .i64 hy) := cell_gr hw2 (by go_simp)
          have zw2_0 : W.heap.size < w2.heap.size := World.block_lt_of_cell? _ _ cw2_0_0
          have gw2 : Gr W w2 := Gr.trans (by have gg := gw1; have gs := gg.size; go_grown) hw2
          clear hw2 gw1 zw1_0 cw1_0_0 cw1_0_1 cw1_0_2 cw1_0_3
          go_wp2_with fail
          go_ret
          exact ⟨rfl, by go_grown⟩

end Go.Proofs.YtpomllpplpalkaaGreatDoor
namespace Go.Proofs.YtpomllpplpalkaaGreatDoor
set_option linter.unusedVariables false
open Go.ChangeShapes Go.WideShapes Go.ChangeAt Go.RowKit

end Go.Proofs.YtpomllpplpalkaaGreatDoor
namespace Go.Proofs.YtpomllpplpalkaaGreatDoor
set_option linter.unusedVariables false
open Go.ChangeShapes Go.WideShapes Go.ChangeAt Go.RowKit

theorem eqPt (ax ay bx by' : Int) (w : World) : (binOp .eql 58 (.agg #[.int .i64 ax, .int .i64 ay]) (.agg #[.int .i64 bx, .int .i64 by'])).run Tryz.prog w = .ok (.bool (decide (ax = bx ∧ ay = by'))) w := by
  by_cases h1 : ax = bx
  · subst h1
    by_cases h2 : ay = by'
    · subst h2
      simp [go_sem]
    · have e : (ay == by') = false := by simpa using h2
      simp [go_sem, h2, e]
  · have e : (ax == bx) = false := by simpa using h1
    simp [go_sem, h1, e]
end Go.Proofs.YtpomllpplpalkaaGreatDoor
namespace Go.Proofs.YtpomllpplpalkaaGreatDoor
set_option linter.unusedVariables false
open Go.ChangeShapes Go.WideShapes Go.ChangeAt Go.RowKit

def minZ (a b : Int) : Int := if b < a then b else a
def maxZ (a b : Int) : Int := if a < b then b else a
end Go.Proofs.YtpomllpplpalkaaGreatDoor
