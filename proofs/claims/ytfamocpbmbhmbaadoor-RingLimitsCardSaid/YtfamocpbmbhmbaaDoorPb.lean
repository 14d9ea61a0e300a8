/- plane: Cross, Orient, Square -/
import Derived.Test.YtfamocpbmbhmbaaDoorPa
namespace Go.Proofs.YtfamocpbmbhmbaaDoor
set_option linter.unusedVariables false
open Go.ChangeShapes Go.WideShapes Go.ChangeAt Go.RowKit

theorem mul_near {x y : Int} (hx : -2147483646 ≤ x ∧ x ≤ 2147483646) (hy : -2147483646 ≤ y ∧ y ≤ 2147483646) : -4611686009837453316 ≤ x * y ∧ x * y ≤ 4611686009837453316 := by
  have h1 : x.natAbs * y.natAbs ≤ 2147483646 * 2147483646 := Nat.mul_le_mul (by omega) (by omega)
  have h2 : (x * y).natAbs = x.natAbs * y.natAbs := Int.natAbs_mul x y
  omega
/-- Cross's answer. -/
def crossZ (ax ay bx by' cx cy : Int) : Int := if nearB ax ay && nearB bx by' && nearB cx cy then (bx - ax) * (cy - ay) - (by' - ay) * (cx - ax) else 0

theorem c_rPoint (x y : Int) (w : World) :
    Calls Tryd.prog 28 #[.agg #[.int .i64 x, .int .i64 y]] w fun e w' => e = .returned (.bool (nearB x y)) ∧ Gr w w' := by
  by_cases h1 : -1073741823 ≤ x
  · by_cases h2 : x ≤ 1073741823
    · by_cases h3 : -1073741823 ≤ y
      · by_cases h4 : y ≤ 1073741823
        · have e : nearB x y = true := nearB_iff.2 ⟨h1, h2, h3, h4⟩
          rw [e]
          go_enter Tryd.func28, Tryd.ntmps28
          go_wp2
          go_ret
          exact ⟨rfl, by go_grown⟩
        · have e : nearB x y = false := by unfold nearB; simp [h4]
          rw [e]
          go_enter Tryd.func28, Tryd.ntmps28
          go_wp2
          go_ret
          exact ⟨rfl, by go_grown⟩
      · have e : nearB x y = false := by unfold nearB; simp [h3]
        rw [e]
        go_enter Tryd.func28, Tryd.ntmps28
        go_wp2
        go_ret
        exact ⟨rfl, by go_grown⟩
    · have e : nearB x y = false := by unfold nearB; simp [h2]
      rw [e]
      go_enter Tryd.func28, Tryd.ntmps28
      go_wp2
      go_ret
      exact ⟨rfl, by go_grown⟩
  · have e : nearB x y = false := by unfold nearB; simp [h1]
    rw [e]
    go_enter Tryd.func28, Tryd.ntmps28
    go_wp2
    go_ret
    exact ⟨rfl, by go_grown⟩

/-- cmp.Compare's answer. -/
def cmpZ (a b : Int) : Int := if a < b then -1 else if b < a then 1 else 0
theorem cmpZ_lt {a b : Int} (h : a < b) : cmpZ a b = -1 := if_pos h
theorem cmpZ_gt {a b : Int} (h : b < a) : cmpZ a b = 1 := by unfold cmpZ; rw [if_neg (by omega), if_pos h]
theorem cmpZ_eq (a : Int) : cmpZ a a = 0 := by unfold cmpZ; simp
theorem c_cmpInt (a b : Int) (w : World) :
    Calls Tryd.prog 82 #[.int .i64 a, .int .i64 b] w fun e w' => e = .returned (.int .i64 (cmpZ a b)) ∧ Gr w w' := by
  rcases Int.lt_trichotomy a b with h | h | h
  · rw [cmpZ_lt h]
    have h2 : ¬ b < a := by omega
    go_enter Tryd.func82, Tryd.ntmps82
    go_wp2
    go_ret
    exact ⟨rfl, by go_grown⟩
  · subst h
    rw [cmpZ_eq]
    go_enter Tryd.func82, Tryd.ntmps82
    go_wp2
    go_ret
    exact ⟨rfl, by go_grown⟩
  · rw [cmpZ_gt h]
    have h2 : ¬ a < b := by omega
    go_enter Tryd.func82, Tryd.ntmps82
    go_wp2
    go_ret
    exact ⟨rfl, by go_grown⟩

theorem c_allNear2 (ax ay bx by' : Int) (b : Nat) (w : World) (hb : b < w.heap.size)
    (k0 : w.cell? ⟨b, 0, none⟩ = some (.int .i64 ax)) (k1 : w.cell? ⟨b, 1, none⟩ = some (.int .i64 ay)) (k2 : w.cell? ⟨b, 2, none⟩ = some (.int .i64 bx)) (k3 : w.cell? ⟨b, 3, none⟩ = some (.int .i64 by')) :
    Calls Tryd.prog 79 #[.slice (some ⟨b, 0, none⟩) 2 2] w fun e w' => e = .returned (.bool (nearB ax ay && nearB bx by')) ∧ Gr w w' := by
  have h := c_allNear 2 (fun k => [ax, bx].getD k 0) (fun k => [ay, by'].getD k 0) b w (by omega) hb (fun k hk => by
    rcases (by omega : k = 0 ∨ k = 1) with rfl | rfl
    · exact ⟨k0, k1⟩
    · exact ⟨k2, k3⟩)
  have e : allB (fun k => [ax, bx].getD k 0) (fun k => [ay, by'].getD k 0) 2 = (nearB ax ay && nearB bx by') := by simp [allB]
  rw [e] at h
  exact h
theorem c_allNear3 (ax ay bx by' cx cy : Int) (b : Nat) (w : World) (hb : b < w.heap.size)
    (k0 : w.cell? ⟨b, 0, none⟩ = some (.int .i64 ax)) (k1 : w.cell? ⟨b, 1, none⟩ = some (.int .i64 ay)) (k2 : w.cell? ⟨b, 2, none⟩ = some (.int .i64 bx)) (k3 : w.cell? ⟨b, 3, none⟩ = some (.int .i64 by'))
    (k4 : w.cell? ⟨b, 4, none⟩ = some (.int .i64 cx)) (k5 : w.cell? ⟨b, 5, none⟩ = some (.int .i64 cy)) :
    Calls Tryd.prog 79 #[.slice (some ⟨b, 0, none⟩) 3 3] w fun e w' => e = .returned (.bool (nearB ax ay && nearB bx by' && nearB cx cy)) ∧ Gr w w' := by
  have h := c_allNear 3 (fun k => [ax, bx, cx].getD k 0) (fun k => [ay, by', cy].getD k 0) b w (by omega) hb (fun k hk => by
    rcases (by omega : k = 0 ∨ k = 1 ∨ k = 2) with rfl | rfl | rfl
    · exact ⟨k0, k1⟩
    · exact ⟨k2, k3⟩
    · exact ⟨k4, k5⟩)
  have e : allB (fun k => [ax, bx, cx].getD k 0) (fun k => [ay, by', cy].getD k 0) 3 = (nearB ax ay && nearB bx by' && nearB cx cy) := by simp [allB]
  rw [e] at h
  exact h

set_option maxRecDepth 100000 in
theorem c_Cross (ax ay bx by' cx cy : Int) (W : World) :
    Calls Tryd.prog 62 #[.agg #[.int .i64 ax, .int .i64 ay], .agg #[.int .i64 bx, .int .i64 by'], .agg #[.int .i64 cx, .int .i64 cy]] W fun e w' => e = .returned (.int .i64 (crossZ ax ay bx by' cx cy)) ∧ Gr W w' := by
  obtain ⟨q, hq⟩ : ∃ q, q = (nearB ax ay && nearB bx by' && nearB cx cy) := ⟨_, rfl⟩
  have HA : ∀ b w, b < w.heap.size → w.cell? ⟨b, 0, none⟩ = some (.int .i64 ax) → w.cell? ⟨b, 1, none⟩ = some (.int .i64 ay) → w.cell? ⟨b, 2, none⟩ = some (.int .i64 bx) → w.cell? ⟨b, 3, none⟩ = some (.int .i64 by') → w.cell? ⟨b, 4, none⟩ = some (.int .i64 cx) → w.cell? ⟨b, 5, none⟩ = some (.int .i64 cy) →
      Calls Tryd.prog 79 #[.slice (some ⟨b, 0, none⟩) 3 3] w fun e w' => e = .returned (.bool q) ∧ Gr w w' := fun b w hb k0 k1 k2 k3 k4 k5 => by
    rw [hq]
    exact c_allNear3 ax ay bx by' cx cy b w hb k0 k1 k2 k3 k4 k5
  have H := Lib.hid HA
  clear HA
  unfold crossZ
  rw [← hq]
  cases q
  · clear hq
    go_enter Tryd.func62, Tryd.ntmps62
    go_wp2_with fail
    go_at_call 79
    refine ((H.out _ _ (by go_simp) (by go_simp) (by go_simp) (by go_simp) (by go_simp) (by go_simp) (by go_simp))).mono ?_
    rintro e w1 ⟨rfl, hw1⟩
    have cw1_0_0 : w1.cell? ⟨W.heap.size, 0, none⟩ = some (.int .i64 ax) := cell_gr hw1 (by go_simp)
    have cw1_0_1 : w1.cell? ⟨W.heap.size, 1, none⟩ = some (.int .i64 ay) := cell_gr hw1 (by go_simp)
    have zw1_0 : W.heap.size < w1.heap.size := World.block_lt_of_cell? _ _ cw1_0_0
    have cw1_1_0 : w1.cell? ⟨W.heap.size + 1, 0, none⟩ = some (.int .i64 bx) := cell_gr hw1 (by go_simp)
    have cw1_1_1 : w1.cell? ⟨W.heap.size + 1, 1, none⟩ = some (.int .i64 by') := cell_gr hw1 (by go_simp)
    have zw1_1 : W.heap.size + 1 < w1.heap.size := World.block_lt_of_cell? _ _ cw1_1_0
    have cw1_2_0 : w1.cell? ⟨W.heap.size + 1 + 1, 0, none⟩ = some (.int .i64 cx) := cell_gr hw1 (by go_simp)
    have cw1_2_1 : w1.cell? ⟨W.heap.size + 1 + 1, 1, none⟩ = some (.int .i64 cy) := cell_gr hw1 (by go_simp)
    have zw1_2 : W.heap.size + 1 + 1 < w1.heap.size := World.block_lt_of_cell? _ _ cw1_2_0
    have gw1 : Gr W w1 := Gr.trans (by go_grown) hw1
    clear hw1
    go_wp2_with fail
    go_ret
    exact ⟨rfl, by go_grown⟩
  · have hq' : (nearB ax ay = true ∧ nearB bx by' = true) ∧ nearB cx cy = true := by simpa using hq.symm
    have n1 := nearB_iff.1 hq'.1.1
    have n2 := nearB_iff.1 hq'.1.2
    have n3 := nearB_iff.1 hq'.2
    have m1 := mul_near (x := bx - ax) (y := cy - ay) (by omega) (by omega)
    have m2 := mul_near (x := by' - ay) (y := cx - ax) (by omega) (by omega)
    obtain ⟨p1, hp1⟩ : ∃ p, p = (bx - ax) * (cy - ay) := ⟨_, rfl⟩
    obtain ⟨p2, hp2⟩ : ∃ p, p = (by' - ay) * (cx - ax) := ⟨_, rfl⟩
    rw [← hp1] at m1
    rw [← hp2] at m2
    have e1 : wrap64 (bx - ax) = bx - ax := IntWalk.wrap64_in _ (by omega)
    have e2 : wrap64 (cy - ay) = cy - ay := IntWalk.wrap64_in _ (by omega)
    have e3 : wrap64 (by' - ay) = by' - ay := IntWalk.wrap64_in _ (by omega)
    have e4 : wrap64 (cx - ax) = cx - ax := IntWalk.wrap64_in _ (by omega)
    have e5 : wrap64 ((bx - ax) * (cy - ay)) = p1 := by rw [← hp1]; exact IntWalk.wrap64_in _ (by omega)
    have e6 : wrap64 ((by' - ay) * (cx - ax)) = p2 := by rw [← hp2]; exact IntWalk.wrap64_in _ (by omega)
    have e7 : wrap64 (p1 - p2) = p1 - p2 := IntWalk.wrap64_in _ (by omega)
    have f1 : IntKind.i64.wrap (bx - ax) = bx - ax := IntWalk.i64_in _ (by omega)
    have f2 : IntKind.i64.wrap (cy - ay) = cy - ay := IntWalk.i64_in _ (by omega)
    have f3 : IntKind.i64.wrap (by' - ay) = by' - ay := IntWalk.i64_in _ (by omega)
    have f4 : IntKind.i64.wrap (cx - ax) = cx - ax := IntWalk.i64_in _ (by omega)
    have f5 : IntKind.i64.wrap ((bx - ax) * (cy - ay)) = p1 := by rw [← hp1]; exact IntWalk.i64_in _ (by omega)
    have f6 : IntKind.i64.wrap ((by' - ay) * (cx - ax)) = p2 := by rw [← hp2]; exact IntWalk.i64_in _ (by omega)
    have f7 : IntKind.i64.wrap (p1 - p2) = p1 - p2 := IntWalk.i64_in _ (by omega)
    rw [← hp1, ← hp2]
    clear hq hq' n1 n2 n3 m1 m2 hp1 hp2
    go_enter Tryd.func62, Tryd.ntmps62
    go_wp2_with fail
    go_at_call 79
    refine ((H.out _ _ (by go_simp) (by go_simp) (by go_simp) (by go_simp) (by go_simp) (by go_simp) (by go_simp))).mono ?_
    rintro e w1 ⟨rfl, hw1⟩
    have cw1_0_0 : w1.cell? ⟨W.heap.size, 0, none⟩ = some (.int .i64 ax) := cell_gr hw1 (by go_simp)
    have cw1_0_1 : w1.cell? ⟨W.heap.size, 1, none⟩ = some (.int .i64 ay) := cell_gr hw1 (by go_simp)
    have zw1_0 : W.heap.size < w1.heap.size := World.block_lt_of_cell? _ _ cw1_0_0
    have cw1_1_0 : w1.cell? ⟨W.heap.size + 1, 0, none⟩ = some (.int .i64 bx) := cell_gr hw1 (by go_simp)
    have cw1_1_1 : w1.cell? ⟨W.heap.size + 1, 1, none⟩ = some (.int .i64 by') := cell_gr hw1 (by go_simp)
    have zw1_1 : W.heap.size + 1 < w1.heap.size := World.block_lt_of_cell? _ _ cw1_1_0
    have cw1_2_0 : w1.cell? ⟨W.heap.size + 1 + 1, 0, none⟩ = some (.int .i64 cx) := cell_gr hw1 (by go_simp)
    have cw1_2_1 : w1.cell? ⟨W.heap.size + 1 + 1, 1, none⟩ = some (.int .i64 cy) := cell_gr hw1 (by go_simp)
    have zw1_2 : W.heap.size + 1 + 1 < w1.heap.size := World.block_lt_of_cell? _ _ cw1_2_0
    have gw1 : Gr W w1 := Gr.trans (by go_grown) hw1
    clear hw1
    go_wp2_with fail
    go_ret
    exact ⟨rfl, by go_grown⟩
end Go.Proofs.YtfamocpbmbhmbaaDoor
