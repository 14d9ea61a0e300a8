/- PlaneUnions -/
import Derived.Test.YtffobfjjbcdbdaaPq
namespace Go.Proofs.Ytffobfjjbcdbdaa
set_option linter.unusedVariables false
open Go.ChangeShapes Go.WideShapes Go.ChangeAt Go.RowKit

set_option maxHeartbeats 1000000 in
set_option maxRecDepth 100000 in
theorem unions_core (a : Option Addr) (n cap : Nat) (x1 x2 x3 x4 z : Int) (ev : Value) (W : World) (hn : decide ((200 : Int) < (n : Int)) = false) (hn2 : decide (200 < n) = false)
    (A1 : ∀ w, Gr W w → Calls Try.prog 36 #[.slice a n cap] w fun e w' => e = .returned (.tuple #[.agg #[.int .i64 x1, .int .i64 x2, .int .i64 x3, .int .i64 x4], ev]) ∧ Gr w w')
    (A2 : ∀ w, Gr W w → Calls Try.prog 37 #[.slice a n cap] w fun e w' => e = .returned (.tuple #[.agg #[.int .i64 x1, .int .i64 x2, .int .i64 x3, .int .i64 x4], .int .i64 z]) ∧ Gr w w')
    (A3 : ∀ w, Calls Try.prog 12 #[ev] w fun e w' => e = .returned (.int .i64 z) ∧ Gr w w') :
    Calls Try.prog 5 #[.slice a n cap] W fun e w' => e = .returned (.bool true) ∧ Gr W w' := by
  have H1 := Lib.hid A1
  have H2 := Lib.hid A2
  have H3 := Lib.hid A3
  clear A1 A2 A3
  go_enter Try.func5, Try.ntmps5
  go_wp2_with fail
  go_at_call 36
  refine ((H1.out _ (by go_grown))).mono ?_
  rintro e w1 ⟨rfl, hw1⟩
  have gw1 : Gr W w1 := Gr.trans (by go_grown) hw1
  clear hw1
  go_wp2_with fail
  go_at_call 37
  refine ((H2.out _ (by have gg := gw1; have gs := gg.size; go_grown))).mono ?_
  rintro e w2 ⟨rfl, hw2⟩
  have cw2_0_0 : w2.cell? ⟨w1.heap.size, 0, none⟩ = some (.int .i64 x1) := cell_gr hw2 (by go_simp)
  have cw2_0_1 : w2.cell? ⟨w1.heap.size, 1, none⟩ = some (.int .i64 x2) := cell_gr hw2 (by go_simp)
  have cw2_0_2 : w2.cell? ⟨w1.heap.size, 2, none⟩ = some (.int .i64 x3) := cell_gr hw2 (by go_simp)
  have cw2_0_3 : w2.cell? ⟨w1.heap.size, 3, none⟩ = some (.int .i64 x4) := cell_gr hw2 (by go_simp)
  have zw2_0 : w1.heap.size < w2.heap.size := World.block_lt_of_cell? _ _ cw2_0_0
  have gw2 : Gr W w2 := Gr.trans (by have gg := gw1; have gs := gg.size; go_grown) hw2
  clear hw2 gw1
  go_wp2_with fail
  go_at_call 12
  refine ((H3.out _)).mono ?_
  rintro e w3 ⟨rfl, hw3⟩
  have cw3_0_0 : w3.cell? ⟨w1.heap.size, 0, none⟩ = some (.int .i64 x1) := cell_gr hw3 (by go_simp)
  have cw3_0_1 : w3.cell? ⟨w1.heap.size, 1, none⟩ = some (.int .i64 x2) := cell_gr hw3 (by go_simp)
  have cw3_0_2 : w3.cell? ⟨w1.heap.size, 2, none⟩ = some (.int .i64 x3) := cell_gr hw3 (by go_simp)
  have cw3_0_3 : w3.cell? ⟨w1.heap.size, 3, none⟩ = some (.int .i64 x4) := cell_gr hw3 (by go_simp)
  have zw3_0 : w1.heap.size < w3.heap.size := World.block_lt_of_cell? _ _ cw3_0_0
  have cw3_1_0 : w3.cell? ⟨w2.heap.size, 0, none⟩ = some (.int .i64 x1) := cell_gr hw3 (by go_simp)
  have cw3_1_1 : w3.cell? ⟨w2.heap.size, 1, none⟩ = some (.int .i64 x2) := cell_gr hw3 (by go_simp)
  have cw3_1_2 : w3.cell? ⟨w2.heap.size, 2, none⟩ = some (.int .i64 x3) := cell_gr hw3 (by go_simp)
  have cw3_1_3 : w3.cell? ⟨w2.heap.size, 3, none⟩ = some (.int .i64 x4) := cell_gr hw3 (by go_simp)
  have zw3_1 : w2.heap.size < w3.heap.size := World.block_lt_of_cell? _ _ cw3_1_0
  have gw3 : Gr W w3 := Gr.trans (by have gg := gw2; have gs := gg.size; go_grown) hw3
  clear hw3 gw2 zw2_0 cw2_0_0 cw2_0_1 cw2_0_2 cw2_0_3
  go_wp2_with fail
  go_at_call 20
  refine ((p_awake _)).mono ?_
  rintro e w4 ⟨rfl, hw4⟩
  have cw4_0_0 : w4.cell? ⟨w1.heap.size, 0, none⟩ = some (.int .i64 x1) := cell_gr hw4 (by go_simp)
  have cw4_0_1 : w4.cell? ⟨w1.heap.size, 1, none⟩ = some (.int .i64 x2) := cell_gr hw4 (by go_simp)
  have cw4_0_2 : w4.cell? ⟨w1.heap.size, 2, none⟩ = some (.int .i64 x3) := cell_gr hw4 (by go_simp)
  have cw4_0_3 : w4.cell? ⟨w1.heap.size, 3, none⟩ = some (.int .i64 x4) := cell_gr hw4 (by go_simp)
  have zw4_0 : w1.heap.size < w4.heap.size := World.block_lt_of_cell? _ _ cw4_0_0
  have cw4_1_0 : w4.cell? ⟨w2.heap.size, 0, none⟩ = some (.int .i64 x1) := cell_gr hw4 (by go_simp)
  have cw4_1_1 : w4.cell? ⟨w2.heap.size, 1, none⟩ = some (.int .i64 x2) := cell_gr hw4 (by go_simp)
  have cw4_1_2 : w4.cell? ⟨w2.heap.size, 2, none⟩ = some (.int .i64 x3) := cell_gr hw4 (by go_simp)
  have cw4_1_3 : w4.cell? ⟨w2.heap.size, 3, none⟩ = some (.int .i64 x4) := cell_gr hw4 (by go_simp)
  have zw4_1 : w2.heap.size < w4.heap.size := World.block_lt_of_cell? _ _ cw4_1_0
  have gw4 : Gr W w4 := Gr.trans (by have gg := gw3; have gs := gg.size; go_grown) hw4
  clear hw4 gw3 zw3_0 cw3_0_0 cw3_0_1 cw3_0_2 cw3_0_3 zw3_1 cw3_1_0 cw3_1_1 cw3_1_2 cw3_1_3
  go_wp2_with fail
  go_ret
  exact ⟨rfl, by go_grown⟩
set_option maxRecDepth 100000 in
theorem unions_many (a : Option Addr) (n cap : Nat) (W : World) (hn : decide ((200 : Int) < (n : Int)) = true) (hn2 : decide (200 < n) = true) :
    Calls Try.prog 5 #[.slice a n cap] W fun e w' => e = .returned (.bool true) ∧ Gr W w' := by
  go_enter Try.func5, Try.ntmps5
  go_wp2_with fail
  go_at_call 20
  refine ((p_awake _)).mono ?_
  rintro e w1 ⟨rfl, hw1⟩
  have gw1 : Gr W w1 := Gr.trans (by go_grown) hw1
  clear hw1
  go_wp2_with fail
  go_ret
  exact ⟨rfl, by go_grown⟩
/-- Either all of n may be, or there is a first one that may not. -/
theorem first_bad (A B C D : Nat → Int) (n : Nat) : allBox A B C D n = true ∨ ∃ j, j < n ∧ allBox A B C D j = true ∧ boxB (A j) (B j) (C j) (D j) = false := by
  induction n with
  | zero => left; rfl
  | succ n ih =>
    rcases ih with h | ⟨j, h1, h2, h3⟩
    · cases hb : boxB (A n) (B n) (C n) (D n)
      · right; exact ⟨n, by omega, h, hb⟩
      · left; simp only [allBox, h, hb]; rfl
    · right; exact ⟨j, by omega, h2, h3⟩
/-- There is but one such. -/
theorem bad_one {A B C D : Nat → Int} {j k : Nat} (h1 : allBox A B C D j = true) (h2 : boxB (A j) (B j) (C j) (D j) = false) (h3 : allBox A B C D k = true) (h4 : boxB (A k) (B k) (C k) (D k) = false) : j = k := by
  rw [allBox_iff] at h1 h3
  rcases Nat.lt_trichotomy j k with h | h | h
  · rw [h3 j h] at h2; cases h2
  · exact h
  · rw [h1 k h] at h4; cases h4
theorem not_all {A B C D : Nat → Int} {j n : Nat} (hj : j < n) (h2 : boxB (A j) (B j) (C j) (D j) = false) (h : allBox A B C D n = true) : False := by
  rw [allBox_iff] at h
  rw [h j hj] at h2
  cases h2
theorem walk_PlaneUnions (W : World) (v : Value) (hB : v = .slice none 0 0 ∨ ∃ (b off n cap : Nat) (A B C D : Nat → Int), v = .slice (some ⟨b, off, none⟩) n cap ∧ n ≤ cap ∧ (cap : Int) ≤ 9223372036854775807 ∧
      ∀ k, k < n → W.cell? ⟨b, off + k * 4, none⟩ = some (.int .i64 (A k)) ∧ W.cell? ⟨b, off + k * 4 + 1, none⟩ = some (.int .i64 (B k)) ∧ W.cell? ⟨b, off + k * 4 + 2, none⟩ = some (.int .i64 (C k)) ∧ W.cell? ⟨b, off + k * 4 + 3, none⟩ = some (.int .i64 (D k))) :
    Calls Try.prog 5 #[v] W fun e w' => e = .returned (.bool true) ∧ Gr W w' := by
  rcases hB with rfl | ⟨b, off, n, cap, A, B, C, D, rfl, -, -, hc⟩
  · exact unions_core none 0 0 0 0 0 0 1 _ W (by decide) (by decide) (fun w _ => c_Union0 0 none w) (fun w _ => c_rUnion0 0 none w) (c_Code_errno 1 (Or.inl rfl))
  · by_cases hn : 200 < n
    · exact unions_many _ n cap W (decide_eq_true (by omega)) (decide_eq_true hn)
    · have d1 : decide ((200 : Int) < (n : Int)) = false := decide_eq_false (by omega)
      have d2 : decide (200 < n) = false := decide_eq_false hn
      rcases Nat.eq_zero_or_pos n with rfl | hpos
      · exact unions_core _ 0 cap 0 0 0 0 1 _ W d1 d2 (fun w _ => c_Union0 cap _ w) (fun w _ => c_rUnion0 cap _ w) (c_Code_errno 1 (Or.inl rfl))
      · have hcw : ∀ w, Gr W w → ∀ k, k < n → w.cell? ⟨b, off + k * 4, none⟩ = some (.int .i64 (A k)) ∧ w.cell? ⟨b, off + k * 4 + 1, none⟩ = some (.int .i64 (B k)) ∧ w.cell? ⟨b, off + k * 4 + 2, none⟩ = some (.int .i64 (C k)) ∧ w.cell? ⟨b, off + k * 4 + 3, none⟩ = some (.int .i64 (D k)) := fun w g k hk =>
          ⟨cell_gr g (hc k hk).1, cell_gr g (hc k hk).2.1, cell_gr g (hc k hk).2.2.1, cell_gr g (hc k hk).2.2.2⟩
        rcases first_bad A B C D n with h | ⟨j, hj, h1, h2⟩
        · exact unions_core _ n cap _ _ _ _ 0 .nilIface W d1 d2
            (fun w g => c_UnionN n cap A B C D b off w hpos (by omega) _ (hcw w g) (fun j hj _ h2 => (not_all hj h2 h).elim) (fun _ => rfl))
            (fun w g => c_rUnionN n cap A B C D b off w hpos (by omega) _ (hcw w g) (fun j hj _ h2 => (not_all hj h2 h).elim) (fun _ => rfl)) c_Code_nil
        · obtain ⟨z, hz, e1, e2⟩ := boxErr_code h2
          exact unions_core _ n cap 0 0 0 0 z (.iface 67 (.int .i64 z)) W d1 d2
            (fun w g => c_UnionN n cap A B C D b off w hpos (by omega) _ (hcw w g) (fun i hi h3 h4 => by obtain rfl := bad_one h1 h2 h3 h4; rw [e1]) (fun h => (not_all hj h2 h).elim))
            (fun w g => c_rUnionN n cap A B C D b off w hpos (by omega) _ (hcw w g) (fun i hi h3 h4 => by obtain rfl := bad_one h1 h2 h3 h4; rw [e2]) (fun h => (not_all hj h2 h).elim)) (c_Code_errno z hz)
end Go.Proofs.Ytffobfjjbcdbdaa
