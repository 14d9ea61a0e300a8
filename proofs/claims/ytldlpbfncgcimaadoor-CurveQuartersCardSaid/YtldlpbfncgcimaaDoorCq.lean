/- CurveQuarters -/
import Derived.Test.YtldlpbfncgcimaaDoorCo
namespace Go.Proofs.YtldlpbfncgcimaaDoor
set_option linter.unusedVariables false
open Go.ChangeShapes Go.WideShapes Go.ChangeAt Go.RowKit

set_option maxRecDepth 100000 in
theorem qt_skip (v w : Nat) (n : Int) (W : World) (hE : ErrT W) (h : decide (n < 2) = true ∨ (decide (n < 2) = false ∧ decide ((31 : Int) < n) = true)) :
    Calls Tryd.prog 13 #[.int .u64 v, .int .u64 w, .int .i64 n] W fun e w' => e = .returned (.bool true) ∧ Gr W w' := by
  have HAW := Lib.hid (fun w (g : Gr W w) => p19_awake w (errT_gr hE g))
  clear hE
  rcases h with t1 | ⟨t1, t2⟩
  all_goals
    go_enter Tryd.func13, Tryd.ntmps13
    go_wp2_with fail
    go_at_call 40
    refine ((HAW.out _ (by go_grown))).mono ?_
    rintro e w1 ⟨rfl, hw1⟩
    have gw1 : Gr W w1 := Gr.trans (by go_grown) hw1
    clear hw1
    go_wp2_with fail
    go_ret
    exact ⟨rfl, gw1⟩
set_option maxHeartbeats 8000000 in
set_option maxRecDepth 100000 in
theorem qt_core (v w v' w' n j N M h ax ay bx by' x2 y2 qa qb c : Nat) (s1 s2 s3 s4 e1 e2 : Bool) (W : World) (hE : ErrT W)
    (t1 : decide ((n : Int) < 2) = false) (t2 : decide ((31 : Int) < (n : Int)) = false) (n0 : (2 : Int) ≤ (n : Int)) (n1 : (n : Int) ≤ 31) (nj : (n : Int) - 1 = (j : Int))
    (k1 : (2 : Int) ^ (2 * n) = N) (k2 : IntKind.u64.wrap (N : Int) = N) (k3 : (v : Int) % (N : Int) = v') (k4 : (w : Int) % (N : Int) = w') (k5 : ((N : Int) == 0) = false) (k6 : (1 : Int) ≤ (N : Int))
    (k7 : (N : Int) / 4 = M) (k8 : ((M : Int) == 0) = false) (k9 : (1 : Int) ≤ (M : Int)) (k10 : (v' : Int) / (M : Int) = qa) (k11 : (w' : Int) / (M : Int) = qb) (kt7 : (N : Int).tdiv 4 = M) (kt10 : (v' : Int).tdiv (M : Int) = qa) (kt11 : (w' : Int).tdiv (M : Int) = qb) (kw7 : IntKind.u64.wrap (M : Int) = M) (kw10 : IntKind.u64.wrap (qa : Int) = qa) (kw11 : IntKind.u64.wrap (qb : Int) = qb)
    (m1 : (2 : Int) ^ min j 64 = h) (m2 : (2 : Int) ^ j = h) (m3 : IntKind.i64.wrap (h : Int) = h) (j0 : (0 : Int) ≤ (j : Int)) (j1 : (j : Int) ≤ 30)
    (a1 : (ax : Int) / 2 = x2) (a2 : (ay : Int) / 2 = y2) (w64x : wrap64 (x2 : Int) = x2) (w64y : wrap64 (y2 : Int) = y2) (a3 : (ax : Int).tdiv 2 = x2) (a4 : (ay : Int).tdiv 2 = y2)
    (d1 : decide ((ax : Int) < (h : Int)) = s1) (d2 : decide ((bx : Int) < (h : Int)) = s2) (d3 : decide ((ay : Int) < (h : Int)) = s3) (d4 : decide ((by' : Int) < (h : Int)) = s4)
    (d1' : decide (ax < h) = s1) (d2' : decide (bx < h) = s2) (d3' : decide (ay < h) = s3) (d4' : decide (by' < h) = s4)
    (f1 : (s1 == s2) = e1) (f2 : (s3 == s4) = e2) (f3 : ((qa : Int) == (qb : Int)) = (e1 && e2)) (f3' : (qa == qb) = (e1 && e2)) (f4 : decide ((c : Int) < (M : Int)) = true) (f4' : decide (c < M) = true)
    (A1 : ∀ w, Calls Tryd.prog 36 #[.int .u64 v', .int .i64 n] w fun e w' => e = .returned (.tuple #[.agg #[.int .i64 ax, .int .i64 ay], .nilIface]) ∧ Gr w w') (A2 : ∀ w, Calls Tryd.prog 36 #[.int .u64 w', .int .i64 n] w fun e w' => e = .returned (.tuple #[.agg #[.int .i64 bx, .int .i64 by'], .nilIface]) ∧ Gr w w')
    (A3 : ∀ w, Calls Tryd.prog 34 #[.agg #[.int .i64 x2, .int .i64 y2], .int .i64 j] w fun e w' => e = .returned (.tuple #[.int .u64 c, .nilIface]) ∧ Gr w w') :
    Calls Tryd.prog 13 #[.int .u64 v, .int .u64 w, .int .i64 n] W fun e w' => e = .returned (.bool true) ∧ Gr W w' := by
  have HAW := Lib.hid (fun w (g : Gr W w) => p19_awake w (errT_gr hE g))
  clear hE
  have H1 := Lib.hid A1
  have H2 := Lib.hid A2
  have H3 := Lib.hid A3
  clear A1 A2 A3
  cases e1 <;> cases e2
  all_goals
    go_enter Tryd.func13, Tryd.ntmps13
    go_wp2_with fail
    go_at_call 36
    (with_reducible refine ((H1.out _)).mono ?_)
    rintro e w1 ⟨rfl, hw1⟩
    have gw1 : Gr W w1 := Gr.trans (by go_grown) hw1
    clear hw1
    go_wp2_with fail
    go_at_call 36
    (with_reducible refine ((H2.out _)).mono ?_)
    rintro e w2 ⟨rfl, hw2⟩
    have cw2_0_0 : w2.cell? ⟨w1.heap.size, 0, none⟩ = some (.int .i64 ax) := cell_gr hw2 (by go_simp)
    have cw2_0_1 : w2.cell? ⟨w1.heap.size, 1, none⟩ = some (.int .i64 ay) := cell_gr hw2 (by go_simp)
    have zw2_0 : w1.heap.size < w2.heap.size := World.block_lt_of_cell? _ _ cw2_0_0
    have gw2 : Gr W w2 := Gr.trans (by have gg := gw1; have gs := gg.size; go_grown) hw2
    clear hw2 gw1
    go_wp2_with fail
    go_at_call 34
    (with_reducible refine ((H3.out _)).mono ?_)
    rintro e w3 ⟨rfl, hw3⟩
    have cw3_0_0 : w3.cell? ⟨w1.heap.size, 0, none⟩ = some (.int .i64 ax) := cell_gr hw3 (by go_simp)
    have cw3_0_1 : w3.cell? ⟨w1.heap.size, 1, none⟩ = some (.int .i64 ay) := cell_gr hw3 (by go_simp)
    have zw3_0 : w1.heap.size < w3.heap.size := World.block_lt_of_cell? _ _ cw3_0_0
    have cw3_1_0 : w3.cell? ⟨w2.heap.size, 0, none⟩ = some (.int .i64 bx) := cell_gr hw3 (by go_simp)
    have cw3_1_1 : w3.cell? ⟨w2.heap.size, 1, none⟩ = some (.int .i64 by') := cell_gr hw3 (by go_simp)
    have zw3_1 : w2.heap.size < w3.heap.size := World.block_lt_of_cell? _ _ cw3_1_0
    have gw3 : Gr W w3 := Gr.trans (by have gg := gw2; have gs := gg.size; go_grown) hw3
    clear hw3 gw2 zw2_0 cw2_0_0 cw2_0_1
    go_wp2_with fail
    refine wp_region_spread (by kernel_rfl) (by kernel_rfl) ?_
    try simp only [List.append]
    repeat (first | go_big_quiet_skip | (go_big_quiet_want; go_big_quiet_op; (first | go_big_quiet_on | (apply Exists.intro; refine ⟨fun _ => ?_, ?_⟩; (· (first | (go_at_call 40; first | ((with_reducible refine ((HAW.out _ (Gr.trans (by have gg := gw3; have gs := gg.size; go_grown) (gr_spread _ _)))).mono ?_); rintro e w' ⟨rfl, hg⟩; exact ⟨rfl, spread_gr hg⟩)))); go_big_quiet_on))))
    refine wpQuiet_nil ?_
    intro wr hr
    obtain ⟨mr, rfl⟩ := hr
    go_wp2_with fail
    go_ret
    exact ⟨rfl, Gr.trans (by have gg := gw3; have gs := gg.size; go_grown) (gr_spread _ _)⟩
theorem qd_half {j v : Nat} (hv : v < 4 ^ (j + 1)) : ∃ q : Nat, q < 4 ∧ v / 4 ^ j = q ∧ ((Cv.uX (j + 1) v).1 < 2 ^ j ↔ Cv.rt q = 0) ∧ ((Cv.uX (j + 1) v).2 < 2 ^ j ↔ Cv.up q = 0) := by
  have hp : 0 < 4 ^ j := Nat.pow_pos (by omega)
  have hq : v / 4 ^ j < 4 := by rw [Nat.div_lt_iff_lt_mul hp]; rw [Nat.pow_succ] at hv; omega
  have l := Cv.uX_lt j v
  have e : v / 4 ^ j % 4 = v / 4 ^ j := Nat.mod_eq_of_lt hq
  have a1 := Cv.tX_lt (q := v / 4 ^ j) l.1 l.2
  have a2 := Cv.tY_lt (q := v / 4 ^ j) l.1 l.2
  have r1 := Cv.rt_lt hq
  have r2 := Cv.up_lt (v / 4 ^ j)
  have hp2 : 0 < 2 ^ j := Nat.two_pow_pos j
  refine ⟨v / 4 ^ j, hq, rfl, ?_, ?_⟩
  · rw [Cv.uX, e]
    simp only
    rcases (show Cv.rt (v / 4 ^ j) = 0 ∨ Cv.rt (v / 4 ^ j) = 1 by omega) with h | h <;> rw [h] <;> omega
  · rw [Cv.uX, e]
    simp only
    rcases (show Cv.up (v / 4 ^ j) = 0 ∨ Cv.up (v / 4 ^ j) = 1 by omega) with h | h <;> rw [h] <;> omega
theorem q_same {a b : Nat} (ha : a < 4) (hb : b < 4) : (a == b) = ((decide (Cv.rt a = 0) == decide (Cv.rt b = 0)) && (decide (Cv.up a = 0) == decide (Cv.up b = 0))) := by
  rcases (show a = 0 ∨ a = 1 ∨ a = 2 ∨ a = 3 by omega) with rfl | rfl | rfl | rfl <;> rcases (show b = 0 ∨ b = 1 ∨ b = 2 ∨ b = 3 by omega) with rfl | rfl | rfl | rfl <;> rfl
theorem walk_CurveQuarters (v w : Nat) (n : Int) (B0 : Wd v) (B1 : Wd w) (B2 : -9223372036854775808 ≤ n ∧ n ≤ 9223372036854775807) (W : World) (hE : ErrT W) :
    Calls Tryd.prog 13 #[.int .u64 v, .int .u64 w, .int .i64 n] W fun e w' => e = .returned (.bool true) ∧ Gr W w' := by
  by_cases h1 : n < 2
  · exact qt_skip v w n W hE (Or.inl (decide_eq_true h1))
  by_cases h2 : 31 < n
  · exact qt_skip v w n W hE (Or.inr ⟨decide_eq_false h1, decide_eq_true h2⟩)
  obtain ⟨j, rfl⟩ : ∃ j : Nat, n = ((j + 1 : Nat) : Int) := ⟨(n - 1).toNat, by omega⟩
  have hm : 1 ≤ j + 1 ∧ j + 1 ≤ 31 := by omega
  have hj : 1 ≤ j ∧ j ≤ 31 := by omega
  obtain ⟨N, E, eN, eE, N4, Nb, E2, Eb, k1, k2, -⟩ := pow_words hm
  obtain ⟨M, h, eM, eh, M4, Mb, h2', hb, -, -, -, m1, m2, m3, -⟩ := pow_words hj
  have hNM : N = 4 * M := by rw [eN, eM, Nat.pow_succ]; omega
  have hEh : E = 2 * h := by rw [eE, eh, Nat.pow_succ]; omega
  have hlv : v % N < N := Nat.mod_lt _ (by omega)
  have hlw : w % N < N := Nat.mod_lt _ (by omega)
  have A1 := fun w' => c_Unhilbert (v % N) (j + 1) hm (by rw [← eN]; exact hlv) w'
  have A2 := fun w' => c_Unhilbert (w % N) (j + 1) hm (by rw [← eN]; exact hlw) w'
  obtain ⟨qa, qa4, eqa, xa, ya⟩ := qd_half (j := j) (v := v % N) (by rw [← eN]; exact hlv)
  obtain ⟨qb, qb4, eqb, xb, yb⟩ := qd_half (j := j) (v := w % N) (by rw [← eN]; exact hlw)
  have l1 := Cv.uX_lt (j + 1) (v % N)
  have l2 := Cv.uX_lt (j + 1) (w % N)
  obtain ⟨ax, eax⟩ : ∃ z, z = (Cv.uX (j + 1) (v % N)).1 := ⟨_, rfl⟩
  obtain ⟨ay, eay⟩ : ∃ z, z = (Cv.uX (j + 1) (v % N)).2 := ⟨_, rfl⟩
  obtain ⟨bx, ebx⟩ : ∃ z, z = (Cv.uX (j + 1) (w % N)).1 := ⟨_, rfl⟩
  obtain ⟨by', eby⟩ : ∃ z, z = (Cv.uX (j + 1) (w % N)).2 := ⟨_, rfl⟩
  rw [← eax, ← eay] at A1
  rw [← ebx, ← eby] at A2
  rw [← eax, ← eh] at xa
  rw [← eay, ← eh] at ya
  rw [← ebx, ← eh] at xb
  rw [← eby, ← eh] at yb
  rw [← eax, ← eay, ← eE] at l1
  rw [← ebx, ← eby, ← eE] at l2
  rw [← eM] at eqa eqb
  have A3 := fun w' => c_Hilbert (ax / 2) (ay / 2) j hj (by rw [← eh]; omega) (by rw [← eh]; omega) w'
  have hc := Cv.hil_lt j (ax / 2) (ay / 2)
  rw [← eM] at hc
  have qs := q_same qa4 qb4
  rw [show decide (Cv.rt qa = 0) = decide (ax < h) by rw [decide_eq_decide]; exact xa.symm, show decide (Cv.rt qb = 0) = decide (bx < h) by rw [decide_eq_decide]; exact xb.symm, show decide (Cv.up qa = 0) = decide (ay < h) by rw [decide_eq_decide]; exact ya.symm, show decide (Cv.up qb = 0) = decide (by' < h) by rw [decide_eq_decide]; exact yb.symm] at qs
  have di : ∀ a b : Nat, decide ((a : Int) < (b : Int)) = decide (a < b) := fun a b => by rw [decide_eq_decide]; omega
  refine qt_core v w (v % N) (w % N) (j + 1) j N M h ax ay bx by' (ax / 2) (ay / 2) qa qb (Cv.hil j (ax / 2) (ay / 2)) (decide (ax < h)) (decide (bx < h)) (decide (ay < h)) (decide (by' < h)) _ _ W hE (decide_eq_false (by omega)) (decide_eq_false (by omega)) (by omega) (by omega) (by omega)
    k1 k2 (by omega) (by omega) (by rw [← Bool.not_eq_true, beq_iff_eq]; omega) (by omega) (by omega) (by rw [← Bool.not_eq_true, beq_iff_eq]; omega) (by omega) (by rw [← eqa]; norm_cast) (by rw [← eqb]; norm_cast) (by rw [Int.tdiv_eq_ediv_of_nonneg (by omega)]; omega) (by rw [Int.tdiv_eq_ediv_of_nonneg (by omega), ← eqa]; norm_cast) (by rw [Int.tdiv_eq_ediv_of_nonneg (by omega), ← eqb]; norm_cast) (IntWalk.u64_in _ (by omega)) (IntWalk.u64_in _ (by omega)) (IntWalk.u64_in _ (by omega))
    m1 m2 m3 (by omega) (by omega) (by omega) (by omega) (IntWalk.wrap64_in _ (by omega)) (IntWalk.wrap64_in _ (by omega)) ?_ ?_ (di _ _) (di _ _) (di _ _) (di _ _) rfl rfl rfl rfl rfl rfl ?_ qs (decide_eq_true (by omega)) (decide_eq_true hc) A1 A2 A3
  · rw [Int.tdiv_eq_ediv_of_nonneg (by omega)]; omega
  · rw [Int.tdiv_eq_ediv_of_nonneg (by omega)]; omega
  · rw [← qs, Bool.eq_iff_iff, beq_iff_eq, beq_iff_eq]; omega
end Go.Proofs.YtldlpbfncgcimaaDoor
