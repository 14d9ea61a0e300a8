/- the document's own Hilbert, Unhilbert -/
import Derived.Test.YtldlpbfncgcimaaDoorCw
namespace Go.Proofs.YtldlpbfncgcimaaDoor
set_option linter.unusedVariables false
open Go.ChangeShapes Go.WideShapes Go.ChangeAt Go.RowKit

/-- One digit, as the document reckons it. -/
theorem rhil_round {j x y : Nat} (hj : j ≤ 30) (hx : x < 2 ^ (j + 1)) (hy : y < 2 ^ (j + 1)) : ∃ q S x' y' a b : Nat, q < 4 ∧ S = 2 ^ j ∧ 1 ≤ S ∧ S ≤ 1073741824 ∧ x' < S ∧ y' < S ∧ x' = x % 2 ^ j ∧ y' = y % 2 ^ j ∧ q = Cv.qd (x / 2 ^ j) (y / 2 ^ j) ∧ a = Cv.tX q S x' y' ∧ b = Cv.tY q S x' y' ∧
    (2 : Int) ^ min j 64 = S ∧ (2 : Int) ^ j = S ∧ IntKind.i64.wrap (S : Int) = S ∧ (x : Int) % (S : Int) = x' ∧ (y : Int) % (S : Int) = y' ∧ (x : Int).tmod (S : Int) = x' ∧ (y : Int).tmod (S : Int) = y' ∧
    ((q = 0 ∧ decide ((x : Int) < (S : Int)) = true ∧ decide ((y : Int) < (S : Int)) = true ∧ decide (x < S) = true ∧ decide (y < S) = true ∧ a = y' ∧ b = x') ∨ (q = 1 ∧ decide ((x : Int) < (S : Int)) = true ∧ decide ((y : Int) < (S : Int)) = false ∧ decide (x < S) = true ∧ decide (y < S) = false ∧ a = x' ∧ b = y') ∨
     (q = 2 ∧ decide ((x : Int) < (S : Int)) = false ∧ decide ((S : Int) ≤ (y : Int)) = true ∧ decide (x < S) = false ∧ decide (S ≤ y) = true ∧ a = x' ∧ b = y') ∨ (q = 3 ∧ decide ((x : Int) < (S : Int)) = false ∧ decide ((S : Int) ≤ (y : Int)) = false ∧ decide (x < S) = false ∧ decide (S ≤ y) = false ∧ (S : Int) - 1 - y' = a ∧ (S : Int) - 1 - x' = b)) := by
  have hp : 0 < 2 ^ j := Nat.two_pow_pos j
  have hS : 2 ^ j ≤ 1073741824 := Nat.pow_le_pow_right (n := 2) (by omega) hj
  rw [Nat.pow_succ] at hx hy
  have mx : x % 2 ^ j < 2 ^ j := Nat.mod_lt _ hp
  have my : y % 2 ^ j < 2 ^ j := Nat.mod_lt _ hp
  refine ⟨Cv.qd (x / 2 ^ j) (y / 2 ^ j), 2 ^ j, x % 2 ^ j, y % 2 ^ j, _, _, Cv.qd_lt _ _, rfl, hp, hS, mx, my, rfl, rfl, rfl, rfl, rfl, ?_, by norm_cast, IntWalk.i64_in _ (by omega), by norm_cast, by norm_cast, ?_, ?_, ?_⟩
  · rw [Nat.min_eq_left (by omega)]; norm_cast
  · rw [Int.tmod_eq_emod_of_nonneg (by omega)]; norm_cast
  · rw [Int.tmod_eq_emod_of_nonneg (by omega)]; norm_cast
  · by_cases c1 : x < 2 ^ j
    · have d1 : x / 2 ^ j = 0 := Nat.div_eq_of_lt c1
      by_cases c2 : y < 2 ^ j
      · left
        rw [d1, Nat.div_eq_of_lt c2]
        exact ⟨rfl, decide_eq_true (by omega), decide_eq_true (by omega), decide_eq_true c1, decide_eq_true c2, rfl, rfl⟩
      · right; left
        have d2 : y / 2 ^ j = 1 := by rw [Nat.div_eq_iff hp]; omega
        rw [d1, d2]
        exact ⟨rfl, decide_eq_true (by omega), decide_eq_false (by omega), decide_eq_true c1, decide_eq_false c2, rfl, rfl⟩
    · have d1 : x / 2 ^ j = 1 := by rw [Nat.div_eq_iff hp]; omega
      by_cases c2 : y < 2 ^ j
      · right; right; right
        rw [d1, Nat.div_eq_of_lt c2]
        refine ⟨rfl, decide_eq_false (by omega), decide_eq_false (by omega), decide_eq_false c1, decide_eq_false (by omega), ?_, ?_⟩
        · show ((2 ^ j : Nat) : Int) - 1 - ((y % 2 ^ j : Nat) : Int) = ((2 ^ j - 1 - y % 2 ^ j : Nat) : Int); omega
        · show ((2 ^ j : Nat) : Int) - 1 - ((x % 2 ^ j : Nat) : Int) = ((2 ^ j - 1 - x % 2 ^ j : Nat) : Int); omega
      · right; right; left
        have d2 : y / 2 ^ j = 1 := by rw [Nat.div_eq_iff hp]; omega
        rw [d1, d2]
        exact ⟨rfl, decide_eq_false (by omega), decide_eq_true (by omega), decide_eq_false c1, decide_eq_true (by omega), rfl, rfl⟩
def RHilRel (T : Nat) (W : World) (k : Nat) (v xv yv b : Value) (wr : World) : Prop :=
  ∃ (j x y acc : Nat), j ≤ k ∧ j ≤ 31 ∧ b = .int .i64 j ∧ v = .int .u64 acc ∧ xv = .int .i64 x ∧ yv = .int .i64 y ∧ x < 2 ^ j ∧ y < 2 ^ j ∧ acc * 4 ^ j + Cv.hil j x y = T ∧ Gr W wr
set_option maxHeartbeats 8000000 in
set_option maxRecDepth 100000 in
theorem c_rHilbert (x y n : Nat) (hn : 1 ≤ n ∧ n ≤ 31) (hx : x < 2 ^ n) (hy : y < 2 ^ n) (W : World) :
    Calls Tryd.prog 35 #[.agg #[.int .i64 x, .int .i64 y], .int .i64 n] W fun e w' => e = .returned (.tuple #[.int .u64 (Cv.hil n x y), .int .i64 0]) ∧ Gr W w' := by
  obtain ⟨E, eE⟩ : ∃ E, E = 2 ^ n := ⟨_, rfl⟩
  have hE : E ≤ 2147483648 := by rw [eE]; exact Nat.pow_le_pow_right (n := 2) (by omega) hn.2
  obtain ⟨T, eT⟩ : ∃ T, T = Cv.hil n x y := ⟨_, rfl⟩
  have t1 : decide ((n : Int) < 1) = false := decide_eq_false (by omega)
  have t2 : decide ((31 : Int) < (n : Int)) = false := decide_eq_false (by omega)
  have t3 : decide ((x : Int) < 0) = false := decide_eq_false (by omega)
  have t4 : decide ((y : Int) < 0) = false := decide_eq_false (by omega)
  have t5 : decide ((E : Int) ≤ (x : Int)) = false := decide_eq_false (by rw [eE]; omega)
  have t6 : decide ((E : Int) ≤ (y : Int)) = false := decide_eq_false (by rw [eE]; omega)
  have t7 : decide (E ≤ x) = false := decide_eq_false (by rw [eE]; omega)
  have t8 : decide (E ≤ y) = false := decide_eq_false (by rw [eE]; omega)
  have u1 : (2 : Int) ^ n = (E : Int) := by rw [eE]; norm_cast
  have u2 : (2 : Int) ^ min n 64 = (E : Int) := by rw [Nat.min_eq_left (by omega)]; exact u1
  have u3 : IntKind.i64.wrap (E : Int) = (E : Int) := IntWalk.i64_in _ (by omega)
  have n0 : (0 : Int) ≤ (n : Int) := by omega
  have n1 : (n : Int) ≤ 31 := by omega
  have HX := Lib.hid (And.intro hx (And.intro hy (And.intro eT hn)))
  rw [← eT]
  clear eE eT hx hy hn
  go_enter Tryd.func35, Tryd.ntmps35
  go_wp2_with fail
  generalize hhw1 : (W.alloc (.cells #[.int .i64 x, .int .i64 y] 54)) = w1
  have cw1_0_0 : w1.cell? ⟨W.heap.size, 0, none⟩ = some (.int .i64 x) := by subst hhw1; go_simp
  have cw1_0_1 : w1.cell? ⟨W.heap.size, 1, none⟩ = some (.int .i64 y) := by subst hhw1; go_simp
  have zw1_0 : W.heap.size < w1.heap.size := World.block_lt_of_cell? _ _ cw1_0_0
  have gw1 : Gr W w1 := by subst hhw1; go_grown
  clear hhw1
  go_wp2_with fail
  refine wp_region_spread (by kernel_rfl) (by kernel_rfl) ?_
  try simp only [List.append]
  repeat (first | go_big_quiet_skip | (go_big_quiet_want; go_big_quiet_op; (first | go_big_quiet_on | (apply Exists.intro; refine ⟨fun _ => ?_, ?_⟩; (· fail); go_big_quiet_on))))
  refine wpQuiet_nil ?_
  intro w2 hhw2
  have hw2 := Hd.gr_of_spread hhw2
  have cw2_0_0 : w2.cell? ⟨W.heap.size, 0, none⟩ = some (.int .i64 x) := cell_gr hw2 (by go_simp)
  have cw2_0_1 : w2.cell? ⟨W.heap.size, 1, none⟩ = some (.int .i64 y) := cell_gr hw2 (by go_simp)
  have zw2_0 : W.heap.size < w2.heap.size := World.block_lt_of_cell? _ _ cw2_0_0
  have gw2 : Gr W w2 := Gr.trans (by have gg := gw1; have gs := gg.size; go_grown) hw2
  clear hw2 hhw2 gw1 zw1_0 cw1_0_0 cw1_0_1
  go_wp2_with fail
  go_wp2_with fail
  refine wp_region_spread (by kernel_rfl) (by kernel_rfl) ?_
  try simp only [List.append]
  repeat (first | go_big_quiet_skip | (go_big_quiet_want; go_big_quiet_op; (first | go_big_quiet_on | (apply Exists.intro; refine ⟨fun _ => ?_, ?_⟩; (· fail); go_big_quiet_on))))
  refine wpQuiet_nil ?_
  intro w3 hhw3
  have hw3 := Hd.gr_of_spread hhw3
  have cw3_0_0 : w3.cell? ⟨W.heap.size, 0, none⟩ = some (.int .i64 x) := cell_gr hw3 (by go_simp)
  have cw3_0_1 : w3.cell? ⟨W.heap.size, 1, none⟩ = some (.int .i64 y) := cell_gr hw3 (by go_simp)
  have zw3_0 : W.heap.size < w3.heap.size := World.block_lt_of_cell? _ _ cw3_0_0
  have gw3 : Gr W w3 := Gr.trans (by have gg := gw2; have gs := gg.size; go_grown) hw3
  clear hw3 hhw3 gw2 zw2_0 cw2_0_0 cw2_0_1
  go_wp2_with fail
  go_loopg [6, 7, 8, 9] n (fun k v xv yv b wr => RHilRel T W k v xv yv b wr)
  case atStart => exact ⟨n, x, y, 0, Nat.le_refl _, by omega, rfl, rfl, rfl, rfl, HX.out.1, HX.out.2.1, by rw [HX.out.2.2.1]; omega, gw3⟩
  case round =>
    obtain ⟨j, a0, b0, acc, hjk, hj31, rfl, rfl, rfl, rfl, ha, hb, hT, gwr⟩ := hrel
    cases j with
    | zero =>
      have hv : acc = T := by rw [← hT]; simp [Cv.hil]
      have HV := Lib.hid hv
      clear hv hT ha hb
      go_wp2_with fail
      go_ret2
      exact ⟨by rw [← HV.out]; rfl, gwr⟩
    | succ j =>
      have hTb : T < 4611686018427387904 := by
        rw [HX.out.2.2.1]
        have h1 := Cv.hil_lt n x y
        have h2 : (4 : Nat) ^ n ≤ 4 ^ 31 := Nat.pow_le_pow_right (by omega) HX.out.2.2.2.2
        rw [show (4 : Nat) ^ 31 = 4611686018427387904 from rfl] at h2
        omega
      obtain ⟨q, S, x', y', p1, p2, q4, eS, S0, S1, hx', hy', ea, eb, eq, ep1, ep2, k1, k2, k3, k4, k5, k6, k7, hc⟩ := rhil_round (j := j) (x := a0) (y := b0) (by omega) ha hb
      have hstep : acc * 4 ^ (j + 1) + Cv.hil (j + 1) a0 b0 = (4 * acc + q) * 4 ^ j + Cv.hil j p1 p2 := by
        rw [Cv.hil, ← eq, ep1, ep2, ea, eb, eS, Nat.pow_succ]; grind
      rw [hstep] at hT
      have hab : 4 * acc ≤ T := by
        rw [← hT]
        have h1 : 1 ≤ 4 ^ j := Nat.one_le_pow _ _ (by omega)
        have h2 : (4 * acc + q) * 1 ≤ (4 * acc + q) * 4 ^ j := Nat.mul_le_mul_left _ h1
        omega
      obtain ⟨a4, e4⟩ : ∃ z, z = 4 * acc := ⟨_, rfl⟩
      obtain ⟨acc', ea'⟩ : ∃ z, z = 4 * acc + q := ⟨_, rfl⟩
      have v1 : IntKind.u64.wrap ((acc : Int) * 4) = (a4 : Int) := by rw [e4, show (acc : Int) * 4 = ((4 * acc : Nat) : Int) by omega]; exact IntWalk.u64_in _ (by omega)
      have v2 : bits BinOp.or IntKind.u64 (a4 : Int) (q : Int) = (acc' : Int) := by
        have e := Nat.two_pow_add_eq_or_of_lt (i := 2) (b := q) (by omega) acc
        rw [bits_or_u64_nat _ _ (by omega) (by omega), ea', e4]
        rw [show 2 ^ 2 * acc = 4 * acc by omega] at e
        rw [← e]
      have lx : p1 < S := by rw [ep1]; exact Cv.tX_lt hx' hy'
      have ly : p2 < S := by rw [ep2]; exact Cv.tY_lt hx' hy'
      rw [← ea'] at hT
      rw [eS] at lx ly
      have j1 : (j : Int) ≤ 30 := by omega
      have j2 : (0 : Int) ≤ (j : Int) := by omega
      have j3 : ((j + 1 : Nat) : Int) - 1 = (j : Int) := by omega
      have j4 : decide ((0 : Int) < ((j + 1 : Nat) : Int)) = true := decide_eq_true (by omega)
      have S2 : (S : Int) ≤ 1073741824 := by omega
      have S3 : (1 : Int) ≤ (S : Int) := by omega
      have S4 : ((S : Int) == 0) = false := by rw [← Bool.not_eq_true, beq_iff_eq]; omega
      have x1 : (x' : Int) ≤ 1073741824 := by omega
      have y1 : (y' : Int) ≤ 1073741824 := by omega
      have HZ := Lib.hid (And.intro lx (And.intro ly hT))
      have HC := Lib.hid hc
      clear lx ly hT hstep hab e4 ea' ep1 ep2 eS ea eb eq ha hb hx' hy' HX hTb u1 u2 u3 t1 t2 t3 t4 t5 t6 t7 t8 q4 S0 S1 n0 n1 hE hc
      rw [show ((j + 1 : Nat) : Int) = (j : Int) + 1 from rfl] at j3 j4 ⊢
      rcases HC.out with ⟨rfl, c1, c2, c3, c4, rfl, rfl⟩ | ⟨rfl, c1, c2, c3, c4, rfl, rfl⟩ | ⟨rfl, c1, c2, c3, c4, rfl, rfl⟩ | ⟨rfl, c1, c2, c3, c4, c5, c6⟩
      all_goals
        clear HC
        go_wp2_with fail
        go_wp2_with fail
        refine wp_region_spread (by kernel_rfl) (by kernel_rfl) ?_
        try simp only [List.append]
        repeat (first | go_big_quiet_skip | (go_big_quiet_want; go_big_quiet_op; (first | go_big_quiet_on | (apply Exists.intro; refine ⟨fun _ => ?_, ?_⟩; (· fail); go_big_quiet_on))))
        refine wpQuiet_nil ?_
        intro w4 hhw4
        have hw4 := Hd.gr_of_spread hhw4
        have gw4 : Gr W w4 := Gr.trans (by have gg := gwr; have gs := gg.size; go_grown) hw4
        clear hw4 hhw4 gwr
        go_wp2_with fail
        go_roundg j
        case measure => omega
        case rel => exact ⟨j, _, _, acc', Nat.le_refl _, by omega, by go_num, (by first | rfl | exact congrArg (Value.int .u64) v2), rfl, rfl, HZ.out.1, HZ.out.2.1, HZ.out.2.2, gw4⟩
theorem runh_round {j v : Nat} (hj : j ≤ 30) (hv : v < 18446744073709551616) : ∃ d q S p1 p2 p1' p2' : Nat, p1 = (Cv.uX j v).1 ∧ p2 = (Cv.uX j v).2 ∧ p1' = (Cv.uX (j + 1) v).1 ∧ p2' = (Cv.uX (j + 1) v).2 ∧ 1 ≤ S ∧ S ≤ 1073741824 ∧ p1 < S ∧ p2 < S ∧
    (v : Int) / 2 ^ (2 * j) = d ∧ bits BinOp.and IntKind.u64 (d : Int) 3 = q ∧ (2 : Int) ^ min j 64 = S ∧ (2 : Int) ^ j = S ∧ IntKind.i64.wrap (S : Int) = S ∧
    ((q = 0 ∧ p1' = p2 ∧ p2' = p1) ∨ (q = 1 ∧ p1' = p1 ∧ (p2 : Int) + S = p2') ∨ (q = 2 ∧ (p1 : Int) + S = p1' ∧ (p2 : Int) + S = p2') ∨ (q = 3 ∧ (S : Int) - 1 - p2 + S = p1' ∧ (S : Int) - 1 - p1 = p2')) := by
  obtain ⟨d, q, S, p1, p2, a1, a2, r, u, x, rS, uS, p1', p2', e1, e2, e3, e4, hq, eS, S0, S1, l1, l2, ea, eb, hr, hu, k1, k2, k3, k4, k5, k6, -⟩ := unh_round (j := j) (v := v) hj hv
  have hp : 0 < 4 ^ j := Nat.pow_pos (by omega)
  have eq : q = v / 4 ^ j % 4 := by
    have h4 : (4 : Nat) ^ j = 2 ^ (2 * j) := by rw [Nat.pow_mul]
    have hd : d = v / 4 ^ j := by rw [h4]; exact Int.natCast_inj.1 (by rw [← k1]; norm_cast)
    have hd2 : v / 4 ^ j < 18446744073709551616 := Nat.lt_of_le_of_lt (Nat.div_le_self _ _) hv
    have e := bits_and_u64_nat (v / 4 ^ j) 3 hd2 (by omega)
    rw [show (3 : Nat) = 2 ^ 2 - 1 from rfl, Nat.and_two_pow_sub_one_eq_mod] at e
    rw [hd] at k2
    exact Int.natCast_inj.1 (k2.symm.trans e)
  have f1 : p1' = Cv.tX q S p1 p2 + Cv.rt q * S := by rw [e3, Cv.uX, ← eq, ← eS, ← e1, ← e2]
  have f2 : p2' = Cv.tY q S p1 p2 + Cv.up q * S := by rw [e4, Cv.uX, ← eq, ← eS, ← e1, ← e2]
  refine ⟨d, q, S, p1, p2, p1', p2', e1, e2, e3, e4, S0, S1, l1, l2, k1, k2, k3, k4, k5, ?_⟩
  clear eq k1 k2
  rcases (show q = 0 ∨ q = 1 ∨ q = 2 ∨ q = 3 by omega) with rfl | rfl | rfl | rfl
  · left; simp [Cv.tX, Cv.tY, Cv.rt, Cv.up] at f1 f2; exact ⟨rfl, f1, f2⟩
  · right; left; simp [Cv.tX, Cv.tY, Cv.rt, Cv.up] at f1 f2; exact ⟨rfl, f1, by omega⟩
  · right; right; left; simp [Cv.tX, Cv.tY, Cv.rt, Cv.up] at f1 f2; exact ⟨rfl, by omega, by omega⟩
  · right; right; right; simp [Cv.tX, Cv.tY, Cv.rt, Cv.up] at f1 f2; exact ⟨rfl, by omega, by omega⟩
set_option maxHeartbeats 8000000 in
set_option maxRecDepth 100000 in
theorem c_rUnhilbert (v n : Nat) (hn : 1 ≤ n ∧ n ≤ 31) (hv : v < 4 ^ n) (W : World) :
    Calls Tryd.prog 37 #[.int .u64 v, .int .i64 n] W fun e w' => e = .returned (.tuple #[.agg #[.int .i64 ((Cv.uX n v).1 : Nat), .int .i64 ((Cv.uX n v).2 : Nat)], .int .i64 0]) ∧ Gr W w' := by
  have h31 : (4 : Nat) ^ n ≤ 4 ^ 31 := Nat.pow_le_pow_right (by omega) hn.2
  rw [show (4 : Nat) ^ 31 = 4611686018427387904 from rfl] at h31
  have z0 : v / 4 ^ n = 0 := Nat.div_eq_of_lt hv
  have t1 : decide ((n : Int) < 1) = false := decide_eq_false (by omega)
  have t2 : decide ((31 : Int) < (n : Int)) = false := decide_eq_false (by omega)
  have z1 : (v : Int) / 2 ^ (2 * n) = 0 := by
    have h4 : (4 : Nat) ^ n = 2 ^ (2 * n) := by rw [Nat.pow_mul]
    rw [h4] at z0
    have : ((v / 2 ^ (2 * n) : Nat) : Int) = 0 := by rw [z0]; rfl
    rw [← this]; norm_cast
  have n0 : (0 : Int) ≤ (n : Int) := by omega
  have n1 : (n : Int) ≤ 31 := by omega
  have HX := Lib.hid (show n ≤ 31 ∧ v < 18446744073709551616 from ⟨hn.2, by omega⟩)
  clear hn hv h31 z0
  go_enter Tryd.func37, Tryd.ntmps37
  go_wp2_with fail
  go_loopg [6, 7, 8] n (fun k xv yv i wr => ∃ j : Nat, j + k = n ∧ i = .int .i64 ((j : Int) + 1) ∧ xv = .int .i64 ((Cv.uX j v).1 : Nat) ∧ yv = .int .i64 ((Cv.uX j v).2 : Nat) ∧ wr.cell? ⟨W.heap.size, 0, none⟩ = some (.int .i64 0) ∧ wr.cell? ⟨W.heap.size, 1, none⟩ = some (.int .i64 0) ∧ wr.frozen? ⟨W.heap.size, 0, none⟩ = false ∧ wr.frozen? ⟨W.heap.size, 1, none⟩ = false ∧ Gr W wr)
  case atStart => exact ⟨0, by omega, rfl, rfl, rfl, by go_simp, by go_simp, by go_simp, by go_simp, by go_grown⟩
  case round =>
    obtain ⟨j, hjk, rfl, rfl, rfl, r0, r1, q0, q1, gwr⟩ := hrel
    have zR := World.block_lt_of_cell? _ _ r0
    by_cases hj : j < n
    · have ti : decide ((j : Int) + 1 ≤ (n : Int)) = true := decide_eq_true (by omega)
      have ti2 : decide (j + 1 ≤ n) = true := decide_eq_true (by omega)
      obtain ⟨d, q, S, p1, p2, p1', p2', e1, e2, e3, e4, S0, S1, l1, l2, k1, k2, k3, k4, k5, hc⟩ := runh_round (j := j) (v := v) (by have := HX.out; omega) HX.out.2
      rw [← e1, ← e2]
      have j1 : (j : Int) ≤ 30 := by have := HX.out; omega
      have j2 : (0 : Int) ≤ (j : Int) := by omega
      have S2 : (S : Int) ≤ 1073741824 := by omega
      have S3 : (1 : Int) ≤ (S : Int) := by omega
      have x1 : (p1 : Int) ≤ 1073741824 := by omega
      have x2 : (p2 : Int) ≤ 1073741824 := by omega
      have HE := Lib.hid (And.intro e3 e4)
      have HC := Lib.hid hc
      clear e1 e2 e3 e4 hc l1 l2 S0 S1 z1 t1 t2
      rcases HC.out with ⟨rfl, rfl, rfl⟩ | ⟨rfl, rfl, c1⟩ | ⟨rfl, c1, c2⟩ | ⟨rfl, c1, c2⟩
      all_goals
        clear HC
        go_wp2_with fail
        go_roundg (n - (j + 1))
        case measure => omega
        case rel => exact ⟨j + 1, by omega, by go_num, by rw [← HE.out.1], by rw [← HE.out.2], r0, r1, q0, q1, gwr⟩
    · obtain rfl : j = n := by omega
      have ti : decide ((j : Int) + 1 ≤ (j : Int)) = false := decide_eq_false (by omega)
      have ti2 : decide (j + 1 ≤ j) = false := decide_eq_false (by omega)
      obtain ⟨p1, e1⟩ : ∃ x, x = (Cv.uX j v).1 := ⟨_, rfl⟩
      obtain ⟨p2, e2⟩ : ∃ x, x = (Cv.uX j v).2 := ⟨_, rfl⟩
      rw [← e1, ← e2]
      have HE := Lib.hid (And.intro e1 e2)
      clear e1 e2
      go_wp2_with fail
      refine bodyPost_ret (v := .tuple #[.agg #[.int .i64 p1, .int .i64 p2], .int .i64 0]) (by simp [results, Tryd.results37, go_sem, *]) rfl ⟨by rw [HE.out.1, HE.out.2], by have gg := gwr; have gs := gg.size; go_grown⟩
end Go.Proofs.YtldlpbfncgcimaaDoor
