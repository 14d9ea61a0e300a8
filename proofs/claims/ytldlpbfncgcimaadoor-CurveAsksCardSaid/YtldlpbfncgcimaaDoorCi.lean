/- curve.Hilbert -/
import Derived.Test.YtldlpbfncgcimaaDoorCh
namespace Go.Proofs.YtldlpbfncgcimaaDoor
set_option linter.unusedVariables false
open Go.ChangeShapes Go.WideShapes Go.ChangeAt Go.RowKit

/-- The digits of one round, as the words compute them. -/
theorem hil_round {j x y : Nat} (hj : j ≤ 30) (hx : x < 2 ^ (j + 1)) (hy : y < 2 ^ (j + 1)) : ∃ r u xr q S x' y' : Nat, r ≤ 1 ∧ u ≤ 1 ∧ q < 4 ∧ S = 2 ^ j ∧ 1 ≤ S ∧ S ≤ 1073741824 ∧ x' < S ∧ y' < S ∧ x' = x % 2 ^ j ∧ y' = y % 2 ^ j ∧ q = Cv.qd (x / 2 ^ j) (y / 2 ^ j) ∧
    (x : Int) / 2 ^ min j 64 = r ∧ (x : Int) / 2 ^ j = r ∧ (y : Int) / 2 ^ min j 64 = u ∧ (y : Int) / 2 ^ j = u ∧ bits BinOp.xor IntKind.i64 (r : Int) (u : Int) = xr ∧ bits BinOp.or IntKind.i64 ((r : Int) * 2) (xr : Int) = q ∧
    (2 : Int) ^ min j 64 = S ∧ (2 : Int) ^ j = S ∧ IntKind.i64.wrap (S : Int) = S ∧ bits BinOp.and IntKind.i64 (x : Int) ((S : Int) - 1) = x' ∧ bits BinOp.and IntKind.i64 (y : Int) ((S : Int) - 1) = y' := by
  have hp : 0 < 2 ^ j := Nat.two_pow_pos j
  have hS : 2 ^ j ≤ 1073741824 := Nat.pow_le_pow_right (n := 2) (by omega) hj
  rw [Nat.pow_succ] at hx hy
  have hr : x / 2 ^ j < 2 := by rw [Nat.div_lt_iff_lt_mul hp]; omega
  have hu : y / 2 ^ j < 2 := by rw [Nat.div_lt_iff_lt_mul hp]; omega
  have key : ∃ xr q : Nat, q < 4 ∧ q = Cv.qd (x / 2 ^ j) (y / 2 ^ j) ∧ bits BinOp.xor IntKind.i64 ((x / 2 ^ j : Nat) : Int) ((y / 2 ^ j : Nat) : Int) = xr ∧ bits BinOp.or IntKind.i64 (((x / 2 ^ j : Nat) : Int) * 2) (xr : Int) = q := by
    generalize x / 2 ^ j = r at *
    generalize y / 2 ^ j = u at *
    rcases (show r = 0 ∨ r = 1 by omega) with rfl | rfl <;> rcases (show u = 0 ∨ u = 1 by omega) with rfl | rfl
    · exact ⟨0, 0, by omega, rfl, by decide, by decide⟩
    · exact ⟨1, 1, by omega, rfl, by decide, by decide⟩
    · exact ⟨1, 3, by omega, rfl, by decide, by decide⟩
    · exact ⟨0, 2, by omega, rfl, by decide, by decide⟩
  obtain ⟨xr, q, hq, eq, k1, k2⟩ := key
  have hm : min j 64 = j := Nat.min_eq_left (by omega)
  have mask : ∀ z : Nat, z < 2 ^ j * 2 → bits BinOp.and IntKind.i64 (z : Int) (((2 ^ j : Nat) : Int) - 1) = ((z % 2 ^ j : Nat) : Int) := fun z hz => by
    rw [show (((2 ^ j : Nat) : Int) - 1) = ((2 ^ j - 1 : Nat) : Int) by omega, bi_and z _ (by omega) (by omega), Nat.and_two_pow_sub_one_eq_mod]
  refine ⟨x / 2 ^ j, y / 2 ^ j, xr, q, 2 ^ j, x % 2 ^ j, y % 2 ^ j, by omega, by omega, hq, rfl, hp, hS, Nat.mod_lt _ hp, Nat.mod_lt _ hp, rfl, rfl, eq, ?_, ?_, ?_, ?_, k1, k2, ?_, ?_, ?_, mask x hx, mask y hy⟩
  · rw [hm]; norm_cast
  · norm_cast
  · rw [hm]; norm_cast
  · norm_cast
  · rw [hm]; norm_cast
  · norm_cast
  · exact IntWalk.i64_in _ (by omega)
def HilRel (B : Nat) (T : Nat) (W : World) (k : Nat) (v b : Value) (wr : World) : Prop :=
  ∃ (j x y acc : Nat), j ≤ k ∧ j ≤ 31 ∧ b = .int .i64 ((j : Int) - 1) ∧ v = .int .u64 acc ∧ x < 2 ^ j ∧ y < 2 ^ j ∧ acc * 4 ^ j + Cv.hil j x y = T ∧
    wr.cell? ⟨B, 0, none⟩ = some (.int .i64 x) ∧ wr.cell? ⟨B, 1, none⟩ = some (.int .i64 y) ∧ wr.frozen? ⟨B, 0, none⟩ = false ∧ wr.frozen? ⟨B, 1, none⟩ = false ∧ Gr W wr
set_option maxHeartbeats 4000000 in
set_option maxRecDepth 100000 in
theorem c_Hilbert (x y n : Nat) (hn : 1 ≤ n ∧ n ≤ 31) (hx : x < 2 ^ n) (hy : y < 2 ^ n) (W : World) :
    Calls Tryd.prog 34 #[.agg #[.int .i64 x, .int .i64 y], .int .i64 n] W fun e w' => e = .returned (.tuple #[.int .u64 (Cv.hil n x y), .nilIface]) ∧ Gr W w' := by
  obtain ⟨E, eE⟩ : ∃ E, E = 2 ^ n := ⟨_, rfl⟩
  have hE : E ≤ 2147483648 := by rw [eE]; exact Nat.pow_le_pow_right (n := 2) (by omega) hn.2
  obtain ⟨T, eT⟩ : ∃ T, T = Cv.hil n x y := ⟨_, rfl⟩
  have t1 : decide ((n : Int) < 1) = false := decide_eq_false (by omega)
  have t2 : decide ((31 : Int) < (n : Int)) = false := decide_eq_false (by omega)
  have t3 : decide ((x : Int) < 0) = false := decide_eq_false (by omega)
  have t4 : decide ((y : Int) < 0) = false := decide_eq_false (by omega)
  have t5 : decide ((E : Int) ≤ (x : Int)) = false := decide_eq_false (by rw [eE]; omega)
  have t6 : decide ((E : Int) ≤ (y : Int)) = false := decide_eq_false (by rw [eE]; omega)
  have t7 : decide (E ≤ x) = false := decide_eq_false (by rw [eE]; omega)
  have t8 : decide (E ≤ y) = false := decide_eq_false (by rw [eE]; omega)
  have u1 : (2 : Int) ^ n = (E : Int) := by rw [eE]; norm_cast
  have u2 : (2 : Int) ^ min n 64 = (E : Int) := by rw [Nat.min_eq_left (by omega)]; exact u1
  have u3 : IntKind.i64.wrap (E : Int) = (E : Int) := IntWalk.i64_in _ (by omega)
  have n0 : (0 : Int) ≤ (n : Int) := by omega
  have n1 : (n : Int) ≤ 31 := by omega
  have n2 : (1 : Int) ≤ (n : Int) := by omega
  have HX := Lib.hid (And.intro hx (And.intro hy (And.intro eT hn)))
  rw [← eT]
  clear eE eT hx hy hn
  go_enter Tryd.func34, Tryd.ntmps34
  go_wp2_with fail
  go_loopg [7, 8] n (fun k v b wr => HilRel W.heap.size T W k v b wr)
  case atStart => exact ⟨n, x, y, 0, Nat.le_refl _, by omega, rfl, rfl, HX.out.1, HX.out.2.1, by rw [HX.out.2.2.1]; omega, by go_simp, by go_simp, by go_simp, by go_simp, by go_grown⟩
  case round =>
    obtain ⟨j, a, b, acc, hjk, hj31, rfl, rfl, ha, hb, hT, c0, c1, f0, f1, gwr⟩ := hrel
    have zB := World.block_lt_of_cell? _ _ c0
    cases j with
    | zero =>
      have hv : acc = T := by rw [← hT]; simp [Cv.hil]
      have HV := Lib.hid hv
      clear hv hT ha hb
      rw [show (((0 : Nat) : Int) - 1) = -1 from rfl]
      go_wp2_with fail
      go_ret2
      exact ⟨by rw [← HV.out]; rfl, gwr⟩
    | succ j =>
      have hTb : T < 4611686018427387904 := by
        rw [HX.out.2.2.1]
        have h1 := Cv.hil_lt n x y
        have h2 : (4 : Nat) ^ n ≤ 4 ^ 31 := Nat.pow_le_pow_right (by omega) HX.out.2.2.2.2
        rw [show (4 : Nat) ^ 31 = 4611686018427387904 from rfl] at h2
        omega
      obtain ⟨r, u, xr, q, S, a', b', r1, u1', q4, eS, S0, S1, ha', hb', ea, eb, eq, k1, k2, k3, k4, k5, k6, k7, k8, k9, ka, kb⟩ := hil_round (j := j) (x := a) (y := b) (by omega) ha hb
      have kc : (a : Int) / (S : Int) = (r : Int) := by rw [← k8]; exact k2
      have kd : (b : Int) / (S : Int) = (u : Int) := by rw [← k8]; exact k4
      have hstep : acc * 4 ^ (j + 1) + Cv.hil (j + 1) a b = (4 * acc + q) * 4 ^ j + Cv.hil j (Cv.tX q S a' b') (Cv.tY q S a' b') := by
        rw [Cv.hil, ← eq, ea, eb, eS, Nat.pow_succ]; grind
      rw [hstep] at hT
      have hab : 4 * acc ≤ T := by
        rw [← hT]
        have h1 : 1 ≤ 4 ^ j := Nat.one_le_pow _ _ (by omega)
        have h2 : (4 * acc + q) * 1 ≤ (4 * acc + q) * 4 ^ j := Nat.mul_le_mul_left _ h1
        omega
      obtain ⟨a4, e4⟩ : ∃ z, z = 4 * acc := ⟨_, rfl⟩
      obtain ⟨acc', ea'⟩ : ∃ z, z = 4 * acc + q := ⟨_, rfl⟩
      have v1 : IntKind.u64.wrap ((acc : Int) * 4) = (a4 : Int) := by rw [e4, show (acc : Int) * 4 = ((4 * acc : Nat) : Int) by omega]; exact IntWalk.u64_in _ (by omega)
      have v2 : bits BinOp.or IntKind.u64 (a4 : Int) (q : Int) = (acc' : Int) := by
        have e := Nat.two_pow_add_eq_or_of_lt (i := 2) (b := q) (by omega) acc
        rw [bits_or_u64_nat _ _ (by omega) (by omega), ea', e4]
        rw [show 2 ^ 2 * acc = 4 * acc by omega] at e
        rw [← e]
      have CT := fun w => c_turn q S a' b' w q4 S1 ha' hb'
      have lx := Cv.tX_lt (q := q) ha' hb'
      have ly := Cv.tY_lt (q := q) ha' hb'
      obtain ⟨p1, ep1⟩ : ∃ z, z = Cv.tX q S a' b' := ⟨_, rfl⟩
      obtain ⟨p2, ep2⟩ : ∃ z, z = Cv.tY q S a' b' := ⟨_, rfl⟩
      rw [← ep1, ← ep2] at CT hT
      rw [← ep1] at lx
      rw [← ep2] at ly
      rw [← ea'] at hT
      rw [eS] at lx ly
      have r2 : (r : Int) ≤ 1 := by omega
      have r3 : (0 : Int) ≤ (r : Int) := by omega
      have q2 : (q : Int) ≤ 3 := by omega
      have q3 : (0 : Int) ≤ (q : Int) := by omega
      have j1 : (j : Int) ≤ 30 := by omega
      have j2 : (0 : Int) ≤ (j : Int) := by omega
      have j3 : decide ((0 : Int) ≤ (j : Int)) = true := decide_eq_true (by omega)
      have S2 : (S : Int) ≤ 1073741824 := by omega
      have S3 : (1 : Int) ≤ (S : Int) := by omega
      have w1' : IntKind.u64.wrap (q : Int) = (q : Int) := IntWalk.u64_in _ (by omega)
      have w2' : IntKind.i64.wrap ((S : Int) - 1) = (S : Int) - 1 := IntWalk.i64_in _ (by omega)
      have H1 := Lib.hid CT
      have HZ := Lib.hid (And.intro lx (And.intro ly hT))
      clear CT lx ly hT hstep hab e4 ea' ep1 ep2 eS ea eb eq ha hb ha' hb' HX hTb u1 u2 u3 t1 t2 t3 t4 t5 t6 t7 t8 r1 u1' q4 S0 S1 n0 n1 n2 hE
      rw [show (((j + 1 : Nat) : Int) - 1) = (j : Int) by omega]
      go_wp2_with fail
      refine wp_region_spread (by kernel_rfl) (by kernel_rfl) ?_
      try simp only [List.append]
      repeat (first | go_big_quiet_skip | (go_big_quiet_want; go_big_quiet_op; (first | go_big_quiet_on | (apply Exists.intro; refine ⟨fun _ => ?_, ?_⟩; (· fail); go_big_quiet_on))))
      refine wpQuiet_nil ?_
      intro w1 hhw1
      have hw1 := Hd.gr_of_spread hhw1
      have cw1_0_0 : w1.cell? ⟨W.heap.size, 0, none⟩ = some (.int .i64 a) := cell_gr hw1 (by go_simp)
      have fw1_0_0 : w1.frozen? ⟨W.heap.size, 0, none⟩ = false := frozen_gr (v := .int .i64 a) hw1 (by go_simp) (by go_simp)
      have cw1_0_1 : w1.cell? ⟨W.heap.size, 1, none⟩ = some (.int .i64 b) := cell_gr hw1 (by go_simp)
      have fw1_0_1 : w1.frozen? ⟨W.heap.size, 1, none⟩ = false := frozen_gr (v := .int .i64 b) hw1 (by go_simp) (by go_simp)
      have zw1_0 : W.heap.size < w1.heap.size := World.block_lt_of_cell? _ _ cw1_0_0
      have gw1 : Gr W w1 := Gr.trans (by have gg := gwr; have gs := gg.size; go_grown) hw1
      clear hw1 hhw1 gwr
      go_wp2_with fail
      go_at_call 56
      refine ((H1.out _)).mono ?_
      rintro e w2 ⟨rfl, hw2⟩
      have cw2_0_0 : w2.cell? ⟨W.heap.size, 0, none⟩ = some (.int .i64 a) := cell_gr hw2 (by go_simp)
      have fw2_0_0 : w2.frozen? ⟨W.heap.size, 0, none⟩ = false := frozen_gr (v := .int .i64 a) hw2 (by go_simp) (by go_simp)
      have cw2_0_1 : w2.cell? ⟨W.heap.size, 1, none⟩ = some (.int .i64 b) := cell_gr hw2 (by go_simp)
      have fw2_0_1 : w2.frozen? ⟨W.heap.size, 1, none⟩ = false := frozen_gr (v := .int .i64 b) hw2 (by go_simp) (by go_simp)
      have zw2_0 : W.heap.size < w2.heap.size := World.block_lt_of_cell? _ _ cw2_0_0
      have gw2 : Gr W w2 := Gr.trans (by have gg := gw1; have gs := gg.size; go_grown) hw2
      clear hw2 gw1 zw1_0 cw1_0_0 fw1_0_0 cw1_0_1 fw1_0_1
      go_wp2_with fail
      go_roundg j
      case measure => omega
      case rel => exact ⟨j, p1, p2, acc', Nat.le_refl _, by omega, by go_num, rfl, HZ.out.1, HZ.out.2.1, HZ.out.2.2, by go_simp, by go_simp, by go_simp, by go_simp, by have gg := gw2; have gs := gg.size; go_grown⟩
end Go.Proofs.YtldlpbfncgcimaaDoor
