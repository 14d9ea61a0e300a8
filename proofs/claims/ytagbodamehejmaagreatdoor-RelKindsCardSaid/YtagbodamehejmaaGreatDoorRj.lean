/- the walk of WideSquares; the walks of WideOver, WideOrder, WideSquares; ratio: what its functions answer; the document's own long division, bit by bit; the document's own long division: the walk; the document's own products: words; the document's own products; the document's own squares, and fractions over one; the document's own Lowest -/
import Derived.Test.YtagbodamehejmaaGreatDoorK
import Derived.Test.YtagbodamehejmaaGreatDoorH
namespace Go.Proofs.YtagbodamehejmaaGreatDoor
set_option linter.unusedVariables false
open Go.ChangeShapes Go.WideShapes Go.ChangeAt Go.RowKit

theorem c_Square (n : Int) (h : -9223372036854775808 ≤ n ∧ n ≤ 9223372036854775807) (w : World) :
    Calls Tryz.prog 54 #[.int .i64 n] w fun e w' => e = .returned (.agg #[.int .u64 (n.natAbs * n.natAbs / 18446744073709551616 : Nat), .int .u64 (n.natAbs * n.natAbs % 18446744073709551616 : Nat)]) ∧ Gr w w' := by
  obtain ⟨m, hm⟩ : ∃ m, m = n.natAbs := ⟨_, rfl⟩
  rw [← hm]
  have hmw : Wd m := by unfold Wd; omega
  have M := c_Mul m m hmw hmw
  obtain ⟨p, hp⟩ : ∃ p, p = m * m / 18446744073709551616 := ⟨_, rfl⟩
  obtain ⟨q, hq⟩ : ∃ q, q = m * m % 18446744073709551616 := ⟨_, rfl⟩
  rw [← hp, ← hq] at M
  rw [← hp, ← hq]
  have HM := Lib.hid M
  by_cases hn : n < 0
  · have e1 : IntKind.u64.wrap n = n + 18446744073709551616 := by rw [IntKind.wrap_u64]; omega
    have e2 : IntKind.u64.wrap (-(n + 18446744073709551616)) = (m : Int) := by rw [IntKind.wrap_u64]; omega
    have e3 : IntKind.u64.wrap (0 - (n + 18446744073709551616)) = (m : Int) := by rw [IntKind.wrap_u64]; omega
    have HH := Lib.hid h
    clear M hp hq hm h hmw
    go_enter Tryz.func54, Tryz.ntmps54
    go_wp2_with (go_at_call 76; (with_reducible refine (HM.out _).mono ?_); rintro e w' ⟨rfl, hg⟩; obtain ⟨hc, hf⟩ := bcell hg)
    have hgw : Gr w w' := Gr.trans (by go_grown) hg
    refine bodyPost_ret (v := .agg #[.int .u64 p, .int .u64 q]) (by simp [results, Tryz.results54, go_sem, hc]) rfl ⟨rfl, ?_⟩
    clear hc hf hg
    go_grown
  · have e1 : IntKind.u64.wrap n = (m : Int) := by rw [IntKind.wrap_u64]; omega
    clear M hp hq hm h hmw
    go_enter Tryz.func54, Tryz.ntmps54
    go_wp2_with (go_at_call 76; (with_reducible refine (HM.out _).mono ?_); rintro e w' ⟨rfl, hg⟩; obtain ⟨hc, hf⟩ := bcell hg)
    have hgw : Gr w w' := Gr.trans (by go_grown) hg
    refine bodyPost_ret (v := .agg #[.int .u64 p, .int .u64 q]) (by simp [results, Tryz.results54, go_sem, hc]) rfl ⟨rfl, ?_⟩
    clear hc hf hg
    go_grown

theorem sq_lt {x y : Nat} : x * x < y * y ↔ x < y := by
  constructor
  · intro h
    rcases Nat.lt_or_ge x y with g | g
    · exact g
    · exact absurd (Nat.mul_le_mul g g) (by omega)
  · intro h
    exact Nat.mul_lt_mul'' h h
end Go.Proofs.YtagbodamehejmaaGreatDoor
namespace Go.Proofs.YtagbodamehejmaaGreatDoor
set_option linter.unusedVariables false
open Go.ChangeShapes Go.WideShapes Go.ChangeAt Go.RowKit

theorem val_zero (n : Nat) : val 0 n = n := by unfold val; omega
/-- All digits turned. -/
theorem xor_all (b : Nat) (h : Wd b) : bits BinOp.xor IntKind.u64 IntKind.u64.max (b : Int) = ((18446744073709551615 - b : Nat) : Int) := by
  have e := bits_xor_u64_nat 18446744073709551615 b (by omega) h
  have hm : IntKind.u64.max = ((18446744073709551615 : Nat) : Int) := rfl
  rw [hm, e]
  congr 1
  have h1 : (BitVec.allOnes 64 ^^^ BitVec.ofNat 64 b).toNat = 18446744073709551615 ^^^ b := by
    rw [BitVec.toNat_xor, BitVec.toNat_ofNat, Nat.mod_eq_of_lt h]
    rfl
  have h2 : (~~~ (BitVec.ofNat 64 b)).toNat = 18446744073709551615 - b := by
    rw [BitVec.toNat_not, BitVec.toNat_ofNat, Nat.mod_eq_of_lt h]
  rw [← h1, ← h2, BitVec.not_def]

end Go.Proofs.YtagbodamehejmaaGreatDoor
namespace Go.Proofs.YtagbodamehejmaaGreatDoor
set_option linter.unusedVariables false
open Go.ChangeShapes Go.WideShapes Go.ChangeAt Go.RowKit

theorem c_divisor (a b : Nat) (ha : Wd a) (hb : Wd b) (w : World) :
    Calls Tryz.prog 79 #[.int .u64 a, .int .u64 b] w fun e w' => e = .returned (.int .u64 (Nat.gcd a b : Nat)) ∧ Gr w w' := by
  go_enter Tryz.func79, Tryz.ntmps79
  go_wp2_with fail
  go_loopg [0, 1] b (fun k v0 v1 wr => ∃ x y : Nat, Wd x ∧ Wd y ∧ y ≤ k ∧ v0 = .int .u64 x ∧ v1 = .int .u64 y ∧ Nat.gcd x y = Nat.gcd a b ∧ Gr w wr)
  case atStart => exact ⟨a, b, ha, hb, Nat.le_refl _, rfl, rfl, rfl, Gr.of_eq rfl⟩
  case round =>
    obtain ⟨x, y, hx, hy, hk, rfl, rfl, hgcd, hg⟩ := hrel
    by_cases h0 : y = 0
    · subst h0
      rw [Nat.gcd_zero_right] at hgcd
      have HG := Lib.hid hgcd
      clear hgcd
      go_wp2_with fail
      go_ret
      exact ⟨by rw [← HG.out]; rfl, hg⟩
    · have e : ((y : Int) == 0) = false := by simp; omega
      have e2 : ((y : Int) != 0) = true := by simp; omega
      have e3 : ¬ (y : Int) = 0 := by omega
      have hgc : Nat.gcd y (x % y) = Nat.gcd a b := by rw [← hgcd, Nat.gcd_comm, ← Nat.gcd_rec, Nat.gcd_comm]
      have hlt : x % y < y := Nat.mod_lt _ (by omega)
      obtain ⟨z, hz⟩ : ∃ z, z = x % y := ⟨_, rfl⟩
      rw [← hz] at hgc hlt
      have t1 : (x : Int).tmod (y : Int) = (z : Int) := by rw [hz]; rfl
      have t2 : IntKind.u64.wrap (z : Int) = (z : Int) := IntWalk.u64_in _ (by unfold Wd at hy; omega)
      have HG := Lib.hid hgc
      clear hgcd hgc hz
      go_wp2_with fail
      refine wp_region_spread (by kernel_rfl) (by kernel_rfl) ?_
      try simp only [List.append]
      repeat (first | go_big_quiet_skip | (go_big_quiet_want; go_big_quiet_op; (first | go_big_quiet_on | (apply Exists.intro; refine ⟨fun _ => ?_, ?_⟩; (· fail); go_big_quiet_on))))
      refine wpQuiet_nil ?_
      intro wr hr
      obtain ⟨mr, rfl⟩ := hr
      go_wp2_with fail
      go_roundg z
      case measure => omega
      case rel => exact ⟨y, z, hy, by unfold Wd at *; omega, Nat.le_refl _, rfl, rfl, HG.out, Gr.trans hg (gr_spread _ _)⟩
theorem c_over (h l d : Int) (w : World) : Calls Tryz.prog 53 #[.agg #[.int .u64 h, .int .u64 l], .int .u64 d] w fun e w' => e = .returned (.agg #[.int .u64 h, .int .u64 l, .int .u64 d]) ∧ Gr w w' := by
  go_enter Tryz.func53, Tryz.ntmps53
  go_wp2
  go_returns
  exact ⟨rfl, by go_grown⟩
theorem c_numerator (h l d : Int) (w : World) : Calls Tryz.prog 62 #[.agg #[.int .u64 h, .int .u64 l, .int .u64 d]] w fun e w' => e = .returned (.agg #[.int .u64 h, .int .u64 l]) ∧ Gr w w' := by
  go_enter Tryz.func62, Tryz.ntmps62
  go_wp2
  go_returns
  exact ⟨rfl, by go_grown⟩
theorem c_Sound (h l : Int) (d : Nat) (w : World) : Calls Tryz.prog 33 #[.agg #[.int .u64 h, .int .u64 l, .int .u64 d]] w fun e w' => e = .returned (.bool (decide (d ≠ 0))) ∧ Gr w w' := by
  by_cases hd : d = 0
  · subst hd
    go_enter Tryz.func33, Tryz.ntmps33
    go_wp2
    go_ret
    exact ⟨rfl, by go_grown⟩
  · have e : ((d : Int) == 0) = false := by simp; omega
    have e2 : ((d : Int) != 0) = true := by simp; omega
    rw [decide_eq_true hd]
    go_enter Tryz.func33, Tryz.ntmps33
    go_wp2
    go_ret
    exact ⟨by first | rfl | simp [e2], by go_grown⟩
/-- The two words of a number. -/
theorem val_split (n : Nat) (h : n < 340282366920938463463374607431768211456) : val (n / 18446744073709551616) (n % 18446744073709551616) = n ∧ Wd (n / 18446744073709551616) ∧ Wd (n % 18446744073709551616) := by
  unfold val Wd; omega
set_option maxHeartbeats 1000000 in
set_option maxRecDepth 100000 in
theorem make_core (h l d qh ql g qd q2h q2l r r2 : Nat) (W : World) (e1 : ((d : Int) == 0) = false) (e2 : ((d : Int) != 0) = true) (e3 : ¬ (d : Int) = 0) (g1 : ((g : Int) == 0) = false) (g3 : ¬ (g : Int) = 0)
    (t1 : (d : Int).tdiv (g : Int) = (qd : Int)) (t2 : IntKind.u64.wrap (qd : Int) = (qd : Int))
    (A1 : ∀ w, Calls Tryz.prog 78 #[.agg #[.int .u64 h, .int .u64 l], .int .u64 d] w fun e w' => e = .returned (.tuple #[.agg #[.int .u64 q2h, .int .u64 q2l], .int .u64 r]) ∧ Gr w w')
    (A2 : ∀ w, Calls Tryz.prog 79 #[.int .u64 d, .int .u64 r] w fun e w' => e = .returned (.int .u64 g) ∧ Gr w w')
    (A3 : ∀ w, Calls Tryz.prog 78 #[.agg #[.int .u64 h, .int .u64 l], .int .u64 g] w fun e w' => e = .returned (.tuple #[.agg #[.int .u64 qh, .int .u64 ql], .int .u64 r2]) ∧ Gr w w') :
    Calls Tryz.prog 59 #[.agg #[.int .u64 h, .int .u64 l], .int .u64 d] W fun e w' => e = .returned (.tuple #[.agg #[.int .u64 qh, .int .u64 ql, .int .u64 qd], .nilIface]) ∧ Gr W w' := by
  have H1 := Lib.hid A1
  have H2 := Lib.hid A2
  have H3 := Lib.hid A3
  clear A1 A2 A3
  go_enter Tryz.func59, Tryz.ntmps59
  go_wp2_with fail
  go_at_call 78
  refine ((H1.out _)).mono ?_
  rintro e w1 ⟨rfl, hw1⟩
  have cw1_0_0 : w1.cell? ⟨W.heap.size, 0, none⟩ = some (.int .u64 h) := cell_gr hw1 (by go_simp)
  have fw1_0_0 : w1.frozen? ⟨W.heap.size, 0, none⟩ = false := frozen_gr (v := .int .u64 h) hw1 (by go_simp) (by go_simp)
  have cw1_0_1 : w1.cell? ⟨W.heap.size, 1, none⟩ = some (.int .u64 l) := cell_gr hw1 (by go_simp)
  have fw1_0_1 : w1.frozen? ⟨W.heap.size, 1, none⟩ = false := frozen_gr (v := .int .u64 l) hw1 (by go_simp) (by go_simp)
  have zw1_0 : W.heap.size < w1.heap.size := World.block_lt_of_cell? _ _ cw1_0_0
  have cw1_1_0 : w1.cell? ⟨W.heap.size + 1, 0, none⟩ = some (.int .u64 0) := cell_gr hw1 (by go_simp)
  have fw1_1_0 : w1.frozen? ⟨W.heap.size + 1, 0, none⟩ = false := frozen_gr (v := .int .u64 0) hw1 (by go_simp) (by go_simp)
  have cw1_1_1 : w1.cell? ⟨W.heap.size + 1, 1, none⟩ = some (.int .u64 0) := cell_gr hw1 (by go_simp)
  have fw1_1_1 : w1.frozen? ⟨W.heap.size + 1, 1, none⟩ = false := frozen_gr (v := .int .u64 0) hw1 (by go_simp) (by go_simp)
  have cw1_1_2 : w1.cell? ⟨W.heap.size + 1, 2, none⟩ = some (.int .u64 0) := cell_gr hw1 (by go_simp)
  have fw1_1_2 : w1.frozen? ⟨W.heap.size + 1, 2, none⟩ = false := frozen_gr (v := .int .u64 0) hw1 (by go_simp) (by go_simp)
  have zw1_1 : W.heap.size + 1 < w1.heap.size := World.block_lt_of_cell? _ _ cw1_1_0
  have gw1 : Gr W w1 := Gr.trans (by go_grown) hw1
  clear hw1
  go_wp2_with fail
  go_at_call 79
  refine ((H2.out _)).mono ?_
  rintro e w2 ⟨rfl, hw2⟩
  have cw2_0_0 : w2.cell? ⟨W.heap.size, 0, none⟩ = some (.int .u64 h) := cell_gr hw2 (by go_simp)
  have fw2_0_0 : w2.frozen? ⟨W.heap.size, 0, none⟩ = false := frozen_gr (v := .int .u64 h) hw2 (by go_simp) (by go_simp)
  have cw2_0_1 : w2.cell? ⟨W.heap.size, 1, none⟩ = some (.int .u64 l) := cell_gr hw2 (by go_simp)
  have fw2_0_1 : w2.frozen? ⟨W.heap.size, 1, none⟩ = false := frozen_gr (v := .int .u64 l) hw2 (by go_simp) (by go_simp)
  have zw2_0 : W.heap.size < w2.heap.size := World.block_lt_of_cell? _ _ cw2_0_0
  have cw2_1_0 : w2.cell? ⟨W.heap.size + 1, 0, none⟩ = some (.int .u64 0) := cell_gr hw2 (by go_simp)
  have fw2_1_0 : w2.frozen? ⟨W.heap.size + 1, 0, none⟩ = false := frozen_gr (v := .int .u64 0) hw2 (by go_simp) (by go_simp)
  have cw2_1_1 : w2.cell? ⟨W.heap.size + 1, 1, none⟩ = some (.int .u64 0) := cell_gr hw2 (by go_simp)
  have fw2_1_1 : w2.frozen? ⟨W.heap.size + 1, 1, none⟩ = false := frozen_gr (v := .int .u64 0) hw2 (by go_simp) (by go_simp)
  have cw2_1_2 : w2.cell? ⟨W.heap.size + 1, 2, none⟩ = some (.int .u64 0) := cell_gr hw2 (by go_simp)
  have fw2_1_2 : w2.frozen? ⟨W.heap.size + 1, 2, none⟩ = false := frozen_gr (v := .int .u64 0) hw2 (by go_simp) (by go_simp)
  have zw2_1 : W.heap.size + 1 < w2.heap.size := World.block_lt_of_cell? _ _ cw2_1_0
  have gw2 : Gr W w2 := Gr.trans (by have gg := gw1; have gs := gg.size; go_grown) hw2
  clear hw2 gw1 zw1_0 cw1_0_0 fw1_0_0 cw1_0_1 fw1_0_1 zw1_1 cw1_1_0 fw1_1_0 cw1_1_1 fw1_1_1 cw1_1_2 fw1_1_2
  go_wp2_with fail
  go_at_call 78
  refine ((H3.out _)).mono ?_
  rintro e w3 ⟨rfl, hw3⟩
  have cw3_0_0 : w3.cell? ⟨W.heap.size, 0, none⟩ = some (.int .u64 h) := cell_gr hw3 (by go_simp)
  have fw3_0_0 : w3.frozen? ⟨W.heap.size, 0, none⟩ = false := frozen_gr (v := .int .u64 h) hw3 (by go_simp) (by go_simp)
  have cw3_0_1 : w3.cell? ⟨W.heap.size, 1, none⟩ = some (.int .u64 l) := cell_gr hw3 (by go_simp)
  have fw3_0_1 : w3.frozen? ⟨W.heap.size, 1, none⟩ = false := frozen_gr (v := .int .u64 l) hw3 (by go_simp) (by go_simp)
  have zw3_0 : W.heap.size < w3.heap.size := World.block_lt_of_cell? _ _ cw3_0_0
  have cw3_1_0 : w3.cell? ⟨W.heap.size + 1, 0, none⟩ = some (.int .u64 0) := cell_gr hw3 (by go_simp)
  have fw3_1_0 : w3.frozen? ⟨W.heap.size + 1, 0, none⟩ = false := frozen_gr (v := .int .u64 0) hw3 (by go_simp) (by go_simp)
  have cw3_1_1 : w3.cell? ⟨W.heap.size + 1, 1, none⟩ = some (.int .u64 0) := cell_gr hw3 (by go_simp)
  have fw3_1_1 : w3.frozen? ⟨W.heap.size + 1, 1, none⟩ = false := frozen_gr (v := .int .u64 0) hw3 (by go_simp) (by go_simp)
  have cw3_1_2 : w3.cell? ⟨W.heap.size + 1, 2, none⟩ = some (.int .u64 0) := cell_gr hw3 (by go_simp)
  have fw3_1_2 : w3.frozen? ⟨W.heap.size + 1, 2, none⟩ = false := frozen_gr (v := .int .u64 0) hw3 (by go_simp) (by go_simp)
  have zw3_1 : W.heap.size + 1 < w3.heap.size := World.block_lt_of_cell? _ _ cw3_1_0
  have gw3 : Gr W w3 := Gr.trans (by have gg := gw2; have gs := gg.size; go_grown) hw3
  clear hw3 gw2 zw2_0 cw2_0_0 fw2_0_0 cw2_0_1 fw2_0_1 zw2_1 cw2_1_0 fw2_1_0 cw2_1_1 fw2_1_1 cw2_1_2 fw2_1_2
  go_wp2_with fail
  generalize hhw4 : ((w3.setCell ⟨W.heap.size, 0, none⟩ (.int .u64 qh)).setCell ⟨W.heap.size, 1, none⟩ (.int .u64 ql)) = w4
  have cw4_0_0 : w4.cell? ⟨W.heap.size + 1, 0, none⟩ = some (.int .u64 0) := by subst hhw4; go_simp
  have fw4_0_0 : w4.frozen? ⟨W.heap.size + 1, 0, none⟩ = false := by subst hhw4; go_simp
  have cw4_0_1 : w4.cell? ⟨W.heap.size + 1, 1, none⟩ = some (.int .u64 0) := by subst hhw4; go_simp
  have fw4_0_1 : w4.frozen? ⟨W.heap.size + 1, 1, none⟩ = false := by subst hhw4; go_simp
  have cw4_0_2 : w4.cell? ⟨W.heap.size + 1, 2, none⟩ = some (.int .u64 0) := by subst hhw4; go_simp
  have fw4_0_2 : w4.frozen? ⟨W.heap.size + 1, 2, none⟩ = false := by subst hhw4; go_simp
  have zw4_0 : W.heap.size + 1 < w4.heap.size := World.block_lt_of_cell? _ _ cw4_0_0
  have cw4_1_0 : w4.cell? ⟨W.heap.size, 0, none⟩ = some (.int .u64 qh) := by subst hhw4; go_simp
  have fw4_1_0 : w4.frozen? ⟨W.heap.size, 0, none⟩ = false := by subst hhw4; go_simp
  have cw4_1_1 : w4.cell? ⟨W.heap.size, 1, none⟩ = some (.int .u64 ql) := by subst hhw4; go_simp
  have fw4_1_1 : w4.frozen? ⟨W.heap.size, 1, none⟩ = false := by subst hhw4; go_simp
  have zw4_1 : W.heap.size < w4.heap.size := World.block_lt_of_cell? _ _ cw4_1_0
  have gw4 : Gr W w4 := by subst hhw4; have gg := gw3; have gs := gg.size; go_grown
  clear hhw4 gw3 zw3_0 cw3_0_0 fw3_0_0 cw3_0_1 fw3_0_1 zw3_1 cw3_1_0 fw3_1_0 cw3_1_1 fw3_1_1 cw3_1_2 fw3_1_2
  go_wp2_with fail
  refine Hd.wp_region_tail 5 (by kernel_rfl) (by kernel_rfl) ?_
  intro KQ hKQ
  repeat (first | (refine Hd.wpG_skip (by decide) rfl ?_; simp only [Act.put, List.setIfInBounds_toArray, List.set_cons_zero, List.set_cons_succ]) | (refine Hd.wpG_want (by decide) rfl ?_; apply Exists.intro; refine ⟨?_, ?_⟩; (· intro wx gx; (obtain ⟨mx, rfl⟩ := gx); all_goals (apply Hd.gAt_of_quiet; intro K hK; go_big_quiet_op; first | exact hK _ rfl | (apply Exists.intro; refine ⟨fun _ => ?_, ?_⟩; (· (first | (go_at_call 53; first | ((with_reducible refine ((c_over _ _ _ _)).mono ?_); rintro e w' ⟨rfl, hg⟩; exact ⟨rfl, spread_gr hg⟩)))); exact hK _ rfl))); try simp only [Act.put, List.setIfInBounds_toArray, List.set_cons_zero, List.set_cons_succ]))
  refine Hd.wpG_nil (hKQ _ ?_)
  clear hKQ KQ
  intro w5 hhw5
  have hw5 := Hd.gr_of_spread hhw5
  have cw5_0_0 : w5.cell? ⟨W.heap.size + 1, 0, none⟩ = some (.int .u64 0) := cell_gr hw5 (by go_simp)
  have fw5_0_0 : w5.frozen? ⟨W.heap.size + 1, 0, none⟩ = false := frozen_gr (v := .int .u64 0) hw5 (by go_simp) (by go_simp)
  have cw5_0_1 : w5.cell? ⟨W.heap.size + 1, 1, none⟩ = some (.int .u64 0) := cell_gr hw5 (by go_simp)
  have fw5_0_1 : w5.frozen? ⟨W.heap.size + 1, 1, none⟩ = false := frozen_gr (v := .int .u64 0) hw5 (by go_simp) (by go_simp)
  have cw5_0_2 : w5.cell? ⟨W.heap.size + 1, 2, none⟩ = some (.int .u64 0) := cell_gr hw5 (by go_simp)
  have fw5_0_2 : w5.frozen? ⟨W.heap.size + 1, 2, none⟩ = false := frozen_gr (v := .int .u64 0) hw5 (by go_simp) (by go_simp)
  have zw5_0 : W.heap.size + 1 < w5.heap.size := World.block_lt_of_cell? _ _ cw5_0_0
  have cw5_1_0 : w5.cell? ⟨W.heap.size, 0, none⟩ = some (.int .u64 qh) := cell_gr hw5 (by go_simp)
  have fw5_1_0 : w5.frozen? ⟨W.heap.size, 0, none⟩ = false := frozen_gr (v := .int .u64 qh) hw5 (by go_simp) (by go_simp)
  have cw5_1_1 : w5.cell? ⟨W.heap.size, 1, none⟩ = some (.int .u64 ql) := cell_gr hw5 (by go_simp)
  have fw5_1_1 : w5.frozen? ⟨W.heap.size, 1, none⟩ = false := frozen_gr (v := .int .u64 ql) hw5 (by go_simp) (by go_simp)
  have zw5_1 : W.heap.size < w5.heap.size := World.block_lt_of_cell? _ _ cw5_1_0
  have gw5 : Gr W w5 := Gr.trans (by have gg := gw4; have gs := gg.size; go_grown) hw5
  clear hw5 hhw5 gw4 zw4_0 cw4_0_0 fw4_0_0 cw4_0_1 fw4_0_1 cw4_0_2 fw4_0_2 zw4_1 cw4_1_0 fw4_1_0 cw4_1_1 fw4_1_1
  go_wp2_with fail
  refine bodyPost_ret (v := .tuple #[.agg #[.int .u64 qh, .int .u64 ql, .int .u64 qd], .nilIface]) (by simp [results, Tryz.results59, go_sem, *]) rfl ⟨rfl, by go_grown⟩

/-- The denominator that is left. -/
def lowD (n d : Nat) : Nat := d / Nat.gcd d (n % d)
/-- The numerator that is left. -/
def lowN (n d : Nat) : Nat := n / Nat.gcd d (n % d)
theorem c_Make (h l d : Nat) (h1 : Wd h) (h2 : Wd l) (h3 : Wd d) (hd : d ≠ 0) (w : World) :
    Calls Tryz.prog 59 #[.agg #[.int .u64 h, .int .u64 l], .int .u64 d] w fun e w' => e = .returned (.tuple #[.agg #[.int .u64 ((lowN (val h l) d / 18446744073709551616 : Nat) : Int), .int .u64 ((lowN (val h l) d % 18446744073709551616 : Nat) : Int), .int .u64 ((lowD (val h l) d : Nat) : Int)], .nilIface]) ∧ Gr w w' := by
  have hr : val h l % d < d := Nat.mod_lt _ (by omega)
  have hrw : Wd (val h l % d) := by unfold Wd at *; omega
  have A1 := c_Divide h l d (by omega) h1 h2 h3
  have A2 := c_divisor d (val h l % d) h3 hrw
  have hgl : Nat.gcd d (val h l % d) ≤ d := Nat.le_of_dvd (by omega) (Nat.gcd_dvd_left _ _)
  have hgp : 0 < Nat.gcd d (val h l % d) := Nat.gcd_pos_of_pos_left _ (by omega)
  unfold lowN lowD
  generalize Nat.gcd d (val h l % d) = g at *
  have A3 := c_Divide h l g hgp h1 h2 (by unfold Wd at *; omega)
  have hq : d / g ≤ d := Nat.div_le_self _ _
  exact make_core h l d _ _ g (d / g) _ _ _ _ w (by simp; omega) (by simp; omega) (by omega) (by simp; omega) (by omega) rfl (IntWalk.u64_in _ ⟨Int.natCast_nonneg _, by unfold Wd at *; omega⟩) A1 A2 A3
end Go.Proofs.YtagbodamehejmaaGreatDoor
namespace Go.Proofs.YtagbodamehejmaaGreatDoor
set_option linter.unusedVariables false
open Go.ChangeShapes Go.WideShapes Go.ChangeAt Go.RowKit

/-- What holds at the head of Div's loop: k bits are to come. -/
def DivRel (R : Nat) (h l d : Nat) (W : World) (k : Nat) (rv iv : Value) (wr : World) : Prop :=
  ∃ (qh ql r : Nat), k ≤ 128 ∧ Wd qh ∧ Wd ql ∧ r < d ∧ rv = .int .u64 r ∧ iv = .int .i64 ((k : Int) - 1) ∧ val qh ql = val h l / 2 ^ k / d * 2 ^ k ∧ r = val h l / 2 ^ k % d ∧
    wr.cell? ⟨R, 0, none⟩ = some (.int .u64 h) ∧ wr.cell? ⟨R, 1, none⟩ = some (.int .u64 l) ∧ wr.cell? ⟨R + 1, 0, none⟩ = some (.int .u64 0) ∧ wr.cell? ⟨R + 1, 1, none⟩ = some (.int .u64 0) ∧ wr.frozen? ⟨R + 1, 0, none⟩ = false ∧ wr.frozen? ⟨R + 1, 1, none⟩ = false ∧
    wr.cell? ⟨R + 1 + 1, 0, none⟩ = some (.int .u64 qh) ∧ wr.cell? ⟨R + 1 + 1, 1, none⟩ = some (.int .u64 ql) ∧ wr.frozen? ⟨R + 1 + 1, 0, none⟩ = false ∧ wr.frozen? ⟨R + 1 + 1, 1, none⟩ = false ∧ Gr W wr
theorem and_one (x : Nat) (h : Wd x) : bits BinOp.and IntKind.u64 (x : Int) 1 = ((x % 2 : Nat) : Int) := by
  have e := bits_and_u64_nat x 1 h (by omega)
  rw [Nat.and_one_is_mod] at e
  exact e
theorem or_bit (m b : Nat) (h : Wd m) (hb : b < 2) (hm : m % 2 = 0) : bits BinOp.or IntKind.u64 (m : Int) (b : Int) = ((m + b : Nat) : Int) := by
  have e := bits_or_u64_nat m b h (by omega)
  have e2 := Nat.two_pow_add_eq_or_of_lt (i := 1) (b := b) (by omega) (m / 2)
  rw [show 2 ^ 1 * (m / 2) = m by omega] at e2
  rw [← e2] at e
  exact e
/-- One bit more. -/
theorem div_step {T d B : Nat} (hd : 1 ≤ d) (hB : B < 2) : (2 * T + B) / d = 2 * (T / d) + (if d ≤ 2 * (T % d) + B then 1 else 0) ∧ (2 * T + B) % d = 2 * (T % d) + B - (if d ≤ 2 * (T % d) + B then d else 0) := by
  have h1 := Nat.div_add_mod T d
  have h2 := Nat.mod_lt T (show 0 < d by omega)
  generalize T / d = Q at *
  generalize T % d = r at *
  have e : 2 * T + B = d * (2 * Q) + (2 * r + B) := by
    rw [← h1, Nat.mul_left_comm d 2 Q]; omega
  rw [e, Nat.mul_add_div (by omega), Nat.mul_add_mod]
  split
  · rename_i h
    have a : (2 * r + B) / d = 1 := by
      rw [Nat.div_eq_iff (by omega)]; omega
    have b : (2 * r + B) % d = 2 * r + B - d := by
      rw [Nat.mod_eq_sub_mod h, Nat.mod_eq_of_lt (by omega)]
    rw [a, b]; omega
  · rename_i h
    rw [Nat.div_eq_of_lt (by omega), Nat.mod_eq_of_lt (by omega)]; omega
theorem two_steps (N k : Nat) : N / 2 ^ k = 2 * (N / 2 ^ (k + 1)) + N / 2 ^ k % 2 := by
  rw [Nat.pow_succ, ← Nat.div_div_eq_div_mul]
  omega
theorem bit_high (h l j : Nat) (hl : Wd l) : val h l / 2 ^ (j + 64) = h / 2 ^ j := by
  rw [Nat.add_comm, Nat.pow_add, ← Nat.div_div_eq_div_mul]
  congr 1
  unfold val Wd at *
  omega
theorem bit_low (h l i : Nat) (hi : i < 64) : val h l / 2 ^ i % 2 = l / 2 ^ i % 2 := by
  obtain ⟨s, hs⟩ : ∃ s, 64 = i + 1 + s := ⟨63 - i, by omega⟩
  have e : val h l = 2 ^ i * (2 * (h * 2 ^ s)) + l := by
    unfold val
    rw [show (18446744073709551616 : Nat) = 2 ^ 64 from rfl, hs, Nat.pow_add, Nat.pow_succ]
    grind
  rw [e, Nat.mul_add_div (Nat.two_pow_pos i)]
  omega
theorem or_pow (a j s : Nat) (e : a = s * 2 ^ (j + 1)) : a ||| 2 ^ j = a + 2 ^ j := by
  have h := Nat.two_pow_add_eq_or_of_lt (i := j + 1) (b := 2 ^ j) (Nat.pow_lt_pow_right (by omega) (by omega)) s
  rw [Nat.mul_comm] at h
  rw [e, ← h]
/-- The quotient's words, where j + 65 bits are to come. -/
theorem quo_high {qh ql Q j : Nat} (hql : Wd ql) (e : val qh ql = Q * 2 ^ (j + 64 + 1)) : ql = 0 ∧ qh = Q * 2 ^ (j + 1) := by
  have e2 : Q * 2 ^ (j + 64 + 1) = Q * 2 ^ (j + 1) * 18446744073709551616 := by
    rw [show (18446744073709551616 : Nat) = 2 ^ 64 from rfl, Nat.mul_assoc, ← Nat.pow_add]
  rw [e2] at e
  generalize Q * 2 ^ (j + 1) = z at *
  unfold val Wd at *
  omega
theorem quo_low {qh ql Q i : Nat} (hi : i < 64) (e : val qh ql = Q * 2 ^ (i + 1)) : ∃ s, ql = s * 2 ^ (i + 1) := by
  obtain ⟨s, hs⟩ : ∃ s, 64 = i + 1 + s := ⟨63 - i, by omega⟩
  have d1 : 2 ^ (i + 1) ∣ val qh ql := ⟨Q, by rw [e, Nat.mul_comm]⟩
  have d2 : 2 ^ (i + 1) ∣ qh * 18446744073709551616 := by
    rw [show (18446744073709551616 : Nat) = 2 ^ 64 from rfl, hs, Nat.pow_add (2) (i + 1) s]
    exact ⟨qh * 2 ^ s, by grind⟩
  obtain ⟨c, hc⟩ := (Nat.dvd_add_right d2).1 (show 2 ^ (i + 1) ∣ qh * 18446744073709551616 + ql from d1)
  exact ⟨c, by rw [hc, Nat.mul_comm]⟩
theorem or_u64 (a p : Nat) (ha : Wd a) (hp : Wd p) (h : a ||| p = a + p) : bits BinOp.or IntKind.u64 (a : Int) (p : Int) = ((a + p : Nat) : Int) := by
  have e := bits_or_u64_nat a p ha hp
  rw [h] at e
  exact e
end Go.Proofs.YtagbodamehejmaaGreatDoor
namespace Go.Proofs.YtagbodamehejmaaGreatDoor
set_option linter.unusedVariables false
open Go.ChangeShapes Go.WideShapes Go.ChangeAt Go.RowKit

end Go.Proofs.YtagbodamehejmaaGreatDoor
namespace Go.Proofs.YtagbodamehejmaaGreatDoor
set_option linter.unusedVariables false
open Go.ChangeShapes Go.WideShapes Go.ChangeAt Go.RowKit

theorem mask32 (v : Nat) (h : Wd v) : bits BinOp.and IntKind.u64 (v : Int) 4294967295 = ((v % 4294967296 : Nat) : Int) := by
  have e := bits_and_u64_nat v 4294967295 h (by omega)
  rw [show (4294967295 : Nat) = 2 ^ 32 - 1 from rfl, Nat.and_two_pow_sub_one_eq_mod] at e
  exact e
/-- A word of 32 bits. -/
def Hw (a : Nat) : Prop := a < 4294967296
theorem hw_mul {a b : Nat} (ha : Hw a) (hb : Hw b) : a * b ≤ 4294967295 * 4294967295 := Nat.mul_le_mul (by unfold Hw at ha; omega) (by unfold Hw at hb; omega)
end Go.Proofs.YtagbodamehejmaaGreatDoor
namespace Go.Proofs.YtagbodamehejmaaGreatDoor
set_option linter.unusedVariables false
open Go.ChangeShapes Go.WideShapes Go.ChangeAt Go.RowKit

theorem or_words (x y : Nat) (hx : Hw x) (hy : Hw y) : bits BinOp.or IntKind.u64 (x : Int) ((y * 4294967296 : Nat) : Int) = ((x + y * 4294967296 : Nat) : Int) := by
  refine or_u64 x (y * 4294967296) (by unfold Hw at hx; unfold Wd; omega) (by unfold Hw at hy; unfold Wd; omega) ?_
  have h := Nat.two_pow_add_eq_or_of_lt (i := 32) (b := x) (by unfold Hw at hx; omega) y
  rw [show 2 ^ 32 * y = y * 4294967296 by omega] at h
  rw [Nat.or_comm, ← h, Nat.add_comm]
end Go.Proofs.YtagbodamehejmaaGreatDoor
namespace Go.Proofs.YtagbodamehejmaaGreatDoor
set_option linter.unusedVariables false
open Go.ChangeShapes Go.WideShapes Go.ChangeAt Go.RowKit

end Go.Proofs.YtagbodamehejmaaGreatDoor
namespace Go.Proofs.YtagbodamehejmaaGreatDoor
set_option linter.unusedVariables false
open Go.ChangeShapes Go.WideShapes Go.ChangeAt Go.RowKit

end Go.Proofs.YtagbodamehejmaaGreatDoor
