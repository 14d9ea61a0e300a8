/- What RelMatches leans on: Rj Za Cp Ri Pq Zc -/
import Derived.Test.YtfobmlgpjhghdaaGreatDoorCRelMatches0
import Derived.Deep.Slices
import Derived.Stop.Asserts
import Derived.LaidEql
import Derived.RowKitTokens
import Derived.Deep.LoopGhost
namespace Go.Proofs.YtfobmlgpjhghdaaGreatDoor
set_option linter.unusedVariables false
open Go.ChangeShapes Go.WideShapes Go.ChangeAt Go.RowKit
theorem c_Abs (n : Int) (h : -9223372036854775808 ≤ n ∧ n ≤ 9223372036854775807) (w : World) :
    Calls Tryz.prog 123 #[.int .i64 n] w fun e w' => e = .returned (.int .u64 (n.natAbs : Int)) ∧ w' = w := by
  by_cases hn : n < 0
  · have e : (n.natAbs : Int) = -n := by omega
    rw [e]
    have e1 : IntKind.u64.wrap (-(n + 1)) = -(n + 1) := IntWalk.u64_in _ (by omega)
    have e2 : IntKind.u64.wrap (-(n + 1) + 1) = -n := by rw [show -(n + 1) + 1 = -n by omega]; exact IntWalk.u64_in _ (by omega)
    go_enter Tryz.func123, Tryz.ntmps123
    go_wp2
    go_ret
    exact ⟨rfl, rfl⟩
  · have e : (n.natAbs : Int) = n := by omega
    rw [e]
    have e1 : IntKind.u64.wrap n = n := IntWalk.u64_in _ (by omega)
    go_enter Tryz.func123, Tryz.ntmps123
    go_wp2
    go_ret
    exact ⟨rfl, rfl⟩
theorem c_Square (n : Int) (h : -9223372036854775808 ≤ n ∧ n ≤ 9223372036854775807) (w : World) :
    Calls Tryz.prog 113 #[.int .i64 n] w fun e w' => e = .returned (.agg #[.int .u64 (n.natAbs * n.natAbs / 18446744073709551616 : Nat), .int .u64 (n.natAbs * n.natAbs % 18446744073709551616 : Nat)]) ∧ Gr w w' := by
  obtain ⟨m, hm⟩ : ∃ m, m = n.natAbs := ⟨_, rfl⟩
  rw [← hm]
  have hmw : Wd m := by unfold Wd; omega
  have M := c_Mul m m hmw hmw
  obtain ⟨p, hp⟩ : ∃ p, p = m * m / 18446744073709551616 := ⟨_, rfl⟩
  obtain ⟨q, hq⟩ : ∃ q, q = m * m % 18446744073709551616 := ⟨_, rfl⟩
  rw [← hp, ← hq] at M
  rw [← hp, ← hq]
  have HM := Lib.hid M
  by_cases hn : n < 0
  · have e1 : IntKind.u64.wrap n = n + 18446744073709551616 := by rw [IntKind.wrap_u64]; omega
    have e2 : IntKind.u64.wrap (-(n + 18446744073709551616)) = (m : Int) := by rw [IntKind.wrap_u64]; omega
    have e3 : IntKind.u64.wrap (0 - (n + 18446744073709551616)) = (m : Int) := by rw [IntKind.wrap_u64]; omega
    have HH := Lib.hid h
    clear M hp hq hm h hmw
    go_enter Tryz.func113, Tryz.ntmps113
    go_wp2_with (go_at_call 136; (with_reducible refine (HM.out _).mono ?_); rintro e w' ⟨rfl, hg⟩; obtain ⟨hc, hf⟩ := bcell hg)
    have hgw : Gr w w' := Gr.trans (by go_grown) hg
    refine bodyPost_ret (v := .agg #[.int .u64 p, .int .u64 q]) (by simp [results, Tryz.results113, go_sem, hc]) rfl ⟨rfl, ?_⟩
    clear hc hf hg
    go_grown
  · have e1 : IntKind.u64.wrap n = (m : Int) := by rw [IntKind.wrap_u64]; omega
    clear M hp hq hm h hmw
    go_enter Tryz.func113, Tryz.ntmps113
    go_wp2_with (go_at_call 136; (with_reducible refine (HM.out _).mono ?_); rintro e w' ⟨rfl, hg⟩; obtain ⟨hc, hf⟩ := bcell hg)
    have hgw : Gr w w' := Gr.trans (by go_grown) hg
    refine bodyPost_ret (v := .agg #[.int .u64 p, .int .u64 q]) (by simp [results, Tryz.results113, go_sem, hc]) rfl ⟨rfl, ?_⟩
    clear hc hf hg
    go_grown
end Go.Proofs.YtfobmlgpjhghdaaGreatDoor
namespace Go.Proofs.YtfobmlgpjhghdaaGreatDoor
set_option linter.unusedVariables false
open Go.ChangeShapes Go.WideShapes Go.ChangeAt Go.RowKit
theorem c_divisor (a b : Nat) (ha : Wd a) (hb : Wd b) (w : World) :
    Calls Tryz.prog 139 #[.int .u64 a, .int .u64 b] w fun e w' => e = .returned (.int .u64 (Nat.gcd a b : Nat)) ∧ Gr w w' := by
  go_enter Tryz.func139, Tryz.ntmps139
  go_wp2_with fail
  go_loopg [0, 1] b (fun k v0 v1 wr => ∃ x y : Nat, Wd x ∧ Wd y ∧ y ≤ k ∧ v0 = .int .u64 x ∧ v1 = .int .u64 y ∧ Nat.gcd x y = Nat.gcd a b ∧ Gr w wr)
  case atStart => exact ⟨a, b, ha, hb, Nat.le_refl _, rfl, rfl, rfl, Gr.of_eq rfl⟩
  case round =>
    obtain ⟨x, y, hx, hy, hk, rfl, rfl, hgcd, hg⟩ := hrel
    by_cases h0 : y = 0
    · subst h0
      rw [Nat.gcd_zero_right] at hgcd
      have HG := Lib.hid hgcd
      clear hgcd
      go_wp2_with fail
      go_ret
      exact ⟨by rw [← HG.out]; rfl, hg⟩
    · have e : ((y : Int) == 0) = false := by simp; omega
      have e2 : ((y : Int) != 0) = true := by simp; omega
      have e3 : ¬ (y : Int) = 0 := by omega
      have hgc : Nat.gcd y (x % y) = Nat.gcd a b := by rw [← hgcd, Nat.gcd_comm, ← Nat.gcd_rec, Nat.gcd_comm]
      have hlt : x % y < y := Nat.mod_lt _ (by omega)
      obtain ⟨z, hz⟩ : ∃ z, z = x % y := ⟨_, rfl⟩
      rw [← hz] at hgc hlt
      have t1 : (x : Int).tmod (y : Int) = (z : Int) := by rw [hz]; rfl
      have t2 : IntKind.u64.wrap (z : Int) = (z : Int) := IntWalk.u64_in _ (by unfold Wd at hy; omega)
      have HG := Lib.hid hgc
      clear hgcd hgc hz
      go_wp2_with fail
      refine wp_region_spread (by kernel_rfl) (by kernel_rfl) ?_
      try simp only [List.append]
      repeat (first | go_big_quiet_skip | (go_big_quiet_want; go_big_quiet_op; (first | go_big_quiet_on | (apply Exists.intro; refine ⟨fun _ => ?_, ?_⟩; (· fail); go_big_quiet_on))))
      refine wpQuiet_nil ?_
      intro wr hr
      obtain ⟨mr, rfl⟩ := hr
      go_wp2_with fail
      go_roundg z
      case measure => omega
      case rel => exact ⟨y, z, hy, by unfold Wd at *; omega, Nat.le_refl _, rfl, rfl, HG.out, Gr.trans hg (gr_spread _ _)⟩
theorem c_over (h l d : Int) (w : World) : Calls Tryz.prog 112 #[.agg #[.int .u64 h, .int .u64 l], .int .u64 d] w fun e w' => e = .returned (.agg #[.int .u64 h, .int .u64 l, .int .u64 d]) ∧ Gr w w' := by
  go_enter Tryz.func112, Tryz.ntmps112
  go_wp2
  go_returns
  exact ⟨rfl, by go_grown⟩
theorem c_numerator (h l d : Int) (w : World) : Calls Tryz.prog 121 #[.agg #[.int .u64 h, .int .u64 l, .int .u64 d]] w fun e w' => e = .returned (.agg #[.int .u64 h, .int .u64 l]) ∧ Gr w w' := by
  go_enter Tryz.func121, Tryz.ntmps121
  go_wp2
  go_returns
  exact ⟨rfl, by go_grown⟩
theorem c_Sound (h l : Int) (d : Nat) (w : World) : Calls Tryz.prog 78 #[.agg #[.int .u64 h, .int .u64 l, .int .u64 d]] w fun e w' => e = .returned (.bool (decide (d ≠ 0))) ∧ Gr w w' := by
  by_cases hd : d = 0
  · subst hd
    go_enter Tryz.func78, Tryz.ntmps78
    go_wp2
    go_ret
    exact ⟨rfl, by go_grown⟩
  · have e : ((d : Int) == 0) = false := by simp; omega
    have e2 : ((d : Int) != 0) = true := by simp; omega
    rw [decide_eq_true hd]
    go_enter Tryz.func78, Tryz.ntmps78
    go_wp2
    go_ret
    exact ⟨by first | rfl | simp [e2], by go_grown⟩
theorem val_split (n : Nat) (h : n < 340282366920938463463374607431768211456) : val (n / 18446744073709551616) (n % 18446744073709551616) = n ∧ Wd (n / 18446744073709551616) ∧ Wd (n % 18446744073709551616) := by
  unfold val Wd; omega
set_option maxHeartbeats 1000000 in
set_option maxRecDepth 100000 in
theorem make_core (h l d qh ql g qd q2h q2l r r2 : Nat) (W : World) (e1 : ((d : Int) == 0) = false) (e2 : ((d : Int) != 0) = true) (e3 : ¬ (d : Int) = 0) (g1 : ((g : Int) == 0) = false) (g3 : ¬ (g : Int) = 0)
    (t1 : (d : Int).tdiv (g : Int) = (qd : Int)) (t2 : IntKind.u64.wrap (qd : Int) = (qd : Int))
    (A1 : ∀ w, Calls Tryz.prog 138 #[.agg #[.int .u64 h, .int .u64 l], .int .u64 d] w fun e w' => e = .returned (.tuple #[.agg #[.int .u64 q2h, .int .u64 q2l], .int .u64 r]) ∧ Gr w w')
    (A2 : ∀ w, Calls Tryz.prog 139 #[.int .u64 d, .int .u64 r] w fun e w' => e = .returned (.int .u64 g) ∧ Gr w w')
    (A3 : ∀ w, Calls Tryz.prog 138 #[.agg #[.int .u64 h, .int .u64 l], .int .u64 g] w fun e w' => e = .returned (.tuple #[.agg #[.int .u64 qh, .int .u64 ql], .int .u64 r2]) ∧ Gr w w') :
    Calls Tryz.prog 118 #[.agg #[.int .u64 h, .int .u64 l], .int .u64 d] W fun e w' => e = .returned (.tuple #[.agg #[.int .u64 qh, .int .u64 ql, .int .u64 qd], .nilIface]) ∧ Gr W w' := by
  have H1 := Lib.hid A1
  have H2 := Lib.hid A2
  have H3 := Lib.hid A3
  clear A1 A2 A3
  go_enter Tryz.func118, Tryz.ntmps118
  go_wp2_with fail
  go_at_call 138
  refine ((H1.out _)).mono ?_
  rintro e w1 ⟨rfl, hw1⟩
  have cw1_0_0 := cu hw1 (W.heap.size) 0 h (by go_simp)
  have fw1_0_0 := fq hw1 (W.heap.size) 0 (.int .u64 h) (by go_simp) (by go_simp)
  have cw1_0_1 := cu hw1 (W.heap.size) 1 l (by go_simp)
  have fw1_0_1 := fq hw1 (W.heap.size) 1 (.int .u64 l) (by go_simp) (by go_simp)
  have zw1_0 := zb cw1_0_0
  have cw1_1_0 := cu hw1 (W.heap.size + 1) 0 0 (by go_simp)
  have fw1_1_0 := fq hw1 (W.heap.size + 1) 0 (.int .u64 0) (by go_simp) (by go_simp)
  have cw1_1_1 := cu hw1 (W.heap.size + 1) 1 0 (by go_simp)
  have fw1_1_1 := fq hw1 (W.heap.size + 1) 1 (.int .u64 0) (by go_simp) (by go_simp)
  have cw1_1_2 := cu hw1 (W.heap.size + 1) 2 0 (by go_simp)
  have fw1_1_2 := fq hw1 (W.heap.size + 1) 2 (.int .u64 0) (by go_simp) (by go_simp)
  have zw1_1 := zb cw1_1_0
  have gw1 : Gr W w1 := Gr.trans (by go_grown) hw1
  clear hw1
  go_wp2_with fail
  go_at_call 139
  refine ((H2.out _)).mono ?_
  rintro e w2 ⟨rfl, hw2⟩
  have cw2_0_0 := cu hw2 (W.heap.size) 0 h (by go_simp)
  have fw2_0_0 := fq hw2 (W.heap.size) 0 (.int .u64 h) (by go_simp) (by go_simp)
  have cw2_0_1 := cu hw2 (W.heap.size) 1 l (by go_simp)
  have fw2_0_1 := fq hw2 (W.heap.size) 1 (.int .u64 l) (by go_simp) (by go_simp)
  have cw2_1_0 := cu hw2 (W.heap.size + 1) 0 0 (by go_simp)
  have fw2_1_0 := fq hw2 (W.heap.size + 1) 0 (.int .u64 0) (by go_simp) (by go_simp)
  have cw2_1_1 := cu hw2 (W.heap.size + 1) 1 0 (by go_simp)
  have fw2_1_1 := fq hw2 (W.heap.size + 1) 1 (.int .u64 0) (by go_simp) (by go_simp)
  have cw2_1_2 := cu hw2 (W.heap.size + 1) 2 0 (by go_simp)
  have fw2_1_2 := fq hw2 (W.heap.size + 1) 2 (.int .u64 0) (by go_simp) (by go_simp)
  have gw2 : Gr W w2 := Gr.trans (by have gg := gw1; have gs := gg.size; go_grown) hw2
  clear hw2 gw1 zw1_0 cw1_0_0 fw1_0_0 cw1_0_1 fw1_0_1 zw1_1 cw1_1_0 fw1_1_0 cw1_1_1 fw1_1_1 cw1_1_2 fw1_1_2
  go_wp2_with fail
  go_at_call 138
  refine ((H3.out _)).mono ?_
  rintro e w3 ⟨rfl, hw3⟩
  have cw3_0_0 := cu hw3 (W.heap.size) 0 h (by go_simp)
  have fw3_0_0 := fq hw3 (W.heap.size) 0 (.int .u64 h) (by go_simp) (by go_simp)
  have cw3_0_1 := cu hw3 (W.heap.size) 1 l (by go_simp)
  have fw3_0_1 := fq hw3 (W.heap.size) 1 (.int .u64 l) (by go_simp) (by go_simp)
  have cw3_1_0 := cu hw3 (W.heap.size + 1) 0 0 (by go_simp)
  have fw3_1_0 := fq hw3 (W.heap.size + 1) 0 (.int .u64 0) (by go_simp) (by go_simp)
  have cw3_1_1 := cu hw3 (W.heap.size + 1) 1 0 (by go_simp)
  have fw3_1_1 := fq hw3 (W.heap.size + 1) 1 (.int .u64 0) (by go_simp) (by go_simp)
  have cw3_1_2 := cu hw3 (W.heap.size + 1) 2 0 (by go_simp)
  have fw3_1_2 := fq hw3 (W.heap.size + 1) 2 (.int .u64 0) (by go_simp) (by go_simp)
  have gw3 : Gr W w3 := Gr.trans (by have gg := gw2; have gs := gg.size; go_grown) hw3
  clear hw3 gw2 cw2_0_0 fw2_0_0 cw2_0_1 fw2_0_1 cw2_1_0 fw2_1_0 cw2_1_1 fw2_1_1 cw2_1_2 fw2_1_2
  go_wp2_with fail
  generalize hhw4 : ((w3.setCell ⟨W.heap.size, 0, none⟩ (.int .u64 qh)).setCell ⟨W.heap.size, 1, none⟩ (.int .u64 ql)) = w4
  have cw4_0_0 : w4.cell? ⟨W.heap.size + 1, 0, none⟩ = some (.int .u64 0) := by subst hhw4; go_simp
  have fw4_0_0 : w4.frozen? ⟨W.heap.size + 1, 0, none⟩ = false := by subst hhw4; go_simp
  have cw4_0_1 : w4.cell? ⟨W.heap.size + 1, 1, none⟩ = some (.int .u64 0) := by subst hhw4; go_simp
  have fw4_0_1 : w4.frozen? ⟨W.heap.size + 1, 1, none⟩ = false := by subst hhw4; go_simp
  have cw4_0_2 : w4.cell? ⟨W.heap.size + 1, 2, none⟩ = some (.int .u64 0) := by subst hhw4; go_simp
  have fw4_0_2 : w4.frozen? ⟨W.heap.size + 1, 2, none⟩ = false := by subst hhw4; go_simp
  have zw4_0 := zb cw4_0_0
  have cw4_1_0 : w4.cell? ⟨W.heap.size, 0, none⟩ = some (.int .u64 qh) := by subst hhw4; go_simp
  have fw4_1_0 : w4.frozen? ⟨W.heap.size, 0, none⟩ = false := by subst hhw4; go_simp
  have cw4_1_1 : w4.cell? ⟨W.heap.size, 1, none⟩ = some (.int .u64 ql) := by subst hhw4; go_simp
  have fw4_1_1 : w4.frozen? ⟨W.heap.size, 1, none⟩ = false := by subst hhw4; go_simp
  have zw4_1 := zb cw4_1_0
  have gw4 : Gr W w4 := by subst hhw4; have gg := gw3; have gs := gg.size; go_grown
  clear hhw4 gw3 cw3_0_0 fw3_0_0 cw3_0_1 fw3_0_1 cw3_1_0 fw3_1_0 cw3_1_1 fw3_1_1 cw3_1_2 fw3_1_2
  go_wp2_with fail
  refine Hd.wp_region_tail 5 (by kernel_rfl) (by kernel_rfl) ?_
  intro KQ hKQ
  repeat (first | (refine Hd.wpG_skip (by decide) rfl ?_; simp only [Act.put, List.setIfInBounds_toArray, List.set_cons_zero, List.set_cons_succ]) | (refine Hd.wpG_want (by decide) rfl ?_; apply Exists.intro; refine ⟨?_, ?_⟩; (· intro wx gx; (obtain ⟨mx, rfl⟩ := gx); all_goals (apply Hd.gAt_of_quiet; intro K hK; go_big_quiet_op; first | exact hK _ rfl | (apply Exists.intro; refine ⟨fun _ => ?_, ?_⟩; (· (first | (go_at_call 112; first | ((with_reducible refine ((c_over _ _ _ _)).mono ?_); rintro e w' ⟨rfl, hg⟩; exact ⟨rfl, spread_gr hg⟩)))); exact hK _ rfl))); try simp only [Act.put, List.setIfInBounds_toArray, List.set_cons_zero, List.set_cons_succ]))
  refine Hd.wpG_nil (hKQ _ ?_)
  clear hKQ KQ
  intro w5 hhw5
  have hw5 := Hd.gr_of_spread hhw5
  have cw5_0_0 := cu hw5 (W.heap.size + 1) 0 0 (by go_simp)
  have fw5_0_0 := fq hw5 (W.heap.size + 1) 0 (.int .u64 0) (by go_simp) (by go_simp)
  have cw5_0_1 := cu hw5 (W.heap.size + 1) 1 0 (by go_simp)
  have fw5_0_1 := fq hw5 (W.heap.size + 1) 1 (.int .u64 0) (by go_simp) (by go_simp)
  have cw5_0_2 := cu hw5 (W.heap.size + 1) 2 0 (by go_simp)
  have fw5_0_2 := fq hw5 (W.heap.size + 1) 2 (.int .u64 0) (by go_simp) (by go_simp)
  have gw5 : Gr W w5 := Gr.trans (by have gg := gw4; have gs := gg.size; go_grown) hw5
  clear hw5 hhw5 gw4 zw4_0 cw4_0_0 fw4_0_0 cw4_0_1 fw4_0_1 cw4_0_2 fw4_0_2 zw4_1 cw4_1_0 fw4_1_0 cw4_1_1 fw4_1_1
  go_wp2_with fail
  refine bodyPost_ret (v := .tuple #[.agg #[.int .u64 qh, .int .u64 ql, .int .u64 qd], .nilIface]) (by simp [results, Tryz.results118, go_sem, *]) rfl ⟨rfl, by go_grown⟩
def lowD (n d : Nat) : Nat := d / Nat.gcd d (n % d)
def lowN (n d : Nat) : Nat := n / Nat.gcd d (n % d)
theorem c_Make (h l d : Nat) (h1 : Wd h) (h2 : Wd l) (h3 : Wd d) (hd : d ≠ 0) (w : World) :
    Calls Tryz.prog 118 #[.agg #[.int .u64 h, .int .u64 l], .int .u64 d] w fun e w' => e = .returned (.tuple #[.agg #[.int .u64 ((lowN (val h l) d / 18446744073709551616 : Nat) : Int), .int .u64 ((lowN (val h l) d % 18446744073709551616 : Nat) : Int), .int .u64 ((lowD (val h l) d : Nat) : Int)], .nilIface]) ∧ Gr w w' := by
  have hr : val h l % d < d := Nat.mod_lt _ (by omega)
  have hrw : Wd (val h l % d) := by unfold Wd at *; omega
  have A1 := c_Divide h l d (by omega) h1 h2 h3
  have A2 := c_divisor d (val h l % d) h3 hrw
  have hgl : Nat.gcd d (val h l % d) ≤ d := Nat.le_of_dvd (by omega) (Nat.gcd_dvd_left _ _)
  have hgp : 0 < Nat.gcd d (val h l % d) := Nat.gcd_pos_of_pos_left _ (by omega)
  unfold lowN lowD
  generalize Nat.gcd d (val h l % d) = g at *
  have A3 := c_Divide h l g hgp h1 h2 (by unfold Wd at *; omega)
  have hq : d / g ≤ d := Nat.div_le_self _ _
  exact make_core h l d _ _ g (d / g) _ _ _ _ w (by simp; omega) (by simp; omega) (by omega) (by simp; omega) (by omega) rfl (IntWalk.u64_in _ ⟨Int.natCast_nonneg _, by unfold Wd at *; omega⟩) A1 A2 A3
end Go.Proofs.YtfobmlgpjhghdaaGreatDoor
namespace Go.Proofs.YtfobmlgpjhghdaaGreatDoor
set_option linter.unusedVariables false
open Go.ChangeShapes Go.WideShapes Go.ChangeAt Go.RowKit
def DivRel (R : Nat) (h l d : Nat) (W : World) (k : Nat) (rv iv : Value) (wr : World) : Prop :=
  ∃ (qh ql r : Nat), k ≤ 128 ∧ Wd qh ∧ Wd ql ∧ r < d ∧ rv = .int .u64 r ∧ iv = .int .i64 ((k : Int) - 1) ∧ val qh ql = val h l / 2 ^ k / d * 2 ^ k ∧ r = val h l / 2 ^ k % d ∧
    wr.cell? ⟨R, 0, none⟩ = some (.int .u64 h) ∧ wr.cell? ⟨R, 1, none⟩ = some (.int .u64 l) ∧ wr.cell? ⟨R + 1, 0, none⟩ = some (.int .u64 0) ∧ wr.cell? ⟨R + 1, 1, none⟩ = some (.int .u64 0) ∧ wr.frozen? ⟨R + 1, 0, none⟩ = false ∧ wr.frozen? ⟨R + 1, 1, none⟩ = false ∧
    wr.cell? ⟨R + 1 + 1, 0, none⟩ = some (.int .u64 qh) ∧ wr.cell? ⟨R + 1 + 1, 1, none⟩ = some (.int .u64 ql) ∧ wr.frozen? ⟨R + 1 + 1, 0, none⟩ = false ∧ wr.frozen? ⟨R + 1 + 1, 1, none⟩ = false ∧ Gr W wr
theorem and_one (x : Nat) (h : Wd x) : bits BinOp.and IntKind.u64 (x : Int) 1 = ((x % 2 : Nat) : Int) := by
  have e := bits_and_u64_nat x 1 h (by omega)
  rw [Nat.and_one_is_mod] at e
  exact e
theorem or_bit (m b : Nat) (h : Wd m) (hb : b < 2) (hm : m % 2 = 0) : bits BinOp.or IntKind.u64 (m : Int) (b : Int) = ((m + b : Nat) : Int) := by
  have e := bits_or_u64_nat m b h (by omega)
  have e2 := Nat.two_pow_add_eq_or_of_lt (i := 1) (b := b) (by omega) (m / 2)
  rw [show 2 ^ 1 * (m / 2) = m by omega] at e2
  rw [← e2] at e
  exact e
theorem div_step {T d B : Nat} (hd : 1 ≤ d) (hB : B < 2) : (2 * T + B) / d = 2 * (T / d) + (if d ≤ 2 * (T % d) + B then 1 else 0) ∧ (2 * T + B) % d = 2 * (T % d) + B - (if d ≤ 2 * (T % d) + B then d else 0) := by
  have h1 := Nat.div_add_mod T d
  have h2 := Nat.mod_lt T (show 0 < d by omega)
  generalize T / d = Q at *
  generalize T % d = r at *
  have e : 2 * T + B = d * (2 * Q) + (2 * r + B) := by
    rw [← h1, Nat.mul_left_comm d 2 Q]; omega
  rw [e, Nat.mul_add_div (by omega), Nat.mul_add_mod]
  split
  · rename_i h
    have a : (2 * r + B) / d = 1 := by
      rw [Nat.div_eq_iff (by omega)]; omega
    have b : (2 * r + B) % d = 2 * r + B - d := by
      rw [Nat.mod_eq_sub_mod h, Nat.mod_eq_of_lt (by omega)]
    rw [a, b]; omega
  · rename_i h
    rw [Nat.div_eq_of_lt (by omega), Nat.mod_eq_of_lt (by omega)]; omega
theorem two_steps (N k : Nat) : N / 2 ^ k = 2 * (N / 2 ^ (k + 1)) + N / 2 ^ k % 2 := by
  rw [Nat.pow_succ, ← Nat.div_div_eq_div_mul]
  omega
theorem bit_high (h l j : Nat) (hl : Wd l) : val h l / 2 ^ (j + 64) = h / 2 ^ j := by
  rw [Nat.add_comm, Nat.pow_add, ← Nat.div_div_eq_div_mul]
  congr 1
  unfold val Wd at *
  omega
theorem bit_low (h l i : Nat) (hi : i < 64) : val h l / 2 ^ i % 2 = l / 2 ^ i % 2 := by
  obtain ⟨s, hs⟩ : ∃ s, 64 = i + 1 + s := ⟨63 - i, by omega⟩
  have e : val h l = 2 ^ i * (2 * (h * 2 ^ s)) + l := by
    unfold val
    rw [show (18446744073709551616 : Nat) = 2 ^ 64 from rfl, hs, Nat.pow_add, Nat.pow_succ]
    grind
  rw [e, Nat.mul_add_div (Nat.two_pow_pos i)]
  omega
theorem or_pow (a j s : Nat) (e : a = s * 2 ^ (j + 1)) : a ||| 2 ^ j = a + 2 ^ j := by
  have h := Nat.two_pow_add_eq_or_of_lt (i := j + 1) (b := 2 ^ j) (Nat.pow_lt_pow_right (by omega) (by omega)) s
  rw [Nat.mul_comm] at h
  rw [e, ← h]
theorem quo_high {qh ql Q j : Nat} (hql : Wd ql) (e : val qh ql = Q * 2 ^ (j + 64 + 1)) : ql = 0 ∧ qh = Q * 2 ^ (j + 1) := by
  have e2 : Q * 2 ^ (j + 64 + 1) = Q * 2 ^ (j + 1) * 18446744073709551616 := by
    rw [show (18446744073709551616 : Nat) = 2 ^ 64 from rfl, Nat.mul_assoc, ← Nat.pow_add]
  rw [e2] at e
  generalize Q * 2 ^ (j + 1) = z at *
  unfold val Wd at *
  omega
theorem quo_low {qh ql Q i : Nat} (hi : i < 64) (e : val qh ql = Q * 2 ^ (i + 1)) : ∃ s, ql = s * 2 ^ (i + 1) := by
  obtain ⟨s, hs⟩ : ∃ s, 64 = i + 1 + s := ⟨63 - i, by omega⟩
  have d1 : 2 ^ (i + 1) ∣ val qh ql := ⟨Q, by rw [e, Nat.mul_comm]⟩
  have d2 : 2 ^ (i + 1) ∣ qh * 18446744073709551616 := by
    rw [show (18446744073709551616 : Nat) = 2 ^ 64 from rfl, hs, Nat.pow_add (2) (i + 1) s]
    exact ⟨qh * 2 ^ s, by grind⟩
  obtain ⟨c, hc⟩ := (Nat.dvd_add_right d2).1 (show 2 ^ (i + 1) ∣ qh * 18446744073709551616 + ql from d1)
  exact ⟨c, by rw [hc, Nat.mul_comm]⟩
theorem or_u64 (a p : Nat) (ha : Wd a) (hp : Wd p) (h : a ||| p = a + p) : bits BinOp.or IntKind.u64 (a : Int) (p : Int) = ((a + p : Nat) : Int) := by
  have e := bits_or_u64_nat a p ha hp
  rw [h] at e
  exact e
end Go.Proofs.YtfobmlgpjhghdaaGreatDoor
namespace Go.Proofs.YtfobmlgpjhghdaaGreatDoor
set_option linter.unusedVariables false
open Go.ChangeShapes Go.WideShapes Go.ChangeAt Go.RowKit
set_option maxHeartbeats 4000000 in
set_option maxRecDepth 100000 in
theorem c_rDiv (h l d : Nat) (h1 : Wd h) (h2 : Wd l) (h3 : Wd d) (hd : 1 ≤ d) (w : World) :
    Calls Tryz.prog 93 #[.agg #[.int .u64 h, .int .u64 l], .int .u64 d] w fun e w' => e = .returned (.tuple #[.agg #[.int .u64 ((val h l / d / 18446744073709551616 : Nat) : Int), .int .u64 ((val h l / d % 18446744073709551616 : Nat) : Int)], .int .u64 ((val h l % d : Nat) : Int)]) ∧ Gr w w' := by
  obtain ⟨A1, eA1⟩ : ∃ a, a = val h l / d / 18446744073709551616 := ⟨_, rfl⟩
  obtain ⟨A2, eA2⟩ : ∃ a, a = val h l / d % 18446744073709551616 := ⟨_, rfl⟩
  obtain ⟨A3, eA3⟩ : ∃ a, a = val h l % d := ⟨_, rfl⟩
  rw [← eA1, ← eA2, ← eA3]
  have HA := Lib.hid (And.intro eA1 (And.intro eA2 eA3))
  clear eA1 eA2 eA3
  go_enter Tryz.func93, Tryz.ntmps93
  go_wp2_with fail
  go_loopg [7, 8] 128 (fun k rv iv wr => DivRel w.heap.size h l d w k rv iv wr)
  case atStart =>
    have hz : val h l / 2 ^ 128 = 0 := Nat.div_eq_of_lt (by unfold val Wd at *; omega)
    exact ⟨0, 0, 0, by omega, by unfold Wd; omega, by unfold Wd; omega, by omega, rfl, rfl, by rw [hz, Nat.zero_div]; rfl, by rw [hz, Nat.zero_mod], by go_simp, by go_simp, by go_simp, by go_simp, by go_simp, by go_simp, by go_simp, by go_simp, by go_simp, by go_simp, by go_grown⟩
  case round =>
    obtain ⟨qh, ql, r, hk, wqh, wql, hr, rfl, rfl, eq, er, p0, p1, z0, z1, zf0, zf1, c0, c1, f0, f1, gwr⟩ := hrel
    have za := World.block_lt_of_cell? _ _ p0
    have zb := World.block_lt_of_cell? _ _ z0
    have zc := World.block_lt_of_cell? _ _ c0
    rcases Nat.eq_zero_or_pos gk with rfl | hpos
    · rw [Nat.pow_zero, Nat.div_one] at eq er
      rw [Nat.mul_one] at eq
      have v1 : qh = A1 := by rw [HA.out.1, ← eq]; unfold val Wd at *; omega
      have v2 : ql = A2 := by rw [HA.out.2.1, ← eq]; unfold val Wd at *; omega
      have v3 : r = A3 := by rw [HA.out.2.2]; exact er
      have HV := Lib.hid (And.intro v1 (And.intro v2 v3))
      clear v1 v2 v3 er eq hr
      rw [show (((0 : Nat) : Int) - 1) = -1 from rfl]
      go_wp2_with fail
      refine bodyPost_ret (v := .tuple #[.agg #[.int .u64 qh, .int .u64 ql], .int .u64 r]) (by simp [results, Tryz.results93, go_sem, *]) rfl ⟨by rw [HV.out.1, HV.out.2.1, HV.out.2.2], by have gg := gwr; have gs := gg.size; go_grown⟩
    obtain ⟨i, rfl⟩ : ∃ i, gk = i + 1 := ⟨gk - 1, by omega⟩
    rw [show (((i + 1 : Nat) : Int) - 1) = (i : Int) by omega]
    by_cases hz : 64 ≤ i
    · obtain ⟨j, ej⟩ : ∃ j, i = j + 64 := ⟨i - 64, by omega⟩
      obtain ⟨x, ex⟩ : ∃ x, x = h / 2 ^ j := ⟨_, rfl⟩
      have hxw : Wd x := Nat.lt_of_le_of_lt (by rw [ex]; exact Nat.div_le_self _ _) h1
      have hij : (i : Int) - 64 = (j : Int) := by omega
      have hij2 : wrap64 ((i : Int) - 64) = (j : Int) := by rw [hij]; exact IntWalk.wrap64_in _ (by omega)
      have t2 : decide ((64 : Int) ≤ (i : Int)) = true := decide_eq_true (by omega)
      have t3 : decide (64 ≤ i) = true := decide_eq_true (by omega)
      have t5 : (64 : Int) ≤ (i : Int) := by omega
      have t6 : 64 ≤ i := by omega
      have t7 : (0 : Int) ≤ (j : Int) := by omega
      have q1' : (h : Int) / 2 ^ j = (x : Int) := by rw [ex]; norm_cast
      have q1 : (h : Int) / 2 ^ min j 64 = (x : Int) := by rw [Nat.min_eq_left (by omega)]; exact q1'
      have eN : val h l / 2 ^ i = x := by rw [ej, ex]; exact bit_high h l j h2
      obtain ⟨B, eB⟩ : ∃ B, B = x % 2 := ⟨_, rfl⟩
      have eb : B = val h l / 2 ^ i % 2 := by rw [eN]; exact eB
      obtain ⟨eql, eqh⟩ := quo_high wql (by rw [← ej]; exact eq)
      obtain ⟨P, eP⟩ : ∃ P, P = 2 ^ j := ⟨_, rfl⟩
      have hPw : Wd P := by rw [eP]; exact Nat.lt_of_lt_of_le (Nat.pow_lt_pow_right (by omega) (show j < 64 by omega)) (by decide)
      have u1 : (2 : Int) ^ min j 64 = (P : Int) := by rw [Nat.min_eq_left (by omega), eP]; norm_cast
      have u2 : (2 : Int) ^ j = (P : Int) := by rw [eP]; norm_cast
      have q1p : (h : Int) / (P : Int) = (x : Int) := by rw [← u2]; exact q1'
      have u3 : IntKind.u64.wrap (P : Int) = (P : Int) := IntWalk.u64_in _ (by unfold Wd at hPw; omega)
      have u4 : bits BinOp.or IntKind.u64 (qh : Int) (P : Int) = ((qh + P : Nat) : Int) := or_u64 qh P wqh hPw (by rw [eP]; exact or_pow qh j _ eqh)
      obtain ⟨q', eq'⟩ : ∃ q, q = qh + P := ⟨_, rfl⟩
      rw [← eq'] at u4
      obtain ⟨top, etop⟩ : ∃ B, B = r / 9223372036854775808 := ⟨_, rfl⟩
      obtain ⟨m, em⟩ : ∃ m, m = r * 2 % 18446744073709551616 := ⟨_, rfl⟩
      obtain ⟨R1, eR⟩ : ∃ R, R = m + B := ⟨_, rfl⟩
      have hrw : Wd r := Nat.lt_trans hr h3
      have hB2 : B < 2 := by omega
      have t1 : decide ((0 : Int) ≤ (i : Int)) = true := decide_eq_true (by omega)
      have t4 : (0 : Int) ≤ (i : Int) := by omega
      have q2 : bits BinOp.and IntKind.u64 (x : Int) 1 = (B : Int) := by rw [eB]; exact and_one x hxw
      have q3 : (r : Int) / 9223372036854775808 = (top : Int) := by rw [etop]; omega
      have q4 : IntKind.u64.wrap ((r : Int) * 2) = (m : Int) := by rw [IntKind.wrap_u64, em]; omega
      have q5 : bits BinOp.or IntKind.u64 (m : Int) (B : Int) = (R1 : Int) := by rw [eR]; exact or_bit m B (by unfold Wd; omega) hB2 (by omega)
      have st := div_step (T := val h l / 2 ^ (i + 1)) (d := d) (B := B) hd hB2
      have tw := two_steps (val h l) i
      rw [← eb] at tw
      rw [← tw, ← er] at st
      rw [← er] at *
      have hs : ∀ c, val h l / 2 ^ i / d = 2 * (val h l / 2 ^ (i + 1) / d) + c → val qh ql + c * 2 ^ i = val h l / 2 ^ i / d * 2 ^ i := fun c hc => by
        rw [hc, eq, Nat.pow_succ]; grind
      by_cases hge : d ≤ 2 * r + B
      · rw [if_pos hge, if_pos hge] at st
        obtain ⟨r2, er2⟩ : ∃ r2, r2 = 2 * r + B - d := ⟨_, rfl⟩
        rw [← er2] at st
        have q9 : IntKind.u64.wrap ((R1 : Int) - (d : Int)) = (r2 : Int) := by rw [IntKind.wrap_u64]; unfold Wd at *; omega
        have hr2 : r2 < d := by omega
        have hv : val q' ql = val h l / 2 ^ i / d * 2 ^ i := by
          rw [← hs 1 st.1, eq', eP, ej, Nat.pow_add]
          unfold val
          rw [show (2 : Nat) ^ 64 = 18446744073709551616 from rfl]; grind
        have hq'w : Wd q' := by
          have a : val h l / 2 ^ i / d * 2 ^ i ≤ val h l := Nat.le_trans (Nat.mul_le_mul_right _ (Nat.div_le_self _ _)) (Nat.div_mul_le_self _ _)
          rw [← hv] at a
          unfold val Wd at *; omega
        have htb : (top = 1 ∧ ((top : Int) == 1) = true) ∨ (((top : Int) == 1) = false ∧ decide ((d : Int) ≤ (R1 : Int)) = true ∧ decide (d ≤ R1) = true) := by
          by_cases ht : top = 1
          · left; exact ⟨ht, by simp [ht]⟩
          · right; refine ⟨by simp; omega, decide_eq_true ?_, decide_eq_true ?_⟩ <;> unfold Wd at * <;> omega
        have HV := Lib.hid (And.intro hv (And.intro st.2 hr2))
        have HW := Lib.hid hq'w
        clear hv hq'w st hs hge er2 hr2 tw eb eB ex etop em eR eq er hxw hrw hB2 eP eq' hPw eN eql eqh ej
        rcases htb with ⟨-, y1⟩ | ⟨y1, y2, y3⟩
        all_goals
          go_wp2_with fail
          refine Hd.wp_region_tail 7 (by kernel_rfl) (by kernel_rfl) ?_
          intro KQ hKQ
          repeat (first | (refine Hd.wpG_skip (by decide) rfl ?_; simp only [Act.put, List.setIfInBounds_toArray, List.set_cons_zero, List.set_cons_succ]) | (refine Hd.wpG_want (by decide) rfl ?_; apply Exists.intro; refine ⟨?_, ?_⟩; (· intro wx gx; (obtain ⟨mx, rfl⟩ := gx); all_goals (apply Hd.gAt_of_quiet; intro K hK; go_big_quiet_op; first | exact hK _ rfl | (apply Exists.intro; refine ⟨fun _ => ?_, ?_⟩; (· fail); exact hK _ rfl))); try simp only [Act.put, List.setIfInBounds_toArray, List.set_cons_zero, List.set_cons_succ]))
          refine Hd.wpG_nil (hKQ _ ?_)
          clear hKQ KQ
          intro w1 hhw1
          have hw1 := Hd.gr_of_spread hhw1
          have cw1_0_0 := cu hw1 (w.heap.size) 0 h (by go_simp)
          have cw1_0_1 := cu hw1 (w.heap.size) 1 l (by go_simp)
          have cw1_1_0 := cu hw1 (w.heap.size + 1) 0 0 (by go_simp)
          have fw1_1_0 := fq hw1 (w.heap.size + 1) 0 (.int .u64 0) (by go_simp) (by go_simp)
          have cw1_1_1 := cu hw1 (w.heap.size + 1) 1 0 (by go_simp)
          have fw1_1_1 := fq hw1 (w.heap.size + 1) 1 (.int .u64 0) (by go_simp) (by go_simp)
          have cw1_2_0 := cu hw1 (w.heap.size + 1 + 1) 0 qh (by go_simp)
          have fw1_2_0 := fq hw1 (w.heap.size + 1 + 1) 0 (.int .u64 qh) (by go_simp) (by go_simp)
          have cw1_2_1 := cu hw1 (w.heap.size + 1 + 1) 1 ql (by go_simp)
          have fw1_2_1 := fq hw1 (w.heap.size + 1 + 1) 1 (.int .u64 ql) (by go_simp) (by go_simp)
          have gw1 : Gr w w1 := Gr.trans (by have gg := gwr; have gs := gg.size; go_grown) hw1
          clear hw1 hhw1 gwr
          go_wp2_with fail
          go_roundg i
          case measure => omega
          case rel => exact ⟨q', ql, r2, by omega, HW.out, wql, HV.out.2.2, by go_simp, by first | rfl | (congr 1; omega), HV.out.1, HV.out.2.1.symm, by go_simp, by go_simp, by go_simp, by go_simp, by go_simp, by go_simp, by go_simp, by go_simp, by go_simp, by go_simp, by have gg := gw1; have gs := gg.size; go_grown⟩
      · rw [if_neg hge, if_neg hge] at st
        have y1 : ((top : Int) == 1) = false := by simp; unfold Wd at *; omega
        have y2 : decide ((d : Int) ≤ (R1 : Int)) = false := decide_eq_false (by unfold Wd at *; omega)
        have y3 : decide (d ≤ R1) = false := decide_eq_false (by unfold Wd at *; omega)
        have hv : val qh ql = val h l / 2 ^ i / d * 2 ^ i := by rw [← hs 0 st.1]; omega
        have hr1 : R1 < d := by unfold Wd at *; omega
        have er1 : R1 = val h l / 2 ^ i % d := by rw [st.2]; unfold Wd at *; omega
        have HV := Lib.hid (And.intro hv (And.intro er1 hr1))
        clear hv er1 hr1 st hs hge tw eb eB ex etop em eR eq er hxw hrw hB2 eP eq' hPw eN eql eqh ej
        go_wp2_with fail
        go_roundg i
        case measure => omega
        case rel => exact ⟨qh, ql, R1, by omega, wqh, wql, HV.out.2.2, by go_simp, by first | rfl | (congr 1; omega), HV.out.1, HV.out.2.1, by go_simp, by go_simp, by go_simp, by go_simp, by go_simp, by go_simp, by go_simp, by go_simp, by go_simp, by go_simp, gwr⟩
    · obtain ⟨x, ex⟩ : ∃ x, x = l / 2 ^ i := ⟨_, rfl⟩
      have hxw : Wd x := Nat.lt_of_le_of_lt (by rw [ex]; exact Nat.div_le_self _ _) h2
      have t2 : decide ((64 : Int) ≤ (i : Int)) = false := decide_eq_false (by omega)
      have t3 : decide (64 ≤ i) = false := decide_eq_false (by omega)
      have t5 : ¬ (64 : Int) ≤ (i : Int) := by omega
      have t6 : ¬ 64 ≤ i := by omega
      have q1' : (l : Int) / 2 ^ i = (x : Int) := by rw [ex]; norm_cast
      have q1 : (l : Int) / 2 ^ min i 64 = (x : Int) := by rw [Nat.min_eq_left (by omega)]; exact q1'
      obtain ⟨B, eB⟩ : ∃ B, B = x % 2 := ⟨_, rfl⟩
      have eb : B = val h l / 2 ^ i % 2 := by rw [eB, ex]; exact (bit_low h l i (by omega)).symm
      obtain ⟨sq, esq⟩ := quo_low (by omega) eq
      obtain ⟨P, eP⟩ : ∃ P, P = 2 ^ i := ⟨_, rfl⟩
      have hPw : Wd P := by rw [eP]; exact Nat.lt_of_lt_of_le (Nat.pow_lt_pow_right (by omega) (show i < 64 by omega)) (by decide)
      have u1 : (2 : Int) ^ min i 64 = (P : Int) := by rw [Nat.min_eq_left (by omega), eP]; norm_cast
      have u2 : (2 : Int) ^ i = (P : Int) := by rw [eP]; norm_cast
      have q1p : (l : Int) / (P : Int) = (x : Int) := by rw [← u2]; exact q1'
      have u3 : IntKind.u64.wrap (P : Int) = (P : Int) := IntWalk.u64_in _ (by unfold Wd at hPw; omega)
      have u4 : bits BinOp.or IntKind.u64 (ql : Int) (P : Int) = ((ql + P : Nat) : Int) := or_u64 ql P wql hPw (by rw [eP]; exact or_pow ql i _ esq)
      obtain ⟨q', eq'⟩ : ∃ q, q = ql + P := ⟨_, rfl⟩
      rw [← eq'] at u4
      obtain ⟨top, etop⟩ : ∃ B, B = r / 9223372036854775808 := ⟨_, rfl⟩
      obtain ⟨m, em⟩ : ∃ m, m = r * 2 % 18446744073709551616 := ⟨_, rfl⟩
      obtain ⟨R1, eR⟩ : ∃ R, R = m + B := ⟨_, rfl⟩
      have hrw : Wd r := Nat.lt_trans hr h3
      have hB2 : B < 2 := by omega
      have t1 : decide ((0 : Int) ≤ (i : Int)) = true := decide_eq_true (by omega)
      have t4 : (0 : Int) ≤ (i : Int) := by omega
      have q2 : bits BinOp.and IntKind.u64 (x : Int) 1 = (B : Int) := by rw [eB]; exact and_one x hxw
      have q3 : (r : Int) / 9223372036854775808 = (top : Int) := by rw [etop]; omega
      have q4 : IntKind.u64.wrap ((r : Int) * 2) = (m : Int) := by rw [IntKind.wrap_u64, em]; omega
      have q5 : bits BinOp.or IntKind.u64 (m : Int) (B : Int) = (R1 : Int) := by rw [eR]; exact or_bit m B (by unfold Wd; omega) hB2 (by omega)
      have st := div_step (T := val h l / 2 ^ (i + 1)) (d := d) (B := B) hd hB2
      have tw := two_steps (val h l) i
      rw [← eb] at tw
      rw [← tw, ← er] at st
      rw [← er] at *
      have hs : ∀ c, val h l / 2 ^ i / d = 2 * (val h l / 2 ^ (i + 1) / d) + c → val qh ql + c * 2 ^ i = val h l / 2 ^ i / d * 2 ^ i := fun c hc => by
        rw [hc, eq, Nat.pow_succ]; grind
      by_cases hge : d ≤ 2 * r + B
      · rw [if_pos hge, if_pos hge] at st
        obtain ⟨r2, er2⟩ : ∃ r2, r2 = 2 * r + B - d := ⟨_, rfl⟩
        rw [← er2] at st
        have q9 : IntKind.u64.wrap ((R1 : Int) - (d : Int)) = (r2 : Int) := by rw [IntKind.wrap_u64]; unfold Wd at *; omega
        have hr2 : r2 < d := by omega
        have hv : val qh q' = val h l / 2 ^ i / d * 2 ^ i := by
          rw [← hs 1 st.1, eq', eP]
          unfold val; omega
        have hq'w : Wd q' := by
          have d1 : sq * 2 ^ (i + 1) < 2 ^ (i + 1) * 2 ^ (63 - i) := by
            rw [← esq, ← Nat.pow_add, show i + 1 + (63 - i) = 64 by omega]; exact wql
          have d2 : sq < 2 ^ (63 - i) := Nat.lt_of_mul_lt_mul_left (a := 2 ^ (i + 1)) (by rw [Nat.mul_comm]; exact d1)
          have d3 : (sq + 1) * 2 ^ (i + 1) ≤ 2 ^ (63 - i) * 2 ^ (i + 1) := Nat.mul_le_mul_right _ d2
          rw [← Nat.pow_add, show 63 - i + (i + 1) = 64 by omega, Nat.add_mul, ← esq, Nat.pow_succ] at d3
          have d4 : 0 < 2 ^ i := Nat.two_pow_pos i
          rw [eq', eP]
          unfold Wd
          rw [show (2 : Nat) ^ 64 = 18446744073709551616 from rfl] at d3
          omega
        have htb : (top = 1 ∧ ((top : Int) == 1) = true) ∨ (((top : Int) == 1) = false ∧ decide ((d : Int) ≤ (R1 : Int)) = true ∧ decide (d ≤ R1) = true) := by
          by_cases ht : top = 1
          · left; exact ⟨ht, by simp [ht]⟩
          · right; refine ⟨by simp; omega, decide_eq_true ?_, decide_eq_true ?_⟩ <;> unfold Wd at * <;> omega
        have HV := Lib.hid (And.intro hv (And.intro st.2 hr2))
        have HW := Lib.hid hq'w
        clear hv hq'w st hs hge er2 hr2 tw eb eB ex etop em eR eq er hxw hrw hB2 eP eq' hPw esq
        rcases htb with ⟨-, y1⟩ | ⟨y1, y2, y3⟩
        all_goals
          go_wp2_with fail
          refine Hd.wp_region_tail 6 (by kernel_rfl) (by kernel_rfl) ?_
          intro KQ hKQ
          repeat (first | (refine Hd.wpG_skip (by decide) rfl ?_; simp only [Act.put, List.setIfInBounds_toArray, List.set_cons_zero, List.set_cons_succ]) | (refine Hd.wpG_want (by decide) rfl ?_; apply Exists.intro; refine ⟨?_, ?_⟩; (· intro wx gx; (obtain ⟨mx, rfl⟩ := gx); all_goals (apply Hd.gAt_of_quiet; intro K hK; go_big_quiet_op; first | exact hK _ rfl | (apply Exists.intro; refine ⟨fun _ => ?_, ?_⟩; (· fail); exact hK _ rfl))); try simp only [Act.put, List.setIfInBounds_toArray, List.set_cons_zero, List.set_cons_succ]))
          refine Hd.wpG_nil (hKQ _ ?_)
          clear hKQ KQ
          intro w1 hhw1
          have hw1 := Hd.gr_of_spread hhw1
          have cw1_0_0 := cu hw1 (w.heap.size) 0 h (by go_simp)
          have cw1_0_1 := cu hw1 (w.heap.size) 1 l (by go_simp)
          have cw1_1_0 := cu hw1 (w.heap.size + 1) 0 0 (by go_simp)
          have fw1_1_0 := fq hw1 (w.heap.size + 1) 0 (.int .u64 0) (by go_simp) (by go_simp)
          have cw1_1_1 := cu hw1 (w.heap.size + 1) 1 0 (by go_simp)
          have fw1_1_1 := fq hw1 (w.heap.size + 1) 1 (.int .u64 0) (by go_simp) (by go_simp)
          have cw1_2_0 := cu hw1 (w.heap.size + 1 + 1) 0 qh (by go_simp)
          have fw1_2_0 := fq hw1 (w.heap.size + 1 + 1) 0 (.int .u64 qh) (by go_simp) (by go_simp)
          have cw1_2_1 := cu hw1 (w.heap.size + 1 + 1) 1 ql (by go_simp)
          have fw1_2_1 := fq hw1 (w.heap.size + 1 + 1) 1 (.int .u64 ql) (by go_simp) (by go_simp)
          have gw1 : Gr w w1 := Gr.trans (by have gg := gwr; have gs := gg.size; go_grown) hw1
          clear hw1 hhw1 gwr
          go_wp2_with fail
          go_roundg i
          case measure => omega
          case rel => exact ⟨qh, q', r2, by omega, wqh, HW.out, HV.out.2.2, by go_simp, by first | rfl | (congr 1; omega), HV.out.1, HV.out.2.1.symm, by go_simp, by go_simp, by go_simp, by go_simp, by go_simp, by go_simp, by go_simp, by go_simp, by go_simp, by go_simp, by have gg := gw1; have gs := gg.size; go_grown⟩
      · rw [if_neg hge, if_neg hge] at st
        have y1 : ((top : Int) == 1) = false := by simp; unfold Wd at *; omega
        have y2 : decide ((d : Int) ≤ (R1 : Int)) = false := decide_eq_false (by unfold Wd at *; omega)
        have y3 : decide (d ≤ R1) = false := decide_eq_false (by unfold Wd at *; omega)
        have hv : val qh ql = val h l / 2 ^ i / d * 2 ^ i := by rw [← hs 0 st.1]; omega
        have hr1 : R1 < d := by unfold Wd at *; omega
        have er1 : R1 = val h l / 2 ^ i % d := by rw [st.2]; unfold Wd at *; omega
        have HV := Lib.hid (And.intro hv (And.intro er1 hr1))
        clear hv er1 hr1 st hs hge tw eb eB ex etop em eR eq er hxw hrw hB2 eP eq' hPw esq
        go_wp2_with fail
        go_roundg i
        case measure => omega
        case rel => exact ⟨qh, ql, R1, by omega, wqh, wql, HV.out.2.2, by go_simp, by first | rfl | (congr 1; omega), HV.out.1, HV.out.2.1, by go_simp, by go_simp, by go_simp, by go_simp, by go_simp, by go_simp, by go_simp, by go_simp, by go_simp, by go_simp, gwr⟩
end Go.Proofs.YtfobmlgpjhghdaaGreatDoor
namespace Go.Proofs.YtfobmlgpjhghdaaGreatDoor
set_option linter.unusedVariables false
open Go.ChangeShapes Go.WideShapes Go.ChangeAt Go.RowKit
set_option maxHeartbeats 1000000 in
set_option maxRecDepth 100000 in
theorem c_words1 (a : Nat) (ha : Wd a) (b : Nat) (w : World) (hb : b < w.heap.size) (k0 : w.cell? ⟨b, 0, none⟩ = some (.int .u64 a)) :
    Calls Tryz.prog 129 #[.slice (some ⟨b, 0, none⟩) 1 1] w fun e w' => ∃ B cap, e = .returned (.slice (some ⟨B, 0, none⟩) 2 cap) ∧ w.heap.size ≤ B ∧ w'.cell? ⟨B, 0, none⟩ = some (.int .u64 ((a % 4294967296 : Nat) : Int)) ∧ w'.cell? ⟨B, 1, none⟩ = some (.int .u64 ((a / 4294967296 : Nat) : Int)) ∧ Gr w w' := by
  go_enter Tryz.func129, Tryz.ntmps129
  have q1 : bits BinOp.and IntKind.u64 (a : Int) 4294967295 = ((a % 4294967296 : Nat) : Int) := by
    have e := bits_and_u64_nat a 4294967295 ha (by omega)
    rw [show (4294967295 : Nat) = 2 ^ 32 - 1 from rfl, Nat.and_two_pow_sub_one_eq_mod] at e
    exact e
  have q2 : (a : Int) / 4294967296 = ((a / 4294967296 : Nat) : Int) := by omega
  obtain ⟨lo, elo⟩ : ∃ x, x = a % 4294967296 := ⟨_, rfl⟩
  obtain ⟨hi, ehi⟩ : ∃ x, x = a / 4294967296 := ⟨_, rfl⟩
  rw [← elo] at q1 ⊢
  rw [← ehi] at q2 ⊢
  clear elo ehi
  go_wp2_with fail
  refine wp_loop_rounds 2 ?_
  rw [rounds_succ]
  go_wp2_with fail
  let Rc : World → Prop := fun w' => Gr w w'
  refine Hd.wp_region_head 12 11 Rc Rc (fun v w' => Rc w' ∧ ∃ B, v = .slice (some ⟨B, 0, none⟩) 2 2 ∧ w.heap.size ≤ B ∧ w'.cell? ⟨B, 0, none⟩ = some (.int .u64 lo) ∧ w'.cell? ⟨B, 1, none⟩ = some (.int .u64 hi)) (by kernel_rfl) (by simp only [List.getElem?_toArray, List.getElem?_cons_succ, List.getElem?_cons_zero] <;> rfl) (by kernel_rfl) (by intro cs b h; cases h) ?_ ?_ ?_ ?_ ?_ ?_
  · intro a b h g; exact Gr.trans h g
  · rintro v a b ⟨h, B, e, hB, c0, c1⟩ g
    exact ⟨Gr.trans h g, B, e, hB, cell_gr g c0, cell_gr g c1⟩
  · intro a h; exact h
  · intro v a h; exact h.1
  · show Gr _ _
    go_grown
  · intro KQ hKQ
    repeat (first | (refine Hd.wpG_skip (by decide) rfl ?_; simp only [Act.put, List.setIfInBounds_toArray, List.set_cons_zero, List.set_cons_succ]) | (refine Hd.wpG_want (by decide) rfl ?_; apply Exists.intro; refine ⟨?_, ?_⟩; (· intro wx gx; (have gx0 := cell_gr gx k0; clear gx); all_goals (apply Hd.gAt_of_quiet; intro K hK; go_big_quiet_op; first | exact hK _ rfl | (apply Exists.intro; refine ⟨fun _ => ?_, ?_⟩; (· (fail)); exact hK _ rfl))); try simp only [Act.put, List.setIfInBounds_toArray, List.set_cons_zero, List.set_cons_succ]))
    refine Hd.wpG_k (by decide) ?_ ?_
    · rintro w' gx
      unfold Oper.wp
      go_simp
      change Gr w w' at gx
      have gs := gx.size
      exact ⟨(show Gr w _ by go_grown), gs⟩
    refine Hd.wpG_nil (hKQ _ ?_)
    clear hKQ KQ
    rintro v w1 ⟨gx, B, rfl, hB, b0, b1⟩
    change Gr w w1 at gx
    clear Rc
    have zB := World.block_lt_of_cell? _ _ b0
    go_wp2_with fail
    rw [rounds_succ]
    go_wp2_with fail
    go_ret
    have gs := gx.size
    refine ⟨_, _, rfl, gs, by simp [World.cell?_alloc_new]; rw [Array.getElem?_append_left (by simp)]; rfl, by simp [World.cell?_alloc_new]; rw [Array.getElem?_append_left (by simp)]; rfl, by go_grown⟩
theorem make4 (w : World) : (Instr.makeSlice 158 (.int .i64 4) (.int .i64 4)).run Tryz.prog w = .ok (.slice (some ⟨w.heap.size, 0, none⟩) 4 4) (w.alloc (.cells #[.int .u64 0, .int .u64 0, .int .u64 0, .int .u64 0] 40)) := by kernel_rfl
theorem mask32 (v : Nat) (h : Wd v) : bits BinOp.and IntKind.u64 (v : Int) 4294967295 = ((v % 4294967296 : Nat) : Int) := by
  have e := bits_and_u64_nat v 4294967295 h (by omega)
  rw [show (4294967295 : Nat) = 2 ^ 32 - 1 from rfl, Nat.and_two_pow_sub_one_eq_mod] at e
  exact e
def Hw (a : Nat) : Prop := a < 4294967296
theorem hw_mul {a b : Nat} (ha : Hw a) (hb : Hw b) : a * b ≤ 4294967295 * 4294967295 := Nat.mul_le_mul (by unfold Hw at ha; omega) (by unfold Hw at hb; omega)
set_option maxHeartbeats 2000000 in
set_option maxRecDepth 100000 in
theorem times22_walk (a0 a1 b0 b1 p00 p01 p10 p11 v01 v10 t11 v11 o0 c00 o1 c01 o1' c10 o2 c11 : Nat) (A B ca cb : Nat) (w : World) (hA : A < w.heap.size) (hB : B < w.heap.size)
    (ka0 : w.cell? ⟨A, 0, none⟩ = some (.int .u64 a0)) (ka1 : w.cell? ⟨A, 1, none⟩ = some (.int .u64 a1)) (kb0 : w.cell? ⟨B, 0, none⟩ = some (.int .u64 b0)) (kb1 : w.cell? ⟨B, 1, none⟩ = some (.int .u64 b1))
    (m00 : IntKind.u64.wrap ((a0 : Int) * (b0 : Int)) = (p00 : Int)) (m01 : IntKind.u64.wrap ((a0 : Int) * (b1 : Int)) = (p01 : Int)) (m10 : IntKind.u64.wrap ((a1 : Int) * (b0 : Int)) = (p10 : Int)) (m11 : IntKind.u64.wrap ((a1 : Int) * (b1 : Int)) = (p11 : Int))
    (n00 : IntKind.u64.wrap (p00 : Int) = (p00 : Int)) (n01 : IntKind.u64.wrap (p01 : Int) = (p01 : Int)) (n10 : IntKind.u64.wrap (v10 : Int) = (v10 : Int))
    (s01 : IntKind.u64.wrap ((p01 : Int) + (c00 : Int)) = (v01 : Int)) (s10 : IntKind.u64.wrap ((p10 : Int) + (o1 : Int)) = (v10 : Int)) (s11 : IntKind.u64.wrap ((p11 : Int) + (c01 : Int)) = (t11 : Int)) (r11 : IntKind.u64.wrap ((t11 : Int) + (c10 : Int)) = (v11 : Int))
    (x00 : bits BinOp.and IntKind.u64 (p00 : Int) 4294967295 = (o0 : Int)) (x01 : bits BinOp.and IntKind.u64 (v01 : Int) 4294967295 = (o1 : Int)) (x10 : bits BinOp.and IntKind.u64 (v10 : Int) 4294967295 = (o1' : Int)) (x11 : bits BinOp.and IntKind.u64 (v11 : Int) 4294967295 = (o2 : Int))
    (y00 : (p00 : Int) / 4294967296 = (c00 : Int)) (y01 : (v01 : Int) / 4294967296 = (c01 : Int)) (y10 : (v10 : Int) / 4294967296 = (c10 : Int)) (y11 : (v11 : Int) / 4294967296 = (c11 : Int)) :
    Calls Tryz.prog 128 #[.slice (some ⟨A, 0, none⟩) 2 ca, .slice (some ⟨B, 0, none⟩) 2 cb] w fun e w' => ∃ O, e = .returned (.slice (some ⟨O, 0, none⟩) 4 4) ∧ w'.cell? ⟨O, 0, none⟩ = some (.int .u64 o0) ∧ w'.cell? ⟨O, 1, none⟩ = some (.int .u64 o1') ∧ w'.cell? ⟨O, 2, none⟩ = some (.int .u64 o2) ∧ w'.cell? ⟨O, 3, none⟩ = some (.int .u64 c11) ∧ Gr w w' := by
  have hm := make4
  go_enter Tryz.func128, Tryz.ntmps128
  go_wp2_with fail
  refine wp_loop_rounds 3 ?_
  rw [rounds_succ]
  go_wp2_with fail
  refine wp_loop_rounds 3 ?_
  rw [rounds_succ]
  go_wp2_with fail
  generalize hhw0 : (w.alloc (.cells #[.int .u64 0, .int .u64 0, .int .u64 0, .int .u64 0] 40)) = w0
  have cw0_0_0 : w0.cell? ⟨A, 0, none⟩ = some (.int .u64 a0) := by subst hhw0; go_simp
  have cw0_0_1 : w0.cell? ⟨A, 1, none⟩ = some (.int .u64 a1) := by subst hhw0; go_simp
  have zw0_0 := zb cw0_0_0
  have cw0_1_0 : w0.cell? ⟨B, 0, none⟩ = some (.int .u64 b0) := by subst hhw0; go_simp
  have cw0_1_1 : w0.cell? ⟨B, 1, none⟩ = some (.int .u64 b1) := by subst hhw0; go_simp
  have zw0_1 := zb cw0_1_0
  have cw0_2_0 : w0.cell? ⟨w.heap.size, 0, none⟩ = some (.int .u64 0) := by subst hhw0; go_simp
  have fw0_2_0 : w0.frozen? ⟨w.heap.size, 0, none⟩ = false := by subst hhw0; go_simp
  have cw0_2_1 : w0.cell? ⟨w.heap.size, 1, none⟩ = some (.int .u64 0) := by subst hhw0; go_simp
  have fw0_2_1 : w0.frozen? ⟨w.heap.size, 1, none⟩ = false := by subst hhw0; go_simp
  have cw0_2_2 : w0.cell? ⟨w.heap.size, 2, none⟩ = some (.int .u64 0) := by subst hhw0; go_simp
  have fw0_2_2 : w0.frozen? ⟨w.heap.size, 2, none⟩ = false := by subst hhw0; go_simp
  have cw0_2_3 : w0.cell? ⟨w.heap.size, 3, none⟩ = some (.int .u64 0) := by subst hhw0; go_simp
  have fw0_2_3 : w0.frozen? ⟨w.heap.size, 3, none⟩ = false := by subst hhw0; go_simp
  have zw0_2 := zb cw0_2_0
  have gw0 : Gr w w0 := by subst hhw0; go_grown
  clear hhw0
  go_wp2_with fail
  refine Hd.wp_region_tail 18 (by kernel_rfl) (by kernel_rfl) ?_
  intro KQ hKQ
  repeat (first | (refine Hd.wpG_skip (by decide) rfl ?_; simp only [Act.put, List.setIfInBounds_toArray, List.set_cons_zero, List.set_cons_succ]) | (refine Hd.wpG_want (by decide) rfl ?_; apply Exists.intro; refine ⟨?_, ?_⟩; (· intro wx gx; (obtain ⟨mx, rfl⟩ := gx); all_goals (apply Hd.gAt_of_quiet; intro K hK; go_big_quiet_op; first | exact hK _ rfl | (apply Exists.intro; refine ⟨fun _ => ?_, ?_⟩; (· fail); exact hK _ rfl))); try simp only [Act.put, List.setIfInBounds_toArray, List.set_cons_zero, List.set_cons_succ]))
  refine Hd.wpG_nil (hKQ _ ?_)
  clear hKQ KQ
  intro w1 hhw1
  have hw1 := Hd.gr_of_spread hhw1
  have cw1_0_0 := cu hw1 A 0 a0 (by go_simp)
  have cw1_0_1 := cu hw1 A 1 a1 (by go_simp)
  have cw1_1_0 := cu hw1 B 0 b0 (by go_simp)
  have cw1_1_1 := cu hw1 B 1 b1 (by go_simp)
  have cw1_2_0 := cu hw1 (w.heap.size) 0 0 (by go_simp)
  have fw1_2_0 := fq hw1 (w.heap.size) 0 (.int .u64 0) (by go_simp) (by go_simp)
  have cw1_2_1 := cu hw1 (w.heap.size) 1 0 (by go_simp)
  have fw1_2_1 := fq hw1 (w.heap.size) 1 (.int .u64 0) (by go_simp) (by go_simp)
  have cw1_2_2 := cu hw1 (w.heap.size) 2 0 (by go_simp)
  have fw1_2_2 := fq hw1 (w.heap.size) 2 (.int .u64 0) (by go_simp) (by go_simp)
  have cw1_2_3 := cu hw1 (w.heap.size) 3 0 (by go_simp)
  have fw1_2_3 := fq hw1 (w.heap.size) 3 (.int .u64 0) (by go_simp) (by go_simp)
  have gw1 : Gr w w1 := Gr.trans (by have gg := gw0; have gs := gg.size; go_grown) hw1
  clear hw1 hhw1 gw0 zw0_0 cw0_0_0 cw0_0_1 zw0_1 cw0_1_0 cw0_1_1 zw0_2 cw0_2_0 fw0_2_0 cw0_2_1 fw0_2_1 cw0_2_2 fw0_2_2 cw0_2_3 fw0_2_3
  go_wp2_with fail
  rw [rounds_succ]
  go_wp2_with fail
  generalize hhw2 : (w1.setCell ⟨w.heap.size, 0, none⟩ (.int .u64 o0)) = w2
  have cw2_0_0 : w2.cell? ⟨A, 0, none⟩ = some (.int .u64 a0) := by subst hhw2; go_simp
  have cw2_0_1 : w2.cell? ⟨A, 1, none⟩ = some (.int .u64 a1) := by subst hhw2; go_simp
  have zw2_0 := zb cw2_0_0
  have cw2_1_0 : w2.cell? ⟨B, 0, none⟩ = some (.int .u64 b0) := by subst hhw2; go_simp
  have cw2_1_1 : w2.cell? ⟨B, 1, none⟩ = some (.int .u64 b1) := by subst hhw2; go_simp
  have zw2_1 := zb cw2_1_0
  have cw2_2_0 : w2.cell? ⟨w.heap.size, 0, none⟩ = some (.int .u64 o0) := by subst hhw2; go_simp
  have fw2_2_0 : w2.frozen? ⟨w.heap.size, 0, none⟩ = false := by subst hhw2; go_simp
  have cw2_2_1 : w2.cell? ⟨w.heap.size, 1, none⟩ = some (.int .u64 0) := by subst hhw2; go_simp
  have fw2_2_1 : w2.frozen? ⟨w.heap.size, 1, none⟩ = false := by subst hhw2; go_simp
  have cw2_2_2 : w2.cell? ⟨w.heap.size, 2, none⟩ = some (.int .u64 0) := by subst hhw2; go_simp
  have fw2_2_2 : w2.frozen? ⟨w.heap.size, 2, none⟩ = false := by subst hhw2; go_simp
  have cw2_2_3 : w2.cell? ⟨w.heap.size, 3, none⟩ = some (.int .u64 0) := by subst hhw2; go_simp
  have fw2_2_3 : w2.frozen? ⟨w.heap.size, 3, none⟩ = false := by subst hhw2; go_simp
  have zw2_2 := zb cw2_2_0
  have gw2 : Gr w w2 := by subst hhw2; have gg := gw1; have gs := gg.size; go_grown
  clear hhw2 gw1 cw1_0_0 cw1_0_1 cw1_1_0 cw1_1_1 cw1_2_0 fw1_2_0 cw1_2_1 fw1_2_1 cw1_2_2 fw1_2_2 cw1_2_3 fw1_2_3
  go_wp2_with fail
  refine Hd.wp_region_tail 18 (by kernel_rfl) (by kernel_rfl) ?_
  intro KQ hKQ
  repeat (first | (refine Hd.wpG_skip (by decide) rfl ?_; simp only [Act.put, List.setIfInBounds_toArray, List.set_cons_zero, List.set_cons_succ]) | (refine Hd.wpG_want (by decide) rfl ?_; apply Exists.intro; refine ⟨?_, ?_⟩; (· intro wx gx; (obtain ⟨mx, rfl⟩ := gx); all_goals (apply Hd.gAt_of_quiet; intro K hK; go_big_quiet_op; first | exact hK _ rfl | (apply Exists.intro; refine ⟨fun _ => ?_, ?_⟩; (· fail); exact hK _ rfl))); try simp only [Act.put, List.setIfInBounds_toArray, List.set_cons_zero, List.set_cons_succ]))
  refine Hd.wpG_nil (hKQ _ ?_)
  clear hKQ KQ
  intro w3 hhw3
  have hw3 := Hd.gr_of_spread hhw3
  have cw3_0_0 := cu hw3 A 0 a0 (by go_simp)
  have cw3_0_1 := cu hw3 A 1 a1 (by go_simp)
  have cw3_1_0 := cu hw3 B 0 b0 (by go_simp)
  have cw3_1_1 := cu hw3 B 1 b1 (by go_simp)
  have cw3_2_0 := cu hw3 (w.heap.size) 0 o0 (by go_simp)
  have fw3_2_0 := fq hw3 (w.heap.size) 0 (.int .u64 o0) (by go_simp) (by go_simp)
  have cw3_2_1 := cu hw3 (w.heap.size) 1 0 (by go_simp)
  have fw3_2_1 := fq hw3 (w.heap.size) 1 (.int .u64 0) (by go_simp) (by go_simp)
  have cw3_2_2 := cu hw3 (w.heap.size) 2 0 (by go_simp)
  have fw3_2_2 := fq hw3 (w.heap.size) 2 (.int .u64 0) (by go_simp) (by go_simp)
  have cw3_2_3 := cu hw3 (w.heap.size) 3 0 (by go_simp)
  have fw3_2_3 := fq hw3 (w.heap.size) 3 (.int .u64 0) (by go_simp) (by go_simp)
  have gw3 : Gr w w3 := Gr.trans (by have gg := gw2; have gs := gg.size; go_grown) hw3
  clear hw3 hhw3 gw2 zw2_0 cw2_0_0 cw2_0_1 zw2_1 cw2_1_0 cw2_1_1 zw2_2 cw2_2_0 fw2_2_0 cw2_2_1 fw2_2_1 cw2_2_2 fw2_2_2 cw2_2_3 fw2_2_3
  go_wp2_with fail
  rw [rounds_succ]
  go_wp2_with fail
  generalize hhw4 : (w3.setCell ⟨w.heap.size, 1, none⟩ (.int .u64 o1)) = w4
  have cw4_0_0 : w4.cell? ⟨A, 0, none⟩ = some (.int .u64 a0) := by subst hhw4; go_simp
  have cw4_0_1 : w4.cell? ⟨A, 1, none⟩ = some (.int .u64 a1) := by subst hhw4; go_simp
  have zw4_0 := zb cw4_0_0
  have cw4_1_0 : w4.cell? ⟨B, 0, none⟩ = some (.int .u64 b0) := by subst hhw4; go_simp
  have cw4_1_1 : w4.cell? ⟨B, 1, none⟩ = some (.int .u64 b1) := by subst hhw4; go_simp
  have zw4_1 := zb cw4_1_0
  have cw4_2_0 : w4.cell? ⟨w.heap.size, 0, none⟩ = some (.int .u64 o0) := by subst hhw4; go_simp
  have fw4_2_0 : w4.frozen? ⟨w.heap.size, 0, none⟩ = false := by subst hhw4; go_simp
  have cw4_2_1 : w4.cell? ⟨w.heap.size, 1, none⟩ = some (.int .u64 o1) := by subst hhw4; go_simp
  have fw4_2_1 : w4.frozen? ⟨w.heap.size, 1, none⟩ = false := by subst hhw4; go_simp
  have cw4_2_2 : w4.cell? ⟨w.heap.size, 2, none⟩ = some (.int .u64 0) := by subst hhw4; go_simp
  have fw4_2_2 : w4.frozen? ⟨w.heap.size, 2, none⟩ = false := by subst hhw4; go_simp
  have cw4_2_3 : w4.cell? ⟨w.heap.size, 3, none⟩ = some (.int .u64 0) := by subst hhw4; go_simp
  have fw4_2_3 : w4.frozen? ⟨w.heap.size, 3, none⟩ = false := by subst hhw4; go_simp
  have zw4_2 := zb cw4_2_0
  have gw4 : Gr w w4 := by subst hhw4; have gg := gw3; have gs := gg.size; go_grown
  clear hhw4 gw3 cw3_0_0 cw3_0_1 cw3_1_0 cw3_1_1 cw3_2_0 fw3_2_0 cw3_2_1 fw3_2_1 cw3_2_2 fw3_2_2 cw3_2_3 fw3_2_3
  go_wp2_with fail
  rw [rounds_succ]
  go_wp2_with fail
  generalize hhw5 : (w4.setCell ⟨w.heap.size, 2, none⟩ (.int .u64 c01)) = w5
  have cw5_0_0 : w5.cell? ⟨A, 0, none⟩ = some (.int .u64 a0) := by subst hhw5; go_simp
  have cw5_0_1 : w5.cell? ⟨A, 1, none⟩ = some (.int .u64 a1) := by subst hhw5; go_simp
  have zw5_0 := zb cw5_0_0
  have cw5_1_0 : w5.cell? ⟨B, 0, none⟩ = some (.int .u64 b0) := by subst hhw5; go_simp
  have cw5_1_1 : w5.cell? ⟨B, 1, none⟩ = some (.int .u64 b1) := by subst hhw5; go_simp
  have zw5_1 := zb cw5_1_0
  have cw5_2_0 : w5.cell? ⟨w.heap.size, 0, none⟩ = some (.int .u64 o0) := by subst hhw5; go_simp
  have fw5_2_0 : w5.frozen? ⟨w.heap.size, 0, none⟩ = false := by subst hhw5; go_simp
  have cw5_2_1 : w5.cell? ⟨w.heap.size, 1, none⟩ = some (.int .u64 o1) := by subst hhw5; go_simp
  have fw5_2_1 : w5.frozen? ⟨w.heap.size, 1, none⟩ = false := by subst hhw5; go_simp
  have cw5_2_2 : w5.cell? ⟨w.heap.size, 2, none⟩ = some (.int .u64 c01) := by subst hhw5; go_simp
  have fw5_2_2 : w5.frozen? ⟨w.heap.size, 2, none⟩ = false := by subst hhw5; go_simp
  have cw5_2_3 : w5.cell? ⟨w.heap.size, 3, none⟩ = some (.int .u64 0) := by subst hhw5; go_simp
  have fw5_2_3 : w5.frozen? ⟨w.heap.size, 3, none⟩ = false := by subst hhw5; go_simp
  have zw5_2 := zb cw5_2_0
  have gw5 : Gr w w5 := by subst hhw5; have gg := gw4; have gs := gg.size; go_grown
  clear hhw5 gw4 zw4_0 cw4_0_0 cw4_0_1 zw4_1 cw4_1_0 cw4_1_1 zw4_2 cw4_2_0 fw4_2_0 cw4_2_1 fw4_2_1 cw4_2_2 fw4_2_2 cw4_2_3 fw4_2_3
  refine wp_loop_rounds 3 ?_
  rw [rounds_succ]
  go_wp2_with fail
  refine Hd.wp_region_tail 18 (by kernel_rfl) (by kernel_rfl) ?_
  intro KQ hKQ
  repeat (first | (refine Hd.wpG_skip (by decide) rfl ?_; simp only [Act.put, List.setIfInBounds_toArray, List.set_cons_zero, List.set_cons_succ]) | (refine Hd.wpG_want (by decide) rfl ?_; apply Exists.intro; refine ⟨?_, ?_⟩; (· intro wx gx; (obtain ⟨mx, rfl⟩ := gx); all_goals (apply Hd.gAt_of_quiet; intro K hK; go_big_quiet_op; first | exact hK _ rfl | (apply Exists.intro; refine ⟨fun _ => ?_, ?_⟩; (· fail); exact hK _ rfl))); try simp only [Act.put, List.setIfInBounds_toArray, List.set_cons_zero, List.set_cons_succ]))
  refine Hd.wpG_nil (hKQ _ ?_)
  clear hKQ KQ
  intro w6 hhw6
  have hw6 := Hd.gr_of_spread hhw6
  have cw6_0_0 := cu hw6 A 0 a0 (by go_simp)
  have cw6_0_1 := cu hw6 A 1 a1 (by go_simp)
  have cw6_1_0 := cu hw6 B 0 b0 (by go_simp)
  have cw6_1_1 := cu hw6 B 1 b1 (by go_simp)
  have cw6_2_0 := cu hw6 (w.heap.size) 0 o0 (by go_simp)
  have fw6_2_0 := fq hw6 (w.heap.size) 0 (.int .u64 o0) (by go_simp) (by go_simp)
  have cw6_2_1 := cu hw6 (w.heap.size) 1 o1 (by go_simp)
  have fw6_2_1 := fq hw6 (w.heap.size) 1 (.int .u64 o1) (by go_simp) (by go_simp)
  have cw6_2_2 := cu hw6 (w.heap.size) 2 c01 (by go_simp)
  have fw6_2_2 := fq hw6 (w.heap.size) 2 (.int .u64 c01) (by go_simp) (by go_simp)
  have cw6_2_3 := cu hw6 (w.heap.size) 3 0 (by go_simp)
  have fw6_2_3 := fq hw6 (w.heap.size) 3 (.int .u64 0) (by go_simp) (by go_simp)
  have gw6 : Gr w w6 := Gr.trans (by have gg := gw5; have gs := gg.size; go_grown) hw6
  clear hw6 hhw6 gw5 zw5_0 cw5_0_0 cw5_0_1 zw5_1 cw5_1_0 cw5_1_1 zw5_2 cw5_2_0 fw5_2_0 cw5_2_1 fw5_2_1 cw5_2_2 fw5_2_2 cw5_2_3 fw5_2_3
  go_wp2_with fail
  rw [rounds_succ]
  go_wp2_with fail
  generalize hhw7 : (w6.setCell ⟨w.heap.size, 1, none⟩ (.int .u64 o1')) = w7
  have cw7_0_0 : w7.cell? ⟨A, 0, none⟩ = some (.int .u64 a0) := by subst hhw7; go_simp
  have cw7_0_1 : w7.cell? ⟨A, 1, none⟩ = some (.int .u64 a1) := by subst hhw7; go_simp
  have zw7_0 := zb cw7_0_0
  have cw7_1_0 : w7.cell? ⟨B, 0, none⟩ = some (.int .u64 b0) := by subst hhw7; go_simp
  have cw7_1_1 : w7.cell? ⟨B, 1, none⟩ = some (.int .u64 b1) := by subst hhw7; go_simp
  have zw7_1 := zb cw7_1_0
  have cw7_2_0 : w7.cell? ⟨w.heap.size, 0, none⟩ = some (.int .u64 o0) := by subst hhw7; go_simp
  have fw7_2_0 : w7.frozen? ⟨w.heap.size, 0, none⟩ = false := by subst hhw7; go_simp
  have cw7_2_1 : w7.cell? ⟨w.heap.size, 1, none⟩ = some (.int .u64 o1') := by subst hhw7; go_simp
  have fw7_2_1 : w7.frozen? ⟨w.heap.size, 1, none⟩ = false := by subst hhw7; go_simp
  have cw7_2_2 : w7.cell? ⟨w.heap.size, 2, none⟩ = some (.int .u64 c01) := by subst hhw7; go_simp
  have fw7_2_2 : w7.frozen? ⟨w.heap.size, 2, none⟩ = false := by subst hhw7; go_simp
  have cw7_2_3 : w7.cell? ⟨w.heap.size, 3, none⟩ = some (.int .u64 0) := by subst hhw7; go_simp
  have fw7_2_3 : w7.frozen? ⟨w.heap.size, 3, none⟩ = false := by subst hhw7; go_simp
  have zw7_2 := zb cw7_2_0
  have gw7 : Gr w w7 := by subst hhw7; have gg := gw6; have gs := gg.size; go_grown
  clear hhw7 gw6 cw6_0_0 cw6_0_1 cw6_1_0 cw6_1_1 cw6_2_0 fw6_2_0 cw6_2_1 fw6_2_1 cw6_2_2 fw6_2_2 cw6_2_3 fw6_2_3
  go_wp2_with fail
  refine Hd.wp_region_tail 18 (by kernel_rfl) (by kernel_rfl) ?_
  intro KQ hKQ
  repeat (first | (refine Hd.wpG_skip (by decide) rfl ?_; simp only [Act.put, List.setIfInBounds_toArray, List.set_cons_zero, List.set_cons_succ]) | (refine Hd.wpG_want (by decide) rfl ?_; apply Exists.intro; refine ⟨?_, ?_⟩; (· intro wx gx; (obtain ⟨mx, rfl⟩ := gx); all_goals (apply Hd.gAt_of_quiet; intro K hK; go_big_quiet_op; first | exact hK _ rfl | (apply Exists.intro; refine ⟨fun _ => ?_, ?_⟩; (· fail); exact hK _ rfl))); try simp only [Act.put, List.setIfInBounds_toArray, List.set_cons_zero, List.set_cons_succ]))
  refine Hd.wpG_nil (hKQ _ ?_)
  clear hKQ KQ
  intro w8 hhw8
  have hw8 := Hd.gr_of_spread hhw8
  have cw8_0_0 := cu hw8 A 0 a0 (by go_simp)
  have cw8_0_1 := cu hw8 A 1 a1 (by go_simp)
  have cw8_1_0 := cu hw8 B 0 b0 (by go_simp)
  have cw8_1_1 := cu hw8 B 1 b1 (by go_simp)
  have cw8_2_0 := cu hw8 (w.heap.size) 0 o0 (by go_simp)
  have fw8_2_0 := fq hw8 (w.heap.size) 0 (.int .u64 o0) (by go_simp) (by go_simp)
  have cw8_2_1 := cu hw8 (w.heap.size) 1 o1' (by go_simp)
  have fw8_2_1 := fq hw8 (w.heap.size) 1 (.int .u64 o1') (by go_simp) (by go_simp)
  have cw8_2_2 := cu hw8 (w.heap.size) 2 c01 (by go_simp)
  have fw8_2_2 := fq hw8 (w.heap.size) 2 (.int .u64 c01) (by go_simp) (by go_simp)
  have cw8_2_3 := cu hw8 (w.heap.size) 3 0 (by go_simp)
  have fw8_2_3 := fq hw8 (w.heap.size) 3 (.int .u64 0) (by go_simp) (by go_simp)
  have gw8 : Gr w w8 := Gr.trans (by have gg := gw7; have gs := gg.size; go_grown) hw8
  clear hw8 hhw8 gw7 zw7_0 cw7_0_0 cw7_0_1 zw7_1 cw7_1_0 cw7_1_1 zw7_2 cw7_2_0 fw7_2_0 cw7_2_1 fw7_2_1 cw7_2_2 fw7_2_2 cw7_2_3 fw7_2_3
  go_wp2_with fail
  rw [rounds_succ]
  go_wp2_with fail
  generalize hhw9 : (w8.setCell ⟨w.heap.size, 2, none⟩ (.int .u64 o2)) = w9
  have cw9_0_0 : w9.cell? ⟨A, 0, none⟩ = some (.int .u64 a0) := by subst hhw9; go_simp
  have cw9_0_1 : w9.cell? ⟨A, 1, none⟩ = some (.int .u64 a1) := by subst hhw9; go_simp
  have zw9_0 := zb cw9_0_0
  have cw9_1_0 : w9.cell? ⟨B, 0, none⟩ = some (.int .u64 b0) := by subst hhw9; go_simp
  have cw9_1_1 : w9.cell? ⟨B, 1, none⟩ = some (.int .u64 b1) := by subst hhw9; go_simp
  have zw9_1 := zb cw9_1_0
  have cw9_2_0 : w9.cell? ⟨w.heap.size, 0, none⟩ = some (.int .u64 o0) := by subst hhw9; go_simp
  have fw9_2_0 : w9.frozen? ⟨w.heap.size, 0, none⟩ = false := by subst hhw9; go_simp
  have cw9_2_1 : w9.cell? ⟨w.heap.size, 1, none⟩ = some (.int .u64 o1') := by subst hhw9; go_simp
  have fw9_2_1 : w9.frozen? ⟨w.heap.size, 1, none⟩ = false := by subst hhw9; go_simp
  have cw9_2_2 : w9.cell? ⟨w.heap.size, 2, none⟩ = some (.int .u64 o2) := by subst hhw9; go_simp
  have fw9_2_2 : w9.frozen? ⟨w.heap.size, 2, none⟩ = false := by subst hhw9; go_simp
  have cw9_2_3 : w9.cell? ⟨w.heap.size, 3, none⟩ = some (.int .u64 0) := by subst hhw9; go_simp
  have fw9_2_3 : w9.frozen? ⟨w.heap.size, 3, none⟩ = false := by subst hhw9; go_simp
  have zw9_2 := zb cw9_2_0
  have gw9 : Gr w w9 := by subst hhw9; have gg := gw8; have gs := gg.size; go_grown
  clear hhw9 gw8 cw8_0_0 cw8_0_1 cw8_1_0 cw8_1_1 cw8_2_0 fw8_2_0 cw8_2_1 fw8_2_1 cw8_2_2 fw8_2_2 cw8_2_3 fw8_2_3
  go_wp2_with fail
  rw [rounds_succ]
  go_wp2_with fail
  generalize hhw10 : (w9.setCell ⟨w.heap.size, 3, none⟩ (.int .u64 c11)) = w10
  have cw10_0_0 : w10.cell? ⟨A, 0, none⟩ = some (.int .u64 a0) := by subst hhw10; go_simp
  have cw10_0_1 : w10.cell? ⟨A, 1, none⟩ = some (.int .u64 a1) := by subst hhw10; go_simp
  have zw10_0 := zb cw10_0_0
  have cw10_1_0 : w10.cell? ⟨B, 0, none⟩ = some (.int .u64 b0) := by subst hhw10; go_simp
  have cw10_1_1 : w10.cell? ⟨B, 1, none⟩ = some (.int .u64 b1) := by subst hhw10; go_simp
  have zw10_1 := zb cw10_1_0
  have cw10_2_0 : w10.cell? ⟨w.heap.size, 0, none⟩ = some (.int .u64 o0) := by subst hhw10; go_simp
  have fw10_2_0 : w10.frozen? ⟨w.heap.size, 0, none⟩ = false := by subst hhw10; go_simp
  have cw10_2_1 : w10.cell? ⟨w.heap.size, 1, none⟩ = some (.int .u64 o1') := by subst hhw10; go_simp
  have fw10_2_1 : w10.frozen? ⟨w.heap.size, 1, none⟩ = false := by subst hhw10; go_simp
  have cw10_2_2 : w10.cell? ⟨w.heap.size, 2, none⟩ = some (.int .u64 o2) := by subst hhw10; go_simp
  have fw10_2_2 : w10.frozen? ⟨w.heap.size, 2, none⟩ = false := by subst hhw10; go_simp
  have cw10_2_3 : w10.cell? ⟨w.heap.size, 3, none⟩ = some (.int .u64 c11) := by subst hhw10; go_simp
  have fw10_2_3 : w10.frozen? ⟨w.heap.size, 3, none⟩ = false := by subst hhw10; go_simp
  have zw10_2 := zb cw10_2_0
  have gw10 : Gr w w10 := by subst hhw10; have gg := gw9; have gs := gg.size; go_grown
  clear hhw10 gw9 zw9_0 cw9_0_0 cw9_0_1 zw9_1 cw9_1_0 cw9_1_1 zw9_2 cw9_2_0 fw9_2_0 cw9_2_1 fw9_2_1 cw9_2_2 fw9_2_2 cw9_2_3 fw9_2_3
  go_wp2_with fail
  go_ret
  exact ⟨w.heap.size, rfl, by go_simp, by go_simp, by go_simp, by go_simp, gw10⟩
end Go.Proofs.YtfobmlgpjhghdaaGreatDoor
namespace Go.Proofs.YtfobmlgpjhghdaaGreatDoor
set_option linter.unusedVariables false
open Go.ChangeShapes Go.WideShapes Go.ChangeAt Go.RowKit
theorem or_words (x y : Nat) (hx : Hw x) (hy : Hw y) : bits BinOp.or IntKind.u64 (x : Int) ((y * 4294967296 : Nat) : Int) = ((x + y * 4294967296 : Nat) : Int) := by
  refine or_u64 x (y * 4294967296) (by unfold Hw at hx; unfold Wd; omega) (by unfold Hw at hy; unfold Wd; omega) ?_
  have h := Nat.two_pow_add_eq_or_of_lt (i := 32) (b := x) (by unfold Hw at hx; omega) y
  rw [show 2 ^ 32 * y = y * 4294967296 by omega] at h
  rw [Nat.or_comm, ← h, Nat.add_comm]
set_option maxRecDepth 100000 in
theorem c_join0 (O n cap x y : Nat) (w : World) (hn : (2 : Int) ≤ (n : Int)) (hx : Hw x) (hy : Hw y) (k0 : w.cell? ⟨O, 0, none⟩ = some (.int .u64 x)) (k1 : w.cell? ⟨O, 1, none⟩ = some (.int .u64 y)) :
    Calls Tryz.prog 130 #[.slice (some ⟨O, 0, none⟩) n cap, .int .i64 0] w fun e w' => e = .returned (.int .u64 ((x + y * 4294967296 : Nat) : Int)) ∧ Gr w w' := by
  have q1 : IntKind.u64.wrap ((y : Int) * 4294967296) = ((y * 4294967296 : Nat) : Int) := by
    rw [IntKind.wrap_u64]; unfold Hw at hy; omega
  have q2 := or_words x y hx hy
  obtain ⟨z, hz⟩ : ∃ z, z = y * 4294967296 := ⟨_, rfl⟩
  obtain ⟨s, hs⟩ : ∃ s, s = x + y * 4294967296 := ⟨_, rfl⟩
  rw [← hs, ← hz] at q2
  rw [← hz] at q1
  rw [← hs]
  clear hs hz hx hy
  have l0 : (0 : Int) < (n : Int) := by omega
  have l1 : (1 : Int) < (n : Int) := by omega
  have l2 : 0 < n := by omega
  have l3 : 1 < n := by omega
  clear hn
  go_enter Tryz.func130, Tryz.ntmps130
  go_wp2_with fail
  refine wp_region_spread (by kernel_rfl) (by kernel_rfl) ?_
  try simp only [List.append]
  repeat (first | go_big_quiet_skip | (go_big_quiet_want; go_big_quiet_op; (first | go_big_quiet_on | (apply Exists.intro; refine ⟨fun _ => ?_, ?_⟩; (· fail); go_big_quiet_on))))
  refine wpQuiet_nil ?_
  intro wr hr
  obtain ⟨mr, rfl⟩ := hr
  go_wp2_with fail
  go_ret
  exact ⟨rfl, Gr.trans (by go_grown) (gr_spread _ _)⟩
set_option maxRecDepth 100000 in
theorem c_join1 (O n cap x y : Nat) (w : World) (hn : (4 : Int) ≤ (n : Int)) (hx : Hw x) (hy : Hw y) (k0 : w.cell? ⟨O, 2, none⟩ = some (.int .u64 x)) (k1 : w.cell? ⟨O, 3, none⟩ = some (.int .u64 y)) :
    Calls Tryz.prog 130 #[.slice (some ⟨O, 0, none⟩) n cap, .int .i64 1] w fun e w' => e = .returned (.int .u64 ((x + y * 4294967296 : Nat) : Int)) ∧ Gr w w' := by
  have q1 : IntKind.u64.wrap ((y : Int) * 4294967296) = ((y * 4294967296 : Nat) : Int) := by
    rw [IntKind.wrap_u64]; unfold Hw at hy; omega
  have q2 := or_words x y hx hy
  obtain ⟨z, hz⟩ : ∃ z, z = y * 4294967296 := ⟨_, rfl⟩
  obtain ⟨s, hs⟩ : ∃ s, s = x + y * 4294967296 := ⟨_, rfl⟩
  rw [← hs, ← hz] at q2
  rw [← hz] at q1
  rw [← hs]
  clear hs hz hx hy
  have l0 : (2 : Int) < (n : Int) := by omega
  have l1 : (3 : Int) < (n : Int) := by omega
  have l2 : 2 < n := by omega
  have l3 : 3 < n := by omega
  clear hn
  go_enter Tryz.func130, Tryz.ntmps130
  go_wp2_with fail
  refine wp_region_spread (by kernel_rfl) (by kernel_rfl) ?_
  try simp only [List.append]
  repeat (first | go_big_quiet_skip | (go_big_quiet_want; go_big_quiet_op; (first | go_big_quiet_on | (apply Exists.intro; refine ⟨fun _ => ?_, ?_⟩; (· fail); go_big_quiet_on))))
  refine wpQuiet_nil ?_
  intro wr hr
  obtain ⟨mr, rfl⟩ := hr
  go_wp2_with fail
  go_ret
  exact ⟨rfl, Gr.trans (by go_grown) (gr_spread _ _)⟩
set_option maxRecDepth 100000 in
theorem c_join2 (O n cap x y : Nat) (w : World) (hn : (6 : Int) ≤ (n : Int)) (hx : Hw x) (hy : Hw y) (k0 : w.cell? ⟨O, 4, none⟩ = some (.int .u64 x)) (k1 : w.cell? ⟨O, 5, none⟩ = some (.int .u64 y)) :
    Calls Tryz.prog 130 #[.slice (some ⟨O, 0, none⟩) n cap, .int .i64 2] w fun e w' => e = .returned (.int .u64 ((x + y * 4294967296 : Nat) : Int)) ∧ Gr w w' := by
  have q1 : IntKind.u64.wrap ((y : Int) * 4294967296) = ((y * 4294967296 : Nat) : Int) := by
    rw [IntKind.wrap_u64]; unfold Hw at hy; omega
  have q2 := or_words x y hx hy
  obtain ⟨z, hz⟩ : ∃ z, z = y * 4294967296 := ⟨_, rfl⟩
  obtain ⟨s, hs⟩ : ∃ s, s = x + y * 4294967296 := ⟨_, rfl⟩
  rw [← hs, ← hz] at q2
  rw [← hz] at q1
  rw [← hs]
  clear hs hz hx hy
  have l0 : (4 : Int) < (n : Int) := by omega
  have l1 : (5 : Int) < (n : Int) := by omega
  have l2 : 4 < n := by omega
  have l3 : 5 < n := by omega
  clear hn
  go_enter Tryz.func130, Tryz.ntmps130
  go_wp2_with fail
  refine wp_region_spread (by kernel_rfl) (by kernel_rfl) ?_
  try simp only [List.append]
  repeat (first | go_big_quiet_skip | (go_big_quiet_want; go_big_quiet_op; (first | go_big_quiet_on | (apply Exists.intro; refine ⟨fun _ => ?_, ?_⟩; (· fail); go_big_quiet_on))))
  refine wpQuiet_nil ?_
  intro wr hr
  obtain ⟨mr, rfl⟩ := hr
  go_wp2_with fail
  go_ret
  exact ⟨rfl, Gr.trans (by go_grown) (gr_spread _ _)⟩
theorem c_times22 (a0 a1 b0 b1 : Nat) (h1 : Hw a0) (h2 : Hw a1) (h3 : Hw b0) (h4 : Hw b1) : ∃ o0 o1 o2 o3 : Nat, Hw o0 ∧ Hw o1 ∧ Hw o2 ∧ Hw o3 ∧
    (a0 + a1 * 4294967296) * (b0 + b1 * 4294967296) = (o0 + o1 * 4294967296) + (o2 + o3 * 4294967296) * 18446744073709551616 ∧
    ∀ (A B ca cb : Nat) (w : World), A < w.heap.size → B < w.heap.size → w.cell? ⟨A, 0, none⟩ = some (.int .u64 a0) → w.cell? ⟨A, 1, none⟩ = some (.int .u64 a1) → w.cell? ⟨B, 0, none⟩ = some (.int .u64 b0) → w.cell? ⟨B, 1, none⟩ = some (.int .u64 b1) →
    Calls Tryz.prog 128 #[.slice (some ⟨A, 0, none⟩) 2 ca, .slice (some ⟨B, 0, none⟩) 2 cb] w fun e w' => ∃ O, e = .returned (.slice (some ⟨O, 0, none⟩) 4 4) ∧ w'.cell? ⟨O, 0, none⟩ = some (.int .u64 o0) ∧ w'.cell? ⟨O, 1, none⟩ = some (.int .u64 o1) ∧ w'.cell? ⟨O, 2, none⟩ = some (.int .u64 o2) ∧ w'.cell? ⟨O, 3, none⟩ = some (.int .u64 o3) ∧ Gr w w' := by
  have b00 := hw_mul h1 h3
  have b01 := hw_mul h1 h4
  have b10 := hw_mul h2 h3
  have b11 := hw_mul h2 h4
  obtain ⟨p00, e00⟩ : ∃ p, p = a0 * b0 := ⟨_, rfl⟩
  obtain ⟨p01, e01⟩ : ∃ p, p = a0 * b1 := ⟨_, rfl⟩
  obtain ⟨p10, e10⟩ : ∃ p, p = a1 * b0 := ⟨_, rfl⟩
  obtain ⟨p11, e11⟩ : ∃ p, p = a1 * b1 := ⟨_, rfl⟩
  have eP : (a0 + a1 * 4294967296) * (b0 + b1 * 4294967296) = p00 + (p01 + p10) * 4294967296 + p11 * 18446744073709551616 := by
    rw [e00, e01, e10, e11]; grind
  rw [eP]
  have m00 : IntKind.u64.wrap ((a0 : Int) * (b0 : Int)) = (p00 : Int) := by rw [← Int.natCast_mul, ← e00]; exact IntWalk.u64_in _ (by omega)
  have m01 : IntKind.u64.wrap ((a0 : Int) * (b1 : Int)) = (p01 : Int) := by rw [← Int.natCast_mul, ← e01]; exact IntWalk.u64_in _ (by omega)
  have m10 : IntKind.u64.wrap ((a1 : Int) * (b0 : Int)) = (p10 : Int) := by rw [← Int.natCast_mul, ← e10]; exact IntWalk.u64_in _ (by omega)
  have m11 : IntKind.u64.wrap ((a1 : Int) * (b1 : Int)) = (p11 : Int) := by rw [← Int.natCast_mul, ← e11]; exact IntWalk.u64_in _ (by omega)
  rw [← e00] at b00
  rw [← e01] at b01
  rw [← e10] at b10
  rw [← e11] at b11
  clear eP e00 e01 e10 e11 h1 h2 h3 h4
  obtain ⟨c00, ec00⟩ : ∃ c, c = p00 / 4294967296 := ⟨_, rfl⟩
  obtain ⟨v01, ev01⟩ : ∃ v, v = p01 + c00 := ⟨_, rfl⟩
  obtain ⟨o1, eo1⟩ : ∃ v, v = v01 % 4294967296 := ⟨_, rfl⟩
  obtain ⟨c01, ec01⟩ : ∃ v, v = v01 / 4294967296 := ⟨_, rfl⟩
  obtain ⟨v10, ev10⟩ : ∃ v, v = p10 + o1 := ⟨_, rfl⟩
  obtain ⟨c10, ec10⟩ : ∃ v, v = v10 / 4294967296 := ⟨_, rfl⟩
  obtain ⟨t11, et11⟩ : ∃ v, v = p11 + c01 := ⟨_, rfl⟩
  obtain ⟨v11, ev11⟩ : ∃ v, v = t11 + c10 := ⟨_, rfl⟩
  refine ⟨p00 % 4294967296, v10 % 4294967296, v11 % 4294967296, v11 / 4294967296, by unfold Hw; omega, by unfold Hw; omega, by unfold Hw; omega, by unfold Hw; omega, by omega, fun A B ca cb w hA hB k1 k2 k3 k4 => ?_⟩
  exact times22_walk a0 a1 b0 b1 p00 p01 p10 p11 v01 v10 t11 v11 _ c00 o1 c01 _ c10 _ _ A B ca cb w hA hB k1 k2 k3 k4 m00 m01 m10 m11
    (IntWalk.u64_in _ (by omega)) (IntWalk.u64_in _ (by omega)) (IntWalk.u64_in _ (by omega))
    (by rw [← Int.natCast_add, ← ev01]; exact IntWalk.u64_in _ (by omega)) (by rw [← Int.natCast_add, ← ev10]; exact IntWalk.u64_in _ (by omega)) (by rw [← Int.natCast_add, ← et11]; exact IntWalk.u64_in _ (by omega)) (by rw [← Int.natCast_add, ← ev11]; exact IntWalk.u64_in _ (by omega))
    (mask32 _ (by unfold Wd; omega)) (by rw [mask32 _ (by unfold Wd; omega), eo1]) (mask32 _ (by unfold Wd; omega)) (mask32 _ (by unfold Wd; omega))
    (by omega) (by omega) (by omega) (by omega)
set_option maxHeartbeats 1000000 in
set_option maxRecDepth 100000 in
theorem c_rMul (a b : Nat) (ha : Wd a) (hb : Wd b) (w : World) :
    Calls Tryz.prog 122 #[.int .u64 a, .int .u64 b] w fun e w' => e = .returned (.agg #[.int .u64 (a * b / 18446744073709551616 : Nat), .int .u64 (a * b % 18446744073709551616 : Nat)]) ∧ Gr w w' := by
  obtain ⟨o0, o1, o2, o3, g0, g1, g2, g3, eq, T⟩ := c_times22 (a % 4294967296) (a / 4294967296) (b % 4294967296) (b / 4294967296) (by unfold Hw; omega) (by unfold Hw Wd at *; omega) (by unfold Hw; omega) (by unfold Hw Wd at *; omega)
  rw [show a % 4294967296 + a / 4294967296 * 4294967296 = a by omega, show b % 4294967296 + b / 4294967296 * 4294967296 = b by omega] at eq
  obtain ⟨hi, ehi⟩ : ∃ x, x = a * b / 18446744073709551616 := ⟨_, rfl⟩
  obtain ⟨lo, elo⟩ : ∃ x, x = a * b % 18446744073709551616 := ⟨_, rfl⟩
  have e1 : o2 + o3 * 4294967296 = hi := by rw [ehi, eq]; unfold Hw at *; omega
  have e2 : o0 + o1 * 4294967296 = lo := by rw [elo, eq]; unfold Hw at *; omega
  rw [← ehi, ← elo]
  have W1 := c_words1 a ha
  have W2 := c_words1 b hb
  have J0 := fun O w k0 k1 => c_join0 O 4 4 o0 o1 w (by omega) g0 g1 k0 k1
  have J1 := fun O w k0 k1 => c_join1 O 4 4 o2 o3 w (by omega) g2 g3 k0 k1
  rw [e2] at J0
  rw [e1] at J1
  have H1 := Lib.hid W1
  have H2 := Lib.hid W2
  have H3 := Lib.hid T
  have H4 := Lib.hid J0
  have H5 := Lib.hid J1
  obtain ⟨a0, ea0⟩ : ∃ x, x = a % 4294967296 := ⟨_, rfl⟩
  obtain ⟨a1, ea1⟩ : ∃ x, x = a / 4294967296 := ⟨_, rfl⟩
  obtain ⟨b0, eb0⟩ : ∃ x, x = b % 4294967296 := ⟨_, rfl⟩
  obtain ⟨b1, eb1⟩ : ∃ x, x = b / 4294967296 := ⟨_, rfl⟩
  rw [← ea0, ← ea1] at H1
  rw [← eb0, ← eb1] at H2
  rw [← ea0, ← ea1, ← eb0, ← eb1] at H3
  clear W1 W2 T J0 J1 e1 e2 ehi elo eq g0 g1 g2 g3 ea0 ea1 eb0 eb1 ha hb
  go_enter Tryz.func122, Tryz.ntmps122
  go_wp2_with fail
  go_at_call 129
  refine (H1.out _ _ (by simp) (by go_simp)).mono ?_
  rintro e w1 ⟨A, ca, rfl, hA, ka0, ka1, h1⟩
  have r0 : w1.cell? ⟨w.heap.size, 0, none⟩ = some (.int .u64 0) := cell_gr h1 (by go_simp)
  have r1 : w1.cell? ⟨w.heap.size, 1, none⟩ = some (.int .u64 0) := cell_gr h1 (by go_simp)
  have f0 := fq h1 (w.heap.size) 0 (.int .u64 0) (by go_simp) (by go_simp)
  have f1 := fq h1 (w.heap.size) 1 (.int .u64 0) (by go_simp) (by go_simp)
  have zr := World.block_lt_of_cell? _ _ r0
  have zA := World.block_lt_of_cell? _ _ ka0
  have gw1 : Gr w w1 := Gr.trans (by go_grown) h1
  clear h1 hA
  go_wp2_with fail
  go_at_call 129
  refine (H2.out _ _ (by simp) (by go_simp)).mono ?_
  rintro e w2 ⟨B, cb, rfl, hB, kb0, kb1, h2⟩
  have h2' : Gr w1 w2 := Gr.trans (by go_grown) h2
  have gw2 : Gr w w2 := Gr.trans gw1 h2'
  have f0' := frozen_gr h2' r0 f0
  have f1' := frozen_gr h2' r1 f1
  replace r0 := cell_gr h2' r0
  replace r1 := cell_gr h2' r1
  replace ka0 := cell_gr h2' ka0
  replace ka1 := cell_gr h2' ka1
  clear f0 f1 zr zA
  have zr := World.block_lt_of_cell? _ _ r0
  have zA := World.block_lt_of_cell? _ _ ka0
  have zB := World.block_lt_of_cell? _ _ kb0
  clear h2 hB h2' gw1
  go_wp2_with fail
  go_at_call 128
  refine (H3.out _ _ _ _ _ zA zB ka0 ka1 kb0 kb1).mono ?_
  rintro e w3 ⟨O, rfl, k0, k1, k2, k3, h3⟩
  have f0 := frozen_gr h3 r0 f0'
  have f1 := frozen_gr h3 r1 f1'
  replace r0 := cell_gr h3 r0
  replace r1 := cell_gr h3 r1
  have gw3 : Gr w w3 := Gr.trans gw2 h3
  clear f0' f1' zr zA zB ka0 ka1 kb0 kb1 h3 gw2
  have zr := World.block_lt_of_cell? _ _ r0
  have zO := World.block_lt_of_cell? _ _ k0
  go_wp2_with fail
  go_at_call 130
  refine ((H5.out _ _ (by go_simp) (by go_simp))).mono ?_
  rintro e w4 ⟨rfl, hw4⟩
  have cw4_0_0 := cu hw4 (w.heap.size) 0 0 (by go_simp)
  have fw4_0_0 := fq hw4 (w.heap.size) 0 (.int .u64 0) (by go_simp) (by go_simp)
  have cw4_0_1 := cu hw4 (w.heap.size) 1 0 (by go_simp)
  have fw4_0_1 := fq hw4 (w.heap.size) 1 (.int .u64 0) (by go_simp) (by go_simp)
  have cw4_1_0 := cu hw4 O 0 o0 (by go_simp)
  have cw4_1_1 := cu hw4 O 1 o1 (by go_simp)
  have gw4 : Gr w w4 := Gr.trans (by have gg := gw3; have gs := gg.size; go_grown) hw4
  clear hw4 gw3
  go_wp2_with fail
  go_at_call 130
  refine ((H4.out _ _ (by go_simp) (by go_simp))).mono ?_
  rintro e w5 ⟨rfl, hw5⟩
  have cw5_0_0 := cu hw5 (w.heap.size) 0 0 (by go_simp)
  have fw5_0_0 := fq hw5 (w.heap.size) 0 (.int .u64 0) (by go_simp) (by go_simp)
  have cw5_0_1 := cu hw5 (w.heap.size) 1 0 (by go_simp)
  have fw5_0_1 := fq hw5 (w.heap.size) 1 (.int .u64 0) (by go_simp) (by go_simp)
  have gw5 : Gr w w5 := Gr.trans (by have gg := gw4; have gs := gg.size; go_grown) hw5
  clear hw5 gw4 cw4_0_0 fw4_0_0 cw4_0_1 fw4_0_1 cw4_1_0 cw4_1_1
  go_wp2_with fail
  refine bodyPost_ret (v := .agg #[.int .u64 hi, .int .u64 lo]) (by simp [results, Tryz.results122, go_sem, *]) rfl ⟨rfl, by have gg := gw5; have gs := gg.size; go_grown⟩
end Go.Proofs.YtfobmlgpjhghdaaGreatDoor
namespace Go.Proofs.YtfobmlgpjhghdaaGreatDoor
set_option linter.unusedVariables false
open Go.ChangeShapes Go.WideShapes Go.ChangeAt Go.RowKit
set_option maxRecDepth 100000 in
theorem c_rSquare (n : Int) (h : -9223372036854775808 ≤ n ∧ n ≤ 9223372036854775807) (w : World) :
    Calls Tryz.prog 84 #[.int .i64 n] w fun e w' => e = .returned (.agg #[.int .u64 (n.natAbs * n.natAbs / 18446744073709551616 : Nat), .int .u64 (n.natAbs * n.natAbs % 18446744073709551616 : Nat)]) ∧ Gr w w' := by
  have A1 : ∀ w, Calls Tryz.prog 123 #[.int .i64 n] w fun e w' => e = .returned (.int .u64 (n.natAbs : Int)) ∧ Gr w w' := fun w => (c_Abs n h w).mono fun e w' ⟨h1, h2⟩ => ⟨h1, Gr.of_eq h2⟩
  have A2 := c_rMul n.natAbs n.natAbs (by unfold Wd; omega) (by unfold Wd; omega)
  generalize n.natAbs * n.natAbs / 18446744073709551616 = hi at *
  generalize n.natAbs * n.natAbs % 18446744073709551616 = lo at *
  generalize n.natAbs = x at *
  have H1 := Lib.hid A1
  have H2 := Lib.hid A2
  clear A1 A2 h
  go_enter Tryz.func84, Tryz.ntmps84
  go_wp2_with fail
  go_at_call 123
  refine ((H1.out _)).mono ?_
  rintro e w1 ⟨rfl, hw1⟩
  have cw1_0_0 := cu hw1 (w.heap.size) 0 0 (by go_simp)
  have fw1_0_0 := fq hw1 (w.heap.size) 0 (.int .u64 0) (by go_simp) (by go_simp)
  have cw1_0_1 := cu hw1 (w.heap.size) 1 0 (by go_simp)
  have fw1_0_1 := fq hw1 (w.heap.size) 1 (.int .u64 0) (by go_simp) (by go_simp)
  have gw1 : Gr w w1 := Gr.trans (by go_grown) hw1
  clear hw1
  go_wp2_with fail
  go_at_call 123
  refine ((H1.out _)).mono ?_
  rintro e w2 ⟨rfl, hw2⟩
  have cw2_0_0 := cu hw2 (w.heap.size) 0 0 (by go_simp)
  have fw2_0_0 := fq hw2 (w.heap.size) 0 (.int .u64 0) (by go_simp) (by go_simp)
  have cw2_0_1 := cu hw2 (w.heap.size) 1 0 (by go_simp)
  have fw2_0_1 := fq hw2 (w.heap.size) 1 (.int .u64 0) (by go_simp) (by go_simp)
  have gw2 : Gr w w2 := Gr.trans (by have gg := gw1; have gs := gg.size; go_grown) hw2
  clear hw2 gw1 cw1_0_0 fw1_0_0 cw1_0_1 fw1_0_1
  go_wp2_with fail
  go_at_call 122
  refine ((H2.out _)).mono ?_
  rintro e w3 ⟨rfl, hw3⟩
  have cw3_0_0 := cu hw3 (w.heap.size) 0 0 (by go_simp)
  have fw3_0_0 := fq hw3 (w.heap.size) 0 (.int .u64 0) (by go_simp) (by go_simp)
  have cw3_0_1 := cu hw3 (w.heap.size) 1 0 (by go_simp)
  have fw3_0_1 := fq hw3 (w.heap.size) 1 (.int .u64 0) (by go_simp) (by go_simp)
  have gw3 : Gr w w3 := Gr.trans (by have gg := gw2; have gs := gg.size; go_grown) hw3
  clear hw3 gw2 cw2_0_0 fw2_0_0 cw2_0_1 fw2_0_1
  go_wp2_with fail
  refine bodyPost_ret (v := .agg #[.int .u64 hi, .int .u64 lo]) (by simp [results, Tryz.results84, go_sem, *]) rfl ⟨rfl, by have gg := gw3; have gs := gg.size; go_grown⟩
theorem c_gcd10 (w : World) : Calls Tryz.prog 94 #[.int .u64 1, .int .u64 0] w fun e w' => e = .returned (.int .u64 1) ∧ Gr w w' := by
  go_enter Tryz.func94, Tryz.ntmps94
  go_wp2_with fail
  refine wp_loop_rounds 1 ?_
  rw [rounds_succ]
  go_wp2_with fail
  go_ret
  exact ⟨rfl, by go_grown⟩
theorem c_rDiv1 (h l : Nat) (h1 : Wd h) (h2 : Wd l) (w : World) : Calls Tryz.prog 93 #[.agg #[.int .u64 h, .int .u64 l], .int .u64 1] w fun e w' => e = .returned (.tuple #[.agg #[.int .u64 h, .int .u64 l], .int .u64 0]) ∧ Gr w w' := by
  have D := c_rDiv h l 1 h1 h2 (by unfold Wd; omega) (by omega) w
  rw [Nat.div_one, Nat.mod_one, show val h l / 18446744073709551616 = h by unfold val Wd at *; omega, show val h l % 18446744073709551616 = l by unfold val Wd at *; omega] at D
  exact D
set_option maxHeartbeats 1000000 in
set_option maxRecDepth 100000 in
theorem c_Lowest1 (h l : Nat) (h1 : Wd h) (h2 : Wd l) (w : World) : Calls Tryz.prog 57 #[.agg #[.int .u64 h, .int .u64 l], .int .u64 1] w fun e w' => e = .returned (.agg #[.int .u64 h, .int .u64 l, .int .u64 1]) ∧ Gr w w' := by
  have H1 := Lib.hid (c_rDiv1 h l h1 h2)
  clear h1 h2
  go_enter Tryz.func57, Tryz.ntmps57
  go_wp2_with fail
  go_at_call 93
  refine ((H1.out _)).mono ?_
  rintro e w1 ⟨rfl, hw1⟩
  have cw1_0_0 := cu hw1 (w.heap.size) 0 h (by go_simp)
  have fw1_0_0 := fq hw1 (w.heap.size) 0 (.int .u64 h) (by go_simp) (by go_simp)
  have cw1_0_1 := cu hw1 (w.heap.size) 1 l (by go_simp)
  have fw1_0_1 := fq hw1 (w.heap.size) 1 (.int .u64 l) (by go_simp) (by go_simp)
  have zw1_0 := zb cw1_0_0
  have cw1_1_0 := cu hw1 (w.heap.size + 1) 0 0 (by go_simp)
  have fw1_1_0 := fq hw1 (w.heap.size + 1) 0 (.int .u64 0) (by go_simp) (by go_simp)
  have cw1_1_1 := cu hw1 (w.heap.size + 1) 1 0 (by go_simp)
  have fw1_1_1 := fq hw1 (w.heap.size + 1) 1 (.int .u64 0) (by go_simp) (by go_simp)
  have cw1_1_2 := cu hw1 (w.heap.size + 1) 2 0 (by go_simp)
  have fw1_1_2 := fq hw1 (w.heap.size + 1) 2 (.int .u64 0) (by go_simp) (by go_simp)
  have zw1_1 := zb cw1_1_0
  have gw1 : Gr w w1 := Gr.trans (by go_grown) hw1
  clear hw1
  go_wp2_with fail
  go_at_call 94
  refine ((c_gcd10 _)).mono ?_
  rintro e w2 ⟨rfl, hw2⟩
  have cw2_0_0 := cu hw2 (w.heap.size) 0 h (by go_simp)
  have fw2_0_0 := fq hw2 (w.heap.size) 0 (.int .u64 h) (by go_simp) (by go_simp)
  have cw2_0_1 := cu hw2 (w.heap.size) 1 l (by go_simp)
  have fw2_0_1 := fq hw2 (w.heap.size) 1 (.int .u64 l) (by go_simp) (by go_simp)
  have cw2_1_0 := cu hw2 (w.heap.size + 1) 0 0 (by go_simp)
  have fw2_1_0 := fq hw2 (w.heap.size + 1) 0 (.int .u64 0) (by go_simp) (by go_simp)
  have cw2_1_1 := cu hw2 (w.heap.size + 1) 1 0 (by go_simp)
  have fw2_1_1 := fq hw2 (w.heap.size + 1) 1 (.int .u64 0) (by go_simp) (by go_simp)
  have cw2_1_2 := cu hw2 (w.heap.size + 1) 2 0 (by go_simp)
  have fw2_1_2 := fq hw2 (w.heap.size + 1) 2 (.int .u64 0) (by go_simp) (by go_simp)
  have gw2 : Gr w w2 := Gr.trans (by have gg := gw1; have gs := gg.size; go_grown) hw2
  clear hw2 gw1 zw1_0 cw1_0_0 fw1_0_0 cw1_0_1 fw1_0_1 zw1_1 cw1_1_0 fw1_1_0 cw1_1_1 fw1_1_1 cw1_1_2 fw1_1_2
  go_wp2_with fail
  go_at_call 93
  refine ((H1.out _)).mono ?_
  rintro e w3 ⟨rfl, hw3⟩
  have cw3_0_0 := cu hw3 (w.heap.size) 0 h (by go_simp)
  have fw3_0_0 := fq hw3 (w.heap.size) 0 (.int .u64 h) (by go_simp) (by go_simp)
  have cw3_0_1 := cu hw3 (w.heap.size) 1 l (by go_simp)
  have fw3_0_1 := fq hw3 (w.heap.size) 1 (.int .u64 l) (by go_simp) (by go_simp)
  have zw3_0 := zb cw3_0_0
  have cw3_1_0 := cu hw3 (w.heap.size + 1) 0 0 (by go_simp)
  have fw3_1_0 := fq hw3 (w.heap.size + 1) 0 (.int .u64 0) (by go_simp) (by go_simp)
  have cw3_1_1 := cu hw3 (w.heap.size + 1) 1 0 (by go_simp)
  have fw3_1_1 := fq hw3 (w.heap.size + 1) 1 (.int .u64 0) (by go_simp) (by go_simp)
  have cw3_1_2 := cu hw3 (w.heap.size + 1) 2 0 (by go_simp)
  have fw3_1_2 := fq hw3 (w.heap.size + 1) 2 (.int .u64 0) (by go_simp) (by go_simp)
  have zw3_1 := zb cw3_1_0
  have gw3 : Gr w w3 := Gr.trans (by have gg := gw2; have gs := gg.size; go_grown) hw3
  clear hw3 gw2 cw2_0_0 fw2_0_0 cw2_0_1 fw2_0_1 cw2_1_0 fw2_1_0 cw2_1_1 fw2_1_1 cw2_1_2 fw2_1_2
  go_wp2_with fail
  generalize hhw4 : (w3.alloc (.cells #[.int .u64 h, .int .u64 l] 79)) = w4
  have cw4_0_0 : w4.cell? ⟨w.heap.size, 0, none⟩ = some (.int .u64 h) := by subst hhw4; go_simp
  have fw4_0_0 : w4.frozen? ⟨w.heap.size, 0, none⟩ = false := by subst hhw4; go_simp
  have cw4_0_1 : w4.cell? ⟨w.heap.size, 1, none⟩ = some (.int .u64 l) := by subst hhw4; go_simp
  have fw4_0_1 : w4.frozen? ⟨w.heap.size, 1, none⟩ = false := by subst hhw4; go_simp
  have zw4_0 := zb cw4_0_0
  have cw4_1_0 : w4.cell? ⟨w.heap.size + 1, 0, none⟩ = some (.int .u64 0) := by subst hhw4; go_simp
  have fw4_1_0 : w4.frozen? ⟨w.heap.size + 1, 0, none⟩ = false := by subst hhw4; go_simp
  have cw4_1_1 : w4.cell? ⟨w.heap.size + 1, 1, none⟩ = some (.int .u64 0) := by subst hhw4; go_simp
  have fw4_1_1 : w4.frozen? ⟨w.heap.size + 1, 1, none⟩ = false := by subst hhw4; go_simp
  have cw4_1_2 : w4.cell? ⟨w.heap.size + 1, 2, none⟩ = some (.int .u64 0) := by subst hhw4; go_simp
  have fw4_1_2 : w4.frozen? ⟨w.heap.size + 1, 2, none⟩ = false := by subst hhw4; go_simp
  have zw4_1 := zb cw4_1_0
  have cw4_2_0 : w4.cell? ⟨w3.heap.size, 0, none⟩ = some (.int .u64 h) := by subst hhw4; go_simp
  have cw4_2_1 : w4.cell? ⟨w3.heap.size, 1, none⟩ = some (.int .u64 l) := by subst hhw4; go_simp
  have zw4_2 := zb cw4_2_0
  have gw4 : Gr w w4 := by subst hhw4; have gg := gw3; have gs := gg.size; go_grown
  clear hhw4 gw3 zw3_0 cw3_0_0 fw3_0_0 cw3_0_1 fw3_0_1 zw3_1 cw3_1_0 fw3_1_0 cw3_1_1 fw3_1_1 cw3_1_2 fw3_1_2
  go_wp2_with fail
  refine Hd.wp_region_tail 8 (by kernel_rfl) (by kernel_rfl) ?_
  intro KQ hKQ
  repeat (first | (refine Hd.wpG_skip (by decide) rfl ?_; simp only [Act.put, List.setIfInBounds_toArray, List.set_cons_zero, List.set_cons_succ]) | (refine Hd.wpG_want (by decide) rfl ?_; apply Exists.intro; refine ⟨?_, ?_⟩; (· intro wx gx; (obtain ⟨mx, rfl⟩ := gx); all_goals (apply Hd.gAt_of_quiet; intro K hK; go_big_quiet_op; first | exact hK _ rfl | (apply Exists.intro; refine ⟨fun _ => ?_, ?_⟩; (· fail); exact hK _ rfl))); try simp only [Act.put, List.setIfInBounds_toArray, List.set_cons_zero, List.set_cons_succ]))
  refine Hd.wpG_nil (hKQ _ ?_)
  clear hKQ KQ
  intro w5 hhw5
  have hw5 := Hd.gr_of_spread hhw5
  have cw5_1_0 := cu hw5 (w.heap.size + 1) 0 0 (by go_simp)
  have fw5_1_0 := fq hw5 (w.heap.size + 1) 0 (.int .u64 0) (by go_simp) (by go_simp)
  have cw5_1_1 := cu hw5 (w.heap.size + 1) 1 0 (by go_simp)
  have fw5_1_1 := fq hw5 (w.heap.size + 1) 1 (.int .u64 0) (by go_simp) (by go_simp)
  have cw5_1_2 := cu hw5 (w.heap.size + 1) 2 0 (by go_simp)
  have fw5_1_2 := fq hw5 (w.heap.size + 1) 2 (.int .u64 0) (by go_simp) (by go_simp)
  have gw5 : Gr w w5 := Gr.trans (by have gg := gw4; have gs := gg.size; go_grown) hw5
  clear hw5 hhw5 gw4 zw4_0 cw4_0_0 fw4_0_0 cw4_0_1 fw4_0_1 zw4_1 cw4_1_0 fw4_1_0 cw4_1_1 fw4_1_1 cw4_1_2 fw4_1_2 zw4_2 cw4_2_0 cw4_2_1
  go_wp2_with fail
  refine bodyPost_ret (v := .agg #[.int .u64 h, .int .u64 l, .int .u64 1]) (by simp [results, Tryz.results57, go_sem, *]) rfl ⟨rfl, by have gg := gw5; have gs := gg.size; go_grown⟩
end Go.Proofs.YtfobmlgpjhghdaaGreatDoor
namespace Go.Proofs.YtfobmlgpjhghdaaGreatDoor
set_option linter.unusedVariables false
open Go.ChangeShapes Go.WideShapes Go.ChangeAt Go.RowKit
theorem c_rgcd (a b : Nat) (ha : Wd a) (hb : Wd b) (w : World) :
    Calls Tryz.prog 94 #[.int .u64 a, .int .u64 b] w fun e w' => e = .returned (.int .u64 (Nat.gcd a b : Nat)) ∧ Gr w w' := by
  go_enter Tryz.func94, Tryz.ntmps94
  go_wp2_with fail
  go_loopg [0, 1] b (fun k v0 v1 wr => ∃ x y : Nat, Wd x ∧ Wd y ∧ y ≤ k ∧ v0 = .int .u64 x ∧ v1 = .int .u64 y ∧ Nat.gcd x y = Nat.gcd a b ∧ Gr w wr)
  case atStart => exact ⟨a, b, ha, hb, Nat.le_refl _, rfl, rfl, rfl, Gr.of_eq rfl⟩
  case round =>
    obtain ⟨x, y, hx, hy, hk, rfl, rfl, hgcd, hg⟩ := hrel
    by_cases h0 : y = 0
    · subst h0
      rw [Nat.gcd_zero_right] at hgcd
      have HG := Lib.hid hgcd
      clear hgcd
      go_wp2_with fail
      go_ret
      exact ⟨by rw [← HG.out]; rfl, hg⟩
    · have e : decide ((0 : Int) < (y : Int)) = true := decide_eq_true (by omega)
      have e2 : decide (0 < y) = true := decide_eq_true (by omega)
      have e3 : ¬ (y : Int) = 0 := by omega
      have hgc : Nat.gcd y (x % y) = Nat.gcd a b := by rw [← hgcd, Nat.gcd_comm, ← Nat.gcd_rec, Nat.gcd_comm]
      have hlt : x % y < y := Nat.mod_lt _ (by omega)
      obtain ⟨z, hz⟩ : ∃ z, z = x % y := ⟨_, rfl⟩
      rw [← hz] at hgc hlt
      have t1 : (x : Int).tmod (y : Int) = (z : Int) := by rw [hz]; rfl
      have t2 : IntKind.u64.wrap (z : Int) = (z : Int) := IntWalk.u64_in _ (by unfold Wd at hy; omega)
      have HG := Lib.hid hgc
      clear hgcd hgc hz
      go_wp2_with fail
      refine wp_region_spread (by kernel_rfl) (by kernel_rfl) ?_
      try simp only [List.append]
      repeat (first | go_big_quiet_skip | (go_big_quiet_want; go_big_quiet_op; (first | go_big_quiet_on | (apply Exists.intro; refine ⟨fun _ => ?_, ?_⟩; (· fail); go_big_quiet_on))))
      refine wpQuiet_nil ?_
      intro wr hr
      obtain ⟨mr, rfl⟩ := hr
      go_wp2_with fail
      go_roundg z
      case measure => omega
      case rel => exact ⟨y, z, hy, by unfold Wd at *; omega, Nat.le_refl _, rfl, rfl, HG.out, Gr.trans hg (gr_spread _ _)⟩
set_option maxHeartbeats 1000000 in
set_option maxRecDepth 100000 in
theorem lowest_core (h l d qh ql g qd q2h q2l r r2 : Nat) (W : World) (g1 : ((g : Int) == 0) = false) (g3 : ¬ (g : Int) = 0)
    (t1 : (d : Int).tdiv (g : Int) = (qd : Int)) (t2 : IntKind.u64.wrap (qd : Int) = (qd : Int))
    (A1 : ∀ w, Calls Tryz.prog 93 #[.agg #[.int .u64 h, .int .u64 l], .int .u64 d] w fun e w' => e = .returned (.tuple #[.agg #[.int .u64 q2h, .int .u64 q2l], .int .u64 r]) ∧ Gr w w')
    (A2 : ∀ w, Calls Tryz.prog 94 #[.int .u64 d, .int .u64 r] w fun e w' => e = .returned (.int .u64 g) ∧ Gr w w')
    (A3 : ∀ w, Calls Tryz.prog 93 #[.agg #[.int .u64 h, .int .u64 l], .int .u64 g] w fun e w' => e = .returned (.tuple #[.agg #[.int .u64 qh, .int .u64 ql], .int .u64 r2]) ∧ Gr w w') :
    Calls Tryz.prog 57 #[.agg #[.int .u64 h, .int .u64 l], .int .u64 d] W fun e w' => e = .returned (.agg #[.int .u64 qh, .int .u64 ql, .int .u64 qd]) ∧ Gr W w' := by
  have H1 := Lib.hid A1
  have H2 := Lib.hid A2
  have H3 := Lib.hid A3
  clear A1 A2 A3
  go_enter Tryz.func57, Tryz.ntmps57
  go_wp2_with fail
  go_at_call 93
  refine ((H1.out _)).mono ?_
  rintro e w1 ⟨rfl, hw1⟩
  have cw1_0_0 := cu hw1 (W.heap.size) 0 h (by go_simp)
  have cw1_0_1 := cu hw1 (W.heap.size) 1 l (by go_simp)
  have zw1_0 := zb cw1_0_0
  have cw1_1_0 := cu hw1 (W.heap.size + 1) 0 0 (by go_simp)
  have fw1_1_0 := fq hw1 (W.heap.size + 1) 0 (.int .u64 0) (by go_simp) (by go_simp)
  have cw1_1_1 := cu hw1 (W.heap.size + 1) 1 0 (by go_simp)
  have fw1_1_1 := fq hw1 (W.heap.size + 1) 1 (.int .u64 0) (by go_simp) (by go_simp)
  have cw1_1_2 := cu hw1 (W.heap.size + 1) 2 0 (by go_simp)
  have fw1_1_2 := fq hw1 (W.heap.size + 1) 2 (.int .u64 0) (by go_simp) (by go_simp)
  have zw1_1 := zb cw1_1_0
  have gw1 : Gr W w1 := Gr.trans (by go_grown) hw1
  clear hw1
  go_wp2_with fail
  go_at_call 94
  refine ((H2.out _)).mono ?_
  rintro e w2 ⟨rfl, hw2⟩
  have cw2_0_0 := cu hw2 (W.heap.size) 0 h (by go_simp)
  have cw2_0_1 := cu hw2 (W.heap.size) 1 l (by go_simp)
  have cw2_1_0 := cu hw2 (W.heap.size + 1) 0 0 (by go_simp)
  have fw2_1_0 := fq hw2 (W.heap.size + 1) 0 (.int .u64 0) (by go_simp) (by go_simp)
  have cw2_1_1 := cu hw2 (W.heap.size + 1) 1 0 (by go_simp)
  have fw2_1_1 := fq hw2 (W.heap.size + 1) 1 (.int .u64 0) (by go_simp) (by go_simp)
  have cw2_1_2 := cu hw2 (W.heap.size + 1) 2 0 (by go_simp)
  have fw2_1_2 := fq hw2 (W.heap.size + 1) 2 (.int .u64 0) (by go_simp) (by go_simp)
  have gw2 : Gr W w2 := Gr.trans (by have gg := gw1; have gs := gg.size; go_grown) hw2
  clear hw2 gw1 zw1_0 cw1_0_0 cw1_0_1 zw1_1 cw1_1_0 fw1_1_0 cw1_1_1 fw1_1_1 cw1_1_2 fw1_1_2
  go_wp2_with fail
  go_at_call 93
  refine ((H3.out _)).mono ?_
  rintro e w3 ⟨rfl, hw3⟩
  have cw3_0_0 := cu hw3 (W.heap.size) 0 h (by go_simp)
  have cw3_0_1 := cu hw3 (W.heap.size) 1 l (by go_simp)
  have zw3_0 := zb cw3_0_0
  have cw3_1_0 := cu hw3 (W.heap.size + 1) 0 0 (by go_simp)
  have fw3_1_0 := fq hw3 (W.heap.size + 1) 0 (.int .u64 0) (by go_simp) (by go_simp)
  have cw3_1_1 := cu hw3 (W.heap.size + 1) 1 0 (by go_simp)
  have fw3_1_1 := fq hw3 (W.heap.size + 1) 1 (.int .u64 0) (by go_simp) (by go_simp)
  have cw3_1_2 := cu hw3 (W.heap.size + 1) 2 0 (by go_simp)
  have fw3_1_2 := fq hw3 (W.heap.size + 1) 2 (.int .u64 0) (by go_simp) (by go_simp)
  have zw3_1 := zb cw3_1_0
  have gw3 : Gr W w3 := Gr.trans (by have gg := gw2; have gs := gg.size; go_grown) hw3
  clear hw3 gw2 cw2_0_0 cw2_0_1 cw2_1_0 fw2_1_0 cw2_1_1 fw2_1_1 cw2_1_2 fw2_1_2
  go_wp2_with fail
  generalize hhw4 : (w3.alloc (.cells #[.int .u64 qh, .int .u64 ql] 79)) = w4
  have cw4_0_0 : w4.cell? ⟨W.heap.size, 0, none⟩ = some (.int .u64 h) := by subst hhw4; go_simp
  have cw4_0_1 : w4.cell? ⟨W.heap.size, 1, none⟩ = some (.int .u64 l) := by subst hhw4; go_simp
  have zw4_0 := zb cw4_0_0
  have cw4_1_0 : w4.cell? ⟨W.heap.size + 1, 0, none⟩ = some (.int .u64 0) := by subst hhw4; go_simp
  have fw4_1_0 : w4.frozen? ⟨W.heap.size + 1, 0, none⟩ = false := by subst hhw4; go_simp
  have cw4_1_1 : w4.cell? ⟨W.heap.size + 1, 1, none⟩ = some (.int .u64 0) := by subst hhw4; go_simp
  have fw4_1_1 : w4.frozen? ⟨W.heap.size + 1, 1, none⟩ = false := by subst hhw4; go_simp
  have cw4_1_2 : w4.cell? ⟨W.heap.size + 1, 2, none⟩ = some (.int .u64 0) := by subst hhw4; go_simp
  have fw4_1_2 : w4.frozen? ⟨W.heap.size + 1, 2, none⟩ = false := by subst hhw4; go_simp
  have zw4_1 := zb cw4_1_0
  have cw4_2_0 : w4.cell? ⟨w3.heap.size, 0, none⟩ = some (.int .u64 qh) := by subst hhw4; go_simp
  have cw4_2_1 : w4.cell? ⟨w3.heap.size, 1, none⟩ = some (.int .u64 ql) := by subst hhw4; go_simp
  have zw4_2 := zb cw4_2_0
  have gw4 : Gr W w4 := by subst hhw4; have gg := gw3; have gs := gg.size; go_grown
  clear hhw4 gw3 zw3_0 cw3_0_0 cw3_0_1 zw3_1 cw3_1_0 fw3_1_0 cw3_1_1 fw3_1_1 cw3_1_2 fw3_1_2
  go_wp2_with fail
  refine Hd.wp_region_tail 8 (by kernel_rfl) (by kernel_rfl) ?_
  intro KQ hKQ
  repeat (first | (refine Hd.wpG_skip (by decide) rfl ?_; simp only [Act.put, List.setIfInBounds_toArray, List.set_cons_zero, List.set_cons_succ]) | (refine Hd.wpG_want (by decide) rfl ?_; apply Exists.intro; refine ⟨?_, ?_⟩; (· intro wx gx; (obtain ⟨mx, rfl⟩ := gx); all_goals (apply Hd.gAt_of_quiet; intro K hK; go_big_quiet_op; first | exact hK _ rfl | (apply Exists.intro; refine ⟨fun _ => ?_, ?_⟩; (· fail); exact hK _ rfl))); try simp only [Act.put, List.setIfInBounds_toArray, List.set_cons_zero, List.set_cons_succ]))
  refine Hd.wpG_nil (hKQ _ ?_)
  clear hKQ KQ
  intro w5 hhw5
  have hw5 := Hd.gr_of_spread hhw5
  have cw5_1_0 := cu hw5 (W.heap.size + 1) 0 0 (by go_simp)
  have fw5_1_0 := fq hw5 (W.heap.size + 1) 0 (.int .u64 0) (by go_simp) (by go_simp)
  have cw5_1_1 := cu hw5 (W.heap.size + 1) 1 0 (by go_simp)
  have fw5_1_1 := fq hw5 (W.heap.size + 1) 1 (.int .u64 0) (by go_simp) (by go_simp)
  have cw5_1_2 := cu hw5 (W.heap.size + 1) 2 0 (by go_simp)
  have fw5_1_2 := fq hw5 (W.heap.size + 1) 2 (.int .u64 0) (by go_simp) (by go_simp)
  have gw5 : Gr W w5 := Gr.trans (by have gg := gw4; have gs := gg.size; go_grown) hw5
  clear hw5 hhw5 gw4 zw4_0 cw4_0_0 cw4_0_1 zw4_1 cw4_1_0 fw4_1_0 cw4_1_1 fw4_1_1 cw4_1_2 fw4_1_2 zw4_2 cw4_2_0 cw4_2_1
  go_wp2_with fail
  refine bodyPost_ret (v := .agg #[.int .u64 qh, .int .u64 ql, .int .u64 qd]) (by simp [results, Tryz.results57, go_sem, *]) rfl ⟨rfl, by have gg := gw5; have gs := gg.size; go_grown⟩
theorem c_Lowest (h l d : Nat) (h1 : Wd h) (h2 : Wd l) (h3 : Wd d) (hd : d ≠ 0) (w : World) :
    Calls Tryz.prog 57 #[.agg #[.int .u64 h, .int .u64 l], .int .u64 d] w fun e w' => e = .returned (.agg #[.int .u64 ((lowN (val h l) d / 18446744073709551616 : Nat) : Int), .int .u64 ((lowN (val h l) d % 18446744073709551616 : Nat) : Int), .int .u64 ((lowD (val h l) d : Nat) : Int)]) ∧ Gr w w' := by
  have hr : val h l % d < d := Nat.mod_lt _ (by omega)
  have hrw : Wd (val h l % d) := by unfold Wd at *; omega
  have A1 := c_rDiv h l d h1 h2 h3 (by omega)
  have A2 := c_rgcd d (val h l % d) h3 hrw
  have hgl : Nat.gcd d (val h l % d) ≤ d := Nat.le_of_dvd (by omega) (Nat.gcd_dvd_left _ _)
  have hgp : 0 < Nat.gcd d (val h l % d) := Nat.gcd_pos_of_pos_left _ (by omega)
  unfold lowN lowD
  generalize Nat.gcd d (val h l % d) = g at *
  have A3 := c_rDiv h l g h1 h2 (by unfold Wd at *; omega) hgp
  have hq : d / g ≤ d := Nat.div_le_self _ _
  exact lowest_core h l d _ _ g (d / g) _ _ _ _ w (by simp; omega) (by omega) rfl (IntWalk.u64_in _ ⟨Int.natCast_nonneg _, by unfold Wd at *; omega⟩) A1 A2 A3
end Go.Proofs.YtfobmlgpjhghdaaGreatDoor
namespace Go.Proofs.YtfobmlgpjhghdaaGreatDoor
set_option linter.unusedVariables false
open Go.ChangeShapes Go.WideShapes Go.ChangeAt Go.RowKit
def cr (ax ay bx by' cx cy : Int) : Int := (bx - ax) * (cy - ay) - (by' - ay) * (cx - ax)
def sg (ax ay bx by' cx cy : Int) : Int := cmpZ (cr ax ay bx by' cx cy) 0
def btw (ax ay bx by' px py : Int) : Bool := decide (minZ ax bx ≤ px) && decide (px ≤ maxZ ax bx) && decide (minZ ay by' ≤ py) && decide (py ≤ maxZ ay by')
def onF (ax ay bx by' px py : Int) : Bool := btw ax ay bx by' px py && (sg ax ay bx by' px py == 0)
def apF (ax ay bx by' cx cy dx dy : Int) : Bool := decide (maxZ ax bx < minZ cx dx) || decide (maxZ cx dx < minZ ax bx) || decide (maxZ ay by' < minZ cy dy) || decide (maxZ cy dy < minZ ay by')
def prF (ax ay bx by' cx cy dx dy : Int) : Bool := (sg ax ay bx by' cx cy * sg ax ay bx by' dx dy == -1) && (sg cx cy dx dy ax ay * sg cx cy dx dy bx by' == -1)
def enF (ax ay bx by' cx cy dx dy : Int) : Bool := onF ax ay bx by' cx cy || onF ax ay bx by' dx dy || onF cx cy dx dy ax ay || onF cx cy dx dy bx by'
def meF (ax ay bx by' cx cy dx dy : Int) : Bool := prF ax ay bx by' cx cy dx dy || enF ax ay bx by' cx cy dx dy
def sdZ (k : Int) : Int := if k = 1 then 0 else if k = -1 then 1 else 2
theorem sg_cases (ax ay bx by' cx cy : Int) : (sg ax ay bx by' cx cy = -1 ∧ cr ax ay bx by' cx cy < 0) ∨ (sg ax ay bx by' cx cy = 0 ∧ cr ax ay bx by' cx cy = 0) ∨ (sg ax ay bx by' cx cy = 1 ∧ 0 < cr ax ay bx by' cx cy) := by
  unfold sg cmpZ
  split
  · left; exact ⟨rfl, by assumption⟩
  · split
    · right; right; exact ⟨rfl, by assumption⟩
    · right; left; exact ⟨rfl, by omega⟩
theorem min_le' {a b c : Int} : minZ b c ≤ a ↔ b ≤ a ∨ c ≤ a := by unfold minZ; split <;> omega
theorem max_le {a b c : Int} : maxZ b c ≤ a ↔ b ≤ a ∧ c ≤ a := by unfold maxZ; split <;> omega
theorem le_max {a b c : Int} : a ≤ maxZ b c ↔ a ≤ b ∨ a ≤ c := by unfold maxZ; split <;> omega
theorem max_lt {a b c : Int} : maxZ b c < a ↔ b < a ∧ c < a := by unfold maxZ; split <;> omega
theorem lt_min {a b c : Int} : a < minZ b c ↔ a < b ∧ a < c := by unfold minZ; split <;> omega
theorem btw_iff {ax ay bx by' px py : Int} : btw ax ay bx by' px py = true ↔ ((ax ≤ px ∧ px ≤ bx) ∨ (bx ≤ px ∧ px ≤ ax)) ∧ ((ay ≤ py ∧ py ≤ by') ∨ (by' ≤ py ∧ py ≤ ay)) := by
  unfold btw
  simp only [Bool.and_eq_true, decide_eq_true_eq, min_le', le_max]
  omega
theorem onF_iff {ax ay bx by' px py : Int} : onF ax ay bx by' px py = true ↔ btw ax ay bx by' px py = true ∧ cr ax ay bx by' px py = 0 := by
  unfold onF
  rw [Bool.and_eq_true]
  have := sg_cases ax ay bx by' px py
  constructor
  · rintro ⟨h1, h2⟩
    refine ⟨h1, ?_⟩
    have h3 : sg ax ay bx by' px py = 0 := by simpa using h2
    omega
  · rintro ⟨h1, h2⟩
    exact ⟨h1, by have : sg ax ay bx by' px py = 0 := by omega
                  simpa using this⟩
theorem one_side {ax ay bx by' cx cy dx dy : Int} (h : onF cx cy dx dy ax ay = true) : 0 ≤ -(cr ax ay bx by' cx cy) * cr ax ay bx by' dx dy := by
  rw [onF_iff, btw_iff] at h
  obtain ⟨⟨h1, h2⟩, h3⟩ := h
  unfold cr at *
  obtain ⟨ux, eux⟩ : ∃ x, x = ax - cx := ⟨_, rfl⟩
  obtain ⟨uy, euy⟩ : ∃ x, x = ay - cy := ⟨_, rfl⟩
  obtain ⟨vx, evx⟩ : ∃ x, x = dx - ax := ⟨_, rfl⟩
  obtain ⟨vy, evy⟩ : ∃ x, x = dy - ay := ⟨_, rfl⟩
  obtain ⟨wx, ewx⟩ : ∃ x, x = bx - ax := ⟨_, rfl⟩
  obtain ⟨wy, ewy⟩ : ∃ x, x = by' - ay := ⟨_, rfl⟩
  have e1 : cx - ax = -ux := by omega
  have e2 : cy - ay = -uy := by omega
  have p1 : 0 ≤ ux * vx := by
    rcases h1 with h1 | h1
    · exact Int.mul_nonneg (by omega) (by omega)
    · exact Int.mul_nonneg_of_nonpos_of_nonpos (by omega) (by omega)
  have p2 : 0 ≤ uy * vy := by
    rcases h2 with h2 | h2
    · exact Int.mul_nonneg (by omega) (by omega)
    · exact Int.mul_nonneg_of_nonpos_of_nonpos (by omega) (by omega)
  have h4 : vx * uy = vy * ux := by
    have : dx - cx = ux + vx := by omega
    have : dy - cy = uy + vy := by omega
    grind
  rw [e1, e2, ← ewx, ← ewy, ← evx, ← evy]
  clear h1 h2 h3 eux euy evx evy ewx ewy e1 e2
  have key : -(wx * -uy - wy * -ux) * (wx * vy - wy * vx) = wx * wx * (uy * vy) + wy * wy * (ux * vx) - 2 * (wx * wy) * (vx * uy) := by grind
  rw [key]
  obtain ⟨α, hα⟩ : ∃ x, x = ux * vx := ⟨_, rfl⟩
  obtain ⟨β, hβ⟩ : ∃ x, x = uy * vy := ⟨_, rfl⟩
  obtain ⟨m, hm⟩ : ∃ x, x = vx * uy := ⟨_, rfl⟩
  have hmm : m * m = α * β := by grind
  rw [← hα, ← hβ, ← hm]
  rw [← hα] at p1
  rw [← hβ] at p2
  clear hα hβ key
  rcases Int.lt_or_eq_of_le p1 with h | h
  ·
    have sq : α * (wx * wx * β + wy * wy * α - 2 * (wx * wy) * m) = (α * wy - m * wx) * (α * wy - m * wx) := by grind
    have nn := sq_nonneg (α * wy - m * wx)
    rw [← sq] at nn
    rcases Int.lt_or_le (wx * wx * β + wy * wy * α - 2 * (wx * wy) * m) 0 with g | g
    · have := Int.mul_neg_of_pos_of_neg h g
      omega
    · exact g
  · have m0 : m = 0 := by
      have : m * m = 0 := by rw [hmm, ← h]; simp
      simpa using Int.mul_eq_zero.1 this
    rw [m0, ← h]
    have := Int.mul_nonneg (sq_nonneg wx) p2
    simp
    exact this
theorem cross_x {ax ay bx by' cx cy dx dy : Int} (h1 : 0 < cr ax ay bx by' cx cy) (h2 : cr ax ay bx by' dx dy < 0) (h3 : cr cx cy dx dy ax ay < 0) (h4 : 0 < cr cx cy dx dy bx by') :
    ¬ (maxZ ax bx < minZ cx dx) ∧ ¬ (maxZ cx dx < minZ ax bx) ∧ ¬ (maxZ ay by' < minZ cy dy) ∧ ¬ (maxZ cy dy < minZ ay by') := by
  have idx : cr ax ay bx by' cx cy * dx - cr ax ay bx by' dx dy * cx = cr cx cy dx dy bx by' * ax - cr cx cy dx dy ax ay * bx := by unfold cr; grind
  have idy : cr ax ay bx by' cx cy * dy - cr ax ay bx by' dx dy * cy = cr cx cy dx dy bx by' * ay - cr cx cy dx dy ax ay * by' := by unfold cr; grind
  have sum : cr ax ay bx by' cx cy - cr ax ay bx by' dx dy = cr cx cy dx dy bx by' - cr cx cy dx dy ax ay := by unfold cr; grind
  generalize cr ax ay bx by' cx cy = p at *
  generalize cr cx cy dx dy bx by' = r at *
  obtain ⟨q, hq⟩ : ∃ q, q = -cr ax ay bx by' dx dy := ⟨_, rfl⟩
  obtain ⟨s, hs⟩ : ∃ s, s = -cr cx cy dx dy ax ay := ⟨_, rfl⟩
  have hq' : cr ax ay bx by' dx dy = -q := by omega
  have hs' : cr cx cy dx dy ax ay = -s := by omega
  rw [hq'] at idx idy sum h2
  rw [hs'] at idx idy sum h3
  clear hq hs hq' hs'
  have core : ∀ u v x y : Int, p * y + q * x = r * u + s * v → ¬ (maxZ u v < minZ x y) ∧ ¬ (maxZ x y < minZ u v) := by
    intro u v x y e
    constructor
    · intro g
      obtain ⟨t, ht⟩ : ∃ t, t = maxZ u v := ⟨_, rfl⟩
      have g1 : u ≤ t ∧ v ≤ t := max_le.1 (by omega)
      have g2 : t < x ∧ t < y := lt_min.1 (by omega)
      have a1 : p * (t + 1) ≤ p * y := Int.mul_le_mul_of_nonneg_left (by omega) (by omega)
      have a2 : q * (t + 1) ≤ q * x := Int.mul_le_mul_of_nonneg_left (by omega) (by omega)
      have a3 : r * u ≤ r * t := Int.mul_le_mul_of_nonneg_left (by omega) (by omega)
      have a4 : s * v ≤ s * t := Int.mul_le_mul_of_nonneg_left (by omega) (by omega)
      have a5 : (p + q) * t = (r + s) * t := by rw [show p + q = r + s by omega]
      have : p * (t + 1) + q * (t + 1) = (p + q) * t + p + q := by grind
      have : r * t + s * t = (r + s) * t := by grind
      omega
    · intro g
      obtain ⟨t, ht⟩ : ∃ t, t = maxZ x y := ⟨_, rfl⟩
      have g1 : x ≤ t ∧ y ≤ t := max_le.1 (by omega)
      have g2 : t < u ∧ t < v := lt_min.1 (by omega)
      have a1 : r * (t + 1) ≤ r * u := Int.mul_le_mul_of_nonneg_left (by omega) (by omega)
      have a2 : s * (t + 1) ≤ s * v := Int.mul_le_mul_of_nonneg_left (by omega) (by omega)
      have a3 : p * y ≤ p * t := Int.mul_le_mul_of_nonneg_left (by omega) (by omega)
      have a4 : q * x ≤ q * t := Int.mul_le_mul_of_nonneg_left (by omega) (by omega)
      have a5 : (p + q) * t = (r + s) * t := by rw [show p + q = r + s by omega]
      have : r * (t + 1) + s * (t + 1) = (r + s) * t + r + s := by grind
      have : p * t + q * t = (p + q) * t := by grind
      omega
  have c1 := core ax bx cx dx (by rw [Int.neg_mul, Int.neg_mul] at idx; omega)
  have c2 := core ay by' cy dy (by rw [Int.neg_mul, Int.neg_mul] at idy; omega)
  exact ⟨c1.1, c1.2, c2.1, c2.2⟩
theorem cr_flip (ax ay bx by' cx cy : Int) : cr bx by' ax ay cx cy = -cr ax ay bx by' cx cy := by unfold cr; grind
theorem sg_flip (ax ay bx by' cx cy : Int) : sg bx by' ax ay cx cy = -sg ax ay bx by' cx cy := by
  unfold sg
  rw [cr_flip]
  unfold cmpZ
  split <;> split <;> (try split) <;> (try split) <;> omega
theorem max_comm' (a b : Int) : maxZ b a = maxZ a b := by unfold maxZ; split <;> split <;> omega
theorem min_comm' (a b : Int) : minZ b a = minZ a b := by unfold minZ; split <;> split <;> omega
theorem prF_iff {ax ay bx by' cx cy dx dy : Int} : prF ax ay bx by' cx cy dx dy = true ↔ ((0 < cr ax ay bx by' cx cy ∧ cr ax ay bx by' dx dy < 0) ∨ (cr ax ay bx by' cx cy < 0 ∧ 0 < cr ax ay bx by' dx dy)) ∧ ((0 < cr cx cy dx dy ax ay ∧ cr cx cy dx dy bx by' < 0) ∨ (cr cx cy dx dy ax ay < 0 ∧ 0 < cr cx cy dx dy bx by')) := by
  unfold prF
  rw [Bool.and_eq_true, beq_iff_eq, beq_iff_eq]
  rcases sg_cases ax ay bx by' cx cy with ⟨a1, a2⟩ | ⟨a1, a2⟩ | ⟨a1, a2⟩ <;> rcases sg_cases ax ay bx by' dx dy with ⟨b1, b2⟩ | ⟨b1, b2⟩ | ⟨b1, b2⟩ <;> rw [a1, b1] <;>
  rcases sg_cases cx cy dx dy ax ay with ⟨c1, c2⟩ | ⟨c1, c2⟩ | ⟨c1, c2⟩ <;> rcases sg_cases cx cy dx dy bx by' with ⟨d1, d2⟩ | ⟨d1, d2⟩ | ⟨d1, d2⟩ <;> rw [c1, d1] <;> simp <;> omega
theorem prF_apart {ax ay bx by' cx cy dx dy : Int} (h : prF ax ay bx by' cx cy dx dy = true) : apF ax ay bx by' cx cy dx dy = false := by
  rw [prF_iff] at h
  have sum : cr ax ay bx by' cx cy - cr ax ay bx by' dx dy = cr cx cy dx dy bx by' - cr cx cy dx dy ax ay := by unfold cr; grind
  unfold apF
  obtain ⟨h1 | h1, h2⟩ := h
  · have g : cr cx cy dx dy ax ay < 0 ∧ 0 < cr cx cy dx dy bx by' := by omega
    have := cross_x h1.1 h1.2 g.1 g.2
    simp [this.1, this.2.1, this.2.2.1, this.2.2.2]
  · have g : 0 < cr cx cy dx dy ax ay ∧ cr cx cy dx dy bx by' < 0 := by omega
    have f1 := cr_flip ax ay bx by' cx cy
    have f2 := cr_flip ax ay bx by' dx dy
    have f3 := cr_flip cx cy dx dy ax ay
    have := cross_x (ax := bx) (ay := by') (bx := ax) (by' := ay) (cx := cx) (cy := cy) (dx := dx) (dy := dy) (by omega) (by omega) (by omega) (by omega)
    rw [max_comm' ax bx, max_comm' ay by', min_comm' ax bx, min_comm' ay by'] at this
    simp [this.1, this.2.1, this.2.2.1, this.2.2.2]
theorem onF_apart {ax ay bx by' cx cy dx dy : Int} (h : enF ax ay bx by' cx cy dx dy = true) : apF ax ay bx by' cx cy dx dy = false := by
  unfold enF at h
  simp only [Bool.or_eq_true, onF_iff, btw_iff] at h
  unfold apF
  simp only [Bool.or_eq_false_iff, decide_eq_false_iff_not]
  rcases h with ((⟨h, -⟩ | ⟨h, -⟩) | ⟨h, -⟩) | ⟨h, -⟩ <;> unfold maxZ minZ <;> (refine ⟨⟨⟨?_, ?_⟩, ?_⟩, ?_⟩) <;> (split <;> split <;> omega)
def meC (ax ay bx by' cx cy dx dy : Int) : Bool :=
  if apF ax ay bx by' cx cy dx dy then false else
  if sdZ (sg ax ay bx by' cx cy * sg ax ay bx by' dx dy) = 0 then false else
  if sdZ (sg ax ay bx by' cx cy * sg ax ay bx by' dx dy) = 1 ∧ sdZ (sg cx cy dx dy ax ay * sg cx cy dx dy bx by') = 1 then true else enF ax ay bx by' cx cy dx dy
theorem sdZ0 {k : Int} : sdZ k = 0 ↔ k = 1 := by unfold sdZ; split <;> (try split) <;> omega
theorem sdZ1 {k : Int} : sdZ k = 1 ↔ k = -1 := by unfold sdZ; split <;> (try split) <;> omega
theorem meC_eq (ax ay bx by' cx cy dx dy : Int) : meC ax ay bx by' cx cy dx dy = meF ax ay bx by' cx cy dx dy := by
  unfold meC meF
  cases h1 : apF ax ay bx by' cx cy dx dy
  · rw [if_neg (by simp)]
    by_cases h2 : sdZ (sg ax ay bx by' cx cy * sg ax ay bx by' dx dy) = 0
    · rw [if_pos h2]
      rw [sdZ0] at h2
      have p : prF ax ay bx by' cx cy dx dy = false := by unfold prF; rw [h2]; rfl
      have same : (0 < cr ax ay bx by' cx cy ∧ 0 < cr ax ay bx by' dx dy) ∨ (cr ax ay bx by' cx cy < 0 ∧ cr ax ay bx by' dx dy < 0) := by
        rcases sg_cases ax ay bx by' cx cy with ⟨a1, a2⟩ | ⟨a1, a2⟩ | ⟨a1, a2⟩ <;> rcases sg_cases ax ay bx by' dx dy with ⟨b1, b2⟩ | ⟨b1, b2⟩ | ⟨b1, b2⟩ <;> rw [a1, b1] at h2 <;> simp at h2 <;> omega
      have pos : 0 < cr ax ay bx by' cx cy * cr ax ay bx by' dx dy := by
        rcases same with ⟨a, b⟩ | ⟨a, b⟩
        · exact Int.mul_pos a b
        · exact Int.mul_pos_of_neg_of_neg a b
      have o1 : onF ax ay bx by' cx cy = false := by
        rw [← Bool.not_eq_true, onF_iff]; omega
      have o2 : onF ax ay bx by' dx dy = false := by
        rw [← Bool.not_eq_true, onF_iff]; omega
      have o3 : onF cx cy dx dy ax ay = false := by
        rw [← Bool.not_eq_true]
        intro h
        have := one_side (bx := bx) (by' := by') h
        rw [Int.neg_mul] at this
        omega
      have o4 : onF cx cy dx dy bx by' = false := by
        rw [← Bool.not_eq_true]
        intro h
        have := one_side (bx := ax) (by' := ay) h
        rw [cr_flip, cr_flip ax ay bx by' dx dy] at this
        rw [Int.neg_neg, Int.mul_neg] at this
        omega
      unfold enF
      rw [p, o1, o2, o3, o4]
      rfl
    · rw [if_neg h2]
      by_cases h3 : sdZ (sg ax ay bx by' cx cy * sg ax ay bx by' dx dy) = 1 ∧ sdZ (sg cx cy dx dy ax ay * sg cx cy dx dy bx by') = 1
      · rw [if_pos h3]
        rw [sdZ1, sdZ1] at h3
        unfold prF
        rw [h3.1, h3.2]
        rfl
      · rw [if_neg h3]
        rw [sdZ1, sdZ1] at h3
        have p : prF ax ay bx by' cx cy dx dy = false := by
          unfold prF
          rw [← Bool.not_eq_true, Bool.and_eq_true, beq_iff_eq, beq_iff_eq]
          exact h3
        rw [p]
        rfl
  · rw [if_pos rfl]
    have p : prF ax ay bx by' cx cy dx dy = false := by
      rw [← Bool.not_eq_true]; intro h; rw [prF_apart h] at h1; cases h1
    have q : enF ax ay bx by' cx cy dx dy = false := by
      rw [← Bool.not_eq_true]; intro h; rw [onF_apart h] at h1; cases h1
    rw [p, q]
    rfl
theorem onF_flip (ax ay bx by' px py : Int) : onF bx by' ax ay px py = onF ax ay bx by' px py := by
  rw [Bool.eq_iff_iff, onF_iff, onF_iff, btw_iff, btw_iff, cr_flip]
  omega
theorem meF_swap (ax ay bx by' cx cy dx dy : Int) : meF cx cy dx dy ax ay bx by' = meF ax ay bx by' cx cy dx dy := by
  unfold meF prF enF
  grind
theorem meF_flip (ax ay bx by' cx cy dx dy : Int) : meF bx by' ax ay cx cy dx dy = meF ax ay bx by' cx cy dx dy := by
  unfold meF prF enF
  rw [onF_flip ax ay bx by', onF_flip ax ay bx by', sg_flip ax ay bx by', sg_flip ax ay bx by', Int.neg_mul_neg, Int.mul_comm (sg cx cy dx dy bx by')]
  grind
theorem meF_flip2 (ax ay bx by' cx cy dx dy : Int) : meF ax ay bx by' dx dy cx cy = meF ax ay bx by' cx cy dx dy := by
  rw [meF_swap, meF_flip, meF_swap]
def alZ (ax ay bx by' px py : Int) : Int := (bx - ax) * (px - ax) + (by' - ay) * (py - ay)
def sdN (ax ay bx by' px py : Int) : Nat :=
  if alZ ax ay bx by' px py ≤ 0 then (sqZ ax ay px py).toNat else if sqZ ax ay bx by' ≤ alZ ax ay bx by' px py then (sqZ bx by' px py).toNat
  else lowN ((cr ax ay bx by' px py).natAbs * (cr ax ay bx by' px py).natAbs) (sqZ ax ay bx by').toNat
def sdD (ax ay bx by' px py : Int) : Nat :=
  if alZ ax ay bx by' px py ≤ 0 then 1 else if sqZ ax ay bx by' ≤ alZ ax ay bx by' px py then 1
  else lowD ((cr ax ay bx by' px py).natAbs * (cr ax ay bx by' px py).natAbs) (sqZ ax ay bx by').toNat
theorem al_flip (ax ay bx by' px py : Int) : alZ bx by' ax ay px py = sqZ ax ay bx by' - alZ ax ay bx by' px py := by unfold alZ sqZ; grind
theorem sq_nn (ax ay bx by' : Int) : 0 ≤ sqZ ax ay bx by' := by
  have a1 := sq_nonneg (bx - ax)
  have a2 := sq_nonneg (by' - ay)
  unfold sqZ; omega
theorem sq_zero_iff (ax ay bx by' : Int) : sqZ ax ay bx by' = 0 ↔ ax = bx ∧ ay = by' := by
  have a1 := sq_nonneg (bx - ax)
  have a2 := sq_nonneg (by' - ay)
  unfold sqZ
  constructor
  · intro h
    have d1 : (bx - ax) * (bx - ax) = 0 := by omega
    have d2 : (by' - ay) * (by' - ay) = 0 := by omega
    have := Int.mul_eq_zero.1 d1
    have := Int.mul_eq_zero.1 d2
    omega
  · rintro ⟨rfl, rfl⟩
    simp
theorem mid_gcd (d n : Nat) : Nat.gcd d (n % d) = Nat.gcd d n := by
  rw [Nat.gcd_comm, ← Nat.gcd_rec]
theorem mid_parts (n d : Nat) (hd : 0 < d) : n = lowN n d * Nat.gcd d n ∧ d = lowD n d * Nat.gcd d n ∧ 0 < Nat.gcd d n ∧ 0 < lowD n d := by
  unfold lowN lowD
  rw [mid_gcd]
  have hg : 0 < Nat.gcd d n := Nat.gcd_pos_of_pos_left _ hd
  refine ⟨(Nat.div_mul_cancel (Nat.gcd_dvd_right d n)).symm, (Nat.div_mul_cancel (Nat.gcd_dvd_left d n)).symm, hg, ?_⟩
  exact Nat.div_pos (Nat.le_of_dvd hd (Nat.gcd_dvd_left d n)) hg
theorem bet_of {w a u v : Int} (hw : 0 < w) (h1 : 0 ≤ a) (h2 : a ≤ w) (e : w * v = a * u) : (0 ≤ v ∧ v ≤ u) ∨ (u ≤ v ∧ v ≤ 0) := by
  rcases Int.le_total 0 u with h | h
  · left
    have b1 : 0 ≤ a * u := Int.mul_nonneg h1 h
    have b2 : a * u ≤ w * u := Int.mul_le_mul_of_nonneg_right h2 h
    rw [← e] at b1 b2
    exact ⟨Int.nonneg_of_mul_nonneg_right (a := w) (by omega) hw, Int.le_of_mul_le_mul_left b2 hw⟩
  · right
    have b1 : 0 ≤ a * (-u) := Int.mul_nonneg h1 (by omega)
    have b2 : a * (-u) ≤ w * (-u) := Int.mul_le_mul_of_nonneg_right h2 (by omega)
    have e' : a * (-u) = w * (-v) := by rw [Int.mul_neg, Int.mul_neg, e]
    rw [e'] at b1 b2
    have c1 : 0 ≤ -v := Int.nonneg_of_mul_nonneg_right (a := w) (by omega) hw
    have c2 : -v ≤ -u := Int.le_of_mul_le_mul_left b2 hw
    omega
theorem dot_al (ax ay bx by' px py : Int) : alZ bx by' ax ay px py ≤ 0 ↔ sqZ ax ay bx by' ≤ alZ ax ay bx by' px py := by rw [al_flip]; omega
end Go.Proofs.YtfobmlgpjhghdaaGreatDoor
namespace Go.Proofs.YtfobmlgpjhghdaaGreatDoor
set_option linter.unusedVariables false
open Go.ChangeShapes Go.WideShapes Go.ChangeAt Go.RowKit
def inP (lx ly hx hy px py : Int) : Prop := lx ≤ px ∧ px ≤ hx ∧ ly ≤ py ∧ py ≤ hy
def ovP (lx ly hx hy ax ay bx by' : Int) : Prop := (ax ≤ hx ∨ bx ≤ hx) ∧ (lx ≤ ax ∨ lx ≤ bx) ∧ (ay ≤ hy ∨ by' ≤ hy) ∧ (ly ≤ ay ∨ ly ≤ by')
theorem ovP_flip {lx ly hx hy ax ay bx by' : Int} (h : ovP lx ly hx hy ax ay bx by') : ovP lx ly hx hy bx by' ax ay := by
  unfold ovP at *; omega
theorem me_opp {ax ay bx by' px py qx qy : Int} (h : meF ax ay bx by' px py qx qy = true) : ¬ (0 < cr ax ay bx by' px py ∧ 0 < cr ax ay bx by' qx qy) ∧ ¬ (cr ax ay bx by' px py < 0 ∧ cr ax ay bx by' qx qy < 0) := by
  rw [← meC_eq] at h
  unfold meC at h
  rcases sg_cases ax ay bx by' px py with ⟨a1, a2⟩ | ⟨a1, a2⟩ | ⟨a1, a2⟩ <;> rcases sg_cases ax ay bx by' qx qy with ⟨b1, b2⟩ | ⟨b1, b2⟩ | ⟨b1, b2⟩ <;> rw [a1, b1] at h <;> simp [sdZ] at h <;> omega
theorem me_ap {ax ay bx by' px py qx qy : Int} (h : meF ax ay bx by' px py qx qy = true) : apF ax ay bx by' px py qx qy = false := by
  unfold meF at h
  rw [Bool.or_eq_true] at h
  rcases h with h | h
  · exact prF_apart h
  · exact onF_apart h
theorem me_ov {lx ly hx hy ax ay bx by' px py qx qy : Int} (h : meF ax ay bx by' px py qx qy = true) (h1 : inP lx ly hx hy px py) (h2 : inP lx ly hx hy qx qy) : ovP lx ly hx hy ax ay bx by' := by
  have g := me_ap h
  unfold apF at g
  simp only [Bool.or_eq_false_iff, decide_eq_false_iff_not, max_lt, lt_min] at g
  unfold inP at *
  unfold ovP
  omega
theorem both_straddle {ax ay bx by' px py qx qy : Int} (h1 : cr ax ay bx by' px py ≤ 0) (h2 : 0 ≤ cr ax ay bx by' qx qy) (hD : cr ax ay bx by' px py < cr ax ay bx by' qx qy)
    (g1 : 0 ≤ cr px py qx qy ax ay) (g2 : cr px py qx qy bx by' ≤ 0) : meF ax ay bx by' px py qx qy = true := by
  have sum : cr ax ay bx by' px py - cr ax ay bx by' qx qy = cr px py qx qy bx by' - cr px py qx qy ax ay := by unfold cr; grind
  unfold meF
  rw [Bool.or_eq_true]
  by_cases hp : prF ax ay bx by' px py qx qy = true
  · exact Or.inl hp
  right
  have hz : cr ax ay bx by' px py = 0 ∨ cr ax ay bx by' qx qy = 0 ∨ cr px py qx qy ax ay = 0 ∨ cr px py qx qy bx by' = 0 := by
    rw [prF_iff] at hp
    omega
  unfold enF
  have e1x : (cr px py qx qy ax ay - cr px py qx qy bx by') * (px - ax) = cr px py qx qy ax ay * (bx - ax) + cr ax ay bx by' px py * (qx - px) := by unfold cr; grind
  have e1y : (cr px py qx qy ax ay - cr px py qx qy bx by') * (py - ay) = cr px py qx qy ax ay * (by' - ay) + cr ax ay bx by' px py * (qy - py) := by unfold cr; grind
  have e2x : (cr px py qx qy ax ay - cr px py qx qy bx by') * (qx - ax) = cr px py qx qy ax ay * (bx - ax) + cr ax ay bx by' qx qy * (qx - px) := by unfold cr; grind
  have e2y : (cr px py qx qy ax ay - cr px py qx qy bx by') * (qy - ay) = cr px py qx qy ax ay * (by' - ay) + cr ax ay bx by' qx qy * (qy - py) := by unfold cr; grind
  have e3x : (cr ax ay bx by' qx qy - cr ax ay bx by' px py) * (ax - px) = -cr ax ay bx by' px py * (qx - px) - cr px py qx qy ax ay * (bx - ax) := by unfold cr; grind
  have e3y : (cr ax ay bx by' qx qy - cr ax ay bx by' px py) * (ay - py) = -cr ax ay bx by' px py * (qy - py) - cr px py qx qy ax ay * (by' - ay) := by unfold cr; grind
  have e4x : (cr ax ay bx by' qx qy - cr ax ay bx by' px py) * (bx - px) = -cr ax ay bx by' px py * (qx - px) - cr px py qx qy bx by' * (bx - ax) := by unfold cr; grind
  have e4y : (cr ax ay bx by' qx qy - cr ax ay bx by' px py) * (by' - py) = -cr ax ay bx by' px py * (qy - py) - cr px py qx qy bx by' * (by' - ay) := by unfold cr; grind
  rcases hz with hz | hz | hz | hz
  · rw [hz, Int.zero_mul, Int.add_zero] at e1x e1y
    have b1 := bet_of (by omega) g1 (by omega) e1x
    have b2 := bet_of (by omega) g1 (by omega) e1y
    have : onF ax ay bx by' px py = true := onF_iff.2 ⟨btw_iff.2 (by omega), hz⟩
    simp [this]
  · rw [hz, Int.zero_mul, Int.add_zero] at e2x e2y
    have b1 := bet_of (by omega) g1 (by omega) e2x
    have b2 := bet_of (by omega) g1 (by omega) e2y
    have : onF ax ay bx by' qx qy = true := onF_iff.2 ⟨btw_iff.2 (by omega), hz⟩
    simp [this]
  · rw [hz, Int.zero_mul, Int.sub_zero] at e3x e3y
    have b1 := bet_of (by omega) (by omega) (by omega) e3x
    have b2 := bet_of (by omega) (by omega) (by omega) e3y
    have : onF px py qx qy ax ay = true := onF_iff.2 ⟨btw_iff.2 (by omega), hz⟩
    simp [this]
  · rw [hz, Int.zero_mul, Int.sub_zero] at e4x e4y
    have b1 := bet_of (by omega) (by omega) (by omega) e4x
    have b2 := bet_of (by omega) (by omega) (by omega) e4y
    have : onF px py qx qy bx by' = true := onF_iff.2 ⟨btw_iff.2 (by omega), hz⟩
    simp [this]
theorem off_side {f1 f2 g1 g2 u v p q lo hi : Int} (e : f2 * p - f1 * q = g2 * u - g1 * v) (hf1 : f1 ≤ 0) (hf2 : 0 ≤ f2) (hs : f2 - f1 = g2 - g1) (hg : 0 < g1) (hgg : g1 < g2)
    (hp : lo ≤ p ∧ p ≤ hi) (hq : lo ≤ q ∧ q ≤ hi) (ho1 : u ≤ hi ∨ v ≤ hi) (ho2 : lo ≤ u ∨ lo ≤ v) : lo ≤ u ∧ u ≤ hi := by
  constructor
  · rcases Int.lt_or_le u lo with h | h
    · exfalso
      have hv : lo ≤ v := by omega
      have a1 : f2 * lo ≤ f2 * p := Int.mul_le_mul_of_nonneg_left hp.1 hf2
      have a2 : (-f1) * lo ≤ (-f1) * q := Int.mul_le_mul_of_nonneg_left hq.1 (by omega)
      have a3 : g2 * (u + 1) ≤ g2 * lo := Int.mul_le_mul_of_nonneg_left (by omega) (by omega)
      have a4 : g1 * lo ≤ g1 * v := Int.mul_le_mul_of_nonneg_left hv (by omega)
      have a5 : (f2 - f1) * lo = (g2 - g1) * lo := by rw [hs]
      have a6 : (f2 - f1) * lo = f2 * lo + (-f1) * lo := by grind
      have a7 : (g2 - g1) * lo = g2 * lo - g1 * lo := by grind
      have a8 : g2 * (u + 1) = g2 * u + g2 := by grind
      rw [Int.neg_mul, Int.neg_mul] at a2
      rw [Int.neg_mul] at a6
      omega
    · exact h
  · rcases Int.lt_or_le hi u with h | h
    · exfalso
      have hv : v ≤ hi := by omega
      have a1 : f2 * p ≤ f2 * hi := Int.mul_le_mul_of_nonneg_left hp.2 hf2
      have a2 : (-f1) * q ≤ (-f1) * hi := Int.mul_le_mul_of_nonneg_left hq.2 (by omega)
      have a3 : g2 * (hi + 1) ≤ g2 * u := Int.mul_le_mul_of_nonneg_left (by omega) (by omega)
      have a4 : g1 * v ≤ g1 * hi := Int.mul_le_mul_of_nonneg_left hv (by omega)
      have a5 : (f2 - f1) * hi = (g2 - g1) * hi := by rw [hs]
      have a6 : (f2 - f1) * hi = f2 * hi + (-f1) * hi := by grind
      have a7 : (g2 - g1) * hi = g2 * hi - g1 * hi := by grind
      have a8 : g2 * (hi + 1) = g2 * hi + g2 := by grind
      rw [Int.neg_mul, Int.neg_mul] at a2
      rw [Int.neg_mul] at a6
      omega
    · exact h
theorem line_parts {lx ly hx hy ax ay bx by' px py qx qy : Int} (hp : inP lx ly hx hy px py) (hq : inP lx ly hx hy qx qy) (ho : ovP lx ly hx hy ax ay bx by')
    (na : ¬ inP lx ly hx hy ax ay) (nb : ¬ inP lx ly hx hy bx by') (h1 : cr ax ay bx by' px py ≤ 0) (h2 : 0 ≤ cr ax ay bx by' qx qy) (hD : cr ax ay bx by' px py < cr ax ay bx by' qx qy) :
    meF ax ay bx by' px py qx qy = true := by
  have sum : cr ax ay bx by' qx qy - cr ax ay bx by' px py = cr px py qx qy ax ay - cr px py qx qy bx by' := by unfold cr; grind
  have idx : cr ax ay bx by' qx qy * px - cr ax ay bx by' px py * qx = cr px py qx qy ax ay * bx - cr px py qx qy bx by' * ax := by unfold cr; grind
  have idy : cr ax ay bx by' qx qy * py - cr ax ay bx by' px py * qy = cr px py qx qy ax ay * by' - cr px py qx qy bx by' * ay := by unfold cr; grind
  unfold inP ovP at *
  by_cases g1 : 0 ≤ cr px py qx qy ax ay
  · by_cases g2 : cr px py qx qy bx by' ≤ 0
    · exact both_straddle h1 h2 hD g1 g2
    · exfalso
      have o1 := off_side (u := bx) (v := ax) (lo := lx) (hi := hx) idx h1 h2 sum (by omega) (by omega) ⟨hp.1, hp.2.1⟩ ⟨hq.1, hq.2.1⟩ (by omega) (by omega)
      have o2 := off_side (u := by') (v := ay) (lo := ly) (hi := hy) idy h1 h2 sum (by omega) (by omega) hp.2.2 hq.2.2 (by omega) (by omega)
      omega
  · exfalso
    have sum' : cr ax ay bx by' qx qy - cr ax ay bx by' px py = -cr px py qx qy bx by' - -cr px py qx qy ax ay := by omega
    have idx' : cr ax ay bx by' qx qy * px - cr ax ay bx by' px py * qx = -cr px py qx qy bx by' * ax - -cr px py qx qy ax ay * bx := by rw [Int.neg_mul, Int.neg_mul]; omega
    have idy' : cr ax ay bx by' qx qy * py - cr ax ay bx by' px py * qy = -cr px py qx qy bx by' * ay - -cr px py qx qy ax ay * by' := by rw [Int.neg_mul, Int.neg_mul]; omega
    have o1 := off_side (u := ax) (v := bx) (lo := lx) (hi := hx) idx' h1 h2 sum' (by omega) (by omega) ⟨hp.1, hp.2.1⟩ ⟨hq.1, hq.2.1⟩ (by omega) (by omega)
    have o2 := off_side (u := ay) (v := by') (lo := ly) (hi := hy) idy' h1 h2 sum' (by omega) (by omega) hp.2.2 hq.2.2 (by omega) (by omega)
    omega
theorem line_parts2 {lx ly hx hy ax ay bx by' px py qx qy : Int} (hp : inP lx ly hx hy px py) (hq : inP lx ly hx hy qx qy) (ho : ovP lx ly hx hy ax ay bx by')
    (na : ¬ inP lx ly hx hy ax ay) (nb : ¬ inP lx ly hx hy bx by') (h : (cr ax ay bx by' px py ≤ 0 ∧ 0 ≤ cr ax ay bx by' qx qy) ∨ (cr ax ay bx by' qx qy ≤ 0 ∧ 0 ≤ cr ax ay bx by' px py)) (hD : cr ax ay bx by' px py ≠ cr ax ay bx by' qx qy) :
    meF ax ay bx by' px py qx qy = true := by
  rcases h with h | h
  · exact line_parts hp hq ho na nb h.1 h.2 (by omega)
  · rw [meF_flip2]
    exact line_parts hq hp ho na nb h.1 h.2 (by omega)
theorem on_line {lx ly hx hy ax ay bx by' px py : Int} (hp : inP lx ly hx hy px py) (ho : ovP lx ly hx hy ax ay bx by')
    (na : ¬ inP lx ly hx hy ax ay) (nb : ¬ inP lx ly hx hy bx by') (h : cr ax ay bx by' px py = 0) : onF ax ay bx by' px py = true := by
  rw [onF_iff, btw_iff]
  refine ⟨?_, h⟩
  unfold inP ovP at *
  have n1 := sq_nn ax ay bx by'
  have z := sq_zero_iff ax ay bx by'
  have ex : sqZ ax ay bx by' * (px - ax) = alZ ax ay bx by' px py * (bx - ax) - cr ax ay bx by' px py * (by' - ay) := by unfold sqZ alZ cr; grind
  have ey : sqZ ax ay bx by' * (py - ay) = alZ ax ay bx by' px py * (by' - ay) + cr ax ay bx by' px py * (bx - ax) := by unfold sqZ alZ cr; grind
  have fx : sqZ ax ay bx by' * (px - bx) = (alZ ax ay bx by' px py - sqZ ax ay bx by') * (bx - ax) - cr ax ay bx by' px py * (by' - ay) := by unfold sqZ alZ cr; grind
  have fy : sqZ ax ay bx by' * (py - by') = (alZ ax ay bx by' px py - sqZ ax ay bx by') * (by' - ay) + cr ax ay bx by' px py * (bx - ax) := by unfold sqZ alZ cr; grind
  rw [h, Int.zero_mul] at ex ey fx fy
  rw [Int.sub_zero] at ex fx
  rw [Int.add_zero] at ey fy
  generalize alZ ax ay bx by' px py = α at *
  generalize sqZ ax ay bx by' = w at *
  have hw : 0 < w := by
    rcases Int.lt_or_eq_of_le n1 with g | g
    · exact g
    · obtain ⟨rfl, rfl⟩ := z.1 g.symm
      omega
  have sgn : ∀ k u v : Int, w * v = k * u → (k < 0 → (0 < v → u < 0) ∧ (v < 0 → 0 < u)) ∧ (0 < k → (0 < v → 0 < u) ∧ (v < 0 → u < 0)) := by
    intro k u v e
    refine ⟨fun hk => ⟨fun hv => ?_, fun hv => ?_⟩, fun hk => ⟨fun hv => ?_, fun hv => ?_⟩⟩
    · have : 0 < k * u := by rw [← e]; exact Int.mul_pos hw hv
      rcases Int.lt_or_le u 0 with g | g
      · exact g
      · have := Int.mul_nonpos_of_nonpos_of_nonneg (a := k) (b := u) (by omega) g; omega
    · have : k * u < 0 := by rw [← e]; exact Int.mul_neg_of_pos_of_neg hw hv
      rcases Int.lt_or_le 0 u with g | g
      · exact g
      · have := Int.mul_nonneg_of_nonpos_of_nonpos (a := k) (b := u) (by omega) g; omega
    · have : 0 < k * u := by rw [← e]; exact Int.mul_pos hw hv
      rcases Int.lt_or_le 0 u with g | g
      · exact g
      · have := Int.mul_nonpos_of_nonneg_of_nonpos (a := k) (b := u) (by omega) g; omega
    · have : k * u < 0 := by rw [← e]; exact Int.mul_neg_of_pos_of_neg hw hv
      rcases Int.lt_or_le u 0 with g | g
      · exact g
      · have := Int.mul_nonneg (a := k) (b := u) (by omega) g; omega
  by_cases h0 : α < 0
  · exfalso
    have s1 := (sgn _ _ _ ex).1 h0
    have s2 := (sgn _ _ _ ey).1 h0
    omega
  · by_cases h1 : α ≤ w
    · have b1 := bet_of hw (by omega) h1 ex
      have b2 := bet_of hw (by omega) h1 ey
      omega
    · exfalso
      have s1 := (sgn _ _ _ fx).2 (by omega)
      have s2 := (sgn _ _ _ fy).2 (by omega)
      omega
def siF (lx ly hx hy ax ay bx by' : Int) : Bool := meF ax ay bx by' lx ly hx ly || meF ax ay bx by' hx ly hx hy || meF ax ay bx by' hx hy lx hy || meF ax ay bx by' lx hy lx ly
def diF (lx ly hx hy ax ay bx by' : Int) : Bool := meF ax ay bx by' lx ly hx hy || meF ax ay bx by' lx hy hx ly
theorem sides_diag {lx ly hx hy ax ay bx by' : Int} (hb : lx ≤ hx ∧ ly ≤ hy) (ho : ovP lx ly hx hy ax ay bx by') (na : ¬ inP lx ly hx hy ax ay) (nb : ¬ inP lx ly hx hy bx by') :
    siF lx ly hx hy ax ay bx by' = diF lx ly hx hy ax ay bx by' := by
  have i0 : inP lx ly hx hy lx ly := by unfold inP; omega
  have i1 : inP lx ly hx hy hx ly := by unfold inP; omega
  have i2 : inP lx ly hx hy hx hy := by unfold inP; omega
  have i3 : inP lx ly hx hy lx hy := by unfold inP; omega
  have par : cr ax ay bx by' lx ly + cr ax ay bx by' hx hy = cr ax ay bx by' hx ly + cr ax ay bx by' lx hy := by unfold cr; grind
  unfold siF diF
  rw [Bool.eq_iff_iff]
  simp only [Bool.or_eq_true]
  constructor
  · intro h
    have T : ¬ (0 < cr ax ay bx by' lx ly ∧ 0 < cr ax ay bx by' hx hy ∧ 0 < cr ax ay bx by' hx ly ∧ 0 < cr ax ay bx by' lx hy) ∧ ¬ (cr ax ay bx by' lx ly < 0 ∧ cr ax ay bx by' hx hy < 0 ∧ cr ax ay bx by' hx ly < 0 ∧ cr ax ay bx by' lx hy < 0) := by
      rcases h with ((h | h) | h) | h <;> (have := me_opp h; omega)
    by_cases z : cr ax ay bx by' lx ly = 0 ∧ cr ax ay bx by' hx hy = 0
    · left
      have := on_line i0 ho na nb z.1
      unfold meF enF
      simp [this]
    · by_cases c : ((cr ax ay bx by' lx ly ≤ 0 ∧ 0 ≤ cr ax ay bx by' hx hy) ∨ (cr ax ay bx by' hx hy ≤ 0 ∧ 0 ≤ cr ax ay bx by' lx ly)) ∧ cr ax ay bx by' lx ly ≠ cr ax ay bx by' hx hy
      · left; exact line_parts2 i0 i2 ho na nb c.1 c.2
      · right
        exact line_parts2 i3 i1 ho na nb (by omega) (by omega)
  · intro h
    have T : ¬ (0 < cr ax ay bx by' lx ly ∧ 0 < cr ax ay bx by' hx hy ∧ 0 < cr ax ay bx by' hx ly ∧ 0 < cr ax ay bx by' lx hy) ∧ ¬ (cr ax ay bx by' lx ly < 0 ∧ cr ax ay bx by' hx hy < 0 ∧ cr ax ay bx by' hx ly < 0 ∧ cr ax ay bx by' lx hy < 0) := by
      rcases h with h | h <;> (have := me_opp h; omega)
    by_cases z : cr ax ay bx by' lx ly = 0
    · left; left; left
      have := on_line i0 ho na nb z
      unfold meF enF
      simp [this]
    · by_cases c1 : ((cr ax ay bx by' lx ly ≤ 0 ∧ 0 ≤ cr ax ay bx by' hx ly) ∨ (cr ax ay bx by' hx ly ≤ 0 ∧ 0 ≤ cr ax ay bx by' lx ly)) ∧ cr ax ay bx by' lx ly ≠ cr ax ay bx by' hx ly
      · left; left; left; exact line_parts2 i0 i1 ho na nb c1.1 c1.2
      · by_cases c2 : ((cr ax ay bx by' hx ly ≤ 0 ∧ 0 ≤ cr ax ay bx by' hx hy) ∨ (cr ax ay bx by' hx hy ≤ 0 ∧ 0 ≤ cr ax ay bx by' hx ly)) ∧ cr ax ay bx by' hx ly ≠ cr ax ay bx by' hx hy
        · left; left; right; exact line_parts2 i1 i2 ho na nb c2.1 c2.2
        · by_cases c3 : ((cr ax ay bx by' hx hy ≤ 0 ∧ 0 ≤ cr ax ay bx by' lx hy) ∨ (cr ax ay bx by' lx hy ≤ 0 ∧ 0 ≤ cr ax ay bx by' hx hy)) ∧ cr ax ay bx by' hx hy ≠ cr ax ay bx by' lx hy
          · left; right; exact line_parts2 i2 i3 ho na nb c3.1 c3.2
          · right; exact line_parts2 i3 i0 ho na nb (by omega) (by omega)
theorem si_ov {lx ly hx hy ax ay bx by' : Int} (hb : lx ≤ hx ∧ ly ≤ hy) (h : siF lx ly hx hy ax ay bx by' = true) : ovP lx ly hx hy ax ay bx by' := by
  have i0 : inP lx ly hx hy lx ly := by unfold inP; omega
  have i1 : inP lx ly hx hy hx ly := by unfold inP; omega
  have i2 : inP lx ly hx hy hx hy := by unfold inP; omega
  have i3 : inP lx ly hx hy lx hy := by unfold inP; omega
  unfold siF at h
  simp only [Bool.or_eq_true] at h
  rcases h with ((h | h) | h) | h
  · exact me_ov h i0 i1
  · exact me_ov h i1 i2
  · exact me_ov h i2 i3
  · exact me_ov h i3 i0
end Go.Proofs.YtfobmlgpjhghdaaGreatDoor
namespace Go.Proofs.YtfobmlgpjhghdaaGreatDoor
set_option linter.unusedVariables false
open Go.ChangeShapes Go.WideShapes Go.ChangeAt Go.RowKit
theorem c_CheckPoint (x y : Int) (W : World) :
    Calls Tryz.prog 45 #[.agg #[.int .i64 x, .int .i64 y]] W fun e w' => e = .returned (if nearB x y = true then .nilIface else .iface 66 (.int .i64 2)) ∧ Gr W w' := by
  have A := c_near x y
  cases hq : nearB x y
  · rw [hq] at A
    have H1 := Lib.hid A
    rw [if_neg (by simp)]
    clear A hq
    go_enter Tryz.func45, Tryz.ntmps45
    go_wp2_with fail
    go_at_call 72
    refine ((H1.out _)).mono ?_
    rintro e w1 ⟨rfl, hw1⟩
    have gw1 : Gr W w1 := Gr.trans (by go_grown) hw1
    clear hw1
    go_wp2_with fail
    go_ret
    exact ⟨rfl, by go_grown⟩
  · rw [hq] at A
    have H1 := Lib.hid A
    rw [if_pos rfl]
    clear A hq
    go_enter Tryz.func45, Tryz.ntmps45
    go_wp2_with fail
    go_at_call 72
    refine ((H1.out _)).mono ?_
    rintro e w1 ⟨rfl, hw1⟩
    have gw1 : Gr W w1 := Gr.trans (by go_grown) hw1
    clear hw1
    go_wp2_with fail
    go_ret
    exact ⟨rfl, by go_grown⟩
theorem boxErr_code {lx ly hx hy : Int} (h : boxB lx ly hx hy = false) : ∃ z : Int, (z = 1 ∨ z = 2) ∧ boxErr lx ly hx hy = .iface 66 (.int .i64 z) ∧ boxCode lx ly hx hy = z := by
  unfold boxB at h
  unfold boxErr boxCode
  by_cases h1 : (nearB lx ly && nearB hx hy) = true
  · rw [if_pos h1, if_pos h1]
    by_cases h2 : (decide (lx ≤ hx) && decide (ly ≤ hy)) = true
    · rw [h1, Bool.true_and, h2] at h
      cases h
    · rw [if_neg h2, if_neg h2]
      exact ⟨1, Or.inl rfl, rfl, rfl⟩
  · rw [if_neg h1, if_neg h1]
    exact ⟨2, Or.inr rfl, rfl, rfl⟩
set_option maxHeartbeats 2000000 in
set_option maxRecDepth 100000 in
theorem c_rBoxHas (lx ly hx hy px py : Int) (W : World) :
    Calls Tryz.prog 28 #[.agg #[.int .i64 lx, .int .i64 ly, .int .i64 hx, .int .i64 hy], .agg #[.int .i64 px, .int .i64 py]] W fun e w' => e = .returned (.bool (boxB lx ly hx hy && nearB px py && inB lx ly hx hy px py)) ∧ Gr W w' := by
  obtain ⟨r, hr⟩ : ∃ r, r = (boxB lx ly hx hy && nearB px py && inB lx ly hx hy px py) := ⟨_, rfl⟩
  rw [← hr]
  obtain ⟨k1, e1⟩ : ∃ k, k = boxCode lx ly hx hy := ⟨_, rfl⟩
  obtain ⟨q2, e2⟩ : ∃ q, q = nearB px py := ⟨_, rfl⟩
  have M := c_rCheckBox lx ly hx hy
  have N := c_rPoint px py
  rw [← e1] at M
  rw [← e2] at N
  rw [← boxCode_zero, ← e1, ← e2] at hr
  have H1 := Lib.hid M
  have H2 := Lib.hid N
  clear M N e1 e2
  unfold inB at hr
  have hc : ((k1 == 0) = false ∧ r = false) ∨ (k1 = 0 ∧ q2 = false ∧ r = false) ∨ (k1 = 0 ∧ q2 = true ∧ ¬ lx ≤ px ∧ r = false) ∨ (k1 = 0 ∧ q2 = true ∧ lx ≤ px ∧ ¬ px ≤ hx ∧ r = false) ∨ (k1 = 0 ∧ q2 = true ∧ lx ≤ px ∧ px ≤ hx ∧ ¬ ly ≤ py ∧ r = false) ∨ (k1 = 0 ∧ q2 = true ∧ lx ≤ px ∧ px ≤ hx ∧ ly ≤ py ∧ ¬ py ≤ hy ∧ r = false) ∨ (k1 = 0 ∧ q2 = true ∧ lx ≤ px ∧ px ≤ hx ∧ ly ≤ py ∧ py ≤ hy ∧ r = true) := by
    by_cases z1 : k1 = 0
    · cases q2
      · right; left; exact ⟨z1, rfl, by rw [hr]; simp⟩
      · subst z1
        right; right
        by_cases a1 : lx ≤ px <;> by_cases a2 : px ≤ hx <;> by_cases a3 : ly ≤ py <;> by_cases a4 : py ≤ hy <;> simp [hr, a1, a2, a3, a4]
    · have : (k1 == 0) = false := by simpa using z1
      left; exact ⟨this, by rw [hr, this]; simp⟩
  clear hr
  rcases hc with ⟨z1, rfl⟩ | ⟨rfl, rfl, rfl⟩ | ⟨rfl, rfl, a1, rfl⟩ | ⟨rfl, rfl, a1, a2, rfl⟩ | ⟨rfl, rfl, a1, a2, a3, rfl⟩ | ⟨rfl, rfl, a1, a2, a3, a4, rfl⟩ | ⟨rfl, rfl, a1, a2, a3, a4, rfl⟩
  · go_enter Tryz.func28, Tryz.ntmps28
    go_wp2_with fail
    go_at_call 25
    refine ((H1.out _)).mono ?_
    rintro e w1 ⟨rfl, hw1⟩
    have cw1_0_0 := ci hw1 (W.heap.size) 0 lx (by go_simp)
    have cw1_0_1 := ci hw1 (W.heap.size) 1 ly (by go_simp)
    have cw1_0_2 := ci hw1 (W.heap.size) 2 hx (by go_simp)
    have cw1_0_3 := ci hw1 (W.heap.size) 3 hy (by go_simp)
    have cw1_1_0 := ci hw1 (W.heap.size + 1) 0 px (by go_simp)
    have cw1_1_1 := ci hw1 (W.heap.size + 1) 1 py (by go_simp)
    have gw1 : Gr W w1 := Gr.trans (by go_grown) hw1
    clear hw1
    go_wp2_with fail
    go_ret
    exact ⟨rfl, by go_grown⟩
  all_goals
    go_enter Tryz.func28, Tryz.ntmps28
    go_wp2_with fail
    go_at_call 25
    refine ((H1.out _)).mono ?_
    rintro e w1 ⟨rfl, hw1⟩
    have cw1_0_0 := ci hw1 (W.heap.size) 0 lx (by go_simp)
    have cw1_0_1 := ci hw1 (W.heap.size) 1 ly (by go_simp)
    have cw1_0_2 := ci hw1 (W.heap.size) 2 hx (by go_simp)
    have cw1_0_3 := ci hw1 (W.heap.size) 3 hy (by go_simp)
    have cw1_1_0 := ci hw1 (W.heap.size + 1) 0 px (by go_simp)
    have cw1_1_1 := ci hw1 (W.heap.size + 1) 1 py (by go_simp)
    have gw1 : Gr W w1 := Gr.trans (by go_grown) hw1
    clear hw1
    go_wp2_with fail
    go_at_call 24
    refine ((H2.out _)).mono ?_
    rintro e w2 ⟨rfl, hw2⟩
    have cw2_0_0 := ci hw2 (W.heap.size) 0 lx (by go_simp)
    have cw2_0_1 := ci hw2 (W.heap.size) 1 ly (by go_simp)
    have cw2_0_2 := ci hw2 (W.heap.size) 2 hx (by go_simp)
    have cw2_0_3 := ci hw2 (W.heap.size) 3 hy (by go_simp)
    have cw2_1_0 := ci hw2 (W.heap.size + 1) 0 px (by go_simp)
    have cw2_1_1 := ci hw2 (W.heap.size + 1) 1 py (by go_simp)
    have gw2 : Gr W w2 := Gr.trans (by have gg := gw1; have gs := gg.size; go_grown) hw2
    clear hw2 gw1 cw1_0_0 cw1_0_1 cw1_0_2 cw1_0_3 cw1_1_0 cw1_1_1
    go_wp2_with fail
    go_ret
    exact ⟨by first | rfl | simp [a4], by go_grown⟩
end Go.Proofs.YtfobmlgpjhghdaaGreatDoor
namespace Go.Proofs.YtfobmlgpjhghdaaGreatDoor
set_option linter.unusedVariables false
open Go.ChangeShapes Go.WideShapes Go.ChangeAt Go.RowKit
theorem is_typeOf (v : Value) (w : World) : (callFunc 64 #[.iface 66 v]).run Tryz.prog w = .ok (.value (.iface 132 (.agg #[.pointer (some ⟨Tryz.prog.globals.size, 66, none⟩)]))) w := by
  rw [@run_callFunc_extern Tryz.prog 64 _ Extern.ReflectliteType.typeOf Tryz.func64 (by kernel_rfl) (by kernel_rfl) (by kernel_rfl) (by kernel_rfl)]
  kernel_rfl
theorem is_comparable (w : World) : (callFunc 178 #[.agg #[.pointer (some ⟨Tryz.prog.globals.size, 66, none⟩)]]).run Tryz.prog w = .ok (.value (.bool true)) w := by
  rw [@run_callFunc_extern Tryz.prog 178 _ (Extern.ReflectliteType.method fun t => do Extern.Rtype.noPackHeld "Comparable" t; pure (.bool (← typeInfo t).comparable)) Tryz.func178 (by kernel_rfl) (by kernel_rfl) (by kernel_rfl) (by kernel_rfl)]
  kernel_rfl
theorem is_noIs (v : Value) (xT : TypeId) (w : World) : (Instr.typeAssert (.iface 66 v) xT 134 true).run Tryz.prog w = .ok (.tuple #[.nilIface, .bool false]) w := run_typeAssert_lacksB Tryz.underlying134 (by kernel_rfl) (by kernel_rfl) v xT w
theorem is_noUnwrap (v : Value) (xT : TypeId) (w : World) : (Instr.typeAssert (.iface 66 v) xT 137 true).run Tryz.prog w = .ok (.tuple #[.nilIface, .bool false]) w := run_typeAssert_lacksB Tryz.underlying137 (by kernel_rfl) (by kernel_rfl) v xT w
theorem is_noUnwraps (v : Value) (xT : TypeId) (w : World) : (Instr.typeAssert (.iface 66 v) xT 139 true).run Tryz.prog w = .ok (.tuple #[.nilIface, .bool false]) w := run_typeAssert_lacksB Tryz.underlying139 (by kernel_rfl) (by kernel_rfl) v xT w
theorem is_eql (i k : Int) (w : World) : (binOp .eql 34 (.iface 66 (.int .i64 i)) (.iface 66 (.int .i64 k))).run Tryz.prog w = .ok (.bool (i == k)) w := by kernel_rfl
theorem isF_noIs (v : Value) (xT : TypeId) (w : World) : (Instr.typeAssert (.iface 84 v) xT 134 true).run Tryz.prog w = .ok (.tuple #[.nilIface, .bool false]) w := run_typeAssert_lacksB Tryz.underlying134 (by kernel_rfl) (by kernel_rfl) v xT w
theorem isF_hasUnwrap (v : Value) (xT : TypeId) (w : World) : (Instr.typeAssert (.iface 84 v) xT 137 true).run Tryz.prog w = .ok (.tuple #[.iface 84 v, .bool true]) w := run_typeAssert_hasB Tryz.underlying137 (by kernel_rfl) v xT w
end Go.Proofs.YtfobmlgpjhghdaaGreatDoor
namespace Go.Proofs.YtfobmlgpjhghdaaGreatDoor
set_option linter.unusedVariables false
open Go.ChangeShapes Go.WideShapes Go.ChangeAt Go.RowKit Go.Extern.Stop Go.Stop Go.Extern
theorem as_valueOfT (t : Addr) (w : World) : (ReflectliteValue.unpack (.iface 86 (.pointer (some t)))).run Tryz.prog w
    = .ok (.agg #[.pointer (some ⟨Tryz.prog.globals.size, 86, none⟩), .pointer (some ⟨w.heap.size, 0, none⟩), .int .u64 150]) (w.alloc (.cells #[.pointer (some t)] 86)) := by kernel_rfl
theorem as_typeT (a : Addr) (w : World) : (ReflectliteValue.methodAny (ReflectliteValue.valueError "reflectlite.Value.Type" 0) (fun t _ _ _ => ReflectliteType.toType t) #[.agg #[.pointer (some ⟨Tryz.prog.globals.size, 86, none⟩), .pointer (some a), .int .u64 150]]).run Tryz.prog w
    = .ok (.iface 132 (.agg #[.pointer (some ⟨Tryz.prog.globals.size, 86, none⟩)])) w := by kernel_rfl
theorem as_methodKind (n : Nat) (h : Value) (w : World) : (Go.method (n + 1) 132 (.agg #[h]) "Kind").run Tryz.prog w = .ok (167, h) w := by kernel_rfl
theorem as_kindT (w : World) : ((ReflectliteType.abiMethod fun t => (fun a : Nat => Value.int IntKind.u8 (a : Int)) <$> Rtype.kind t) #[.pointer (some ⟨Tryz.prog.globals.size, 86, none⟩)]).run Tryz.prog w = .ok (.int .u8 22) w := by kernel_rfl
theorem as_kindF (w : World) : ((ReflectliteType.abiMethod fun t => (fun a : Nat => Value.int IntKind.u8 (a : Int)) <$> Rtype.kind t) #[.pointer (some ⟨Tryz.prog.globals.size, 84, none⟩)]).run Tryz.prog w = .ok (.int .u8 22) w := by kernel_rfl
theorem as_rlm (z : Sem Value) (f : TypeId → Addr → Nat → Nat → Sem Value) (v : Value) :
    ReflectliteValue.method z f #[v] = (do match ← ReflectliteValue.parts v with | none => z | some (t, a, fl) => f t a fl (fl % 32)) := rfl
theorem as_partsT (a : Addr) (w : World) : (ReflectliteValue.parts (.agg #[.pointer (some ⟨Tryz.prog.globals.size, 86, none⟩), .pointer (some a), .int .u64 150])).run Tryz.prog w = .ok (some (86, a, 150)) w := by kernel_rfl
theorem as_isNilT (a p : Addr) (W : World) (ha : W.cell? a = some (.pointer (some p))) :
    (ReflectliteValue.method (ReflectliteValue.valueError "reflectlite.Value.IsNil" 0) ReflectliteValue.isNil #[.agg #[.pointer (some ⟨Tryz.prog.globals.size, 86, none⟩), .pointer (some a), .int .u64 150]]).run Tryz.prog W = .ok (.bool false) W := by
  rw [as_rlm]
  simp only [Sem.run_bind, as_partsT, Result.andThen]
  simp [ReflectliteValue.isNil, loadVar, isAgg, underlying, Tryz.underlying86, ha, Result.andThen]
theorem as_methodElem (n : Nat) (h : Value) (w : World) : (Go.method (n + 1) 132 (.agg #[h]) "Elem").run Tryz.prog w = .ok (179, .agg #[h]) w := by kernel_rfl
theorem as_methodImplements (n : Nat) (h : Value) (w : World) : (Go.method (n + 1) 132 (.agg #[h]) "Implements").run Tryz.prog w = .ok (180, .agg #[h]) w := by kernel_rfl
theorem as_methodAssignableTo (n : Nat) (h : Value) (w : World) : (Go.method (n + 1) 132 (.agg #[h]) "AssignableTo").run Tryz.prog w = .ok (177, .agg #[h]) w := by kernel_rfl
theorem as_elemT (w : World) : (ReflectliteType.method ReflectliteType.elem #[.agg #[.pointer (some ⟨Tryz.prog.globals.size, 86, none⟩)]]).run Tryz.prog w = .ok (.iface 132 (.agg #[.pointer (some ⟨Tryz.prog.globals.size, 84, none⟩)])) w := by kernel_rfl
theorem as_implementsF (w : World) : (ReflectliteType.relation "Implements" ReflectliteType.implements_ #[.agg #[.pointer (some ⟨Tryz.prog.globals.size, 84, none⟩)], .iface 132 (.agg #[.pointer (some ⟨Tryz.prog.globals.size, 34, none⟩)])]).run Tryz.prog w = .ok (.bool true) w := by kernel_rfl
theorem as_typeOfF (v : Value) (w : World) : (ReflectliteType.typeOf #[.iface 84 v]).run Tryz.prog w = .ok (.iface 132 (.agg #[.pointer (some ⟨Tryz.prog.globals.size, 84, none⟩)])) w := by kernel_rfl
theorem as_assignableF (w : World) : (ReflectliteType.relation "AssignableTo" ReflectliteType.assignableTo #[.agg #[.pointer (some ⟨Tryz.prog.globals.size, 84, none⟩)], .iface 132 (.agg #[.pointer (some ⟨Tryz.prog.globals.size, 84, none⟩)])]).run Tryz.prog w = .ok (.bool true) w := by kernel_rfl
theorem as_valueOfF (e : Addr) (w : World) : (ReflectliteValue.unpack (.iface 84 (.pointer (some e)))).run Tryz.prog w
    = .ok (.agg #[.pointer (some ⟨Tryz.prog.globals.size, 84, none⟩), .pointer (some ⟨w.heap.size, 0, none⟩), .int .u64 150]) (w.alloc (.cells #[.pointer (some e)] 84)) := by kernel_rfl
theorem as_elemOfT (w : World) : (Rtype.elem? 86).run Tryz.prog w = .ok (some 84) w := by kernel_rfl
theorem as_mkF (p : Addr) (w : World) : (ReflectliteValue.mk 84 p ReflectliteValue.flagAddr).run Tryz.prog w = .ok (.agg #[.pointer (some ⟨Tryz.prog.globals.size, 84, none⟩), .pointer (some p), .int .u64 406]) w := by kernel_rfl
theorem as_elemVT (a p : Addr) (W : World) (ha : W.cell? a = some (.pointer (some p))) :
    (ReflectliteValue.method (ReflectliteValue.valueError "reflectlite.Value.Elem" 0) ReflectliteValue.elem #[.agg #[.pointer (some ⟨Tryz.prog.globals.size, 86, none⟩), .pointer (some a), .int .u64 150]]).run Tryz.prog W
      = .ok (.agg #[.pointer (some ⟨Tryz.prog.globals.size, 84, none⟩), .pointer (some p), .int .u64 406]) W := by
  rw [as_rlm]
  simp only [Sem.run_bind, as_partsT, Result.andThen]
  simp [ReflectliteValue.elem, loadVar, isAgg, underlying, Tryz.underlying86, ha, Result.andThen, as_elemOfT, as_mkF]
theorem as_rls (v x : Value) : ReflectliteValue.set #[v, x] = (do
    let (some (dst, a, fl), some (src, b, _)) := (← ReflectliteValue.parts v, ← ReflectliteValue.parts x)
      | unsupported (.noEntry "extern/(internal/reflectlite.Value).Set.zeroValue")
    if fl / ReflectliteValue.flagAddr % 2 == 0 then unsupported (.noEntry "extern/(internal/reflectlite.Value).Set.unaddressable")
    let val ← loadVar src b
    if ← Rtype.directlyAssignable dst src then storeVar dst a val
    else if ← Rtype.implements dst src then
      if (← Rtype.kind src) == 20 then
        match val with
        | .nilIface => unsupported (.noEntry "extern/reflectlite: a nil value of one interface type handed on as a value of another")
        | _ => storeVar dst a val
      else storeVar dst a (.iface src val)
    else panicString ("reflectlite.Set: value of type " ++ (← Rtype.spelt src) ++ " is not assignable to type " ++ (← Rtype.spelt dst))
    pure (.tuple #[])) := rfl
theorem as_partsFa (a : Addr) (w : World) : (ReflectliteValue.parts (.agg #[.pointer (some ⟨Tryz.prog.globals.size, 84, none⟩), .pointer (some a), .int .u64 406])).run Tryz.prog w = .ok (some (84, a, 406)) w := by kernel_rfl
theorem as_partsF (a : Addr) (w : World) : (ReflectliteValue.parts (.agg #[.pointer (some ⟨Tryz.prog.globals.size, 84, none⟩), .pointer (some a), .int .u64 150])).run Tryz.prog w = .ok (some (84, a, 150)) w := by kernel_rfl
theorem as_directF (w : World) : (Rtype.directlyAssignable 84 84).run Tryz.prog w = .ok true w := by kernel_rfl
theorem as_setF (ta b e : Addr) (old : Value) (W : World) (hb : W.cell? b = some (.pointer (some e))) (ht : W.cell? ta = some old) (hf : W.frozen? ta = false) :
    (ReflectliteValue.set #[.agg #[.pointer (some ⟨Tryz.prog.globals.size, 84, none⟩), .pointer (some ta), .int .u64 406], .agg #[.pointer (some ⟨Tryz.prog.globals.size, 84, none⟩), .pointer (some b), .int .u64 150]]).run Tryz.prog W
      = .ok (.tuple #[]) (W.setCell ta (.pointer (some e))) := by
  rw [as_rls]
  simp only [Sem.run_bind, as_partsFa, as_partsF, Result.andThen]
  simp [ReflectliteValue.flagAddr, loadVar, isAgg, underlying, Tryz.underlying84, hb, Result.andThen, as_directF, storeVar, Value.cells, storeCells, Addr.add]
  rw [run_store Tryz.prog W ta _ _ (by rfl)]
  simp [ht, hf]
set_option maxHeartbeats 4000000 in
set_option maxRecDepth 100000 in
theorem as_hit (e t : Addr) (old : Value) (w : World) (hg : w.cell? ⟨0, 0, none⟩ = some (.iface 132 (.agg #[.pointer (some ⟨Tryz.prog.globals.size, 34, none⟩)]))) (ht0 : w.cell? t = some old) (hf0 : w.frozen? t = false) :
    Calls Tryz.prog 61 #[.iface 84 (.pointer (some e)), .iface 86 (.pointer (some t))] w fun ev w' => ev = .returned (.bool true) ∧ ∃ wx, Gr w wx ∧ w' = wx.setCell t (.pointer (some e)) := by
  have h6 := @run_callFunc_extern Tryz.prog 97 _ (fun args => ReflectliteValue.unpack (args.getD 0 (.tuple #[]))) Tryz.func97 (by kernel_rfl) (by kernel_rfl) (by kernel_rfl) (by kernel_rfl)
  have h7 := @run_callFunc_extern Tryz.prog 98 _ (ReflectliteValue.methodAny (ReflectliteValue.valueError "reflectlite.Value.Type" 0) (fun t _ _ _ => ReflectliteType.toType t)) Tryz.func98 (by kernel_rfl) (by kernel_rfl) (by kernel_rfl) (by kernel_rfl)
  have h8 := @run_callFunc_extern Tryz.prog 99 _ (ReflectliteValue.method (ReflectliteValue.valueError "reflectlite.Value.IsNil" 0) ReflectliteValue.isNil) Tryz.func99 (by kernel_rfl) (by kernel_rfl) (by kernel_rfl) (by kernel_rfl)
  have h27 := @run_callFunc_extern Tryz.prog 167 _ (ReflectliteType.abiMethod fun t => do pure (.int .u8 (← Rtype.kind t))) Tryz.func167 (by kernel_rfl) (by kernel_rfl) (by kernel_rfl) (by kernel_rfl)
  have h37 := @run_callFunc_extern Tryz.prog 179 _ (ReflectliteType.method ReflectliteType.elem) Tryz.func179 (by kernel_rfl) (by kernel_rfl) (by kernel_rfl) (by kernel_rfl)
  have h38 := @run_callFunc_extern Tryz.prog 180 _ (ReflectliteType.relation "Implements" ReflectliteType.implements_) Tryz.func180 (by kernel_rfl) (by kernel_rfl) (by kernel_rfl) (by kernel_rfl)
  have h10 := @run_callFunc_extern Tryz.prog 64 _ ReflectliteType.typeOf Tryz.func64 (by kernel_rfl) (by kernel_rfl) (by kernel_rfl) (by kernel_rfl)
  have h35 := @run_callFunc_extern Tryz.prog 177 _ (ReflectliteType.relation "AssignableTo" ReflectliteType.assignableTo) Tryz.func177 (by kernel_rfl) (by kernel_rfl) (by kernel_rfl) (by kernel_rfl)
  have h11 := @run_callFunc_extern Tryz.prog 131 _ (ReflectliteValue.method (ReflectliteValue.valueError "reflectlite.Value.Elem" 0) ReflectliteValue.elem) Tryz.func131 (by kernel_rfl) (by kernel_rfl) (by kernel_rfl) (by kernel_rfl)
  have h12 := @run_callFunc_extern Tryz.prog 132 _ ReflectliteValue.set Tryz.func132 (by kernel_rfl) (by kernel_rfl) (by kernel_rfl) (by kernel_rfl)
  have tO := as_typeOfF
  have mA := as_methodAssignableTo
  have aF := as_assignableF
  have vF := as_valueOfF
  have f6 := as_valueOfT
  have f7 := as_typeT
  have mK := as_methodKind
  have mE := as_methodElem
  have mI := as_methodImplements
  have kT := as_kindT
  have kF := as_kindF
  have eT := as_elemT
  have iF := as_implementsF
  have hlt := World.block_lt_of_cell? _ _ hg
  have htl := World.block_lt_of_cell? _ _ ht0
  have n8 := as_isNilT ⟨w.heap.size, 0, none⟩ t
  have el := as_elemVT ⟨w.heap.size, 0, none⟩ t
  have st := as_setF t ⟨w.heap.size + 1 + 1 + 1, 0, none⟩ e old
  generalize Tryz.prog.globals.size = n at tO mA aF vF f6 f7 mK mE mI kT kF eT iF n8 el st hg
  replace n8 := n8 ((w.alloc (.cells #[.pointer (some t)] 86)).alloc (.cells #[.pointer (some ⟨n, 86, none⟩), .pointer (some ⟨w.heap.size, 0, none⟩), .int .u64 150] 123)) (by simp)
  have hg2 : ((w.alloc (.cells #[.pointer (some t)] 86)).alloc (.cells #[.pointer (some ⟨n, 86, none⟩), .pointer (some ⟨w.heap.size, 0, none⟩), .int .u64 150] 123)).cell? ⟨0, 0, none⟩ = some (.iface 132 (.agg #[.pointer (some ⟨n, 34, none⟩)])) := by
    rw [World.cell?_alloc_lt _ _ ⟨0, 0, none⟩ (by simp <;> omega), World.cell?_alloc_lt _ _ ⟨0, 0, none⟩ hlt]; exact hg
  replace el := el (((w.alloc (.cells #[.pointer (some t)] 86)).alloc (.cells #[.pointer (some ⟨n, 86, none⟩), .pointer (some ⟨w.heap.size, 0, none⟩), .int .u64 150] 123)).alloc (.cells #[.pointer (some ⟨n, 86, none⟩), .pointer (some ⟨w.heap.size, 0, none⟩), .int .u64 150] 123)) (by rw [World.cell?_alloc_lt _ _ ⟨w.heap.size, 0, none⟩ (by simp; omega)]; simp)
  replace st := st ((((w.alloc (.cells #[.pointer (some t)] 86)).alloc (.cells #[.pointer (some ⟨n, 86, none⟩), .pointer (some ⟨w.heap.size, 0, none⟩), .int .u64 150] 123)).alloc (.cells #[.pointer (some ⟨n, 86, none⟩), .pointer (some ⟨w.heap.size, 0, none⟩), .int .u64 150] 123)).alloc (.cells #[.pointer (some e)] 84))
    (by rw [World.cell?_alloc_at _ _ _ _ (by simp)]; rfl)
    (by rw [World.cell?_alloc_lt _ _ t (by simp; omega), World.cell?_alloc_lt _ _ t (by simp; omega), World.cell?_alloc_lt _ _ t (by simp; omega), World.cell?_alloc_lt _ _ t htl]; exact ht0)
    (by rw [World.frozen?_alloc_old _ _ t (by simp; omega), World.frozen?_alloc_old _ _ t (by simp; omega), World.frozen?_alloc_old _ _ t (by simp; omega), World.frozen?_alloc_old _ _ t (Nat.ne_of_lt htl)]; exact hf0)
  go_enter Tryz.func61, Tryz.ntmps61
  go_wp2
  refine wp_loop_rounds 1 ?_
  rw [rounds_succ]
  go_wp2
  go_ret
  exact ⟨rfl, _, by go_grown, rfl⟩
end Go.Proofs.YtfobmlgpjhghdaaGreatDoor
namespace Go.Proofs.YtfobmlgpjhghdaaGreatDoor
set_option linter.unusedVariables false
open Go.ChangeShapes Go.WideShapes Go.ChangeAt Go.RowKit
def ErrT (w : World) : Prop := w.cell? ⟨0, 0, none⟩ = some (.iface 132 (.agg #[.pointer (some ⟨Tryz.prog.globals.size, 34, none⟩)]))
theorem errT_gr {a b : World} (h : ErrT a) (g : Gr a b) : ErrT b := cell_gr g h
def FaultAt (w : World) (b : Nat) (op : ByteArray) (id k : Int) : Prop := w.cell? ⟨b, 0, none⟩ = some (.string op) ∧ w.cell? ⟨b, 1, none⟩ = some (.int .i64 id) ∧ w.cell? ⟨b, 2, none⟩ = some (.iface 66 (.int .i64 k))
theorem c_Code_nil2 (w : World) : Calls Tryz.prog 12 #[.nilIface] w fun e w' => e = .returned (.int .i64 0) ∧ Gr w w' := by
  go_enter Tryz.func12, Tryz.ntmps12
  go_wp2
  go_ret
  exact ⟨rfl, by go_grown⟩
set_option maxHeartbeats 1000000 in
set_option maxRecDepth 100000 in
theorem code_core (T : TypeId) (v : Value) (k : Nat) (hk : 1 ≤ k ∧ k ≤ 15) (w : World) (hn : (T = 84 ∨ T = 66))
    (A : ∀ (i : Nat) wr, Gr w wr → Calls Tryz.prog 38 #[.iface T v, .iface 66 (.int .i64 i)] wr fun e w' => e = .returned (.bool (decide (k = i))) ∧ Gr wr w') :
    Calls Tryz.prog 12 #[.iface T v] w fun e w' => e = .returned (.int .i64 k) ∧ Gr w w' := by
  have H1 := Lib.hid A
  have HK := Lib.hid hk
  clear A hk
  rcases hn with rfl | rfl
  all_goals
    go_enter Tryz.func12, Tryz.ntmps12
    go_wp2_with fail
    go_loopg [3] k (fun j v wr => ∃ i : Nat, i + j = k ∧ 1 ≤ i + 1 ∧ v = .int .i64 ((i : Int) + 1) ∧ i < k ∧ Gr w wr)
    case atStart => exact ⟨0, by omega, by omega, rfl, by have := HK.out; omega, by go_grown⟩
    case round =>
      obtain ⟨i, hj, -, rfl, hik, gwr⟩ := hrel
      have t1 : decide ((i : Int) + 1 ≤ 15) = true := decide_eq_true (by have := HK.out; omega)
      have bnd : (i : Int) + 1 ≤ 15 := by have := HK.out; omega
      have C := H1.out (i + 1)
      rw [show (((i + 1 : Nat) : Int)) = (i : Int) + 1 by omega] at C
      by_cases he : k = i + 1
      · rw [decide_eq_true he] at C
        have H2 := Lib.hid C
        have HE := Lib.hid he
        clear C he
        go_wp2_with fail
        go_at_call 38
        refine ((H2.out _ (by have gg := gwr; have gs := gg.size; go_grown))).mono ?_
        rintro e w1 ⟨rfl, hw1⟩
        have gw1 : Gr w w1 := Gr.trans (by have gg := gwr; have gs := gg.size; go_grown) hw1
        clear hw1 gwr
        go_wp2_with fail
        go_ret
        exact ⟨by rw [HE.out]; rfl, by have gg := gw1; have gs := gg.size; go_grown⟩
      · rw [decide_eq_false he] at C
        have H2 := Lib.hid C
        have HE := Lib.hid he
        clear C he
        go_wp2_with fail
        go_at_call 38
        refine ((H2.out _ (by have gg := gwr; have gs := gg.size; go_grown))).mono ?_
        rintro e w1 ⟨rfl, hw1⟩
        have gw1 : Gr w w1 := Gr.trans (by have gg := gwr; have gs := gg.size; go_grown) hw1
        clear hw1 gwr
        go_wp2_with fail
        go_roundg (k - (i + 1))
        case measure => omega
        case rel => exact ⟨i + 1, by omega, by omega, by go_num, by have := HE.out; omega, by have gg := gw1; have gs := gg.size; go_grown⟩
set_option maxRecDepth 100000 in
theorem c_AlIs_nil (op : ByteArray) (id : Int) (w : World) : Calls Tryz.prog 35 #[.nilIface, .int .i64 0, .string op, .int .i64 id] w fun e w' => e = .returned (.bool true) ∧ Gr w w' := by
  go_enter Tryz.func35, Tryz.ntmps35
  go_wp2_with fail
  go_at_call 12
  refine ((c_Code_nil2 _)).mono ?_
  rintro e w1 ⟨rfl, hw1⟩
  have gw1 : Gr w w1 := Gr.trans (by go_grown) hw1
  clear hw1
  go_wp2_with fail
  go_ret
  exact ⟨rfl, gw1⟩
end Go.Proofs.YtfobmlgpjhghdaaGreatDoor
namespace Go.Proofs.YtfobmlgpjhghdaaGreatDoor
set_option linter.unusedVariables false
open Go.ChangeShapes Go.WideShapes Go.ChangeAt Go.RowKit
def accMin (A : Nat → Int) : Nat → Int
  | 0 => A 0
  | k + 1 => minZ (accMin A k) (A k)
def accMax (A : Nat → Int) : Nat → Int
  | 0 => A 0
  | k + 1 => maxZ (accMax A k) (A k)
set_option maxHeartbeats 2000000 in
set_option maxRecDepth 100000 in
theorem c_rUnionN (n cap : Nat) (A B C D : Nat → Int) (b off : Nat) (w : World) (hn : 1 ≤ n) (hn2 : n ≤ 200) (R : Value)
    (hc : ∀ k, k < n → w.cell? ⟨b, off + k * 4, none⟩ = some (.int .i64 (A k)) ∧ w.cell? ⟨b, off + k * 4 + 1, none⟩ = some (.int .i64 (B k)) ∧ w.cell? ⟨b, off + k * 4 + 2, none⟩ = some (.int .i64 (C k)) ∧ w.cell? ⟨b, off + k * 4 + 3, none⟩ = some (.int .i64 (D k)))
    (r1 : ∀ j, j < n → allBox A B C D j = true → boxB (A j) (B j) (C j) (D j) = false → R = .tuple #[.agg #[.int .i64 0, .int .i64 0, .int .i64 0, .int .i64 0], .int .i64 (boxCode (A j) (B j) (C j) (D j))])
    (r2 : allBox A B C D n = true → R = .tuple #[.agg #[.int .i64 (accMin A n), .int .i64 (accMin B n), .int .i64 (accMax C n), .int .i64 (accMax D n)], .int .i64 0]) :
    Calls Tryz.prog 63 #[.slice (some ⟨b, off, none⟩) n cap] w fun e w' => e = .returned R ∧ Gr w w' := by
  have t1 : ((n : Int) == 0) = false := by simp; omega
  have t2 : ((n : Int) != 0) = true := by simp; omega
  have t3 : (0 : Int) < (n : Int) := by omega
  have t4 : 0 < n := by omega
  have k0 : w.cell? ⟨b, off, none⟩ = some (.int .i64 (A 0)) := by simpa using (hc 0 (by omega)).1
  have k1 : w.cell? ⟨b, off + 1, none⟩ = some (.int .i64 (B 0)) := by simpa using (hc 0 (by omega)).2.1
  have k2 : w.cell? ⟨b, off + 2, none⟩ = some (.int .i64 (C 0)) := by simpa using (hc 0 (by omega)).2.2.1
  have k3 : w.cell? ⟨b, off + 3, none⟩ = some (.int .i64 (D 0)) := by simpa using (hc 0 (by omega)).2.2.2
  have hblt := World.block_lt_of_cell? _ _ k0
  have HC := Lib.hid hc
  have HR1 := Lib.hid r1
  have HR2 := Lib.hid r2
  clear hc r1 r2
  go_enter Tryz.func63, Tryz.ntmps63
  go_wp2_with fail
  have hne : ¬ b = w.heap.size := by omega
  have hne1 : ¬ b = w.heap.size + 1 := by omega
  go_loopg [5] n (fun k v wr => ∃ i : Nat, i + k = n ∧ v = .int .i64 i ∧ allBox A B C D i = true ∧ wr.cell? ⟨w.heap.size, 0, none⟩ = some (.int .i64 0) ∧ wr.cell? ⟨w.heap.size, 1, none⟩ = some (.int .i64 0) ∧ wr.cell? ⟨w.heap.size, 2, none⟩ = some (.int .i64 0) ∧ wr.cell? ⟨w.heap.size, 3, none⟩ = some (.int .i64 0) ∧ wr.frozen? ⟨w.heap.size, 0, none⟩ = false ∧ wr.frozen? ⟨w.heap.size, 1, none⟩ = false ∧ wr.frozen? ⟨w.heap.size, 2, none⟩ = false ∧ wr.frozen? ⟨w.heap.size, 3, none⟩ = false ∧ wr.cell? ⟨w.heap.size + 1, 0, none⟩ = some (.int .i64 (accMin A i)) ∧ wr.cell? ⟨w.heap.size + 1, 1, none⟩ = some (.int .i64 (accMin B i)) ∧ wr.cell? ⟨w.heap.size + 1, 2, none⟩ = some (.int .i64 (accMax C i)) ∧ wr.cell? ⟨w.heap.size + 1, 3, none⟩ = some (.int .i64 (accMax D i)) ∧ wr.frozen? ⟨w.heap.size + 1, 0, none⟩ = false ∧ wr.frozen? ⟨w.heap.size + 1, 1, none⟩ = false ∧ wr.frozen? ⟨w.heap.size + 1, 2, none⟩ = false ∧ wr.frozen? ⟨w.heap.size + 1, 3, none⟩ = false ∧ Gr w wr)
  case atStart => exact ⟨0, by omega, rfl, rfl, by go_simp, by go_simp, by go_simp, by go_simp, by go_simp, by go_simp, by go_simp, by go_simp, by unfold accMin; go_simp, by unfold accMin; go_simp, by unfold accMax; go_simp, by unfold accMax; go_simp, by go_simp, by go_simp, by go_simp, by go_simp, by go_grown⟩
  case round =>
    obtain ⟨i, hk, rfl, hall, c0, c1, c2, c3, f0, f1, f2, f3, a0, a1, a2, a3, g0, g1, g2, g3, gwr⟩ := hrel
    have zwr0 := World.block_lt_of_cell? _ _ c0
    have zwr := World.block_lt_of_cell? _ _ a0
    by_cases hin : i < n
    · have ti : decide ((i : Int) < (n : Int)) = true := decide_eq_true (by omega)
      have ti2 : decide (i < n) = true := decide_eq_true hin
      have ti3 : (i : Int) < (n : Int) := by omega
      have s0 := cell_gr gwr (HC.out i hin).1
      have s1 := cell_gr gwr (HC.out i hin).2.1
      have s2 := cell_gr gwr (HC.out i hin).2.2.1
      have s3 := cell_gr gwr (HC.out i hin).2.2.2
      clear k0 k1 k2 k3
      have K := c_rCheckBox (A i) (B i) (C i) (D i)
      by_cases hb : boxB (A i) (B i) (C i) (D i) = true
      · have e : allBox A B C D (i + 1) = true := by simp only [allBox, hall, hb]; rfl
        have HE := Lib.hid e
        have ec0 : boxCode (A i) (B i) (C i) (D i) = 0 := by
          have := boxCode_zero (lx := A i) (ly := B i) (hx := C i) (hy := D i)
          rw [hb] at this
          simpa using this
        rw [ec0] at K
        have H1 := Lib.hid K
        obtain ⟨xa, ea⟩ : ∃ x, x = accMin A i := ⟨_, rfl⟩
        obtain ⟨xb, eb⟩ : ∃ x, x = accMin B i := ⟨_, rfl⟩
        obtain ⟨xc, ec⟩ : ∃ x, x = accMax C i := ⟨_, rfl⟩
        obtain ⟨xd, ed⟩ : ∃ x, x = accMax D i := ⟨_, rfl⟩
        obtain ⟨ya, ea'⟩ : ∃ x, x = minZ (accMin A i) (A i) := ⟨_, rfl⟩
        obtain ⟨yb, eb'⟩ : ∃ x, x = minZ (accMin B i) (B i) := ⟨_, rfl⟩
        obtain ⟨yc, ec'⟩ : ∃ x, x = maxZ (accMax C i) (C i) := ⟨_, rfl⟩
        obtain ⟨yd, ed'⟩ : ∃ x, x = maxZ (accMax D i) (D i) := ⟨_, rfl⟩
        have m1 : ∀ w, (Builtin.min_ #[3, 3] 3 #[.int .i64 xa, .int .i64 (A i)]).run Tryz.prog w = .ok (.int .i64 ya) w := fun w => by rw [ea', ← ea]; simp [Builtin.min_, Builtin.min2, go_sem, minZ]
        have m2 : ∀ w, (Builtin.min_ #[3, 3] 3 #[.int .i64 xb, .int .i64 (B i)]).run Tryz.prog w = .ok (.int .i64 yb) w := fun w => by rw [eb', ← eb]; simp [Builtin.min_, Builtin.min2, go_sem, minZ]
        have m3 : ∀ w, (Builtin.max_ #[3, 3] 3 #[.int .i64 xc, .int .i64 (C i)]).run Tryz.prog w = .ok (.int .i64 yc) w := fun w => by rw [ec', ← ec]; simp [Builtin.max_, Builtin.max2, go_sem, maxZ]
        have m4 : ∀ w, (Builtin.max_ #[3, 3] 3 #[.int .i64 xd, .int .i64 (D i)]).run Tryz.prog w = .ok (.int .i64 yd) w := fun w => by rw [ed', ← ed]; simp [Builtin.max_, Builtin.max2, go_sem, maxZ]
        rw [← ea] at a0
        rw [← eb] at a1
        rw [← ec] at a2
        rw [← ed] at a3
        have HY := Lib.hid (And.intro ea' (And.intro eb' (And.intro ec' ed')))
        clear e hall hb ea eb ec ed ea' eb' ec' ed' ec0 K
        go_wp2_with fail
        go_at_call 25
        refine ((H1.out _)).mono ?_
        rintro e w1 ⟨rfl, hw1⟩
        have cw1_0_0 := ci hw1 (w.heap.size) 0 0 (by go_simp)
        have fw1_0_0 := fq hw1 (w.heap.size) 0 (.int .i64 0) (by go_simp) (by go_simp)
        have cw1_0_1 := ci hw1 (w.heap.size) 1 0 (by go_simp)
        have fw1_0_1 := fq hw1 (w.heap.size) 1 (.int .i64 0) (by go_simp) (by go_simp)
        have cw1_0_2 := ci hw1 (w.heap.size) 2 0 (by go_simp)
        have fw1_0_2 := fq hw1 (w.heap.size) 2 (.int .i64 0) (by go_simp) (by go_simp)
        have cw1_0_3 := ci hw1 (w.heap.size) 3 0 (by go_simp)
        have fw1_0_3 := fq hw1 (w.heap.size) 3 (.int .i64 0) (by go_simp) (by go_simp)
        have cw1_1_0 := ci hw1 (w.heap.size + 1) 0 xa (by go_simp)
        have fw1_1_0 := fq hw1 (w.heap.size + 1) 0 (.int .i64 xa) (by go_simp) (by go_simp)
        have cw1_1_1 := ci hw1 (w.heap.size + 1) 1 xb (by go_simp)
        have fw1_1_1 := fq hw1 (w.heap.size + 1) 1 (.int .i64 xb) (by go_simp) (by go_simp)
        have cw1_1_2 := ci hw1 (w.heap.size + 1) 2 xc (by go_simp)
        have fw1_1_2 := fq hw1 (w.heap.size + 1) 2 (.int .i64 xc) (by go_simp) (by go_simp)
        have cw1_1_3 := ci hw1 (w.heap.size + 1) 3 xd (by go_simp)
        have fw1_1_3 := fq hw1 (w.heap.size + 1) 3 (.int .i64 xd) (by go_simp) (by go_simp)
        have gw1 : Gr w w1 := Gr.trans (by have gg := gwr; have gs := gg.size; go_grown) hw1
        clear hw1 gwr
        clear s0 s1 s2 s3
        have s0 := cell_gr gw1 (HC.out i hin).1
        have s1 := cell_gr gw1 (HC.out i hin).2.1
        have s2 := cell_gr gw1 (HC.out i hin).2.2.1
        have s3 := cell_gr gw1 (HC.out i hin).2.2.2
        go_wp2_with fail
        refine Hd.wp_region_tail 12 (by kernel_rfl) (by kernel_rfl) ?_
        intro KQ hKQ
        repeat (first | (refine Hd.wpG_skip (by decide) rfl ?_; simp only [Act.put, List.setIfInBounds_toArray, List.set_cons_zero, List.set_cons_succ]) | (refine Hd.wpG_want (by decide) rfl ?_; apply Exists.intro; refine ⟨?_, ?_⟩; (· intro wx gx; (obtain ⟨mx, rfl⟩ := gx); all_goals (apply Hd.gAt_of_quiet; intro K hK; go_big_quiet_op; first | exact hK _ rfl | (apply Exists.intro; refine ⟨fun _ => ?_, ?_⟩; (· fail); exact hK _ rfl))); try simp only [Act.put, List.setIfInBounds_toArray, List.set_cons_zero, List.set_cons_succ]))
        refine Hd.wpG_nil (hKQ _ ?_)
        clear hKQ KQ
        intro w2 hhw2
        have hw2 := Hd.gr_of_spread hhw2
        have cw2_0_0 := ci hw2 (w.heap.size) 0 0 (by go_simp)
        have fw2_0_0 := fq hw2 (w.heap.size) 0 (.int .i64 0) (by go_simp) (by go_simp)
        have cw2_0_1 := ci hw2 (w.heap.size) 1 0 (by go_simp)
        have fw2_0_1 := fq hw2 (w.heap.size) 1 (.int .i64 0) (by go_simp) (by go_simp)
        have cw2_0_2 := ci hw2 (w.heap.size) 2 0 (by go_simp)
        have fw2_0_2 := fq hw2 (w.heap.size) 2 (.int .i64 0) (by go_simp) (by go_simp)
        have cw2_0_3 := ci hw2 (w.heap.size) 3 0 (by go_simp)
        have fw2_0_3 := fq hw2 (w.heap.size) 3 (.int .i64 0) (by go_simp) (by go_simp)
        have cw2_1_0 := ci hw2 (w.heap.size + 1) 0 xa (by go_simp)
        have fw2_1_0 := fq hw2 (w.heap.size + 1) 0 (.int .i64 xa) (by go_simp) (by go_simp)
        have cw2_1_1 := ci hw2 (w.heap.size + 1) 1 xb (by go_simp)
        have fw2_1_1 := fq hw2 (w.heap.size + 1) 1 (.int .i64 xb) (by go_simp) (by go_simp)
        have cw2_1_2 := ci hw2 (w.heap.size + 1) 2 xc (by go_simp)
        have fw2_1_2 := fq hw2 (w.heap.size + 1) 2 (.int .i64 xc) (by go_simp) (by go_simp)
        have cw2_1_3 := ci hw2 (w.heap.size + 1) 3 xd (by go_simp)
        have fw2_1_3 := fq hw2 (w.heap.size + 1) 3 (.int .i64 xd) (by go_simp) (by go_simp)
        have gw2 : Gr w w2 := Gr.trans (by have gg := gw1; have gs := gg.size; go_grown) hw2
        clear hw2 hhw2 gw1 cw1_0_0 fw1_0_0 cw1_0_1 fw1_0_1 cw1_0_2 fw1_0_2 cw1_0_3 fw1_0_3 cw1_1_0 fw1_1_0 cw1_1_1 fw1_1_1 cw1_1_2 fw1_1_2 cw1_1_3 fw1_1_3
        clear s0 s1 s2 s3
        have s0 := cell_gr gw2 (HC.out i hin).1
        have s1 := cell_gr gw2 (HC.out i hin).2.1
        have s2 := cell_gr gw2 (HC.out i hin).2.2.1
        have s3 := cell_gr gw2 (HC.out i hin).2.2.2
        go_wp2_with fail
        generalize hhw3 : (w2.setCell ⟨w.heap.size + 1, 0, none⟩ (.int .i64 ya)) = w3
        have cw3_0_0 : w3.cell? ⟨w.heap.size, 0, none⟩ = some (.int .i64 0) := by subst hhw3; go_simp
        have fw3_0_0 : w3.frozen? ⟨w.heap.size, 0, none⟩ = false := by subst hhw3; go_simp
        have cw3_0_1 : w3.cell? ⟨w.heap.size, 1, none⟩ = some (.int .i64 0) := by subst hhw3; go_simp
        have fw3_0_1 : w3.frozen? ⟨w.heap.size, 1, none⟩ = false := by subst hhw3; go_simp
        have cw3_0_2 : w3.cell? ⟨w.heap.size, 2, none⟩ = some (.int .i64 0) := by subst hhw3; go_simp
        have fw3_0_2 : w3.frozen? ⟨w.heap.size, 2, none⟩ = false := by subst hhw3; go_simp
        have cw3_0_3 : w3.cell? ⟨w.heap.size, 3, none⟩ = some (.int .i64 0) := by subst hhw3; go_simp
        have fw3_0_3 : w3.frozen? ⟨w.heap.size, 3, none⟩ = false := by subst hhw3; go_simp
        have zw3_0 := zb cw3_0_0
        have cw3_1_0 : w3.cell? ⟨w.heap.size + 1, 0, none⟩ = some (.int .i64 ya) := by subst hhw3; go_simp
        have fw3_1_0 : w3.frozen? ⟨w.heap.size + 1, 0, none⟩ = false := by subst hhw3; go_simp
        have cw3_1_1 : w3.cell? ⟨w.heap.size + 1, 1, none⟩ = some (.int .i64 xb) := by subst hhw3; go_simp
        have fw3_1_1 : w3.frozen? ⟨w.heap.size + 1, 1, none⟩ = false := by subst hhw3; go_simp
        have cw3_1_2 : w3.cell? ⟨w.heap.size + 1, 2, none⟩ = some (.int .i64 xc) := by subst hhw3; go_simp
        have fw3_1_2 : w3.frozen? ⟨w.heap.size + 1, 2, none⟩ = false := by subst hhw3; go_simp
        have cw3_1_3 : w3.cell? ⟨w.heap.size + 1, 3, none⟩ = some (.int .i64 xd) := by subst hhw3; go_simp
        have fw3_1_3 : w3.frozen? ⟨w.heap.size + 1, 3, none⟩ = false := by subst hhw3; go_simp
        have zw3_1 := zb cw3_1_0
        have gw3 : Gr w w3 := by subst hhw3; have gg := gw2; have gs := gg.size; go_grown
        clear hhw3 gw2 cw2_0_0 fw2_0_0 cw2_0_1 fw2_0_1 cw2_0_2 fw2_0_2 cw2_0_3 fw2_0_3 cw2_1_0 fw2_1_0 cw2_1_1 fw2_1_1 cw2_1_2 fw2_1_2 cw2_1_3 fw2_1_3
        clear s0 s1 s2 s3
        have s0 := cell_gr gw3 (HC.out i hin).1
        have s1 := cell_gr gw3 (HC.out i hin).2.1
        have s2 := cell_gr gw3 (HC.out i hin).2.2.1
        have s3 := cell_gr gw3 (HC.out i hin).2.2.2
        go_wp2_with fail
        refine Hd.wp_region_tail 12 (by kernel_rfl) (by kernel_rfl) ?_
        intro KQ hKQ
        repeat (first | (refine Hd.wpG_skip (by decide) rfl ?_; simp only [Act.put, List.setIfInBounds_toArray, List.set_cons_zero, List.set_cons_succ]) | (refine Hd.wpG_want (by decide) rfl ?_; apply Exists.intro; refine ⟨?_, ?_⟩; (· intro wx gx; (obtain ⟨mx, rfl⟩ := gx); all_goals (apply Hd.gAt_of_quiet; intro K hK; go_big_quiet_op; first | exact hK _ rfl | (apply Exists.intro; refine ⟨fun _ => ?_, ?_⟩; (· fail); exact hK _ rfl))); try simp only [Act.put, List.setIfInBounds_toArray, List.set_cons_zero, List.set_cons_succ]))
        refine Hd.wpG_nil (hKQ _ ?_)
        clear hKQ KQ
        intro w4 hhw4
        have hw4 := Hd.gr_of_spread hhw4
        have cw4_0_0 := ci hw4 (w.heap.size) 0 0 (by go_simp)
        have fw4_0_0 := fq hw4 (w.heap.size) 0 (.int .i64 0) (by go_simp) (by go_simp)
        have cw4_0_1 := ci hw4 (w.heap.size) 1 0 (by go_simp)
        have fw4_0_1 := fq hw4 (w.heap.size) 1 (.int .i64 0) (by go_simp) (by go_simp)
        have cw4_0_2 := ci hw4 (w.heap.size) 2 0 (by go_simp)
        have fw4_0_2 := fq hw4 (w.heap.size) 2 (.int .i64 0) (by go_simp) (by go_simp)
        have cw4_0_3 := ci hw4 (w.heap.size) 3 0 (by go_simp)
        have fw4_0_3 := fq hw4 (w.heap.size) 3 (.int .i64 0) (by go_simp) (by go_simp)
        have cw4_1_0 := ci hw4 (w.heap.size + 1) 0 ya (by go_simp)
        have fw4_1_0 := fq hw4 (w.heap.size + 1) 0 (.int .i64 ya) (by go_simp) (by go_simp)
        have cw4_1_1 := ci hw4 (w.heap.size + 1) 1 xb (by go_simp)
        have fw4_1_1 := fq hw4 (w.heap.size + 1) 1 (.int .i64 xb) (by go_simp) (by go_simp)
        have cw4_1_2 := ci hw4 (w.heap.size + 1) 2 xc (by go_simp)
        have fw4_1_2 := fq hw4 (w.heap.size + 1) 2 (.int .i64 xc) (by go_simp) (by go_simp)
        have cw4_1_3 := ci hw4 (w.heap.size + 1) 3 xd (by go_simp)
        have fw4_1_3 := fq hw4 (w.heap.size + 1) 3 (.int .i64 xd) (by go_simp) (by go_simp)
        have gw4 : Gr w w4 := Gr.trans (by have gg := gw3; have gs := gg.size; go_grown) hw4
        clear hw4 hhw4 gw3 zw3_0 cw3_0_0 fw3_0_0 cw3_0_1 fw3_0_1 cw3_0_2 fw3_0_2 cw3_0_3 fw3_0_3 zw3_1 cw3_1_0 fw3_1_0 cw3_1_1 fw3_1_1 cw3_1_2 fw3_1_2 cw3_1_3 fw3_1_3
        clear s0 s1 s2 s3
        have s0 := cell_gr gw4 (HC.out i hin).1
        have s1 := cell_gr gw4 (HC.out i hin).2.1
        have s2 := cell_gr gw4 (HC.out i hin).2.2.1
        have s3 := cell_gr gw4 (HC.out i hin).2.2.2
        go_wp2_with fail
        generalize hhw5 : (w4.setCell ⟨w.heap.size + 1, 1, none⟩ (.int .i64 yb)) = w5
        have cw5_0_0 : w5.cell? ⟨w.heap.size, 0, none⟩ = some (.int .i64 0) := by subst hhw5; go_simp
        have fw5_0_0 : w5.frozen? ⟨w.heap.size, 0, none⟩ = false := by subst hhw5; go_simp
        have cw5_0_1 : w5.cell? ⟨w.heap.size, 1, none⟩ = some (.int .i64 0) := by subst hhw5; go_simp
        have fw5_0_1 : w5.frozen? ⟨w.heap.size, 1, none⟩ = false := by subst hhw5; go_simp
        have cw5_0_2 : w5.cell? ⟨w.heap.size, 2, none⟩ = some (.int .i64 0) := by subst hhw5; go_simp
        have fw5_0_2 : w5.frozen? ⟨w.heap.size, 2, none⟩ = false := by subst hhw5; go_simp
        have cw5_0_3 : w5.cell? ⟨w.heap.size, 3, none⟩ = some (.int .i64 0) := by subst hhw5; go_simp
        have fw5_0_3 : w5.frozen? ⟨w.heap.size, 3, none⟩ = false := by subst hhw5; go_simp
        have zw5_0 := zb cw5_0_0
        have cw5_1_0 : w5.cell? ⟨w.heap.size + 1, 0, none⟩ = some (.int .i64 ya) := by subst hhw5; go_simp
        have fw5_1_0 : w5.frozen? ⟨w.heap.size + 1, 0, none⟩ = false := by subst hhw5; go_simp
        have cw5_1_1 : w5.cell? ⟨w.heap.size + 1, 1, none⟩ = some (.int .i64 yb) := by subst hhw5; go_simp
        have fw5_1_1 : w5.frozen? ⟨w.heap.size + 1, 1, none⟩ = false := by subst hhw5; go_simp
        have cw5_1_2 : w5.cell? ⟨w.heap.size + 1, 2, none⟩ = some (.int .i64 xc) := by subst hhw5; go_simp
        have fw5_1_2 : w5.frozen? ⟨w.heap.size + 1, 2, none⟩ = false := by subst hhw5; go_simp
        have cw5_1_3 : w5.cell? ⟨w.heap.size + 1, 3, none⟩ = some (.int .i64 xd) := by subst hhw5; go_simp
        have fw5_1_3 : w5.frozen? ⟨w.heap.size + 1, 3, none⟩ = false := by subst hhw5; go_simp
        have zw5_1 := zb cw5_1_0
        have gw5 : Gr w w5 := by subst hhw5; have gg := gw4; have gs := gg.size; go_grown
        clear hhw5 gw4 cw4_0_0 fw4_0_0 cw4_0_1 fw4_0_1 cw4_0_2 fw4_0_2 cw4_0_3 fw4_0_3 cw4_1_0 fw4_1_0 cw4_1_1 fw4_1_1 cw4_1_2 fw4_1_2 cw4_1_3 fw4_1_3
        clear s0 s1 s2 s3
        have s0 := cell_gr gw5 (HC.out i hin).1
        have s1 := cell_gr gw5 (HC.out i hin).2.1
        have s2 := cell_gr gw5 (HC.out i hin).2.2.1
        have s3 := cell_gr gw5 (HC.out i hin).2.2.2
        go_wp2_with fail
        refine Hd.wp_region_tail 12 (by kernel_rfl) (by kernel_rfl) ?_
        intro KQ hKQ
        repeat (first | (refine Hd.wpG_skip (by decide) rfl ?_; simp only [Act.put, List.setIfInBounds_toArray, List.set_cons_zero, List.set_cons_succ]) | (refine Hd.wpG_want (by decide) rfl ?_; apply Exists.intro; refine ⟨?_, ?_⟩; (· intro wx gx; (obtain ⟨mx, rfl⟩ := gx); all_goals (apply Hd.gAt_of_quiet; intro K hK; go_big_quiet_op; first | exact hK _ rfl | (apply Exists.intro; refine ⟨fun _ => ?_, ?_⟩; (· fail); exact hK _ rfl))); try simp only [Act.put, List.setIfInBounds_toArray, List.set_cons_zero, List.set_cons_succ]))
        refine Hd.wpG_nil (hKQ _ ?_)
        clear hKQ KQ
        intro w6 hhw6
        have hw6 := Hd.gr_of_spread hhw6
        have cw6_0_0 := ci hw6 (w.heap.size) 0 0 (by go_simp)
        have fw6_0_0 := fq hw6 (w.heap.size) 0 (.int .i64 0) (by go_simp) (by go_simp)
        have cw6_0_1 := ci hw6 (w.heap.size) 1 0 (by go_simp)
        have fw6_0_1 := fq hw6 (w.heap.size) 1 (.int .i64 0) (by go_simp) (by go_simp)
        have cw6_0_2 := ci hw6 (w.heap.size) 2 0 (by go_simp)
        have fw6_0_2 := fq hw6 (w.heap.size) 2 (.int .i64 0) (by go_simp) (by go_simp)
        have cw6_0_3 := ci hw6 (w.heap.size) 3 0 (by go_simp)
        have fw6_0_3 := fq hw6 (w.heap.size) 3 (.int .i64 0) (by go_simp) (by go_simp)
        have cw6_1_0 := ci hw6 (w.heap.size + 1) 0 ya (by go_simp)
        have fw6_1_0 := fq hw6 (w.heap.size + 1) 0 (.int .i64 ya) (by go_simp) (by go_simp)
        have cw6_1_1 := ci hw6 (w.heap.size + 1) 1 yb (by go_simp)
        have fw6_1_1 := fq hw6 (w.heap.size + 1) 1 (.int .i64 yb) (by go_simp) (by go_simp)
        have cw6_1_2 := ci hw6 (w.heap.size + 1) 2 xc (by go_simp)
        have fw6_1_2 := fq hw6 (w.heap.size + 1) 2 (.int .i64 xc) (by go_simp) (by go_simp)
        have cw6_1_3 := ci hw6 (w.heap.size + 1) 3 xd (by go_simp)
        have fw6_1_3 := fq hw6 (w.heap.size + 1) 3 (.int .i64 xd) (by go_simp) (by go_simp)
        have gw6 : Gr w w6 := Gr.trans (by have gg := gw5; have gs := gg.size; go_grown) hw6
        clear hw6 hhw6 gw5 zw5_0 cw5_0_0 fw5_0_0 cw5_0_1 fw5_0_1 cw5_0_2 fw5_0_2 cw5_0_3 fw5_0_3 zw5_1 cw5_1_0 fw5_1_0 cw5_1_1 fw5_1_1 cw5_1_2 fw5_1_2 cw5_1_3 fw5_1_3
        clear s0 s1 s2 s3
        have s0 := cell_gr gw6 (HC.out i hin).1
        have s1 := cell_gr gw6 (HC.out i hin).2.1
        have s2 := cell_gr gw6 (HC.out i hin).2.2.1
        have s3 := cell_gr gw6 (HC.out i hin).2.2.2
        go_wp2_with fail
        generalize hhw7 : (w6.setCell ⟨w.heap.size + 1, 2, none⟩ (.int .i64 yc)) = w7
        have cw7_0_0 : w7.cell? ⟨w.heap.size, 0, none⟩ = some (.int .i64 0) := by subst hhw7; go_simp
        have fw7_0_0 : w7.frozen? ⟨w.heap.size, 0, none⟩ = false := by subst hhw7; go_simp
        have cw7_0_1 : w7.cell? ⟨w.heap.size, 1, none⟩ = some (.int .i64 0) := by subst hhw7; go_simp
        have fw7_0_1 : w7.frozen? ⟨w.heap.size, 1, none⟩ = false := by subst hhw7; go_simp
        have cw7_0_2 : w7.cell? ⟨w.heap.size, 2, none⟩ = some (.int .i64 0) := by subst hhw7; go_simp
        have fw7_0_2 : w7.frozen? ⟨w.heap.size, 2, none⟩ = false := by subst hhw7; go_simp
        have cw7_0_3 : w7.cell? ⟨w.heap.size, 3, none⟩ = some (.int .i64 0) := by subst hhw7; go_simp
        have fw7_0_3 : w7.frozen? ⟨w.heap.size, 3, none⟩ = false := by subst hhw7; go_simp
        have zw7_0 := zb cw7_0_0
        have cw7_1_0 : w7.cell? ⟨w.heap.size + 1, 0, none⟩ = some (.int .i64 ya) := by subst hhw7; go_simp
        have fw7_1_0 : w7.frozen? ⟨w.heap.size + 1, 0, none⟩ = false := by subst hhw7; go_simp
        have cw7_1_1 : w7.cell? ⟨w.heap.size + 1, 1, none⟩ = some (.int .i64 yb) := by subst hhw7; go_simp
        have fw7_1_1 : w7.frozen? ⟨w.heap.size + 1, 1, none⟩ = false := by subst hhw7; go_simp
        have cw7_1_2 : w7.cell? ⟨w.heap.size + 1, 2, none⟩ = some (.int .i64 yc) := by subst hhw7; go_simp
        have fw7_1_2 : w7.frozen? ⟨w.heap.size + 1, 2, none⟩ = false := by subst hhw7; go_simp
        have cw7_1_3 : w7.cell? ⟨w.heap.size + 1, 3, none⟩ = some (.int .i64 xd) := by subst hhw7; go_simp
        have fw7_1_3 : w7.frozen? ⟨w.heap.size + 1, 3, none⟩ = false := by subst hhw7; go_simp
        have zw7_1 := zb cw7_1_0
        have gw7 : Gr w w7 := by subst hhw7; have gg := gw6; have gs := gg.size; go_grown
        clear hhw7 gw6 cw6_0_0 fw6_0_0 cw6_0_1 fw6_0_1 cw6_0_2 fw6_0_2 cw6_0_3 fw6_0_3 cw6_1_0 fw6_1_0 cw6_1_1 fw6_1_1 cw6_1_2 fw6_1_2 cw6_1_3 fw6_1_3
        clear s0 s1 s2 s3
        have s0 := cell_gr gw7 (HC.out i hin).1
        have s1 := cell_gr gw7 (HC.out i hin).2.1
        have s2 := cell_gr gw7 (HC.out i hin).2.2.1
        have s3 := cell_gr gw7 (HC.out i hin).2.2.2
        go_wp2_with fail
        refine Hd.wp_region_tail 12 (by kernel_rfl) (by kernel_rfl) ?_
        intro KQ hKQ
        repeat (first | (refine Hd.wpG_skip (by decide) rfl ?_; simp only [Act.put, List.setIfInBounds_toArray, List.set_cons_zero, List.set_cons_succ]) | (refine Hd.wpG_want (by decide) rfl ?_; apply Exists.intro; refine ⟨?_, ?_⟩; (· intro wx gx; (obtain ⟨mx, rfl⟩ := gx); all_goals (apply Hd.gAt_of_quiet; intro K hK; go_big_quiet_op; first | exact hK _ rfl | (apply Exists.intro; refine ⟨fun _ => ?_, ?_⟩; (· fail); exact hK _ rfl))); try simp only [Act.put, List.setIfInBounds_toArray, List.set_cons_zero, List.set_cons_succ]))
        refine Hd.wpG_nil (hKQ _ ?_)
        clear hKQ KQ
        intro w8 hhw8
        have hw8 := Hd.gr_of_spread hhw8
        have cw8_0_0 := ci hw8 (w.heap.size) 0 0 (by go_simp)
        have fw8_0_0 := fq hw8 (w.heap.size) 0 (.int .i64 0) (by go_simp) (by go_simp)
        have cw8_0_1 := ci hw8 (w.heap.size) 1 0 (by go_simp)
        have fw8_0_1 := fq hw8 (w.heap.size) 1 (.int .i64 0) (by go_simp) (by go_simp)
        have cw8_0_2 := ci hw8 (w.heap.size) 2 0 (by go_simp)
        have fw8_0_2 := fq hw8 (w.heap.size) 2 (.int .i64 0) (by go_simp) (by go_simp)
        have cw8_0_3 := ci hw8 (w.heap.size) 3 0 (by go_simp)
        have fw8_0_3 := fq hw8 (w.heap.size) 3 (.int .i64 0) (by go_simp) (by go_simp)
        have cw8_1_0 := ci hw8 (w.heap.size + 1) 0 ya (by go_simp)
        have fw8_1_0 := fq hw8 (w.heap.size + 1) 0 (.int .i64 ya) (by go_simp) (by go_simp)
        have cw8_1_1 := ci hw8 (w.heap.size + 1) 1 yb (by go_simp)
        have fw8_1_1 := fq hw8 (w.heap.size + 1) 1 (.int .i64 yb) (by go_simp) (by go_simp)
        have cw8_1_2 := ci hw8 (w.heap.size + 1) 2 yc (by go_simp)
        have fw8_1_2 := fq hw8 (w.heap.size + 1) 2 (.int .i64 yc) (by go_simp) (by go_simp)
        have cw8_1_3 := ci hw8 (w.heap.size + 1) 3 xd (by go_simp)
        have fw8_1_3 := fq hw8 (w.heap.size + 1) 3 (.int .i64 xd) (by go_simp) (by go_simp)
        have gw8 : Gr w w8 := Gr.trans (by have gg := gw7; have gs := gg.size; go_grown) hw8
        clear hw8 hhw8 gw7 zw7_0 cw7_0_0 fw7_0_0 cw7_0_1 fw7_0_1 cw7_0_2 fw7_0_2 cw7_0_3 fw7_0_3 zw7_1 cw7_1_0 fw7_1_0 cw7_1_1 fw7_1_1 cw7_1_2 fw7_1_2 cw7_1_3 fw7_1_3
        clear s0 s1 s2 s3
        have s0 := cell_gr gw8 (HC.out i hin).1
        have s1 := cell_gr gw8 (HC.out i hin).2.1
        have s2 := cell_gr gw8 (HC.out i hin).2.2.1
        have s3 := cell_gr gw8 (HC.out i hin).2.2.2
        go_wp2_with fail
        go_roundg (n - (i + 1))
        case measure => omega
        case rel => exact ⟨i + 1, by omega, by go_num, HE.out, by go_simp, by go_simp, by go_simp, by go_simp, by go_simp, by go_simp, by go_simp, by go_simp, by show _ = some (Value.int .i64 (minZ (accMin A i) (A i))); rw [← HY.out.1]; go_simp, by show _ = some (Value.int .i64 (minZ (accMin B i) (B i))); rw [← HY.out.2.1]; go_simp, by show _ = some (Value.int .i64 (maxZ (accMax C i) (C i))); rw [← HY.out.2.2.1]; go_simp, by show _ = some (Value.int .i64 (maxZ (accMax D i) (D i))); rw [← HY.out.2.2.2]; go_simp, by go_simp, by go_simp, by go_simp, by go_simp, by have gg := gw8; have gs := gg.size; go_grown⟩
      · have hb' : boxB (A i) (B i) (C i) (D i) = false := by simpa using hb
        have hR := HR1.out i hin hall hb'
        obtain ⟨z, hz, -, ez⟩ := boxErr_code hb'
        rw [ez] at K hR
        have HR := Lib.hid hR
        have HH := Lib.hid K
        clear hR hb hb' K ez hall
        have z1 : (z == 0) = false := by rcases hz with rfl | rfl <;> rfl
        have z2 : (z != 0) = true := by rcases hz with rfl | rfl <;> rfl
        clear hz
        go_wp2_with fail
        go_at_call 25
        refine ((HH.out _)).mono ?_
        rintro e w1 ⟨rfl, hw1⟩
        have cw1_0_0 := ci hw1 (w.heap.size) 0 0 (by go_simp)
        have fw1_0_0 := fq hw1 (w.heap.size) 0 (.int .i64 0) (by go_simp) (by go_simp)
        have cw1_0_1 := ci hw1 (w.heap.size) 1 0 (by go_simp)
        have fw1_0_1 := fq hw1 (w.heap.size) 1 (.int .i64 0) (by go_simp) (by go_simp)
        have cw1_0_2 := ci hw1 (w.heap.size) 2 0 (by go_simp)
        have fw1_0_2 := fq hw1 (w.heap.size) 2 (.int .i64 0) (by go_simp) (by go_simp)
        have cw1_0_3 := ci hw1 (w.heap.size) 3 0 (by go_simp)
        have fw1_0_3 := fq hw1 (w.heap.size) 3 (.int .i64 0) (by go_simp) (by go_simp)
        have gw1 : Gr w w1 := Gr.trans (by have gg := gwr; have gs := gg.size; go_grown) hw1
        clear hw1 gwr
        go_wp2_with fail
        refine bodyPost_ret (v := .tuple #[.agg #[.int .i64 0, .int .i64 0, .int .i64 0, .int .i64 0], .int .i64 z]) (by simp [results, Tryz.results63, go_sem, *]) rfl ⟨by rw [HR.out], by have gg := gw1; have gs := gg.size; go_grown⟩
    · obtain rfl : i = n := by omega
      have hR := HR2.out hall
      have HR := Lib.hid hR
      clear hR hall k0 k1 k2 k3
      have ti : decide ((i : Int) < (i : Int)) = false := decide_eq_false (by omega)
      go_wp2_with fail
      refine bodyPost_ret (v := .tuple #[.agg #[.int .i64 (accMin A i), .int .i64 (accMin B i), .int .i64 (accMax C i), .int .i64 (accMax D i)], .int .i64 0]) (by simp [results, Tryz.results63, go_sem, *]) rfl ⟨by rw [HR.out], by have gg := gwr; have gs := gg.size; go_grown⟩
end Go.Proofs.YtfobmlgpjhghdaaGreatDoor
namespace Go.Proofs.YtfobmlgpjhghdaaGreatDoor
set_option linter.unusedVariables false
open Go.ChangeShapes Go.WideShapes Go.ChangeAt Go.RowKit
set_option maxHeartbeats 1000000 in
set_option maxRecDepth 100000 in
theorem c_rCross (ax ay bx by' cx cy : Int) (W : World) :
    Calls Tryz.prog 81 #[.agg #[.int .i64 ax, .int .i64 ay], .agg #[.int .i64 bx, .int .i64 by'], .agg #[.int .i64 cx, .int .i64 cy]] W fun e w' => e = .returned (.int .i64 (crossZ ax ay bx by' cx cy)) ∧ Gr W w' := by
  obtain ⟨q1, e1⟩ : ∃ q, q = nearB ax ay := ⟨_, rfl⟩
  obtain ⟨q2, e2⟩ : ∃ q, q = nearB bx by' := ⟨_, rfl⟩
  obtain ⟨q3, e3⟩ : ∃ q, q = nearB cx cy := ⟨_, rfl⟩
  have A1 := c_rPoint ax ay
  have A2 := c_rPoint bx by'
  have A3 := c_rPoint cx cy
  rw [← e1] at A1
  rw [← e2] at A2
  rw [← e3] at A3
  have H1 := Lib.hid A1
  have H2 := Lib.hid A2
  have H3 := Lib.hid A3
  clear A1 A2 A3
  unfold crossZ
  rw [← e1, ← e2, ← e3]
  have hc : q1 = false ∨ (q1 = true ∧ q2 = false) ∨ (q1 = true ∧ q2 = true ∧ q3 = false) ∨ (q1 = true ∧ q2 = true ∧ q3 = true) := by cases q1 <;> cases q2 <;> cases q3 <;> simp
  rcases hc with rfl | ⟨rfl, rfl⟩ | ⟨rfl, rfl, rfl⟩ | ⟨rfl, rfl, rfl⟩
  · clear e1 e2 e3
    go_enter Tryz.func81, Tryz.ntmps81
    go_wp2_with fail
    go_at_call 24
    refine ((H1.out _)).mono ?_
    rintro e w1 ⟨rfl, hw1⟩
    have cw1_0_0 := ci hw1 (W.heap.size) 0 ax (by go_simp)
    have cw1_0_1 := ci hw1 (W.heap.size) 1 ay (by go_simp)
    have cw1_1_0 := ci hw1 (W.heap.size + 1) 0 bx (by go_simp)
    have cw1_1_1 := ci hw1 (W.heap.size + 1) 1 by' (by go_simp)
    have cw1_2_0 := ci hw1 (W.heap.size + 1 + 1) 0 cx (by go_simp)
    have cw1_2_1 := ci hw1 (W.heap.size + 1 + 1) 1 cy (by go_simp)
    have gw1 : Gr W w1 := Gr.trans (by go_grown) hw1
    clear hw1
    go_wp2_with fail
    go_ret
    exact ⟨rfl, by go_grown⟩
  · clear e1 e2 e3
    go_enter Tryz.func81, Tryz.ntmps81
    go_wp2_with fail
    go_at_call 24
    refine ((H1.out _)).mono ?_
    rintro e w1 ⟨rfl, hw1⟩
    have cw1_0_0 := ci hw1 (W.heap.size) 0 ax (by go_simp)
    have cw1_0_1 := ci hw1 (W.heap.size) 1 ay (by go_simp)
    have cw1_1_0 := ci hw1 (W.heap.size + 1) 0 bx (by go_simp)
    have cw1_1_1 := ci hw1 (W.heap.size + 1) 1 by' (by go_simp)
    have cw1_2_0 := ci hw1 (W.heap.size + 1 + 1) 0 cx (by go_simp)
    have cw1_2_1 := ci hw1 (W.heap.size + 1 + 1) 1 cy (by go_simp)
    have gw1 : Gr W w1 := Gr.trans (by go_grown) hw1
    clear hw1
    go_wp2_with fail
    go_at_call 24
    refine ((H2.out _)).mono ?_
    rintro e w2 ⟨rfl, hw2⟩
    have cw2_0_0 := ci hw2 (W.heap.size) 0 ax (by go_simp)
    have cw2_0_1 := ci hw2 (W.heap.size) 1 ay (by go_simp)
    have cw2_1_0 := ci hw2 (W.heap.size + 1) 0 bx (by go_simp)
    have cw2_1_1 := ci hw2 (W.heap.size + 1) 1 by' (by go_simp)
    have cw2_2_0 := ci hw2 (W.heap.size + 1 + 1) 0 cx (by go_simp)
    have cw2_2_1 := ci hw2 (W.heap.size + 1 + 1) 1 cy (by go_simp)
    have gw2 : Gr W w2 := Gr.trans (by have gg := gw1; have gs := gg.size; go_grown) hw2
    clear hw2 gw1 cw1_0_0 cw1_0_1 cw1_1_0 cw1_1_1 cw1_2_0 cw1_2_1
    go_wp2_with fail
    go_ret
    exact ⟨rfl, by go_grown⟩
  · clear e1 e2 e3
    go_enter Tryz.func81, Tryz.ntmps81
    go_wp2_with fail
    go_at_call 24
    refine ((H1.out _)).mono ?_
    rintro e w1 ⟨rfl, hw1⟩
    have cw1_0_0 := ci hw1 (W.heap.size) 0 ax (by go_simp)
    have cw1_0_1 := ci hw1 (W.heap.size) 1 ay (by go_simp)
    have cw1_1_0 := ci hw1 (W.heap.size + 1) 0 bx (by go_simp)
    have cw1_1_1 := ci hw1 (W.heap.size + 1) 1 by' (by go_simp)
    have cw1_2_0 := ci hw1 (W.heap.size + 1 + 1) 0 cx (by go_simp)
    have cw1_2_1 := ci hw1 (W.heap.size + 1 + 1) 1 cy (by go_simp)
    have gw1 : Gr W w1 := Gr.trans (by go_grown) hw1
    clear hw1
    go_wp2_with fail
    go_at_call 24
    refine ((H2.out _)).mono ?_
    rintro e w2 ⟨rfl, hw2⟩
    have cw2_0_0 := ci hw2 (W.heap.size) 0 ax (by go_simp)
    have cw2_0_1 := ci hw2 (W.heap.size) 1 ay (by go_simp)
    have cw2_1_0 := ci hw2 (W.heap.size + 1) 0 bx (by go_simp)
    have cw2_1_1 := ci hw2 (W.heap.size + 1) 1 by' (by go_simp)
    have cw2_2_0 := ci hw2 (W.heap.size + 1 + 1) 0 cx (by go_simp)
    have cw2_2_1 := ci hw2 (W.heap.size + 1 + 1) 1 cy (by go_simp)
    have gw2 : Gr W w2 := Gr.trans (by have gg := gw1; have gs := gg.size; go_grown) hw2
    clear hw2 gw1 cw1_0_0 cw1_0_1 cw1_1_0 cw1_1_1 cw1_2_0 cw1_2_1
    go_wp2_with fail
    go_at_call 24
    refine ((H3.out _)).mono ?_
    rintro e w3 ⟨rfl, hw3⟩
    have cw3_0_0 := ci hw3 (W.heap.size) 0 ax (by go_simp)
    have cw3_0_1 := ci hw3 (W.heap.size) 1 ay (by go_simp)
    have cw3_1_0 := ci hw3 (W.heap.size + 1) 0 bx (by go_simp)
    have cw3_1_1 := ci hw3 (W.heap.size + 1) 1 by' (by go_simp)
    have cw3_2_0 := ci hw3 (W.heap.size + 1 + 1) 0 cx (by go_simp)
    have cw3_2_1 := ci hw3 (W.heap.size + 1 + 1) 1 cy (by go_simp)
    have gw3 : Gr W w3 := Gr.trans (by have gg := gw2; have gs := gg.size; go_grown) hw3
    clear hw3 gw2 cw2_0_0 cw2_0_1 cw2_1_0 cw2_1_1 cw2_2_0 cw2_2_1
    go_wp2_with fail
    go_ret
    exact ⟨rfl, by go_grown⟩
  · have n1 := nearB_iff.1 e1.symm
    have n2 := nearB_iff.1 e2.symm
    have n3 := nearB_iff.1 e3.symm
    have m1 := mul_near (x := bx - ax) (y := cy - ay) (by omega) (by omega)
    have m2 := mul_near (x := by' - ay) (y := cx - ax) (by omega) (by omega)
    obtain ⟨p1, hp1⟩ : ∃ p, p = (bx - ax) * (cy - ay) := ⟨_, rfl⟩
    obtain ⟨p2, hp2⟩ : ∃ p, p = (by' - ay) * (cx - ax) := ⟨_, rfl⟩
    rw [← hp1] at m1
    rw [← hp2] at m2
    have w1' : wrap64 (bx - ax) = bx - ax := IntWalk.wrap64_in _ (by omega)
    have w2' : wrap64 (cy - ay) = cy - ay := IntWalk.wrap64_in _ (by omega)
    have w3' : wrap64 (by' - ay) = by' - ay := IntWalk.wrap64_in _ (by omega)
    have w4' : wrap64 (cx - ax) = cx - ax := IntWalk.wrap64_in _ (by omega)
    have w5' : wrap64 ((bx - ax) * (cy - ay)) = p1 := by rw [← hp1]; exact IntWalk.wrap64_in _ (by omega)
    have w6' : wrap64 ((by' - ay) * (cx - ax)) = p2 := by rw [← hp2]; exact IntWalk.wrap64_in _ (by omega)
    have w7' : wrap64 (p1 - p2) = p1 - p2 := IntWalk.wrap64_in _ (by omega)
    have f1 : IntKind.i64.wrap (bx - ax) = bx - ax := IntWalk.i64_in _ (by omega)
    have f2 : IntKind.i64.wrap (cy - ay) = cy - ay := IntWalk.i64_in _ (by omega)
    have f3 : IntKind.i64.wrap (by' - ay) = by' - ay := IntWalk.i64_in _ (by omega)
    have f4 : IntKind.i64.wrap (cx - ax) = cx - ax := IntWalk.i64_in _ (by omega)
    have f5 : IntKind.i64.wrap ((bx - ax) * (cy - ay)) = p1 := by rw [← hp1]; exact IntWalk.i64_in _ (by omega)
    have f6 : IntKind.i64.wrap ((by' - ay) * (cx - ax)) = p2 := by rw [← hp2]; exact IntWalk.i64_in _ (by omega)
    have f7 : IntKind.i64.wrap (p1 - p2) = p1 - p2 := IntWalk.i64_in _ (by omega)
    rw [← hp1, ← hp2]
    clear n1 n2 n3 m1 m2 hp1 hp2 e1 e2 e3
    go_enter Tryz.func81, Tryz.ntmps81
    go_wp2_with fail
    go_at_call 24
    refine ((H1.out _)).mono ?_
    rintro e w1 ⟨rfl, hw1⟩
    have cw1_0_0 := ci hw1 (W.heap.size) 0 ax (by go_simp)
    have cw1_0_1 := ci hw1 (W.heap.size) 1 ay (by go_simp)
    have cw1_1_0 := ci hw1 (W.heap.size + 1) 0 bx (by go_simp)
    have cw1_1_1 := ci hw1 (W.heap.size + 1) 1 by' (by go_simp)
    have cw1_2_0 := ci hw1 (W.heap.size + 1 + 1) 0 cx (by go_simp)
    have cw1_2_1 := ci hw1 (W.heap.size + 1 + 1) 1 cy (by go_simp)
    have gw1 : Gr W w1 := Gr.trans (by go_grown) hw1
    clear hw1
    go_wp2_with fail
    go_at_call 24
    refine ((H2.out _)).mono ?_
    rintro e w2 ⟨rfl, hw2⟩
    have cw2_0_0 := ci hw2 (W.heap.size) 0 ax (by go_simp)
    have cw2_0_1 := ci hw2 (W.heap.size) 1 ay (by go_simp)
    have cw2_1_0 := ci hw2 (W.heap.size + 1) 0 bx (by go_simp)
    have cw2_1_1 := ci hw2 (W.heap.size + 1) 1 by' (by go_simp)
    have cw2_2_0 := ci hw2 (W.heap.size + 1 + 1) 0 cx (by go_simp)
    have cw2_2_1 := ci hw2 (W.heap.size + 1 + 1) 1 cy (by go_simp)
    have gw2 : Gr W w2 := Gr.trans (by have gg := gw1; have gs := gg.size; go_grown) hw2
    clear hw2 gw1 cw1_0_0 cw1_0_1 cw1_1_0 cw1_1_1 cw1_2_0 cw1_2_1
    go_wp2_with fail
    go_at_call 24
    refine ((H3.out _)).mono ?_
    rintro e w3 ⟨rfl, hw3⟩
    have cw3_0_0 := ci hw3 (W.heap.size) 0 ax (by go_simp)
    have cw3_0_1 := ci hw3 (W.heap.size) 1 ay (by go_simp)
    have cw3_1_0 := ci hw3 (W.heap.size + 1) 0 bx (by go_simp)
    have cw3_1_1 := ci hw3 (W.heap.size + 1) 1 by' (by go_simp)
    have cw3_2_0 := ci hw3 (W.heap.size + 1 + 1) 0 cx (by go_simp)
    have cw3_2_1 := ci hw3 (W.heap.size + 1 + 1) 1 cy (by go_simp)
    have gw3 : Gr W w3 := Gr.trans (by have gg := gw2; have gs := gg.size; go_grown) hw3
    clear hw3 gw2 cw2_0_0 cw2_0_1 cw2_1_0 cw2_1_1 cw2_2_0 cw2_2_1
    go_wp2_with fail
    go_ret
    exact ⟨rfl, by go_grown⟩
set_option maxRecDepth 100000 in
theorem c_rOrient (ax ay bx by' cx cy : Int) (W : World) :
    Calls Tryz.prog 133 #[.agg #[.int .i64 ax, .int .i64 ay], .agg #[.int .i64 bx, .int .i64 by'], .agg #[.int .i64 cx, .int .i64 cy]] W fun e w' => e = .returned (.int .i64 (cmpZ (crossZ ax ay bx by' cx cy) 0)) ∧ Gr W w' := by
  have A := c_rCross ax ay bx by' cx cy
  generalize crossZ ax ay bx by' cx cy = x at *
  have H1 := Lib.hid A
  clear A
  rcases Int.lt_trichotomy x 0 with h | h | h
  · rw [cmpZ_lt h]
    have h2 : ¬ 0 < x := by omega
    go_enter Tryz.func133, Tryz.ntmps133
    go_wp2_with fail
    go_at_call 81
    refine ((H1.out _)).mono ?_
    rintro e w1 ⟨rfl, hw1⟩
    have gw1 : Gr W w1 := Gr.trans (by go_grown) hw1
    clear hw1
    go_wp2_with fail
    go_ret
    exact ⟨rfl, by go_grown⟩
  · subst h
    rw [cmpZ_eq]
    go_enter Tryz.func133, Tryz.ntmps133
    go_wp2_with fail
    go_at_call 81
    refine ((H1.out _)).mono ?_
    rintro e w1 ⟨rfl, hw1⟩
    have gw1 : Gr W w1 := Gr.trans (by go_grown) hw1
    clear hw1
    go_wp2_with fail
    go_ret
    exact ⟨rfl, by go_grown⟩
  · rw [cmpZ_gt h]
    go_enter Tryz.func133, Tryz.ntmps133
    go_wp2_with fail
    go_at_call 81
    refine ((H1.out _)).mono ?_
    rintro e w1 ⟨rfl, hw1⟩
    have gw1 : Gr W w1 := Gr.trans (by go_grown) hw1
    clear hw1
    go_wp2_with fail
    go_ret
    exact ⟨rfl, by go_grown⟩
set_option maxHeartbeats 1000000 in
set_option maxRecDepth 100000 in
theorem sum_core (x y : Int) (p q s : Nat) (W : World)
    (A1 : ∀ w, Calls Tryz.prog 84 #[.int .i64 x] w fun e w' => e = .returned (.agg #[.int .u64 0, .int .u64 p]) ∧ Gr w w')
    (A2 : ∀ w, Calls Tryz.prog 84 #[.int .i64 y] w fun e w' => e = .returned (.agg #[.int .u64 0, .int .u64 q]) ∧ Gr w w')
    (A3 : ∀ w, Calls Tryz.prog 95 #[.agg #[.int .u64 0, .int .u64 p], .agg #[.int .u64 0, .int .u64 q]] w fun e w' => e = .returned (.tuple #[.agg #[.int .u64 0, .int .u64 s], .bool false]) ∧ Gr w w') :
    Calls Tryz.prog 58 #[.int .i64 x, .int .i64 y] W fun e w' => e = .returned (.agg #[.int .u64 0, .int .u64 s]) ∧ Gr W w' := by
  have H1 := Lib.hid A1
  have H2 := Lib.hid A2
  have H3 := Lib.hid A3
  clear A1 A2 A3
  go_enter Tryz.func58, Tryz.ntmps58
  go_wp2_with fail
  go_at_call 84
  refine ((H1.out _)).mono ?_
  rintro e w1 ⟨rfl, hw1⟩
  have cw1_0_0 := cu hw1 (W.heap.size) 0 0 (by go_simp)
  have fw1_0_0 := fq hw1 (W.heap.size) 0 (.int .u64 0) (by go_simp) (by go_simp)
  have cw1_0_1 := cu hw1 (W.heap.size) 1 0 (by go_simp)
  have fw1_0_1 := fq hw1 (W.heap.size) 1 (.int .u64 0) (by go_simp) (by go_simp)
  have gw1 : Gr W w1 := Gr.trans (by go_grown) hw1
  clear hw1
  go_wp2_with fail
  go_at_call 84
  refine ((H2.out _)).mono ?_
  rintro e w2 ⟨rfl, hw2⟩
  have cw2_0_0 := cu hw2 (W.heap.size) 0 0 (by go_simp)
  have fw2_0_0 := fq hw2 (W.heap.size) 0 (.int .u64 0) (by go_simp) (by go_simp)
  have cw2_0_1 := cu hw2 (W.heap.size) 1 0 (by go_simp)
  have fw2_0_1 := fq hw2 (W.heap.size) 1 (.int .u64 0) (by go_simp) (by go_simp)
  have gw2 : Gr W w2 := Gr.trans (by have gg := gw1; have gs := gg.size; go_grown) hw2
  clear hw2 gw1 cw1_0_0 fw1_0_0 cw1_0_1 fw1_0_1
  go_wp2_with fail
  go_at_call 95
  refine ((H3.out _)).mono ?_
  rintro e w3 ⟨rfl, hw3⟩
  have cw3_0_0 := cu hw3 (W.heap.size) 0 0 (by go_simp)
  have fw3_0_0 := fq hw3 (W.heap.size) 0 (.int .u64 0) (by go_simp) (by go_simp)
  have cw3_0_1 := cu hw3 (W.heap.size) 1 0 (by go_simp)
  have fw3_0_1 := fq hw3 (W.heap.size) 1 (.int .u64 0) (by go_simp) (by go_simp)
  have zw3_0 := zb cw3_0_0
  have gw3 : Gr W w3 := Gr.trans (by have gg := gw2; have gs := gg.size; go_grown) hw3
  clear hw3 gw2 cw2_0_0 fw2_0_0 cw2_0_1 fw2_0_1
  go_wp2_with fail
  refine bodyPost_ret (v := .agg #[.int .u64 0, .int .u64 s]) (by simp [results, Tryz.results58, go_sem, *]) rfl ⟨rfl, by have gg := gw3; have gs := gg.size; go_grown⟩
end Go.Proofs.YtfobmlgpjhghdaaGreatDoor
namespace Go.Proofs.YtfobmlgpjhghdaaGreatDoor
set_option linter.unusedVariables false
open Go.ChangeShapes Go.WideShapes Go.ChangeAt Go.RowKit
theorem nat_sq (x : Int) : ((x.natAbs * x.natAbs : Nat) : Int) = x * x := by
  rw [Int.natCast_mul]
  rcases Int.le_total 0 x with h | h
  · rw [Int.natAbs_of_nonneg h]
  · rw [Int.ofNat_natAbs_of_nonpos h, Int.neg_mul_neg]
theorem c_sum (x y : Int) (hx : -2147483646 ≤ x ∧ x ≤ 2147483646) (hy : -2147483646 ≤ y ∧ y ≤ 2147483646) (s : Nat) (hs : (s : Int) = x * x + y * y) (w : World) :
    Calls Tryz.prog 58 #[.int .i64 x, .int .i64 y] w fun e w' => e = .returned (.agg #[.int .u64 0, .int .u64 s]) ∧ Gr w w' := by
  have m1 := mul_near hx hx
  have m2 := mul_near hy hy
  have n1 := nat_sq x
  have n2 := nat_sq y
  have A1 := c_rSquare x (by omega)
  have A2 := c_rSquare y (by omega)
  generalize x.natAbs * x.natAbs = p at *
  generalize y.natAbs * y.natAbs = q at *
  rw [show p / 18446744073709551616 = 0 by omega, show p % 18446744073709551616 = p by omega] at A1
  rw [show q / 18446744073709551616 = 0 by omega, show q % 18446744073709551616 = q by omega] at A2
  have A3 := c_rAdd 0 p 0 q (by unfold Wd; omega) (by unfold Wd; omega) (by unfold Wd; omega) (by unfold Wd; omega)
  have v : val 0 p + val 0 q = s := by unfold val; omega
  rw [v, show s / 18446744073709551616 = 0 by omega, show s % 18446744073709551616 = s by omega] at A3
  exact sum_core x y p q s w A1 A2 A3
set_option maxHeartbeats 1000000 in
set_option maxRecDepth 100000 in
theorem c_rSq (ax ay bx by' : Int) (h1 : nearB ax ay = true) (h2 : nearB bx by' = true) (s : Nat) (hs : (s : Int) = sqZ ax ay bx by') (W : World) :
    Calls Tryz.prog 83 #[.agg #[.int .i64 ax, .int .i64 ay], .agg #[.int .i64 bx, .int .i64 by']] W fun e w' => e = .returned (.agg #[.int .u64 0, .int .u64 s, .int .u64 1]) ∧ Gr W w' := by
  have A1 := c_rPoint ax ay
  have A2 := c_rPoint bx by'
  rw [h1] at A1
  rw [h2] at A2
  have n1 := nearB_iff.1 h1
  have n2 := nearB_iff.1 h2
  have bd := sqZ_bound h1 h2
  have A3 := c_sum (ax - bx) (ay - by') (by omega) (by omega) s (by rw [hs]; unfold sqZ; grind)
  have A4 := c_Lowest1 0 s (by unfold Wd; omega) (by unfold Wd; omega)
  have e1 : wrap64 (ax - bx) = ax - bx := IntWalk.wrap64_in _ (by omega)
  have e2 : wrap64 (ay - by') = ay - by' := IntWalk.wrap64_in _ (by omega)
  have f1 : IntKind.i64.wrap (ax - bx) = ax - bx := IntWalk.i64_in _ (by omega)
  have f2 : IntKind.i64.wrap (ay - by') = ay - by' := IntWalk.i64_in _ (by omega)
  have H1 := Lib.hid A1
  have H2 := Lib.hid A2
  have H3 := Lib.hid A3
  have A4' : ∀ w, Calls Tryz.prog 57 #[.agg #[.int .u64 0, .int .u64 s], .int .u64 1] w fun e w' => e = .returned (.agg #[.int .u64 0, .int .u64 s, .int .u64 1]) ∧ Gr w w' := A4
  have H4 := Lib.hid A4'
  clear A1 A2 A3 A4 A4' n1 n2 bd hs h1 h2
  go_enter Tryz.func83, Tryz.ntmps83
  go_wp2_with fail
  go_at_call 24
  refine ((H1.out _)).mono ?_
  rintro e w1 ⟨rfl, hw1⟩
  have cw1_0_0 := ci hw1 (W.heap.size) 0 ax (by go_simp)
  have cw1_0_1 := ci hw1 (W.heap.size) 1 ay (by go_simp)
  have cw1_1_0 := ci hw1 (W.heap.size + 1) 0 bx (by go_simp)
  have cw1_1_1 := ci hw1 (W.heap.size + 1) 1 by' (by go_simp)
  have cw1_2_0 := cu hw1 (W.heap.size + 1 + 1) 0 0 (by go_simp)
  have fw1_2_0 := fq hw1 (W.heap.size + 1 + 1) 0 (.int .u64 0) (by go_simp) (by go_simp)
  have cw1_2_1 := cu hw1 (W.heap.size + 1 + 1) 1 0 (by go_simp)
  have fw1_2_1 := fq hw1 (W.heap.size + 1 + 1) 1 (.int .u64 0) (by go_simp) (by go_simp)
  have cw1_2_2 := cu hw1 (W.heap.size + 1 + 1) 2 0 (by go_simp)
  have fw1_2_2 := fq hw1 (W.heap.size + 1 + 1) 2 (.int .u64 0) (by go_simp) (by go_simp)
  have gw1 : Gr W w1 := Gr.trans (by go_grown) hw1
  clear hw1
  go_wp2_with fail
  go_at_call 24
  refine ((H2.out _)).mono ?_
  rintro e w2 ⟨rfl, hw2⟩
  have cw2_0_0 := ci hw2 (W.heap.size) 0 ax (by go_simp)
  have cw2_0_1 := ci hw2 (W.heap.size) 1 ay (by go_simp)
  have cw2_1_0 := ci hw2 (W.heap.size + 1) 0 bx (by go_simp)
  have cw2_1_1 := ci hw2 (W.heap.size + 1) 1 by' (by go_simp)
  have cw2_2_0 := cu hw2 (W.heap.size + 1 + 1) 0 0 (by go_simp)
  have fw2_2_0 := fq hw2 (W.heap.size + 1 + 1) 0 (.int .u64 0) (by go_simp) (by go_simp)
  have cw2_2_1 := cu hw2 (W.heap.size + 1 + 1) 1 0 (by go_simp)
  have fw2_2_1 := fq hw2 (W.heap.size + 1 + 1) 1 (.int .u64 0) (by go_simp) (by go_simp)
  have cw2_2_2 := cu hw2 (W.heap.size + 1 + 1) 2 0 (by go_simp)
  have fw2_2_2 := fq hw2 (W.heap.size + 1 + 1) 2 (.int .u64 0) (by go_simp) (by go_simp)
  have gw2 : Gr W w2 := Gr.trans (by have gg := gw1; have gs := gg.size; go_grown) hw2
  clear hw2 gw1 cw1_0_0 cw1_0_1 cw1_1_0 cw1_1_1 cw1_2_0 fw1_2_0 cw1_2_1 fw1_2_1 cw1_2_2 fw1_2_2
  go_wp2_with fail
  go_at_call 58
  refine ((H3.out _)).mono ?_
  rintro e w3 ⟨rfl, hw3⟩
  have cw3_2_0 := cu hw3 (W.heap.size + 1 + 1) 0 0 (by go_simp)
  have fw3_2_0 := fq hw3 (W.heap.size + 1 + 1) 0 (.int .u64 0) (by go_simp) (by go_simp)
  have cw3_2_1 := cu hw3 (W.heap.size + 1 + 1) 1 0 (by go_simp)
  have fw3_2_1 := fq hw3 (W.heap.size + 1 + 1) 1 (.int .u64 0) (by go_simp) (by go_simp)
  have cw3_2_2 := cu hw3 (W.heap.size + 1 + 1) 2 0 (by go_simp)
  have fw3_2_2 := fq hw3 (W.heap.size + 1 + 1) 2 (.int .u64 0) (by go_simp) (by go_simp)
  have gw3 : Gr W w3 := Gr.trans (by have gg := gw2; have gs := gg.size; go_grown) hw3
  clear hw3 gw2 cw2_0_0 cw2_0_1 cw2_1_0 cw2_1_1 cw2_2_0 fw2_2_0 cw2_2_1 fw2_2_1 cw2_2_2 fw2_2_2
  go_wp2_with fail
  go_at_call 57
  refine ((H4.out _)).mono ?_
  rintro e w4 ⟨rfl, hw4⟩
  have cw4_2_0 := cu hw4 (W.heap.size + 1 + 1) 0 0 (by go_simp)
  have fw4_2_0 := fq hw4 (W.heap.size + 1 + 1) 0 (.int .u64 0) (by go_simp) (by go_simp)
  have cw4_2_1 := cu hw4 (W.heap.size + 1 + 1) 1 0 (by go_simp)
  have fw4_2_1 := fq hw4 (W.heap.size + 1 + 1) 1 (.int .u64 0) (by go_simp) (by go_simp)
  have cw4_2_2 := cu hw4 (W.heap.size + 1 + 1) 2 0 (by go_simp)
  have fw4_2_2 := fq hw4 (W.heap.size + 1 + 1) 2 (.int .u64 0) (by go_simp) (by go_simp)
  have gw4 : Gr W w4 := Gr.trans (by have gg := gw3; have gs := gg.size; go_grown) hw4
  clear hw4 gw3 cw3_2_0 fw3_2_0 cw3_2_1 fw3_2_1 cw3_2_2 fw3_2_2
  go_wp2_with fail
  refine bodyPost_ret (v := .agg #[.int .u64 0, .int .u64 s, .int .u64 1]) (by simp [results, Tryz.results83, go_sem, *]) rfl ⟨rfl, by go_grown⟩
end Go.Proofs.YtfobmlgpjhghdaaGreatDoor
namespace Go.Proofs.YtfobmlgpjhghdaaGreatDoor
set_option linter.unusedVariables false
open Go.ChangeShapes Go.WideShapes Go.ChangeAt Go.RowKit
theorem run_min (x y : Int) (w : World) : (Builtin.min_ #[3, 3] 3 #[.int .i64 x, .int .i64 y]).run Tryz.prog w = .ok (.int .i64 (minZ x y)) w := by simp [Builtin.min_, Builtin.min2, go_sem, minZ]
theorem run_maxZ (x y : Int) (w : World) : (Builtin.max_ #[3, 3] 3 #[.int .i64 x, .int .i64 y]).run Tryz.prog w = .ok (.int .i64 (maxZ x y)) w := by simp [Builtin.max_, Builtin.max2, go_sem, maxZ]
theorem c_gMayBe (n : Nat) (X Y : Nat → Int) (b : Nat) (w : World) (hn : n ≤ 100) (hb : b < w.heap.size)
    (hc : ∀ k, k < n → w.cell? ⟨b, k * 2, none⟩ = some (.int .i64 (X k)) ∧ w.cell? ⟨b, k * 2 + 1, none⟩ = some (.int .i64 (Y k))) :
    Calls Tryz.prog 116 #[.slice (some ⟨b, 0, none⟩) n n] w fun e w' => e = .returned (.bool (allB X Y n)) ∧ Gr w w' := by
  go_enter Tryz.func116, Tryz.ntmps116
  go_wp2_with fail
  go_loopg [7] n (fun k v wr => ∃ i : Nat, i ≤ n ∧ k = n - i ∧ v = .int .i64 i ∧ allB X Y i = true ∧ Gr w wr)
  case atStart => exact ⟨0, by omega, by omega, rfl, rfl, Gr.of_eq rfl⟩
  case round =>
    obtain ⟨i, hi, hk, rfl, hall, hg⟩ := hrel
    by_cases h : i < n
    · have ti : decide ((i : Int) < (n : Int)) = true := decide_eq_true (by omega)
      have ti2 : decide (i < n) = true := decide_eq_true h
      have c0 := cell_gr hg (hc i h).1
      have c1 := cell_gr hg (hc i h).2
      obtain ⟨q, hq⟩ : ∃ q, q = nearB (X i) (Y i) := ⟨_, rfl⟩
      have hC := c_CheckPoint (X i) (Y i)
      rw [← hq] at hC
      cases q
      · have e : allB X Y n = false := by
          rw [← Bool.not_eq_true, allB_iff]
          intro H
          rw [H i h] at hq
          cases hq
        have HE := Lib.hid e
        rw [if_neg (by simp)] at hC
        have hN := Lib.hid hC
        clear hall e hq hc hC
        go_wp2_with (go_at_call 45; (with_reducible refine (hN.out _).mono ?_); rintro e w' ⟨rfl, hg1⟩)
        go_ret
        exact ⟨by rw [HE.out]; rfl, Gr.trans (Gr.trans hg (by go_grown)) hg1⟩
      · have e : allB X Y (i + 1) = true := by simp only [allB, hall, ← hq]; rfl
        have HE := Lib.hid e
        rw [if_pos rfl] at hC
        have hN := Lib.hid hC
        clear hall e hq hc hC
        go_wp2_with (go_at_call 45; (with_reducible refine (hN.out _).mono ?_); rintro e w' ⟨rfl, hg1⟩)
        go_roundg (n - (i + 1))
        case measure => omega
        case rel => exact ⟨i + 1, by omega, rfl, by go_num, HE.out, Gr.trans (Gr.trans hg (by go_grown)) hg1⟩
    · have e : i = n := by omega
      subst e
      go_wp2_with fail
      go_ret
      exact ⟨by simp [hall], hg⟩
theorem c_gMayBe2 (ax ay bx by' : Int) (q : Bool) (hq : q = (nearB ax ay && nearB bx by')) (b : Nat) (w : World) (hb : b < w.heap.size)
    (k0 : w.cell? ⟨b, 0, none⟩ = some (.int .i64 ax)) (k1 : w.cell? ⟨b, 1, none⟩ = some (.int .i64 ay)) (k2 : w.cell? ⟨b, 2, none⟩ = some (.int .i64 bx)) (k3 : w.cell? ⟨b, 3, none⟩ = some (.int .i64 by')) :
    Calls Tryz.prog 116 #[.slice (some ⟨b, 0, none⟩) 2 2] w fun e w' => e = .returned (.bool q) ∧ Gr w w' := by
  have h := c_gMayBe 2 (fun k => [ax, bx].getD k 0) (fun k => [ay, by'].getD k 0) b w (by omega) hb (fun k hk => by
    rcases (by omega : k = 0 ∨ k = 1) with rfl | rfl
    · exact ⟨k0, k1⟩
    · exact ⟨k2, k3⟩)
  have e : allB (fun k => [ax, bx].getD k 0) (fun k => [ay, by'].getD k 0) 2 = q := by simp [allB, hq]
  rw [e] at h
  exact h
theorem c_gMayBe3 (ax ay bx by' cx cy : Int) (q : Bool) (hq : q = (nearB ax ay && nearB bx by' && nearB cx cy)) (b : Nat) (w : World) (hb : b < w.heap.size)
    (k0 : w.cell? ⟨b, 0, none⟩ = some (.int .i64 ax)) (k1 : w.cell? ⟨b, 1, none⟩ = some (.int .i64 ay)) (k2 : w.cell? ⟨b, 2, none⟩ = some (.int .i64 bx)) (k3 : w.cell? ⟨b, 3, none⟩ = some (.int .i64 by'))
    (k4 : w.cell? ⟨b, 4, none⟩ = some (.int .i64 cx)) (k5 : w.cell? ⟨b, 5, none⟩ = some (.int .i64 cy)) :
    Calls Tryz.prog 116 #[.slice (some ⟨b, 0, none⟩) 3 3] w fun e w' => e = .returned (.bool q) ∧ Gr w w' := by
  have h := c_gMayBe 3 (fun k => [ax, bx, cx].getD k 0) (fun k => [ay, by', cy].getD k 0) b w (by omega) hb (fun k hk => by
    rcases (by omega : k = 0 ∨ k = 1 ∨ k = 2) with rfl | rfl | rfl
    · exact ⟨k0, k1⟩
    · exact ⟨k2, k3⟩
    · exact ⟨k4, k5⟩)
  have e : allB (fun k => [ax, bx, cx].getD k 0) (fun k => [ay, by', cy].getD k 0) 3 = q := by simp [allB, hq]
  rw [e] at h
  exact h
theorem c_gMayBe4 (ax ay bx by' cx cy dx dy : Int) (q : Bool) (hq : q = (nearB ax ay && nearB bx by' && nearB cx cy && nearB dx dy)) (b : Nat) (w : World) (hb : b < w.heap.size)
    (k0 : w.cell? ⟨b, 0, none⟩ = some (.int .i64 ax)) (k1 : w.cell? ⟨b, 1, none⟩ = some (.int .i64 ay)) (k2 : w.cell? ⟨b, 2, none⟩ = some (.int .i64 bx)) (k3 : w.cell? ⟨b, 3, none⟩ = some (.int .i64 by'))
    (k4 : w.cell? ⟨b, 4, none⟩ = some (.int .i64 cx)) (k5 : w.cell? ⟨b, 5, none⟩ = some (.int .i64 cy)) (k6 : w.cell? ⟨b, 6, none⟩ = some (.int .i64 dx)) (k7 : w.cell? ⟨b, 7, none⟩ = some (.int .i64 dy)) :
    Calls Tryz.prog 116 #[.slice (some ⟨b, 0, none⟩) 4 4] w fun e w' => e = .returned (.bool q) ∧ Gr w w' := by
  have h := c_gMayBe 4 (fun k => [ax, bx, cx, dx].getD k 0) (fun k => [ay, by', cy, dy].getD k 0) b w (by omega) hb (fun k hk => by
    rcases (by omega : k = 0 ∨ k = 1 ∨ k = 2 ∨ k = 3) with rfl | rfl | rfl | rfl
    · exact ⟨k0, k1⟩
    · exact ⟨k2, k3⟩
    · exact ⟨k4, k5⟩
    · exact ⟨k6, k7⟩)
  have e : allB (fun k => [ax, bx, cx, dx].getD k 0) (fun k => [ay, by', cy, dy].getD k 0) 4 = q := by simp [allB, hq]
  rw [e] at h
  exact h
def onC (ax ay bx by' px py : Int) : Bool := btw ax ay bx by' px py && (cmpZ (crossZ ax ay bx by' px py) 0 == 0)
set_option maxHeartbeats 1000000 in
set_option maxRecDepth 100000 in
theorem on_core (ax ay bx by' px py m1 m2 m3 m4 k : Int) (r : Bool) (W : World)
    (M1 : ∀ w, (Builtin.min_ #[3, 3] 3 #[.int .i64 ax, .int .i64 bx]).run Tryz.prog w = .ok (.int .i64 m1) w)
    (M2 : ∀ w, (Builtin.max_ #[3, 3] 3 #[.int .i64 ax, .int .i64 bx]).run Tryz.prog w = .ok (.int .i64 m2) w)
    (M3 : ∀ w, (Builtin.min_ #[3, 3] 3 #[.int .i64 ay, .int .i64 by']).run Tryz.prog w = .ok (.int .i64 m3) w)
    (M4 : ∀ w, (Builtin.max_ #[3, 3] 3 #[.int .i64 ay, .int .i64 by']).run Tryz.prog w = .ok (.int .i64 m4) w)
    (A1 : ∀ w, Calls Tryz.prog 135 #[.agg #[.int .i64 ax, .int .i64 ay], .agg #[.int .i64 bx, .int .i64 by'], .agg #[.int .i64 px, .int .i64 py]] w fun e w' => e = .returned (.int .i64 k) ∧ Gr w w')
    (hc : (¬ m1 ≤ px ∧ r = false) ∨ (m1 ≤ px ∧ ¬ px ≤ m2 ∧ r = false) ∨ (m1 ≤ px ∧ px ≤ m2 ∧ ¬ m3 ≤ py ∧ r = false) ∨ (m1 ≤ px ∧ px ≤ m2 ∧ m3 ≤ py ∧ ¬ py ≤ m4 ∧ r = false) ∨ (m1 ≤ px ∧ px ≤ m2 ∧ m3 ≤ py ∧ py ≤ m4 ∧ (k == 0) = r)) :
    Calls Tryz.prog 134 #[.agg #[.int .i64 ax, .int .i64 ay], .agg #[.int .i64 bx, .int .i64 by'], .agg #[.int .i64 px, .int .i64 py]] W fun e w' => e = .returned (.bool r) ∧ Gr W w' := by
  have H1 := Lib.hid A1
  clear A1
  rcases hc with ⟨a1, rfl⟩ | ⟨a1, a2, rfl⟩ | ⟨a1, a2, a3, rfl⟩ | ⟨a1, a2, a3, a4, rfl⟩ | ⟨a1, a2, a3, a4, a5⟩
  iterate 4
    · go_enter Tryz.func134, Tryz.ntmps134
      go_wp2_with fail
      go_ret
      exact ⟨rfl, by go_grown⟩
  · go_enter Tryz.func134, Tryz.ntmps134
    go_wp2_with fail
    go_at_call 135
    refine ((H1.out _)).mono ?_
    rintro e w1 ⟨rfl, hw1⟩
    have gw1 : Gr W w1 := Gr.trans (by go_grown) hw1
    clear hw1
    go_wp2_with fail
    go_ret
    exact ⟨rfl, by go_grown⟩
theorem c_gon (ax ay bx by' px py : Int) (W : World) : Calls Tryz.prog 134 #[.agg #[.int .i64 ax, .int .i64 ay], .agg #[.int .i64 bx, .int .i64 by'], .agg #[.int .i64 px, .int .i64 py]] W fun e w' => e = .returned (.bool (onC ax ay bx by' px py)) ∧ Gr W w' := by
  refine on_core ax ay bx by' px py _ _ _ _ _ _ W (run_min _ _) (run_maxZ _ _) (run_min _ _) (run_maxZ _ _) (c_Orient ax ay bx by' px py) ?_
  unfold onC btw
  generalize minZ ax bx = m1
  generalize maxZ ax bx = m2
  generalize minZ ay by' = m3
  generalize maxZ ay by' = m4
  by_cases a1 : m1 ≤ px <;> by_cases a2 : px ≤ m2 <;> by_cases a3 : m3 ≤ py <;> by_cases a4 : py ≤ m4 <;> simp [a1, a2, a3, a4]
def orZ (ax ay bx by' cx cy : Int) : Int := cmpZ (crossZ ax ay bx by' cx cy) 0
theorem orZ_cases (ax ay bx by' cx cy : Int) : orZ ax ay bx by' cx cy = -1 ∨ orZ ax ay bx by' cx cy = 0 ∨ orZ ax ay bx by' cx cy = 1 := by
  unfold orZ cmpZ; split <;> (try split) <;> simp
theorem mul3 {a b : Int} (ha : a = -1 ∨ a = 0 ∨ a = 1) (hb : b = -1 ∨ b = 0 ∨ b = 1) : a * b = 1 ∨ a * b = -1 ∨ a * b = 0 := by
  rcases ha with rfl | rfl | rfl <;> rcases hb with rfl | rfl | rfl <;> simp
set_option maxHeartbeats 1000000 in
set_option maxRecDepth 100000 in
theorem sides_core (ax ay bx by' cx cy dx dy k1 k2 p r : Int) (W : World) (e1 : wrap64 (k1 * k2) = p) (e2 : IntKind.i64.wrap (k1 * k2) = p) (hp : (p = 1 ∧ r = 0) ∨ (p = -1 ∧ r = 1) ∨ (p = 0 ∧ r = 2))
    (A1 : ∀ w, Calls Tryz.prog 135 #[.agg #[.int .i64 ax, .int .i64 ay], .agg #[.int .i64 bx, .int .i64 by'], .agg #[.int .i64 cx, .int .i64 cy]] w fun e w' => e = .returned (.int .i64 k1) ∧ Gr w w')
    (A2 : ∀ w, Calls Tryz.prog 135 #[.agg #[.int .i64 ax, .int .i64 ay], .agg #[.int .i64 bx, .int .i64 by'], .agg #[.int .i64 dx, .int .i64 dy]] w fun e w' => e = .returned (.int .i64 k2) ∧ Gr w w') :
    Calls Tryz.prog 143 #[.agg #[.int .i64 ax, .int .i64 ay], .agg #[.int .i64 bx, .int .i64 by'], .agg #[.int .i64 cx, .int .i64 cy], .agg #[.int .i64 dx, .int .i64 dy]] W fun e w' => e = .returned (.int .i64 r) ∧ Gr W w' := by
  have H1 := Lib.hid A1
  have H2 := Lib.hid A2
  clear A1 A2
  rcases hp with ⟨rfl, rfl⟩ | ⟨rfl, rfl⟩ | ⟨rfl, rfl⟩
  all_goals
    go_enter Tryz.func143, Tryz.ntmps143
    go_wp2_with fail
    generalize hhw0 : ((((W.alloc (.cells #[.int .i64 ax, .int .i64 ay] 26)).alloc (.cells #[.int .i64 bx, .int .i64 by'] 26)).alloc (.cells #[.int .i64 cx, .int .i64 cy] 26)).alloc (.cells #[.int .i64 dx, .int .i64 dy] 26)) = w0
    have cw0_0_0 : w0.cell? ⟨W.heap.size, 0, none⟩ = some (.int .i64 ax) := by subst hhw0; go_simp
    have cw0_0_1 : w0.cell? ⟨W.heap.size, 1, none⟩ = some (.int .i64 ay) := by subst hhw0; go_simp
    have zw0_0 := zb cw0_0_0
    have cw0_1_0 : w0.cell? ⟨W.heap.size + 1, 0, none⟩ = some (.int .i64 bx) := by subst hhw0; go_simp
    have cw0_1_1 : w0.cell? ⟨W.heap.size + 1, 1, none⟩ = some (.int .i64 by') := by subst hhw0; go_simp
    have zw0_1 := zb cw0_1_0
    have cw0_2_0 : w0.cell? ⟨W.heap.size + 1 + 1, 0, none⟩ = some (.int .i64 cx) := by subst hhw0; go_simp
    have cw0_2_1 : w0.cell? ⟨W.heap.size + 1 + 1, 1, none⟩ = some (.int .i64 cy) := by subst hhw0; go_simp
    have zw0_2 := zb cw0_2_0
    have cw0_3_0 : w0.cell? ⟨W.heap.size + 1 + 1 + 1, 0, none⟩ = some (.int .i64 dx) := by subst hhw0; go_simp
    have cw0_3_1 : w0.cell? ⟨W.heap.size + 1 + 1 + 1, 1, none⟩ = some (.int .i64 dy) := by subst hhw0; go_simp
    have zw0_3 := zb cw0_3_0
    have gw0 : Gr W w0 := by subst hhw0; go_grown
    clear hhw0
    refine wp_region_spread (by kernel_rfl) (by kernel_rfl) ?_
    try simp only [List.append]
    repeat (first | go_big_quiet_skip | (go_big_quiet_want; go_big_quiet_op; (first | go_big_quiet_on | (apply Exists.intro; refine ⟨fun _ => ?_, ?_⟩; (· (first | (go_at_call 135; first | ((with_reducible refine ((H1.out _)).mono ?_); rintro e w' ⟨rfl, hg⟩; exact ⟨rfl, spread_gr hg⟩) | ((with_reducible refine ((H2.out _)).mono ?_); rintro e w' ⟨rfl, hg⟩; exact ⟨rfl, spread_gr hg⟩)))); go_big_quiet_on))))
    refine wpQuiet_nil ?_
    intro wr hr
    obtain ⟨mr, rfl⟩ := hr
    go_wp2_with fail
    go_ret
    exact ⟨rfl, Gr.trans (by have gg := gw0; have gs := gg.size; go_grown) (gr_spread _ _)⟩
theorem c_sides (ax ay bx by' cx cy dx dy : Int) (W : World) : Calls Tryz.prog 143 #[.agg #[.int .i64 ax, .int .i64 ay], .agg #[.int .i64 bx, .int .i64 by'], .agg #[.int .i64 cx, .int .i64 cy], .agg #[.int .i64 dx, .int .i64 dy]] W fun e w' => e = .returned (.int .i64 (sdZ (orZ ax ay bx by' cx cy * orZ ax ay bx by' dx dy))) ∧ Gr W w' := by
  have h := mul3 (orZ_cases ax ay bx by' cx cy) (orZ_cases ax ay bx by' dx dy)
  refine sides_core ax ay bx by' cx cy dx dy _ _ _ _ W (IntWalk.wrap64_in _ (by unfold orZ at h; omega)) (IntWalk.i64_in _ (by unfold orZ at h; omega)) ?_ (c_Orient ax ay bx by' cx cy) (c_Orient ax ay bx by' dx dy)
  unfold orZ sdZ at *
  rcases h with h | h | h <;> rw [h] <;> simp
set_option maxHeartbeats 1000000 in
set_option maxRecDepth 100000 in
theorem apart_core (ax ay bx by' cx cy dx dy m1 m2 m3 m4 n1 n2 n3 n4 : Int) (r : Bool) (W : World)
    (M1 : ∀ w, (Builtin.max_ #[3, 3] 3 #[.int .i64 ax, .int .i64 bx]).run Tryz.prog w = .ok (.int .i64 m1) w)
    (M2 : ∀ w, (Builtin.min_ #[3, 3] 3 #[.int .i64 cx, .int .i64 dx]).run Tryz.prog w = .ok (.int .i64 m2) w)
    (M3 : ∀ w, (Builtin.max_ #[3, 3] 3 #[.int .i64 cx, .int .i64 dx]).run Tryz.prog w = .ok (.int .i64 m3) w)
    (M4 : ∀ w, (Builtin.min_ #[3, 3] 3 #[.int .i64 ax, .int .i64 bx]).run Tryz.prog w = .ok (.int .i64 m4) w)
    (N1 : ∀ w, (Builtin.max_ #[3, 3] 3 #[.int .i64 ay, .int .i64 by']).run Tryz.prog w = .ok (.int .i64 n1) w)
    (N2 : ∀ w, (Builtin.min_ #[3, 3] 3 #[.int .i64 cy, .int .i64 dy]).run Tryz.prog w = .ok (.int .i64 n2) w)
    (N3 : ∀ w, (Builtin.max_ #[3, 3] 3 #[.int .i64 cy, .int .i64 dy]).run Tryz.prog w = .ok (.int .i64 n3) w)
    (N4 : ∀ w, (Builtin.min_ #[3, 3] 3 #[.int .i64 ay, .int .i64 by']).run Tryz.prog w = .ok (.int .i64 n4) w)
    (hc : (m1 < m2 ∧ r = true) ∨ (¬ m1 < m2 ∧ m3 < m4 ∧ r = true) ∨ (¬ m1 < m2 ∧ ¬ m3 < m4 ∧ n1 < n2 ∧ r = true) ∨ (¬ m1 < m2 ∧ ¬ m3 < m4 ∧ ¬ n1 < n2 ∧ n3 < n4 ∧ r = true) ∨ (¬ m1 < m2 ∧ ¬ m3 < m4 ∧ ¬ n1 < n2 ∧ ¬ n3 < n4 ∧ r = false)) :
    Calls Tryz.prog 142 #[.agg #[.int .i64 ax, .int .i64 ay], .agg #[.int .i64 bx, .int .i64 by'], .agg #[.int .i64 cx, .int .i64 cy], .agg #[.int .i64 dx, .int .i64 dy]] W fun e w' => e = .returned (.bool r) ∧ Gr W w' := by
  rcases hc with ⟨a1, rfl⟩ | ⟨a1, a2, rfl⟩ | ⟨a1, a2, a3, rfl⟩ | ⟨a1, a2, a3, a4, rfl⟩ | ⟨a1, a2, a3, a4, rfl⟩
  all_goals
    go_enter Tryz.func142, Tryz.ntmps142
    go_wp2_with fail
    go_ret
    exact ⟨by first | rfl | simp [a4], by go_grown⟩
theorem c_apart (ax ay bx by' cx cy dx dy : Int) (W : World) : Calls Tryz.prog 142 #[.agg #[.int .i64 ax, .int .i64 ay], .agg #[.int .i64 bx, .int .i64 by'], .agg #[.int .i64 cx, .int .i64 cy], .agg #[.int .i64 dx, .int .i64 dy]] W fun e w' => e = .returned (.bool (apF ax ay bx by' cx cy dx dy)) ∧ Gr W w' := by
  refine apart_core ax ay bx by' cx cy dx dy _ _ _ _ _ _ _ _ _ W (run_maxZ _ _) (run_min _ _) (run_maxZ _ _) (run_min _ _) (run_maxZ _ _) (run_min _ _) (run_maxZ _ _) (run_min _ _) ?_
  unfold apF
  generalize maxZ ax bx = m1
  generalize minZ cx dx = m2
  generalize maxZ cx dx = m3
  generalize minZ ax bx = m4
  generalize maxZ ay by' = n1
  generalize minZ cy dy = n2
  generalize maxZ cy dy = n3
  generalize minZ ay by' = n4
  by_cases a1 : m1 < m2 <;> by_cases a2 : m3 < m4 <;> by_cases a3 : n1 < n2 <;> by_cases a4 : n3 < n4 <;> simp [a1, a2, a3, a4]
def onG (ax ay bx by' px py : Int) : Bool := (nearB ax ay && nearB bx by' && nearB px py) && onF ax ay bx by' px py
theorem onC_eq {ax ay bx by' px py : Int} (h : (nearB ax ay && nearB bx by' && nearB px py) = true) : onC ax ay bx by' px py = onF ax ay bx by' px py := by
  unfold onC onF sg cr crossZ
  rw [if_pos h]
set_option maxHeartbeats 1000000 in
set_option maxRecDepth 100000 in
theorem gOn_core (ax ay bx by' px py : Int) (q o r : Bool) (W : World) (hc : (q = false ∧ r = false) ∨ (q = true ∧ r = o))
    (A1 : ∀ b w, b < w.heap.size → w.cell? ⟨b, 0, none⟩ = some (.int .i64 ax) → w.cell? ⟨b, 1, none⟩ = some (.int .i64 ay) → w.cell? ⟨b, 2, none⟩ = some (.int .i64 bx) → w.cell? ⟨b, 3, none⟩ = some (.int .i64 by') → w.cell? ⟨b, 4, none⟩ = some (.int .i64 px) → w.cell? ⟨b, 5, none⟩ = some (.int .i64 py) →
      Calls Tryz.prog 116 #[.slice (some ⟨b, 0, none⟩) 3 3] w fun e w' => e = .returned (.bool q) ∧ Gr w w')
    (A2 : ∀ w, Calls Tryz.prog 134 #[.agg #[.int .i64 ax, .int .i64 ay], .agg #[.int .i64 bx, .int .i64 by'], .agg #[.int .i64 px, .int .i64 py]] w fun e w' => e = .returned (.bool o) ∧ Gr w w') :
    Calls Tryz.prog 110 #[.agg #[.int .i64 ax, .int .i64 ay], .agg #[.int .i64 bx, .int .i64 by'], .agg #[.int .i64 px, .int .i64 py]] W fun e w' => e = .returned (.bool r) ∧ Gr W w' := by
  have H1 := Lib.hid A1
  have H2 := Lib.hid A2
  clear A1 A2
  rcases hc with ⟨rfl, rfl⟩ | ⟨rfl, rfl⟩
  · go_enter Tryz.func110, Tryz.ntmps110
    go_wp2_with fail
    go_at_call 116
    refine ((H1.out _ _ (by go_simp) (by go_simp) (by go_simp) (by go_simp) (by go_simp) (by go_simp) (by go_simp))).mono ?_
    rintro e w1 ⟨rfl, hw1⟩
    have cw1_0_0 := ci hw1 (W.heap.size) 0 ax (by go_simp)
    have cw1_0_1 := ci hw1 (W.heap.size) 1 ay (by go_simp)
    have cw1_1_0 := ci hw1 (W.heap.size + 1) 0 bx (by go_simp)
    have cw1_1_1 := ci hw1 (W.heap.size + 1) 1 by' (by go_simp)
    have cw1_2_0 := ci hw1 (W.heap.size + 1 + 1) 0 px (by go_simp)
    have cw1_2_1 := ci hw1 (W.heap.size + 1 + 1) 1 py (by go_simp)
    have gw1 : Gr W w1 := Gr.trans (by go_grown) hw1
    clear hw1
    go_wp2_with fail
    go_ret
    exact ⟨rfl, by go_grown⟩
  · go_enter Tryz.func110, Tryz.ntmps110
    go_wp2_with fail
    go_at_call 116
    refine ((H1.out _ _ (by go_simp) (by go_simp) (by go_simp) (by go_simp) (by go_simp) (by go_simp) (by go_simp))).mono ?_
    rintro e w1 ⟨rfl, hw1⟩
    have cw1_0_0 := ci hw1 (W.heap.size) 0 ax (by go_simp)
    have cw1_0_1 := ci hw1 (W.heap.size) 1 ay (by go_simp)
    have cw1_1_0 := ci hw1 (W.heap.size + 1) 0 bx (by go_simp)
    have cw1_1_1 := ci hw1 (W.heap.size + 1) 1 by' (by go_simp)
    have cw1_2_0 := ci hw1 (W.heap.size + 1 + 1) 0 px (by go_simp)
    have cw1_2_1 := ci hw1 (W.heap.size + 1 + 1) 1 py (by go_simp)
    have gw1 : Gr W w1 := Gr.trans (by go_grown) hw1
    clear hw1
    go_wp2_with fail
    go_at_call 134
    refine ((H2.out _)).mono ?_
    rintro e w2 ⟨rfl, hw2⟩
    have gw2 : Gr W w2 := Gr.trans (by have gg := gw1; have gs := gg.size; go_grown) hw2
    clear hw2 gw1 cw1_0_0 cw1_0_1 cw1_1_0 cw1_1_1 cw1_2_0 cw1_2_1
    go_wp2_with fail
    go_ret
    exact ⟨rfl, by go_grown⟩
theorem c_gOn (ax ay bx by' px py : Int) (W : World) : Calls Tryz.prog 110 #[.agg #[.int .i64 ax, .int .i64 ay], .agg #[.int .i64 bx, .int .i64 by'], .agg #[.int .i64 px, .int .i64 py]] W fun e w' => e = .returned (.bool (onG ax ay bx by' px py)) ∧ Gr W w' := by
  refine gOn_core ax ay bx by' px py _ _ _ W ?_ (fun b w => c_gMayBe3 ax ay bx by' px py _ rfl b w) (c_gon ax ay bx by' px py)
  unfold onG
  cases h : (nearB ax ay && nearB bx by' && nearB px py)
  · exact Or.inl ⟨rfl, rfl⟩
  · exact Or.inr ⟨rfl, by rw [onC_eq h]; rfl⟩
end Go.Proofs.YtfobmlgpjhghdaaGreatDoor
