/- hull.best: the first of the best two, with each of its callbacks -/
import Derived.Test.YtogflfepkddbhaaDoorYk
import Derived.Test.YtogflfepkddbhaaDoorUt
import Derived.Test.YtogflfepkddbhaaDoorYh
namespace Go.Proofs.YtogflfepkddbhaaDoor
set_option linter.unusedVariables false
open Go.ChangeShapes Go.WideShapes Go.ChangeAt Go.RowKit

/-- How far two places are, with a sign. -/
def sqF (s : Int) (X Y : Nat → Int) (p q : Nat) : Int := s * sqZ (X p) (Y p) (X q) (Y q)
theorem sqZ_d2 (a b : Hp.Pt) : sqZ a.1 a.2 b.1 b.2 = Hp.d2 a b := by unfold sqZ Hp.d2; grind
theorem sqZ_nn (a b c d : Int) : 0 ≤ sqZ a b c d := by have := sqZ_d2 (a, b) (c, d); have := Hp.d2_nn (a, b) (c, d); simp only at *; omega

theorem cb_Widest (d t : Int) (w : World) : Calls Tryd.prog 37 #[.int .u64 d, .int .u64 t] w fun e w' => e = .returned (.bool (decide (t < d))) ∧ Gr w w' := by
  go_enter Tryd.func37, Tryd.ntmps37
  go_wp2_with fail
  go_ret
  exact ⟨rfl, by go_grown⟩
set_option maxHeartbeats 8000000 in
set_option maxRecDepth 100000 in
theorem best_no_Widest {n : Nat} {X Y : Nat → Int} {v : Value} (W : World) (h : Pts W v n X Y) (h0 : (mnC 2 n X Y).1 ≠ 0) :
    Calls Tryd.prog 36 #[v, .func (.func 37) #[] #[]] W fun e w' => ∃ B, e = .returned (.tuple #[.int .i64 0, .int .i64 0, .agg #[.int .u64 0, .int .u64 0, .int .u64 0], .iface 72 (.pointer (some ⟨B, 0, none⟩))]) ∧ FaultAt w' B hullS (mnC 2 n X Y).2 (mnC 2 n X Y).1 ∧ Gr W w' := by
  have HC := Lib.hid (hcheck_no 2 2 rfl W h (by decide) h0)
  clear h h0
  go_enter Tryd.func36, Tryd.ntmps36
  go_wp2_with fail
  go_at_call 24
  (with_reducible refine (HC.out _ (by go_grown)).mono ?_)
  rintro e w1 ⟨B, rfl, hF, g1⟩
  have c0 : w1.cell? ⟨W.heap.size, 0, none⟩ = some (.int .u64 0) := cell_gr g1 (by go_simp)
  have c1 : w1.cell? ⟨W.heap.size, 1, none⟩ = some (.int .u64 0) := cell_gr g1 (by go_simp)
  have c2 : w1.cell? ⟨W.heap.size, 2, none⟩ = some (.int .u64 0) := cell_gr g1 (by go_simp)
  have f0 : w1.frozen? ⟨W.heap.size, 0, none⟩ = false := frozen_gr (v := .int .u64 0) g1 (by go_simp) (by go_simp)
  have f1 : w1.frozen? ⟨W.heap.size, 1, none⟩ = false := frozen_gr (v := .int .u64 0) g1 (by go_simp) (by go_simp)
  have f2 : w1.frozen? ⟨W.heap.size, 2, none⟩ = false := frozen_gr (v := .int .u64 0) g1 (by go_simp) (by go_simp)
  have zB := World.block_lt_of_cell? _ _ c0
  have G1 : Gr W w1 := Gr.trans (by go_grown) g1
  have hB : B ≠ W.heap.size := fun e => by
    have := hF.1
    rw [e, c0] at this
    cases this
  have HF := Lib.hid (And.intro hF hB)
  have GG := Lib.hid g1
  clear g1 hF hB
  go_wp2_with fail
  refine bodyPost_ret (v := .tuple #[.int .i64 0, .int .i64 0, .agg #[.int .u64 0, .int .u64 0, .int .u64 0], .iface 72 (.pointer (some ⟨B, 0, none⟩))]) (by simp [results, Tryd.results36, go_sem, *]) rfl ⟨B, rfl, ?_, by go_grown⟩
  obtain ⟨⟨a1, a2, a3⟩, hB⟩ := HF.out
  exact ⟨by go_simp, by go_simp, by go_simp⟩
set_option maxHeartbeats 20000000 in
set_option maxRecDepth 100000 in
theorem best_yes_Widest {n : Nat} {X Y : Nat → Int} {v : Value} (W : World) (h : Pts W v n X Y) (h0 : (mnC 2 n X Y).1 = 0) :
    Calls Tryd.prog 36 #[v, .func (.func 37) #[] #[]] W fun e w' => ∃ i j : Nat, Hp.BstA (sqF (1) X Y) n i j ∧ e = .returned (.tuple #[.int .i64 i, .int .i64 j, .agg #[.int .u64 0, .int .u64 (sqZ (X i) (Y i) (X j) (Y j)), .int .u64 1], .nilIface]) ∧ Gr W w' := by
  have HC := Lib.hid (hcheck_ok 2 2 rfl W h (by decide) h0)
  obtain ⟨hn2, hn, hnr⟩ := mnC_ok.1 h0
  obtain ⟨ad, cap, B, off, rfl, h1, h2, h3, h4⟩ := h
  obtain rfl := h3 (by omega)
  have HX := Lib.hid h4
  have HNR := Lib.hid hnr
  have hn1 : (n : Int) ≤ 1000 := by omega
  have zB := World.block_lt_of_cell? _ _ (h4 0 (by omega)).1
  have HCB := Lib.hid cb_Widest
  clear h3 h4 h0 hnr
  go_enter Tryd.func36, Tryd.ntmps36
  go_wp2_with fail
  go_at_call 24
  (with_reducible refine (HC.out _ (by go_grown)).mono ?_)
  rintro e w1 ⟨rfl, g1⟩
  have c0 : w1.cell? ⟨W.heap.size, 0, none⟩ = some (.int .u64 0) := cell_gr g1 (by go_simp)
  have c1 : w1.cell? ⟨W.heap.size, 1, none⟩ = some (.int .u64 0) := cell_gr g1 (by go_simp)
  have c2 : w1.cell? ⟨W.heap.size, 2, none⟩ = some (.int .u64 0) := cell_gr g1 (by go_simp)
  have f0 : w1.frozen? ⟨W.heap.size, 0, none⟩ = false := frozen_gr (v := .int .u64 0) g1 (by go_simp) (by go_simp)
  have f1 : w1.frozen? ⟨W.heap.size, 1, none⟩ = false := frozen_gr (v := .int .u64 0) g1 (by go_simp) (by go_simp)
  have f2 : w1.frozen? ⟨W.heap.size, 2, none⟩ = false := frozen_gr (v := .int .u64 0) g1 (by go_simp) (by go_simp)
  have G1 : Gr W w1 := Gr.trans (by go_grown) g1
  clear g1
  go_wp2_with fail
  go_loopg [4, 5, 20] n (fun k s4 s5 s20 wr => ∃ (m i j : Nat) (x y : Int), s4 = .int .i64 i ∧ s5 = .int .i64 j ∧ s20 = .int .i64 m ∧ m ≤ n ∧ k = n - m ∧
    ((m = 0 ∧ i = 0 ∧ j = 0 ∧ x = 0 ∧ y = 0) ∨ (1 ≤ m ∧ Hp.Bst (sqF (1) X Y) n m (m + 1) i j ∧ x = sqZ (X i) (Y i) (X j) (Y j) ∧ y = 1)) ∧
    wr.cell? ⟨W.heap.size, 0, none⟩ = some (.int .u64 0) ∧ wr.cell? ⟨W.heap.size, 1, none⟩ = some (.int .u64 x) ∧ wr.cell? ⟨W.heap.size, 2, none⟩ = some (.int .u64 y) ∧
    wr.frozen? ⟨W.heap.size, 0, none⟩ = false ∧ wr.frozen? ⟨W.heap.size, 1, none⟩ = false ∧ wr.frozen? ⟨W.heap.size, 2, none⟩ = false ∧ Gr W wr)
  case atStart => exact ⟨0, 0, 0, 0, 0, rfl, rfl, rfl, Nat.zero_le _, rfl, .inl ⟨rfl, rfl, rfl, rfl, rfl⟩, c0, c1, c2, f0, f1, f2, G1⟩
  case round =>
    obtain ⟨m, i, j, x, y, rfl, rfl, rfl, hm, hk, hst, a0, a1, a2, b0, b1, b2, gwr⟩ := hrel
    have HST := Lib.hid hst
    clear hst c0 c1 c2 f0 f1 f2 G1
    have zwr := World.block_lt_of_cell? _ _ a0
    by_cases hmn : m < n
    · have ti : decide ((m : Int) < (n : Int)) = true := decide_eq_true (by omega)
      have ti2 : decide (m < n) = true := decide_eq_true hmn
      have ti3 : (m : Int) < (n : Int) := by omega
      have hmm : n - (m + 1) < gk := by omega
      clear hk
      go_wp2_with fail
      obtain ⟨wo, rfl⟩ : ∃ wo : World, wo = wr := ⟨_, rfl⟩
      go_loopg [4, 5, 10] (n - (m + 1)) (fun k s4 s5 s10 wr => ∃ (q i j : Nat) (x y : Int), s4 = .int .i64 i ∧ s5 = .int .i64 j ∧ s10 = .int .i64 q ∧ m < q ∧ q ≤ n ∧ k = n - q ∧
        ((m = 0 ∧ q = 1 ∧ i = 0 ∧ j = 0 ∧ x = 0 ∧ y = 0) ∨ (j ≠ 0 ∧ Hp.Bst (sqF (1) X Y) n m q i j ∧ x = sqZ (X i) (Y i) (X j) (Y j) ∧ y = 1)) ∧
        wr.cell? ⟨W.heap.size, 0, none⟩ = some (.int .u64 0) ∧ wr.cell? ⟨W.heap.size, 1, none⟩ = some (.int .u64 x) ∧ wr.cell? ⟨W.heap.size, 2, none⟩ = some (.int .u64 y) ∧
        wr.frozen? ⟨W.heap.size, 0, none⟩ = false ∧ wr.frozen? ⟨W.heap.size, 1, none⟩ = false ∧ wr.frozen? ⟨W.heap.size, 2, none⟩ = false ∧ Gr W wr)
      case atStart =>
        refine ⟨m + 1, i, j, x, y, rfl, rfl, by go_num, by omega, hmn, rfl, ?_, a0, a1, a2, b0, b1, b2, gwr⟩
        rcases HST.out with ⟨k1, k2, k3, k4, k5⟩ | ⟨k1, k2, k3, k4⟩
        · exact .inl ⟨k1, by omega, k2, k3, k4, k5⟩
        · exact .inr ⟨by have := k2.lt; omega, k2, k3, k4⟩
      case round =>
        clear HST a0 a1 a2 b0 b1 b2 gwr
        obtain ⟨q, i, j, x, y, rfl, rfl, rfl, hmq, hq, hk, hst, a0, a1, a2, b0, b1, b2, gwr⟩ := hrel
        have HST := Lib.hid hst
        clear hst
        have zwr := World.block_lt_of_cell? _ _ a0
        by_cases hqn : q < n
        · have tj : decide ((q : Int) < (n : Int)) = true := decide_eq_true (by omega)
          have tj2 : decide (q < n) = true := decide_eq_true hqn
          have tj3 : (q : Int) < (n : Int) := by omega
          have hmm2 : n - (q + 1) < gk := by omega
          obtain ⟨k0, k1⟩ := HX.out m hmn
          obtain ⟨l0, l1⟩ := HX.out q hqn
          have p0 := cell_gr gwr k0
          have p1 := cell_gr gwr k1
          have q0 := cell_gr gwr l0
          have q1 := cell_gr gwr l1
          have CS := fun w => c_Square2 (X m) (Y m) (X q) (Y q) w ⟨HNR.out m hmn, HNR.out q hqn⟩
          obtain ⟨d, ed⟩ : ∃ d, d = sqZ (X m) (Y m) (X q) (Y q) := ⟨_, rfl⟩
          rw [← ed] at CS
          have HD := Lib.hid ed
          clear k0 k1 l0 l1 hk ed
          have H1 := Lib.hid CS
          generalize X m = xm at p0 H1
          generalize Y m = ym at p1 H1
          generalize X q = xq at q0 H1
          generalize Y q = yq at q1 H1
          clear CS
          by_cases hj : j = 0
          · have u1 : ((j : Int) == 0) = true := by simp; omega
            have u2 : (j == 0) = true := by simp; omega
            have HJ := Lib.hid hj
            clear hj
            go_wp2_with fail
            refine Hm.wp_region_mk 10 9 11 #[.int .u64 0, .int .u64 0, .int .u64 0] 37 (by kernel_rfl) (by simp only [List.getElem?_toArray, List.getElem?_cons_succ, List.getElem?_cons_zero] <;> rfl) (by kernel_rfl) (fun _ _ => ?_) ?_
            · unfold Oper.wp; go_simp
            intro KQ hKQ
            repeat (first | (refine Hm.wpG_sp (by decide) ?_ ?_; (· (try dsimp only); first | (rw [if_neg (by decide)]; trivial) | (rw [if_pos rfl]; (intro B w' g hB hw; have c0 : w'.cell? ⟨B, 0, none⟩ = some (.int .u64 0) := Hm.cell_of_heap hw 0; have f0 := Hm.frozen_of_heap hw 0; have c1 : w'.cell? ⟨B, 1, none⟩ = some (.int .u64 0) := Hm.cell_of_heap hw 1; have f1 := Hm.frozen_of_heap hw 1; have c2 : w'.cell? ⟨B, 2, none⟩ = some (.int .u64 0) := Hm.cell_of_heap hw 2; have f2 := Hm.frozen_of_heap hw 2; unfold Oper.wp; go_simp; exact ⟨(((g.setCell hB _).setCell hB _).setCell hB _), (Hm.heap_set_same (Hm.heap_set_same (Hm.heap_set_same hw)))⟩)))) | (refine Hm.wpG_skip (by decide) rfl ?_; simp only [Act.put, List.setIfInBounds_toArray, List.set_cons_zero, List.set_cons_succ]) | (refine Hm.wpG_want (by decide) rfl ?_; apply Exists.intro; refine ⟨?_, ?_⟩; (· intro wx gx; (obtain ⟨mx, rfl⟩ := spread_of_gr gx; clear gx); all_goals (apply Hd.gAt_of_quiet; intro K hK; go_big_quiet_op; first | exact hK _ rfl | (apply Exists.intro; refine ⟨fun _ => ?_, ?_⟩; (· (first | (go_at_call 55; first | ((with_reducible refine ((H1.out _)).mono ?_); rintro e w' ⟨rfl, hg⟩; exact ⟨rfl, spread_gr hg⟩)))); exact hK _ rfl))); try simp only [Act.put, List.setIfInBounds_toArray, List.set_cons_zero, List.set_cons_succ]))
            refine Hm.wpG_nil (hKQ _ ?_)
            clear hKQ KQ
            intro B2 w2 hw2 hBw2 hhw2
            have cw2_0_0 : w2.cell? ⟨W.heap.size, 0, none⟩ = some (.int .u64 0) := cell_gr hw2 (by go_simp)
            have fw2_0_0 : w2.frozen? ⟨W.heap.size, 0, none⟩ = false := frozen_gr (v := .int .u64 0) hw2 (by go_simp) (by go_simp)
            have cw2_0_1 : w2.cell? ⟨W.heap.size, 1, none⟩ = some (.int .u64 x) := cell_gr hw2 (by go_simp)
            have fw2_0_1 : w2.frozen? ⟨W.heap.size, 1, none⟩ = false := frozen_gr (v := .int .u64 x) hw2 (by go_simp) (by go_simp)
            have cw2_0_2 : w2.cell? ⟨W.heap.size, 2, none⟩ = some (.int .u64 y) := cell_gr hw2 (by go_simp)
            have fw2_0_2 : w2.frozen? ⟨W.heap.size, 2, none⟩ = false := frozen_gr (v := .int .u64 y) hw2 (by go_simp) (by go_simp)
            have zw2_0 : W.heap.size < w2.heap.size := World.block_lt_of_cell? _ _ cw2_0_0
            have cw2_1_0 : w2.cell? ⟨B2, 0, none⟩ = some (.int .u64 0) := Hm.cell_of_heap hhw2 0
            have cw2_1_1 : w2.cell? ⟨B2, 1, none⟩ = some (.int .u64 0) := Hm.cell_of_heap hhw2 1
            have cw2_1_2 : w2.cell? ⟨B2, 2, none⟩ = some (.int .u64 0) := Hm.cell_of_heap hhw2 2
            have zw2_1 : B2 < w2.heap.size := World.block_lt_of_cell? _ _ cw2_1_0
            have gw2 : Gr W w2 := Gr.trans (by have gg := gwr; have gs := gg.size; go_grown) hw2
            have fw2_1_0 : w2.frozen? ⟨B2, 0, none⟩ = false := Hm.frozen_of_heap hhw2 0
            have fw2_1_1 : w2.frozen? ⟨B2, 1, none⟩ = false := Hm.frozen_of_heap hhw2 1
            have fw2_1_2 : w2.frozen? ⟨B2, 2, none⟩ = false := Hm.frozen_of_heap hhw2 2
            clear hw2 hhw2 gwr
            go_wp2_with fail
            go_region
            go_wp2_with fail
            go_roundg (n - (q + 1))
            case measure => exact hmm2
            case rel =>
              refine ⟨q + 1, m, q, d, 1, rfl, rfl, by go_num, by omega, hqn, rfl, ?_, by go_simp, by go_simp, by go_simp, by go_simp, by go_simp, by go_simp, by have gg := gw2; have gs := gg.size; go_grown⟩
              rcases HST.out with ⟨k1, k2, k3, k4, -⟩ | ⟨k1, -⟩
              · subst k1 k2
                exact .inr ⟨by decide, Hp.Bst.start hn2, HD.out, rfl⟩
              · exact absurd HJ.out k1
          · have u1 : ((j : Int) == 0) = false := by simp; omega
            have u2 : (j == 0) = false := by simp; omega
            have hst := HST.out
            obtain ⟨k1, k2, k3, rfl⟩ : j ≠ 0 ∧ Hp.Bst (sqF (1) X Y) n m q i j ∧ x = sqZ (X i) (Y i) (X j) (Y j) ∧ y = 1 := by
              rcases hst with ⟨-, -, -, k, -⟩ | k
              · exact absurd k hj
              · exact k
            have HB := Lib.hid (And.intro k1 (And.intro k2 k3))
            clear hst HST k1 k2 k3 hj
            have CB := fun w => HCB.out d x w
            by_cases hlt : x < d
            · have HLT := Lib.hid hlt
              have hb : decide (x < d) = true := decide_eq_true hlt
              rw [hb] at CB
              have H2 := Lib.hid CB
              clear CB hlt hb
              go_wp2_with fail
              refine Hm.wp_region_mk 10 9 11 #[.int .u64 0, .int .u64 0, .int .u64 0] 37 (by kernel_rfl) (by simp only [List.getElem?_toArray, List.getElem?_cons_succ, List.getElem?_cons_zero] <;> rfl) (by kernel_rfl) (fun _ _ => ?_) ?_
              · unfold Oper.wp; go_simp
              intro KQ hKQ
              repeat (first | (refine Hm.wpG_sp (by decide) ?_ ?_; (· (try dsimp only); first | (rw [if_neg (by decide)]; trivial) | (rw [if_pos rfl]; (intro B w' g hB hw; have c0 : w'.cell? ⟨B, 0, none⟩ = some (.int .u64 0) := Hm.cell_of_heap hw 0; have f0 := Hm.frozen_of_heap hw 0; have c1 : w'.cell? ⟨B, 1, none⟩ = some (.int .u64 0) := Hm.cell_of_heap hw 1; have f1 := Hm.frozen_of_heap hw 1; have c2 : w'.cell? ⟨B, 2, none⟩ = some (.int .u64 0) := Hm.cell_of_heap hw 2; have f2 := Hm.frozen_of_heap hw 2; unfold Oper.wp; go_simp; exact ⟨(((g.setCell hB _).setCell hB _).setCell hB _), (Hm.heap_set_same (Hm.heap_set_same (Hm.heap_set_same hw)))⟩)))) | (refine Hm.wpG_skip (by decide) rfl ?_; simp only [Act.put, List.setIfInBounds_toArray, List.set_cons_zero, List.set_cons_succ]) | (refine Hm.wpG_want (by decide) rfl ?_; apply Exists.intro; refine ⟨?_, ?_⟩; (· intro wx gx; (obtain ⟨mx, rfl⟩ := spread_of_gr gx; clear gx); all_goals (apply Hd.gAt_of_quiet; intro K hK; go_big_quiet_op; first | exact hK _ rfl | (apply Exists.intro; refine ⟨fun _ => ?_, ?_⟩; (· (first | (go_at_call 55; first | ((with_reducible refine ((H1.out _)).mono ?_); rintro e w' ⟨rfl, hg⟩; exact ⟨rfl, spread_gr hg⟩)))); exact hK _ rfl))); try simp only [Act.put, List.setIfInBounds_toArray, List.set_cons_zero, List.set_cons_succ]))
              refine Hm.wpG_nil (hKQ _ ?_)
              clear hKQ KQ
              intro B2 w2 hw2 hBw2 hhw2
              have cw2_0_0 : w2.cell? ⟨W.heap.size, 0, none⟩ = some (.int .u64 0) := cell_gr hw2 (by go_simp)
              have fw2_0_0 : w2.frozen? ⟨W.heap.size, 0, none⟩ = false := frozen_gr (v := .int .u64 0) hw2 (by go_simp) (by go_simp)
              have cw2_0_1 : w2.cell? ⟨W.heap.size, 1, none⟩ = some (.int .u64 x) := cell_gr hw2 (by go_simp)
              have fw2_0_1 : w2.frozen? ⟨W.heap.size, 1, none⟩ = false := frozen_gr (v := .int .u64 x) hw2 (by go_simp) (by go_simp)
              have cw2_0_2 : w2.cell? ⟨W.heap.size, 2, none⟩ = some (.int .u64 1) := cell_gr hw2 (by go_simp)
              have fw2_0_2 : w2.frozen? ⟨W.heap.size, 2, none⟩ = false := frozen_gr (v := .int .u64 1) hw2 (by go_simp) (by go_simp)
              have zw2_0 : W.heap.size < w2.heap.size := World.block_lt_of_cell? _ _ cw2_0_0
              have cw2_1_0 : w2.cell? ⟨B2, 0, none⟩ = some (.int .u64 0) := Hm.cell_of_heap hhw2 0
              have cw2_1_1 : w2.cell? ⟨B2, 1, none⟩ = some (.int .u64 0) := Hm.cell_of_heap hhw2 1
              have cw2_1_2 : w2.cell? ⟨B2, 2, none⟩ = some (.int .u64 0) := Hm.cell_of_heap hhw2 2
              have zw2_1 : B2 < w2.heap.size := World.block_lt_of_cell? _ _ cw2_1_0
              have gw2 : Gr W w2 := Gr.trans (by have gg := gwr; have gs := gg.size; go_grown) hw2
              have fw2_1_0 : w2.frozen? ⟨B2, 0, none⟩ = false := Hm.frozen_of_heap hhw2 0
              have fw2_1_1 : w2.frozen? ⟨B2, 1, none⟩ = false := Hm.frozen_of_heap hhw2 1
              have fw2_1_2 : w2.frozen? ⟨B2, 2, none⟩ = false := Hm.frozen_of_heap hhw2 2
              clear hw2 hhw2 gwr
              go_wp2_with fail
              go_at_call 37
              refine ((H2.out _)).mono ?_
              rintro e w3 ⟨rfl, hw3⟩
              have cw3_0_0 : w3.cell? ⟨W.heap.size, 0, none⟩ = some (.int .u64 0) := cell_gr hw3 (by go_simp)
              have fw3_0_0 : w3.frozen? ⟨W.heap.size, 0, none⟩ = false := frozen_gr (v := .int .u64 0) hw3 (by go_simp) (by go_simp)
              have cw3_0_1 : w3.cell? ⟨W.heap.size, 1, none⟩ = some (.int .u64 x) := cell_gr hw3 (by go_simp)
              have fw3_0_1 : w3.frozen? ⟨W.heap.size, 1, none⟩ = false := frozen_gr (v := .int .u64 x) hw3 (by go_simp) (by go_simp)
              have cw3_0_2 : w3.cell? ⟨W.heap.size, 2, none⟩ = some (.int .u64 1) := cell_gr hw3 (by go_simp)
              have fw3_0_2 : w3.frozen? ⟨W.heap.size, 2, none⟩ = false := frozen_gr (v := .int .u64 1) hw3 (by go_simp) (by go_simp)
              have zw3_0 : W.heap.size < w3.heap.size := World.block_lt_of_cell? _ _ cw3_0_0
              have cw3_1_0 : w3.cell? ⟨B2, 0, none⟩ = some (.int .u64 0) := cell_gr hw3 (by go_simp)
              have fw3_1_0 : w3.frozen? ⟨B2, 0, none⟩ = false := frozen_gr (v := .int .u64 0) hw3 (by go_simp) (by go_simp)
              have cw3_1_1 : w3.cell? ⟨B2, 1, none⟩ = some (.int .u64 d) := cell_gr hw3 (by go_simp)
              have fw3_1_1 : w3.frozen? ⟨B2, 1, none⟩ = false := frozen_gr (v := .int .u64 d) hw3 (by go_simp) (by go_simp)
              have cw3_1_2 : w3.cell? ⟨B2, 2, none⟩ = some (.int .u64 1) := cell_gr hw3 (by go_simp)
              have fw3_1_2 : w3.frozen? ⟨B2, 2, none⟩ = false := frozen_gr (v := .int .u64 1) hw3 (by go_simp) (by go_simp)
              have zw3_1 : B2 < w3.heap.size := World.block_lt_of_cell? _ _ cw3_1_0
              have gw3 : Gr W w3 := Gr.trans (by have gg := gw2; have gs := gg.size; go_grown) hw3
              clear hw3 gw2 zw2_0 cw2_0_0 fw2_0_0 cw2_0_1 fw2_0_1 cw2_0_2 fw2_0_2 zw2_1 cw2_1_0 fw2_1_0 cw2_1_1 fw2_1_1 cw2_1_2 fw2_1_2
              go_wp2_with fail
              go_region
              go_wp2_with fail
              go_roundg (n - (q + 1))
              case measure => exact hmm2
              case rel =>
                refine ⟨q + 1, m, q, d, 1, rfl, rfl, by go_num, by omega, hqn, rfl, ?_, by go_simp, by go_simp, by go_simp, by go_simp, by go_simp, by go_simp, by have gg := gw3; have gs := gg.size; go_grown⟩
                refine .inr ⟨by omega, HB.out.2.1.move hmq hqn ?_, HD.out, rfl⟩
                have := HLT.out
                unfold sqF
                rw [← HD.out, ← HB.out.2.2]; omega
            · have HLT := Lib.hid hlt
              have hb : decide (x < d) = false := decide_eq_false hlt
              rw [hb] at CB
              have H2 := Lib.hid CB
              clear CB hlt hb
              go_wp2_with fail
              refine Hm.wp_region_mk 10 9 11 #[.int .u64 0, .int .u64 0, .int .u64 0] 37 (by kernel_rfl) (by simp only [List.getElem?_toArray, List.getElem?_cons_succ, List.getElem?_cons_zero] <;> rfl) (by kernel_rfl) (fun _ _ => ?_) ?_
              · unfold Oper.wp; go_simp
              intro KQ hKQ
              repeat (first | (refine Hm.wpG_sp (by decide) ?_ ?_; (· (try dsimp only); first | (rw [if_neg (by decide)]; trivial) | (rw [if_pos rfl]; (intro B w' g hB hw; have c0 : w'.cell? ⟨B, 0, none⟩ = some (.int .u64 0) := Hm.cell_of_heap hw 0; have f0 := Hm.frozen_of_heap hw 0; have c1 : w'.cell? ⟨B, 1, none⟩ = some (.int .u64 0) := Hm.cell_of_heap hw 1; have f1 := Hm.frozen_of_heap hw 1; have c2 : w'.cell? ⟨B, 2, none⟩ = some (.int .u64 0) := Hm.cell_of_heap hw 2; have f2 := Hm.frozen_of_heap hw 2; unfold Oper.wp; go_simp; exact ⟨(((g.setCell hB _).setCell hB _).setCell hB _), (Hm.heap_set_same (Hm.heap_set_same (Hm.heap_set_same hw)))⟩)))) | (refine Hm.wpG_skip (by decide) rfl ?_; simp only [Act.put, List.setIfInBounds_toArray, List.set_cons_zero, List.set_cons_succ]) | (refine Hm.wpG_want (by decide) rfl ?_; apply Exists.intro; refine ⟨?_, ?_⟩; (· intro wx gx; (obtain ⟨mx, rfl⟩ := spread_of_gr gx; clear gx); all_goals (apply Hd.gAt_of_quiet; intro K hK; go_big_quiet_op; first | exact hK _ rfl | (apply Exists.intro; refine ⟨fun _ => ?_, ?_⟩; (· (first | (go_at_call 55; first | ((with_reducible refine ((H1.out _)).mono ?_); rintro e w' ⟨rfl, hg⟩; exact ⟨rfl, spread_gr hg⟩)))); exact hK _ rfl))); try simp only [Act.put, List.setIfInBounds_toArray, List.set_cons_zero, List.set_cons_succ]))
              refine Hm.wpG_nil (hKQ _ ?_)
              clear hKQ KQ
              intro B2 w2 hw2 hBw2 hhw2
              have cw2_0_0 : w2.cell? ⟨W.heap.size, 0, none⟩ = some (.int .u64 0) := cell_gr hw2 (by go_simp)
              have fw2_0_0 : w2.frozen? ⟨W.heap.size, 0, none⟩ = false := frozen_gr (v := .int .u64 0) hw2 (by go_simp) (by go_simp)
              have cw2_0_1 : w2.cell? ⟨W.heap.size, 1, none⟩ = some (.int .u64 x) := cell_gr hw2 (by go_simp)
              have fw2_0_1 : w2.frozen? ⟨W.heap.size, 1, none⟩ = false := frozen_gr (v := .int .u64 x) hw2 (by go_simp) (by go_simp)
              have cw2_0_2 : w2.cell? ⟨W.heap.size, 2, none⟩ = some (.int .u64 1) := cell_gr hw2 (by go_simp)
              have fw2_0_2 : w2.frozen? ⟨W.heap.size, 2, none⟩ = false := frozen_gr (v := .int .u64 1) hw2 (by go_simp) (by go_simp)
              have zw2_0 : W.heap.size < w2.heap.size := World.block_lt_of_cell? _ _ cw2_0_0
              have cw2_1_0 : w2.cell? ⟨B2, 0, none⟩ = some (.int .u64 0) := Hm.cell_of_heap hhw2 0
              have cw2_1_1 : w2.cell? ⟨B2, 1, none⟩ = some (.int .u64 0) := Hm.cell_of_heap hhw2 1
              have cw2_1_2 : w2.cell? ⟨B2, 2, none⟩ = some (.int .u64 0) := Hm.cell_of_heap hhw2 2
              have zw2_1 : B2 < w2.heap.size := World.block_lt_of_cell? _ _ cw2_1_0
              have gw2 : Gr W w2 := Gr.trans (by have gg := gwr; have gs := gg.size; go_grown) hw2
              have fw2_1_0 : w2.frozen? ⟨B2, 0, none⟩ = false := Hm.frozen_of_heap hhw2 0
              have fw2_1_1 : w2.frozen? ⟨B2, 1, none⟩ = false := Hm.frozen_of_heap hhw2 1
              have fw2_1_2 : w2.frozen? ⟨B2, 2, none⟩ = false := Hm.frozen_of_heap hhw2 2
              clear hw2 hhw2 gwr
              go_wp2_with fail
              go_at_call 37
              refine ((H2.out _)).mono ?_
              rintro e w3 ⟨rfl, hw3⟩
              have cw3_0_0 : w3.cell? ⟨W.heap.size, 0, none⟩ = some (.int .u64 0) := cell_gr hw3 (by go_simp)
              have fw3_0_0 : w3.frozen? ⟨W.heap.size, 0, none⟩ = false := frozen_gr (v := .int .u64 0) hw3 (by go_simp) (by go_simp)
              have cw3_0_1 : w3.cell? ⟨W.heap.size, 1, none⟩ = some (.int .u64 x) := cell_gr hw3 (by go_simp)
              have fw3_0_1 : w3.frozen? ⟨W.heap.size, 1, none⟩ = false := frozen_gr (v := .int .u64 x) hw3 (by go_simp) (by go_simp)
              have cw3_0_2 : w3.cell? ⟨W.heap.size, 2, none⟩ = some (.int .u64 1) := cell_gr hw3 (by go_simp)
              have fw3_0_2 : w3.frozen? ⟨W.heap.size, 2, none⟩ = false := frozen_gr (v := .int .u64 1) hw3 (by go_simp) (by go_simp)
              have zw3_0 : W.heap.size < w3.heap.size := World.block_lt_of_cell? _ _ cw3_0_0
              have cw3_1_0 : w3.cell? ⟨B2, 0, none⟩ = some (.int .u64 0) := cell_gr hw3 (by go_simp)
              have fw3_1_0 : w3.frozen? ⟨B2, 0, none⟩ = false := frozen_gr (v := .int .u64 0) hw3 (by go_simp) (by go_simp)
              have cw3_1_1 : w3.cell? ⟨B2, 1, none⟩ = some (.int .u64 d) := cell_gr hw3 (by go_simp)
              have fw3_1_1 : w3.frozen? ⟨B2, 1, none⟩ = false := frozen_gr (v := .int .u64 d) hw3 (by go_simp) (by go_simp)
              have cw3_1_2 : w3.cell? ⟨B2, 2, none⟩ = some (.int .u64 1) := cell_gr hw3 (by go_simp)
              have fw3_1_2 : w3.frozen? ⟨B2, 2, none⟩ = false := frozen_gr (v := .int .u64 1) hw3 (by go_simp) (by go_simp)
              have zw3_1 : B2 < w3.heap.size := World.block_lt_of_cell? _ _ cw3_1_0
              have gw3 : Gr W w3 := Gr.trans (by have gg := gw2; have gs := gg.size; go_grown) hw3
              clear hw3 gw2 zw2_0 cw2_0_0 fw2_0_0 cw2_0_1 fw2_0_1 cw2_0_2 fw2_0_2 zw2_1 cw2_1_0 fw2_1_0 cw2_1_1 fw2_1_1 cw2_1_2 fw2_1_2
              go_wp2_with fail
              go_roundg (n - (q + 1))
              case measure => exact hmm2
              case rel =>
                refine ⟨q + 1, i, j, x, 1, rfl, rfl, by go_num, by omega, hqn, rfl, ?_, by go_simp, by go_simp, by go_simp, by go_simp, by go_simp, by go_simp, by have gg := gw3; have gs := gg.size; go_grown⟩
                refine .inr ⟨HB.out.1, HB.out.2.1.stay hmq hqn ?_, HB.out.2.2, rfl⟩
                have := HLT.out
                unfold sqF
                rw [← HD.out, ← HB.out.2.2]; omega
        · obtain rfl : n = q := by omega
          have tj : decide ((n : Int) < (n : Int)) = false := decide_eq_false (by omega)
          have tj2 : decide (n < n) = false := decide_eq_false (by omega)
          clear hk hqn
          go_wp2_with fail
          go_roundg (n - (m + 1))
          case measure => exact hmm
          case rel =>
            refine ⟨m + 1, i, j, x, y, rfl, rfl, by go_num, hmn, rfl, ?_, a0, a1, a2, b0, b1, b2, gwr⟩
            rcases HST.out with ⟨k1, k2, -⟩ | ⟨k1, k2, k3, k4⟩
            · omega
            · exact .inr ⟨by omega, k2.row, k3, k4⟩
    · obtain rfl : n = m := by omega
      have ti : decide ((n : Int) < (n : Int)) = false := decide_eq_false (by omega)
      have ti2 : decide (n < n) = false := decide_eq_false (by omega)
      obtain ⟨k1, k2, ex, rfl⟩ : 1 ≤ n ∧ Hp.Bst (sqF (1) X Y) n n (n + 1) i j ∧ x = sqZ (X i) (Y i) (X j) (Y j) ∧ y = 1 := by
        rcases HST.out with ⟨k, -⟩ | k
        · omega
        · exact k
      have HB := Lib.hid (k2.all (by omega) (fun h => absurd h (by omega)))
      clear hk hmn HST k1 k2
      have HZ := Lib.hid ex
      clear ex
      clear HX HNR HC HCB
      go_wp2_with fail
      go_region
      go_wp2_with fail
      refine bodyPost_ret (v := .tuple #[.int .i64 i, .int .i64 j, .agg #[.int .u64 0, .int .u64 x, .int .u64 1], .nilIface]) (by simp [results, Tryd.results36, go_sem, *]) rfl ⟨i, j, HB.out, by rw [HZ.out], by go_grown⟩

theorem cb_Closest (d t : Int) (w : World) : Calls Tryd.prog 40 #[.int .u64 d, .int .u64 t] w fun e w' => e = .returned (.bool (decide (d < t))) ∧ Gr w w' := by
  go_enter Tryd.func40, Tryd.ntmps40
  go_wp2_with fail
  go_ret
  exact ⟨rfl, by go_grown⟩
set_option maxHeartbeats 8000000 in
set_option maxRecDepth 100000 in
theorem best_no_Closest {n : Nat} {X Y : Nat → Int} {v : Value} (W : World) (h : Pts W v n X Y) (h0 : (mnC 2 n X Y).1 ≠ 0) :
    Calls Tryd.prog 36 #[v, .func (.func 40) #[] #[]] W fun e w' => ∃ B, e = .returned (.tuple #[.int .i64 0, .int .i64 0, .agg #[.int .u64 0, .int .u64 0, .int .u64 0], .iface 72 (.pointer (some ⟨B, 0, none⟩))]) ∧ FaultAt w' B hullS (mnC 2 n X Y).2 (mnC 2 n X Y).1 ∧ Gr W w' := by
  have HC := Lib.hid (hcheck_no 2 2 rfl W h (by decide) h0)
  clear h h0
  go_enter Tryd.func36, Tryd.ntmps36
  go_wp2_with fail
  go_at_call 24
  (with_reducible refine (HC.out _ (by go_grown)).mono ?_)
  rintro e w1 ⟨B, rfl, hF, g1⟩
  have c0 : w1.cell? ⟨W.heap.size, 0, none⟩ = some (.int .u64 0) := cell_gr g1 (by go_simp)
  have c1 : w1.cell? ⟨W.heap.size, 1, none⟩ = some (.int .u64 0) := cell_gr g1 (by go_simp)
  have c2 : w1.cell? ⟨W.heap.size, 2, none⟩ = some (.int .u64 0) := cell_gr g1 (by go_simp)
  have f0 : w1.frozen? ⟨W.heap.size, 0, none⟩ = false := frozen_gr (v := .int .u64 0) g1 (by go_simp) (by go_simp)
  have f1 : w1.frozen? ⟨W.heap.size, 1, none⟩ = false := frozen_gr (v := .int .u64 0) g1 (by go_simp) (by go_simp)
  have f2 : w1.frozen? ⟨W.heap.size, 2, none⟩ = false := frozen_gr (v := .int .u64 0) g1 (by go_simp) (by go_simp)
  have zB := World.block_lt_of_cell? _ _ c0
  have G1 : Gr W w1 := Gr.trans (by go_grown) g1
  have hB : B ≠ W.heap.size := fun e => by
    have := hF.1
    rw [e, c0] at this
    cases this
  have HF := Lib.hid (And.intro hF hB)
  have GG := Lib.hid g1
  clear g1 hF hB
  go_wp2_with fail
  refine bodyPost_ret (v := .tuple #[.int .i64 0, .int .i64 0, .agg #[.int .u64 0, .int .u64 0, .int .u64 0], .iface 72 (.pointer (some ⟨B, 0, none⟩))]) (by simp [results, Tryd.results36, go_sem, *]) rfl ⟨B, rfl, ?_, by go_grown⟩
  obtain ⟨⟨a1, a2, a3⟩, hB⟩ := HF.out
  exact ⟨by go_simp, by go_simp, by go_simp⟩
set_option maxHeartbeats 20000000 in
set_option maxRecDepth 100000 in
theorem best_yes_Closest {n : Nat} {X Y : Nat → Int} {v : Value} (W : World) (h : Pts W v n X Y) (h0 : (mnC 2 n X Y).1 = 0) :
    Calls Tryd.prog 36 #[v, .func (.func 40) #[] #[]] W fun e w' => ∃ i j : Nat, Hp.BstA (sqF (-1) X Y) n i j ∧ e = .returned (.tuple #[.int .i64 i, .int .i64 j, .agg #[.int .u64 0, .int .u64 (sqZ (X i) (Y i) (X j) (Y j)), .int .u64 1], .nilIface]) ∧ Gr W w' := by
  have HC := Lib.hid (hcheck_ok 2 2 rfl W h (by decide) h0)
  obtain ⟨hn2, hn, hnr⟩ := mnC_ok.1 h0
  obtain ⟨ad, cap, B, off, rfl, h1, h2, h3, h4⟩ := h
  obtain rfl := h3 (by omega)
  have HX := Lib.hid h4
  have HNR := Lib.hid hnr
  have hn1 : (n : Int) ≤ 1000 := by omega
  have zB := World.block_lt_of_cell? _ _ (h4 0 (by omega)).1
  have HCB := Lib.hid cb_Closest
  clear h3 h4 h0 hnr
  go_enter Tryd.func36, Tryd.ntmps36
  go_wp2_with fail
  go_at_call 24
  (with_reducible refine (HC.out _ (by go_grown)).mono ?_)
  rintro e w1 ⟨rfl, g1⟩
  have c0 : w1.cell? ⟨W.heap.size, 0, none⟩ = some (.int .u64 0) := cell_gr g1 (by go_simp)
  have c1 : w1.cell? ⟨W.heap.size, 1, none⟩ = some (.int .u64 0) := cell_gr g1 (by go_simp)
  have c2 : w1.cell? ⟨W.heap.size, 2, none⟩ = some (.int .u64 0) := cell_gr g1 (by go_simp)
  have f0 : w1.frozen? ⟨W.heap.size, 0, none⟩ = false := frozen_gr (v := .int .u64 0) g1 (by go_simp) (by go_simp)
  have f1 : w1.frozen? ⟨W.heap.size, 1, none⟩ = false := frozen_gr (v := .int .u64 0) g1 (by go_simp) (by go_simp)
  have f2 : w1.frozen? ⟨W.heap.size, 2, none⟩ = false := frozen_gr (v := .int .u64 0) g1 (by go_simp) (by go_simp)
  have G1 : Gr W w1 := Gr.trans (by go_grown) g1
  clear g1
  go_wp2_with fail
  go_loopg [4, 5, 20] n (fun k s4 s5 s20 wr => ∃ (m i j : Nat) (x y : Int), s4 = .int .i64 i ∧ s5 = .int .i64 j ∧ s20 = .int .i64 m ∧ m ≤ n ∧ k = n - m ∧
    ((m = 0 ∧ i = 0 ∧ j = 0 ∧ x = 0 ∧ y = 0) ∨ (1 ≤ m ∧ Hp.Bst (sqF (-1) X Y) n m (m + 1) i j ∧ x = sqZ (X i) (Y i) (X j) (Y j) ∧ y = 1)) ∧
    wr.cell? ⟨W.heap.size, 0, none⟩ = some (.int .u64 0) ∧ wr.cell? ⟨W.heap.size, 1, none⟩ = some (.int .u64 x) ∧ wr.cell? ⟨W.heap.size, 2, none⟩ = some (.int .u64 y) ∧
    wr.frozen? ⟨W.heap.size, 0, none⟩ = false ∧ wr.frozen? ⟨W.heap.size, 1, none⟩ = false ∧ wr.frozen? ⟨W.heap.size, 2, none⟩ = false ∧ Gr W wr)
  case atStart => exact ⟨0, 0, 0, 0, 0, rfl, rfl, rfl, Nat.zero_le _, rfl, .inl ⟨rfl, rfl, rfl, rfl, rfl⟩, c0, c1, c2, f0, f1, f2, G1⟩
  case round =>
    obtain ⟨m, i, j, x, y, rfl, rfl, rfl, hm, hk, hst, a0, a1, a2, b0, b1, b2, gwr⟩ := hrel
    have HST := Lib.hid hst
    clear hst c0 c1 c2 f0 f1 f2 G1
    have zwr := World.block_lt_of_cell? _ _ a0
    by_cases hmn : m < n
    · have ti : decide ((m : Int) < (n : Int)) = true := decide_eq_true (by omega)
      have ti2 : decide (m < n) = true := decide_eq_true hmn
      have ti3 : (m : Int) < (n : Int) := by omega
      have hmm : n - (m + 1) < gk := by omega
      clear hk
      go_wp2_with fail
      obtain ⟨wo, rfl⟩ : ∃ wo : World, wo = wr := ⟨_, rfl⟩
      go_loopg [4, 5, 10] (n - (m + 1)) (fun k s4 s5 s10 wr => ∃ (q i j : Nat) (x y : Int), s4 = .int .i64 i ∧ s5 = .int .i64 j ∧ s10 = .int .i64 q ∧ m < q ∧ q ≤ n ∧ k = n - q ∧
        ((m = 0 ∧ q = 1 ∧ i = 0 ∧ j = 0 ∧ x = 0 ∧ y = 0) ∨ (j ≠ 0 ∧ Hp.Bst (sqF (-1) X Y) n m q i j ∧ x = sqZ (X i) (Y i) (X j) (Y j) ∧ y = 1)) ∧
        wr.cell? ⟨W.heap.size, 0, none⟩ = some (.int .u64 0) ∧ wr.cell? ⟨W.heap.size, 1, none⟩ = some (.int .u64 x) ∧ wr.cell? ⟨W.heap.size, 2, none⟩ = some (.int .u64 y) ∧
        wr.frozen? ⟨W.heap.size, 0, none⟩ = false ∧ wr.frozen? ⟨W.heap.size, 1, none⟩ = false ∧ wr.frozen? ⟨W.heap.size, 2, none⟩ = false ∧ Gr W wr)
      case atStart =>
        refine ⟨m + 1, i, j, x, y, rfl, rfl, by go_num, by omega, hmn, rfl, ?_, a0, a1, a2, b0, b1, b2, gwr⟩
        rcases HST.out with ⟨k1, k2, k3, k4, k5⟩ | ⟨k1, k2, k3, k4⟩
        · exact .inl ⟨k1, by omega, k2, k3, k4, k5⟩
        · exact .inr ⟨by have := k2.lt; omega, k2, k3, k4⟩
      case round =>
        clear HST a0 a1 a2 b0 b1 b2 gwr
        obtain ⟨q, i, j, x, y, rfl, rfl, rfl, hmq, hq, hk, hst, a0, a1, a2, b0, b1, b2, gwr⟩ := hrel
        have HST := Lib.hid hst
        clear hst
        have zwr := World.block_lt_of_cell? _ _ a0
        by_cases hqn : q < n
        · have tj : decide ((q : Int) < (n : Int)) = true := decide_eq_true (by omega)
          have tj2 : decide (q < n) = true := decide_eq_true hqn
          have tj3 : (q : Int) < (n : Int) := by omega
          have hmm2 : n - (q + 1) < gk := by omega
          obtain ⟨k0, k1⟩ := HX.out m hmn
          obtain ⟨l0, l1⟩ := HX.out q hqn
          have p0 := cell_gr gwr k0
          have p1 := cell_gr gwr k1
          have q0 := cell_gr gwr l0
          have q1 := cell_gr gwr l1
          have CS := fun w => c_Square2 (X m) (Y m) (X q) (Y q) w ⟨HNR.out m hmn, HNR.out q hqn⟩
          obtain ⟨d, ed⟩ : ∃ d, d = sqZ (X m) (Y m) (X q) (Y q) := ⟨_, rfl⟩
          rw [← ed] at CS
          have HD := Lib.hid ed
          clear k0 k1 l0 l1 hk ed
          have H1 := Lib.hid CS
          generalize X m = xm at p0 H1
          generalize Y m = ym at p1 H1
          generalize X q = xq at q0 H1
          generalize Y q = yq at q1 H1
          clear CS
          by_cases hj : j = 0
          · have u1 : ((j : Int) == 0) = true := by simp; omega
            have u2 : (j == 0) = true := by simp; omega
            have HJ := Lib.hid hj
            clear hj
            go_wp2_with fail
            refine Hm.wp_region_mk 10 9 11 #[.int .u64 0, .int .u64 0, .int .u64 0] 37 (by kernel_rfl) (by simp only [List.getElem?_toArray, List.getElem?_cons_succ, List.getElem?_cons_zero] <;> rfl) (by kernel_rfl) (fun _ _ => ?_) ?_
            · unfold Oper.wp; go_simp
            intro KQ hKQ
            repeat (first | (refine Hm.wpG_sp (by decide) ?_ ?_; (· (try dsimp only); first | (rw [if_neg (by decide)]; trivial) | (rw [if_pos rfl]; (intro B w' g hB hw; have c0 : w'.cell? ⟨B, 0, none⟩ = some (.int .u64 0) := Hm.cell_of_heap hw 0; have f0 := Hm.frozen_of_heap hw 0; have c1 : w'.cell? ⟨B, 1, none⟩ = some (.int .u64 0) := Hm.cell_of_heap hw 1; have f1 := Hm.frozen_of_heap hw 1; have c2 : w'.cell? ⟨B, 2, none⟩ = some (.int .u64 0) := Hm.cell_of_heap hw 2; have f2 := Hm.frozen_of_heap hw 2; unfold Oper.wp; go_simp; exact ⟨(((g.setCell hB _).setCell hB _).setCell hB _), (Hm.heap_set_same (Hm.heap_set_same (Hm.heap_set_same hw)))⟩)))) | (refine Hm.wpG_skip (by decide) rfl ?_; simp only [Act.put, List.setIfInBounds_toArray, List.set_cons_zero, List.set_cons_succ]) | (refine Hm.wpG_want (by decide) rfl ?_; apply Exists.intro; refine ⟨?_, ?_⟩; (· intro wx gx; (obtain ⟨mx, rfl⟩ := spread_of_gr gx; clear gx); all_goals (apply Hd.gAt_of_quiet; intro K hK; go_big_quiet_op; first | exact hK _ rfl | (apply Exists.intro; refine ⟨fun _ => ?_, ?_⟩; (· (first | (go_at_call 55; first | ((with_reducible refine ((H1.out _)).mono ?_); rintro e w' ⟨rfl, hg⟩; exact ⟨rfl, spread_gr hg⟩)))); exact hK _ rfl))); try simp only [Act.put, List.setIfInBounds_toArray, List.set_cons_zero, List.set_cons_succ]))
            refine Hm.wpG_nil (hKQ _ ?_)
            clear hKQ KQ
            intro B2 w2 hw2 hBw2 hhw2
            have cw2_0_0 : w2.cell? ⟨W.heap.size, 0, none⟩ = some (.int .u64 0) := cell_gr hw2 (by go_simp)
            have fw2_0_0 : w2.frozen? ⟨W.heap.size, 0, none⟩ = false := frozen_gr (v := .int .u64 0) hw2 (by go_simp) (by go_simp)
            have cw2_0_1 : w2.cell? ⟨W.heap.size, 1, none⟩ = some (.int .u64 x) := cell_gr hw2 (by go_simp)
            have fw2_0_1 : w2.frozen? ⟨W.heap.size, 1, none⟩ = false := frozen_gr (v := .int .u64 x) hw2 (by go_simp) (by go_simp)
            have cw2_0_2 : w2.cell? ⟨W.heap.size, 2, none⟩ = some (.int .u64 y) := cell_gr hw2 (by go_simp)
            have fw2_0_2 : w2.frozen? ⟨W.heap.size, 2, none⟩ = false := frozen_gr (v := .int .u64 y) hw2 (by go_simp) (by go_simp)
            have zw2_0 : W.heap.size < w2.heap.size := World.block_lt_of_cell? _ _ cw2_0_0
            have cw2_1_0 : w2.cell? ⟨B2, 0, none⟩ = some (.int .u64 0) := Hm.cell_of_heap hhw2 0
            have cw2_1_1 : w2.cell? ⟨B2, 1, none⟩ = some (.int .u64 0) := Hm.cell_of_heap hhw2 1
            have cw2_1_2 : w2.cell? ⟨B2, 2, none⟩ = some (.int .u64 0) := Hm.cell_of_heap hhw2 2
            have zw2_1 : B2 < w2.heap.size := World.block_lt_of_cell? _ _ cw2_1_0
            have gw2 : Gr W w2 := Gr.trans (by have gg := gwr; have gs := gg.size; go_grown) hw2
            have fw2_1_0 : w2.frozen? ⟨B2, 0, none⟩ = false := Hm.frozen_of_heap hhw2 0
            have fw2_1_1 : w2.frozen? ⟨B2, 1, none⟩ = false := Hm.frozen_of_heap hhw2 1
            have fw2_1_2 : w2.frozen? ⟨B2, 2, none⟩ = false := Hm.frozen_of_heap hhw2 2
            clear hw2 hhw2 gwr
            go_wp2_with fail
            go_region
            go_wp2_with fail
            go_roundg (n - (q + 1))
            case measure => exact hmm2
            case rel =>
              refine ⟨q + 1, m, q, d, 1, rfl, rfl, by go_num, by omega, hqn, rfl, ?_, by go_simp, by go_simp, by go_simp, by go_simp, by go_simp, by go_simp, by have gg := gw2; have gs := gg.size; go_grown⟩
              rcases HST.out with ⟨k1, k2, k3, k4, -⟩ | ⟨k1, -⟩
              · subst k1 k2
                exact .inr ⟨by decide, Hp.Bst.start hn2, HD.out, rfl⟩
              · exact absurd HJ.out k1
          · have u1 : ((j : Int) == 0) = false := by simp; omega
            have u2 : (j == 0) = false := by simp; omega
            have hst := HST.out
            obtain ⟨k1, k2, k3, rfl⟩ : j ≠ 0 ∧ Hp.Bst (sqF (-1) X Y) n m q i j ∧ x = sqZ (X i) (Y i) (X j) (Y j) ∧ y = 1 := by
              rcases hst with ⟨-, -, -, k, -⟩ | k
              · exact absurd k hj
              · exact k
            have HB := Lib.hid (And.intro k1 (And.intro k2 k3))
            clear hst HST k1 k2 k3 hj
            have CB := fun w => HCB.out d x w
            by_cases hlt : d < x
            · have HLT := Lib.hid hlt
              have hb : decide (d < x) = true := decide_eq_true hlt
              rw [hb] at CB
              have H2 := Lib.hid CB
              clear CB hlt hb
              go_wp2_with fail
              refine Hm.wp_region_mk 10 9 11 #[.int .u64 0, .int .u64 0, .int .u64 0] 37 (by kernel_rfl) (by simp only [List.getElem?_toArray, List.getElem?_cons_succ, List.getElem?_cons_zero] <;> rfl) (by kernel_rfl) (fun _ _ => ?_) ?_
              · unfold Oper.wp; go_simp
              intro KQ hKQ
              repeat (first | (refine Hm.wpG_sp (by decide) ?_ ?_; (· (try dsimp only); first | (rw [if_neg (by decide)]; trivial) | (rw [if_pos rfl]; (intro B w' g hB hw; have c0 : w'.cell? ⟨B, 0, none⟩ = some (.int .u64 0) := Hm.cell_of_heap hw 0; have f0 := Hm.frozen_of_heap hw 0; have c1 : w'.cell? ⟨B, 1, none⟩ = some (.int .u64 0) := Hm.cell_of_heap hw 1; have f1 := Hm.frozen_of_heap hw 1; have c2 : w'.cell? ⟨B, 2, none⟩ = some (.int .u64 0) := Hm.cell_of_heap hw 2; have f2 := Hm.frozen_of_heap hw 2; unfold Oper.wp; go_simp; exact ⟨(((g.setCell hB _).setCell hB _).setCell hB _), (Hm.heap_set_same (Hm.heap_set_same (Hm.heap_set_same hw)))⟩)))) | (refine Hm.wpG_skip (by decide) rfl ?_; simp only [Act.put, List.setIfInBounds_toArray, List.set_cons_zero, List.set_cons_succ]) | (refine Hm.wpG_want (by decide) rfl ?_; apply Exists.intro; refine ⟨?_, ?_⟩; (· intro wx gx; (obtain ⟨mx, rfl⟩ := spread_of_gr gx; clear gx); all_goals (apply Hd.gAt_of_quiet; intro K hK; go_big_quiet_op; first | exact hK _ rfl | (apply Exists.intro; refine ⟨fun _ => ?_, ?_⟩; (· (first | (go_at_call 55; first | ((with_reducible refine ((H1.out _)).mono ?_); rintro e w' ⟨rfl, hg⟩; exact ⟨rfl, spread_gr hg⟩)))); exact hK _ rfl))); try simp only [Act.put, List.setIfInBounds_toArray, List.set_cons_zero, List.set_cons_succ]))
              refine Hm.wpG_nil (hKQ _ ?_)
              clear hKQ KQ
              intro B2 w2 hw2 hBw2 hhw2
              have cw2_0_0 : w2.cell? ⟨W.heap.size, 0, none⟩ = some (.int .u64 0) := cell_gr hw2 (by go_simp)
              have fw2_0_0 : w2.frozen? ⟨W.heap.size, 0, none⟩ = false := frozen_gr (v := .int .u64 0) hw2 (by go_simp) (by go_simp)
              have cw2_0_1 : w2.cell? ⟨W.heap.size, 1, none⟩ = some (.int .u64 x) := cell_gr hw2 (by go_simp)
              have fw2_0_1 : w2.frozen? ⟨W.heap.size, 1, none⟩ = false := frozen_gr (v := .int .u64 x) hw2 (by go_simp) (by go_simp)
              have cw2_0_2 : w2.cell? ⟨W.heap.size, 2, none⟩ = some (.int .u64 1) := cell_gr hw2 (by go_simp)
              have fw2_0_2 : w2.frozen? ⟨W.heap.size, 2, none⟩ = false := frozen_gr (v := .int .u64 1) hw2 (by go_simp) (by go_simp)
              have zw2_0 : W.heap.size < w2.heap.size := World.block_lt_of_cell? _ _ cw2_0_0
              have cw2_1_0 : w2.cell? ⟨B2, 0, none⟩ = some (.int .u64 0) := Hm.cell_of_heap hhw2 0
              have cw2_1_1 : w2.cell? ⟨B2, 1, none⟩ = some (.int .u64 0) := Hm.cell_of_heap hhw2 1
              have cw2_1_2 : w2.cell? ⟨B2, 2, none⟩ = some (.int .u64 0) := Hm.cell_of_heap hhw2 2
              have zw2_1 : B2 < w2.heap.size := World.block_lt_of_cell? _ _ cw2_1_0
              have gw2 : Gr W w2 := Gr.trans (by have gg := gwr; have gs := gg.size; go_grown) hw2
              have fw2_1_0 : w2.frozen? ⟨B2, 0, none⟩ = false := Hm.frozen_of_heap hhw2 0
              have fw2_1_1 : w2.frozen? ⟨B2, 1, none⟩ = false := Hm.frozen_of_heap hhw2 1
              have fw2_1_2 : w2.frozen? ⟨B2, 2, none⟩ = false := Hm.frozen_of_heap hhw2 2
              clear hw2 hhw2 gwr
              go_wp2_with fail
              go_at_call 40
              refine ((H2.out _)).mono ?_
              rintro e w3 ⟨rfl, hw3⟩
              have cw3_0_0 : w3.cell? ⟨W.heap.size, 0, none⟩ = some (.int .u64 0) := cell_gr hw3 (by go_simp)
              have fw3_0_0 : w3.frozen? ⟨W.heap.size, 0, none⟩ = false := frozen_gr (v := .int .u64 0) hw3 (by go_simp) (by go_simp)
              have cw3_0_1 : w3.cell? ⟨W.heap.size, 1, none⟩ = some (.int .u64 x) := cell_gr hw3 (by go_simp)
              have fw3_0_1 : w3.frozen? ⟨W.heap.size, 1, none⟩ = false := frozen_gr (v := .int .u64 x) hw3 (by go_simp) (by go_simp)
              have cw3_0_2 : w3.cell? ⟨W.heap.size, 2, none⟩ = some (.int .u64 1) := cell_gr hw3 (by go_simp)
              have fw3_0_2 : w3.frozen? ⟨W.heap.size, 2, none⟩ = false := frozen_gr (v := .int .u64 1) hw3 (by go_simp) (by go_simp)
              have zw3_0 : W.heap.size < w3.heap.size := World.block_lt_of_cell? _ _ cw3_0_0
              have cw3_1_0 : w3.cell? ⟨B2, 0, none⟩ = some (.int .u64 0) := cell_gr hw3 (by go_simp)
              have fw3_1_0 : w3.frozen? ⟨B2, 0, none⟩ = false := frozen_gr (v := .int .u64 0) hw3 (by go_simp) (by go_simp)
              have cw3_1_1 : w3.cell? ⟨B2, 1, none⟩ = some (.int .u64 d) := cell_gr hw3 (by go_simp)
              have fw3_1_1 : w3.frozen? ⟨B2, 1, none⟩ = false := frozen_gr (v := .int .u64 d) hw3 (by go_simp) (by go_simp)
              have cw3_1_2 : w3.cell? ⟨B2, 2, none⟩ = some (.int .u64 1) := cell_gr hw3 (by go_simp)
              have fw3_1_2 : w3.frozen? ⟨B2, 2, none⟩ = false := frozen_gr (v := .int .u64 1) hw3 (by go_simp) (by go_simp)
              have zw3_1 : B2 < w3.heap.size := World.block_lt_of_cell? _ _ cw3_1_0
              have gw3 : Gr W w3 := Gr.trans (by have gg := gw2; have gs := gg.size; go_grown) hw3
              clear hw3 gw2 zw2_0 cw2_0_0 fw2_0_0 cw2_0_1 fw2_0_1 cw2_0_2 fw2_0_2 zw2_1 cw2_1_0 fw2_1_0 cw2_1_1 fw2_1_1 cw2_1_2 fw2_1_2
              go_wp2_with fail
              go_region
              go_wp2_with fail
              go_roundg (n - (q + 1))
              case measure => exact hmm2
              case rel =>
                refine ⟨q + 1, m, q, d, 1, rfl, rfl, by go_num, by omega, hqn, rfl, ?_, by go_simp, by go_simp, by go_simp, by go_simp, by go_simp, by go_simp, by have gg := gw3; have gs := gg.size; go_grown⟩
                refine .inr ⟨by omega, HB.out.2.1.move hmq hqn ?_, HD.out, rfl⟩
                have := HLT.out
                unfold sqF
                rw [← HD.out, ← HB.out.2.2]; omega
            · have HLT := Lib.hid hlt
              have hb : decide (d < x) = false := decide_eq_false hlt
              rw [hb] at CB
              have H2 := Lib.hid CB
              clear CB hlt hb
              go_wp2_with fail
              refine Hm.wp_region_mk 10 9 11 #[.int .u64 0, .int .u64 0, .int .u64 0] 37 (by kernel_rfl) (by simp only [List.getElem?_toArray, List.getElem?_cons_succ, List.getElem?_cons_zero] <;> rfl) (by kernel_rfl) (fun _ _ => ?_) ?_
              · unfold Oper.wp; go_simp
              intro KQ hKQ
              repeat (first | (refine Hm.wpG_sp (by decide) ?_ ?_; (· (try dsimp only); first | (rw [if_neg (by decide)]; trivial) | (rw [if_pos rfl]; (intro B w' g hB hw; have c0 : w'.cell? ⟨B, 0, none⟩ = some (.int .u64 0) := Hm.cell_of_heap hw 0; have f0 := Hm.frozen_of_heap hw 0; have c1 : w'.cell? ⟨B, 1, none⟩ = some (.int .u64 0) := Hm.cell_of_heap hw 1; have f1 := Hm.frozen_of_heap hw 1; have c2 : w'.cell? ⟨B, 2, none⟩ = some (.int .u64 0) := Hm.cell_of_heap hw 2; have f2 := Hm.frozen_of_heap hw 2; unfold Oper.wp; go_simp; exact ⟨(((g.setCell hB _).setCell hB _).setCell hB _), (Hm.heap_set_same (Hm.heap_set_same (Hm.heap_set_same hw)))⟩)))) | (refine Hm.wpG_skip (by decide) rfl ?_; simp only [Act.put, List.setIfInBounds_toArray, List.set_cons_zero, List.set_cons_succ]) | (refine Hm.wpG_want (by decide) rfl ?_; apply Exists.intro; refine ⟨?_, ?_⟩; (· intro wx gx; (obtain ⟨mx, rfl⟩ := spread_of_gr gx; clear gx); all_goals (apply Hd.gAt_of_quiet; intro K hK; go_big_quiet_op; first | exact hK _ rfl | (apply Exists.intro; refine ⟨fun _ => ?_, ?_⟩; (· (first | (go_at_call 55; first | ((with_reducible refine ((H1.out _)).mono ?_); rintro e w' ⟨rfl, hg⟩; exact ⟨rfl, spread_gr hg⟩)))); exact hK _ rfl))); try simp only [Act.put, List.setIfInBounds_toArray, List.set_cons_zero, List.set_cons_succ]))
              refine Hm.wpG_nil (hKQ _ ?_)
              clear hKQ KQ
              intro B2 w2 hw2 hBw2 hhw2
              have cw2_0_0 : w2.cell? ⟨W.heap.size, 0, none⟩ = some (.int .u64 0) := cell_gr hw2 (by go_simp)
              have fw2_0_0 : w2.frozen? ⟨W.heap.size, 0, none⟩ = false := frozen_gr (v := .int .u64 0) hw2 (by go_simp) (by go_simp)
              have cw2_0_1 : w2.cell? ⟨W.heap.size, 1, none⟩ = some (.int .u64 x) := cell_gr hw2 (by go_simp)
              have fw2_0_1 : w2.frozen? ⟨W.heap.size, 1, none⟩ = false := frozen_gr (v := .int .u64 x) hw2 (by go_simp) (by go_simp)
              have cw2_0_2 : w2.cell? ⟨W.heap.size, 2, none⟩ = some (.int .u64 1) := cell_gr hw2 (by go_simp)
              have fw2_0_2 : w2.frozen? ⟨W.heap.size, 2, none⟩ = false := frozen_gr (v := .int .u64 1) hw2 (by go_simp) (by go_simp)
              have zw2_0 : W.heap.size < w2.heap.size := World.block_lt_of_cell? _ _ cw2_0_0
              have cw2_1_0 : w2.cell? ⟨B2, 0, none⟩ = some (.int .u64 0) := Hm.cell_of_heap hhw2 0
              have cw2_1_1 : w2.cell? ⟨B2, 1, none⟩ = some (.int .u64 0) := Hm.cell_of_heap hhw2 1
              have cw2_1_2 : w2.cell? ⟨B2, 2, none⟩ = some (.int .u64 0) := Hm.cell_of_heap hhw2 2
              have zw2_1 : B2 < w2.heap.size := World.block_lt_of_cell? _ _ cw2_1_0
              have gw2 : Gr W w2 := Gr.trans (by have gg := gwr; have gs := gg.size; go_grown) hw2
              have fw2_1_0 : w2.frozen? ⟨B2, 0, none⟩ = false := Hm.frozen_of_heap hhw2 0
              have fw2_1_1 : w2.frozen? ⟨B2, 1, none⟩ = false := Hm.frozen_of_heap hhw2 1
              have fw2_1_2 : w2.frozen? ⟨B2, 2, none⟩ = false := Hm.frozen_of_heap hhw2 2
              clear hw2 hhw2 gwr
              go_wp2_with fail
              go_at_call 40
              refine ((H2.out _)).mono ?_
              rintro e w3 ⟨rfl, hw3⟩
              have cw3_0_0 : w3.cell? ⟨W.heap.size, 0, none⟩ = some (.int .u64 0) := cell_gr hw3 (by go_simp)
              have fw3_0_0 : w3.frozen? ⟨W.heap.size, 0, none⟩ = false := frozen_gr (v := .int .u64 0) hw3 (by go_simp) (by go_simp)
              have cw3_0_1 : w3.cell? ⟨W.heap.size, 1, none⟩ = some (.int .u64 x) := cell_gr hw3 (by go_simp)
              have fw3_0_1 : w3.frozen? ⟨W.heap.size, 1, none⟩ = false := frozen_gr (v := .int .u64 x) hw3 (by go_simp) (by go_simp)
              have cw3_0_2 : w3.cell? ⟨W.heap.size, 2, none⟩ = some (.int .u64 1) := cell_gr hw3 (by go_simp)
              have fw3_0_2 : w3.frozen? ⟨W.heap.size, 2, none⟩ = false := frozen_gr (v := .int .u64 1) hw3 (by go_simp) (by go_simp)
              have zw3_0 : W.heap.size < w3.heap.size := World.block_lt_of_cell? _ _ cw3_0_0
              have cw3_1_0 : w3.cell? ⟨B2, 0, none⟩ = some (.int .u64 0) := cell_gr hw3 (by go_simp)
              have fw3_1_0 : w3.frozen? ⟨B2, 0, none⟩ = false := frozen_gr (v := .int .u64 0) hw3 (by go_simp) (by go_simp)
              have cw3_1_1 : w3.cell? ⟨B2, 1, none⟩ = some (.int .u64 d) := cell_gr hw3 (by go_simp)
              have fw3_1_1 : w3.frozen? ⟨B2, 1, none⟩ = false := frozen_gr (v := .int .u64 d) hw3 (by go_simp) (by go_simp)
              have cw3_1_2 : w3.cell? ⟨B2, 2, none⟩ = some (.int .u64 1) := cell_gr hw3 (by go_simp)
              have fw3_1_2 : w3.frozen? ⟨B2, 2, none⟩ = false := frozen_gr (v := .int .u64 1) hw3 (by go_simp) (by go_simp)
              have zw3_1 : B2 < w3.heap.size := World.block_lt_of_cell? _ _ cw3_1_0
              have gw3 : Gr W w3 := Gr.trans (by have gg := gw2; have gs := gg.size; go_grown) hw3
              clear hw3 gw2 zw2_0 cw2_0_0 fw2_0_0 cw2_0_1 fw2_0_1 cw2_0_2 fw2_0_2 zw2_1 cw2_1_0 fw2_1_0 cw2_1_1 fw2_1_1 cw2_1_2 fw2_1_2
              go_wp2_with fail
              go_roundg (n - (q + 1))
              case measure => exact hmm2
              case rel =>
                refine ⟨q + 1, i, j, x, 1, rfl, rfl, by go_num, by omega, hqn, rfl, ?_, by go_simp, by go_simp, by go_simp, by go_simp, by go_simp, by go_simp, by have gg := gw3; have gs := gg.size; go_grown⟩
                refine .inr ⟨HB.out.1, HB.out.2.1.stay hmq hqn ?_, HB.out.2.2, rfl⟩
                have := HLT.out
                unfold sqF
                rw [← HD.out, ← HB.out.2.2]; omega
        · obtain rfl : n = q := by omega
          have tj : decide ((n : Int) < (n : Int)) = false := decide_eq_false (by omega)
          have tj2 : decide (n < n) = false := decide_eq_false (by omega)
          clear hk hqn
          go_wp2_with fail
          go_roundg (n - (m + 1))
          case measure => exact hmm
          case rel =>
            refine ⟨m + 1, i, j, x, y, rfl, rfl, by go_num, hmn, rfl, ?_, a0, a1, a2, b0, b1, b2, gwr⟩
            rcases HST.out with ⟨k1, k2, -⟩ | ⟨k1, k2, k3, k4⟩
            · omega
            · exact .inr ⟨by omega, k2.row, k3, k4⟩
    · obtain rfl : n = m := by omega
      have ti : decide ((n : Int) < (n : Int)) = false := decide_eq_false (by omega)
      have ti2 : decide (n < n) = false := decide_eq_false (by omega)
      obtain ⟨k1, k2, ex, rfl⟩ : 1 ≤ n ∧ Hp.Bst (sqF (-1) X Y) n n (n + 1) i j ∧ x = sqZ (X i) (Y i) (X j) (Y j) ∧ y = 1 := by
        rcases HST.out with ⟨k, -⟩ | k
        · omega
        · exact k
      have HB := Lib.hid (k2.all (by omega) (fun h => absurd h (by omega)))
      clear hk hmn HST k1 k2
      have HZ := Lib.hid ex
      clear ex
      clear HX HNR HC HCB
      go_wp2_with fail
      go_region
      go_wp2_with fail
      refine bodyPost_ret (v := .tuple #[.int .i64 i, .int .i64 j, .agg #[.int .u64 0, .int .u64 x, .int .u64 1], .nilIface]) (by simp [results, Tryd.results36, go_sem, *]) rfl ⟨i, j, HB.out, by rw [HZ.out], by go_grown⟩
end Go.Proofs.YtogflfepkddbhaaDoor
