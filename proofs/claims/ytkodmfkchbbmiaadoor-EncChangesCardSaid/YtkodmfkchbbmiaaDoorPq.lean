/- plane: Union of any boxes; the document's; the numbers of errors; the document's own points; PlanePoints; PlanePoints -/
import Derived.Test.YtkodmfkchbbmiaaDoorPa
import Derived.Test.YtkodmfkchbbmiaaDoorCp
import Derived.Test.YtkodmfkchbbmiaaDoorRi
import Derived.Test.YtkodmfkchbbmiaaDoorH
import Derived.Test.YtkodmfkchbbmiaaDoorRj
namespace Go.Proofs.YtkodmfkchbbmiaaDoor
set_option linter.unusedVariables false
open Go.ChangeShapes Go.WideShapes Go.ChangeAt Go.RowKit

/-- The least number of the first k, the first one's own too; the greatest. -/
def accMin (A : Nat → Int) : Nat → Int
  | 0 => A 0
  | k + 1 => minZ (accMin A k) (A k)
def accMax (A : Nat → Int) : Nat → Int
  | 0 => A 0
  | k + 1 => maxZ (accMax A k) (A k)
theorem c_Code_nil (w : World) : Calls Tryd.prog 28 #[.nilIface] w fun e w' => e = .returned (.int .i64 0) ∧ Gr w w' := by
  go_enter Tryd.func28, Tryd.ntmps28
  go_wp2
  go_ret
  exact ⟨rfl, by go_grown⟩
set_option maxHeartbeats 1000000 in
set_option maxRecDepth 100000 in
theorem c_Code_errno (z : Int) (hz : z = 1 ∨ z = 2) (w : World) : Calls Tryd.prog 28 #[.iface 63 (.int .i64 z)] w fun e w' => e = .returned (.int .i64 z) ∧ Gr w w' := by
  rcases hz with rfl | rfl
  · have I1 : ∀ w, Calls Tryd.prog 40 #[.iface 63 (.int .i64 1), .iface 63 (.int .i64 1)] w fun e w' => e = .returned (.bool true) ∧ Gr w w' := c_Is_errno 1 1
    have H1 := Lib.hid I1
    clear I1
    go_enter Tryd.func28, Tryd.ntmps28
    go_wp2_with fail
    refine wp_loop_rounds 1 ?_
    rw [rounds_succ]
    go_wp2_with (go_at_call 40; (with_reducible refine (H1.out _).mono ?_); rintro e w1 ⟨rfl, hg⟩)
    go_ret
    exact ⟨rfl, Gr.trans (by go_grown) hg⟩
  · have I1 : ∀ w, Calls Tryd.prog 40 #[.iface 63 (.int .i64 2), .iface 63 (.int .i64 1)] w fun e w' => e = .returned (.bool false) ∧ Gr w w' := c_Is_errno 2 1
    have I2 : ∀ w, Calls Tryd.prog 40 #[.iface 63 (.int .i64 2), .iface 63 (.int .i64 2)] w fun e w' => e = .returned (.bool true) ∧ Gr w w' := c_Is_errno 2 2
    have H1 := Lib.hid I1
    have H2 := Lib.hid I2
    clear I1 I2
    go_enter Tryd.func28, Tryd.ntmps28
    go_wp2_with fail
    refine wp_loop_rounds 2 ?_
    rw [rounds_succ]
    go_wp2_with (go_at_call 40; (with_reducible refine (H1.out _).mono ?_); rintro e w1 ⟨rfl, hg⟩)
    rw [rounds_succ]
    go_wp2_with (go_at_call 40; (with_reducible refine (H2.out _).mono ?_); rintro e w2 ⟨rfl, hg2⟩)
    go_ret
    exact ⟨rfl, Gr.trans (Gr.trans (by go_grown) hg) hg2⟩

set_option maxRecDepth 100000 in
theorem c_rUnion0 (cap : Nat) (a : Option Addr) (w : World) : Calls Tryd.prog 61 #[.slice a 0 cap] w fun e w' => e = .returned (.tuple #[.agg #[.int .i64 0, .int .i64 0, .int .i64 0, .int .i64 0], .int .i64 1]) ∧ Gr w w' := by
  go_enter Tryd.func61, Tryd.ntmps61
  go_wp2_with fail
  refine bodyPost_ret (v := .tuple #[.agg #[.int .i64 0, .int .i64 0, .int .i64 0, .int .i64 0], .int .i64 1]) (by simp [results, Tryd.results61, go_sem, *]) rfl ⟨rfl, by go_grown⟩
set_option maxHeartbeats 2000000 in
set_option maxRecDepth 100000 in
theorem c_rUnionN (n cap : Nat) (A B C D : Nat → Int) (b off : Nat) (w : World) (hn : 1 ≤ n) (hn2 : n ≤ 200) (R : Value)
    (hc : ∀ k, k < n → w.cell? ⟨b, off + k * 4, none⟩ = some (.int .i64 (A k)) ∧ w.cell? ⟨b, off + k * 4 + 1, none⟩ = some (.int .i64 (B k)) ∧ w.cell? ⟨b, off + k * 4 + 2, none⟩ = some (.int .i64 (C k)) ∧ w.cell? ⟨b, off + k * 4 + 3, none⟩ = some (.int .i64 (D k)))
    (r1 : ∀ j, j < n → allBox A B C D j = true → boxB (A j) (B j) (C j) (D j) = false → R = .tuple #[.agg #[.int .i64 0, .int .i64 0, .int .i64 0, .int .i64 0], .int .i64 (boxCode (A j) (B j) (C j) (D j))])
    (r2 : allBox A B C D n = true → R = .tuple #[.agg #[.int .i64 (accMin A n), .int .i64 (accMin B n), .int .i64 (accMax C n), .int .i64 (accMax D n)], .int .i64 0]) :
    Calls Tryd.prog 61 #[.slice (some ⟨b, off, none⟩) n cap] w fun e w' => e = .returned R ∧ Gr w w' := by
  have t1 : ((n : Int) == 0) = false := by simp; omega
  have t2 : ((n : Int) != 0) = true := by simp; omega
  have t3 : (0 : Int) < (n : Int) := by omega
  have t4 : 0 < n := by omega
  have k0 : w.cell? ⟨b, off, none⟩ = some (.int .i64 (A 0)) := by simpa using (hc 0 (by omega)).1
  have k1 : w.cell? ⟨b, off + 1, none⟩ = some (.int .i64 (B 0)) := by simpa using (hc 0 (by omega)).2.1
  have k2 : w.cell? ⟨b, off + 2, none⟩ = some (.int .i64 (C 0)) := by simpa using (hc 0 (by omega)).2.2.1
  have k3 : w.cell? ⟨b, off + 3, none⟩ = some (.int .i64 (D 0)) := by simpa using (hc 0 (by omega)).2.2.2
  have hblt := World.block_lt_of_cell? _ _ k0
  have HC := Lib.hid hc
  have HR1 := Lib.hid r1
  have HR2 := Lib.hid r2
  clear hc r1 r2
  go_enter Tryd.func61, Tryd.ntmps61
  go_wp2_with fail
  have hne : ¬ b = w.heap.size := by omega
  have hne1 : ¬ b = w.heap.size + 1 := by omega
  go_loopg [5] n (fun k v wr => ∃ i : Nat, i + k = n ∧ v = .int .i64 i ∧ allBox A B C D i = true ∧ wr.cell? ⟨w.heap.size, 0, none⟩ = some (.int .i64 0) ∧ wr.cell? ⟨w.heap.size, 1, none⟩ = some (.int .i64 0) ∧ wr.cell? ⟨w.heap.size, 2, none⟩ = some (.int .i64 0) ∧ wr.cell? ⟨w.heap.size, 3, none⟩ = some (.int .i64 0) ∧ wr.frozen? ⟨w.heap.size, 0, none⟩ = false ∧ wr.frozen? ⟨w.heap.size, 1, none⟩ = false ∧ wr.frozen? ⟨w.heap.size, 2, none⟩ = false ∧ wr.frozen? ⟨w.heap.size, 3, none⟩ = false ∧ wr.cell? ⟨w.heap.size + 1, 0, none⟩ = some (.int .i64 (accMin A i)) ∧ wr.cell? ⟨w.heap.size + 1, 1, none⟩ = some (.int .i64 (accMin B i)) ∧ wr.cell? ⟨w.heap.size + 1, 2, none⟩ = some (.int .i64 (accMax C i)) ∧ wr.cell? ⟨w.heap.size + 1, 3, none⟩ = some (.int .i64 (accMax D i)) ∧ wr.frozen? ⟨w.heap.size + 1, 0, none⟩ = false ∧ wr.frozen? ⟨w.heap.size + 1, 1, none⟩ = false ∧ wr.frozen? ⟨w.heap.size + 1, 2, none⟩ = false ∧ wr.frozen? ⟨w.heap.size + 1, 3, none⟩ = false ∧ Gr w wr)
  case atStart => exact ⟨0, by omega, rfl, rfl, by go_simp, by go_simp, by go_simp, by go_simp, by go_simp, by go_simp, by go_simp, by go_simp, by unfold accMin; go_simp, by unfold accMin; go_simp, by unfold accMax; go_simp, by unfold accMax; go_simp, by go_simp, by go_simp, by go_simp, by go_simp, by go_grown⟩
  case round =>
    obtain ⟨i, hk, rfl, hall, c0, c1, c2, c3, f0, f1, f2, f3, a0, a1, a2, a3, g0, g1, g2, g3, gwr⟩ := hrel
    have zwr0 := World.block_lt_of_cell? _ _ c0
    have zwr := World.block_lt_of_cell? _ _ a0
    by_cases hin : i < n
    · have ti : decide ((i : Int) < (n : Int)) = true := decide_eq_true (by omega)
      have ti2 : decide (i < n) = true := decide_eq_true hin
      have ti3 : (i : Int) < (n : Int) := by omega
      have s0 := cell_gr gwr (HC.out i hin).1
      have s1 := cell_gr gwr (HC.out i hin).2.1
      have s2 := cell_gr gwr (HC.out i hin).2.2.1
      have s3 := cell_gr gwr (HC.out i hin).2.2.2
      clear k0 k1 k2 k3
      have K := c_rCheckBox (A i) (B i) (C i) (D i)
      by_cases hb : boxB (A i) (B i) (C i) (D i) = true
      · have e : allBox A B C D (i + 1) = true := by simp only [allBox, hall, hb]; rfl
        have HE := Lib.hid e
        have ec0 : boxCode (A i) (B i) (C i) (D i) = 0 := by
          have := boxCode_zero (lx := A i) (ly := B i) (hx := C i) (hy := D i)
          rw [hb] at this
          simpa using this
        rw [ec0] at K
        have H1 := Lib.hid K
        obtain ⟨xa, ea⟩ : ∃ x, x = accMin A i := ⟨_, rfl⟩
        obtain ⟨xb, eb⟩ : ∃ x, x = accMin B i := ⟨_, rfl⟩
        obtain ⟨xc, ec⟩ : ∃ x, x = accMax C i := ⟨_, rfl⟩
        obtain ⟨xd, ed⟩ : ∃ x, x = accMax D i := ⟨_, rfl⟩
        obtain ⟨ya, ea'⟩ : ∃ x, x = minZ (accMin A i) (A i) := ⟨_, rfl⟩
        obtain ⟨yb, eb'⟩ : ∃ x, x = minZ (accMin B i) (B i) := ⟨_, rfl⟩
        obtain ⟨yc, ec'⟩ : ∃ x, x = maxZ (accMax C i) (C i) := ⟨_, rfl⟩
        obtain ⟨yd, ed'⟩ : ∃ x, x = maxZ (accMax D i) (D i) := ⟨_, rfl⟩
        have m1 : ∀ w, (Builtin.min_ #[3, 3] 3 #[.int .i64 xa, .int .i64 (A i)]).run Tryd.prog w = .ok (.int .i64 ya) w := fun w => by rw [ea', ← ea]; simp [Builtin.min_, Builtin.min2, go_sem, minZ]
        have m2 : ∀ w, (Builtin.min_ #[3, 3] 3 #[.int .i64 xb, .int .i64 (B i)]).run Tryd.prog w = .ok (.int .i64 yb) w := fun w => by rw [eb', ← eb]; simp [Builtin.min_, Builtin.min2, go_sem, minZ]
        have m3 : ∀ w, (Builtin.max_ #[3, 3] 3 #[.int .i64 xc, .int .i64 (C i)]).run Tryd.prog w = .ok (.int .i64 yc) w := fun w => by rw [ec', ← ec]; simp [Builtin.max_, Builtin.max2, go_sem, maxZ]
        have m4 : ∀ w, (Builtin.max_ #[3, 3] 3 #[.int .i64 xd, .int .i64 (D i)]).run Tryd.prog w = .ok (.int .i64 yd) w := fun w => by rw [ed', ← ed]; simp [Builtin.max_, Builtin.max2, go_sem, maxZ]
        rw [← ea] at a0
        rw [← eb] at a1
        rw [← ec] at a2
        rw [← ed] at a3
        have HY := Lib.hid (And.intro ea' (And.intro eb' (And.intro ec' ed')))
        clear e hall hb ea eb ec ed ea' eb' ec' ed' ec0 K
        go_wp2_with fail
        go_at_call 72
        refine ((H1.out _)).mono ?_
        rintro e w1 ⟨rfl, hw1⟩
        have cw1_0_0 : w1.cell? ⟨w.heap.size, 0, none⟩ = some (.int .i64 0) := cell_gr hw1 (by go_simp)
        have fw1_0_0 : w1.frozen? ⟨w.heap.size, 0, none⟩ = false := frozen_gr (v := .int .i64 0) hw1 (by go_simp) (by go_simp)
        have cw1_0_1 : w1.cell? ⟨w.heap.size, 1, none⟩ = some (.int .i64 0) := cell_gr hw1 (by go_simp)
        have fw1_0_1 : w1.frozen? ⟨w.heap.size, 1, none⟩ = false := frozen_gr (v := .int .i64 0) hw1 (by go_simp) (by go_simp)
        have cw1_0_2 : w1.cell? ⟨w.heap.size, 2, none⟩ = some (.int .i64 0) := cell_gr hw1 (by go_simp)
        have fw1_0_2 : w1.frozen? ⟨w.heap.size, 2, none⟩ = false := frozen_gr (v := .int .i64 0) hw1 (by go_simp) (by go_simp)
        have cw1_0_3 : w1.cell? ⟨w.heap.size, 3, none⟩ = some (.int .i64 0) := cell_gr hw1 (by go_simp)
        have fw1_0_3 : w1.frozen? ⟨w.heap.size, 3, none⟩ = false := frozen_gr (v := .int .i64 0) hw1 (by go_simp) (by go_simp)
        have zw1_0 : w.heap.size < w1.heap.size := World.block_lt_of_cell? _ _ cw1_0_0
        have cw1_1_0 : w1.cell? ⟨w.heap.size + 1, 0, none⟩ = some (.int .i64 xa) := cell_gr hw1 (by go_simp)
        have fw1_1_0 : w1.frozen? ⟨w.heap.size + 1, 0, none⟩ = false := frozen_gr (v := .int .i64 xa) hw1 (by go_simp) (by go_simp)
        have cw1_1_1 : w1.cell? ⟨w.heap.size + 1, 1, none⟩ = some (.int .i64 xb) := cell_gr hw1 (by go_simp)
        have fw1_1_1 : w1.frozen? ⟨w.heap.size + 1, 1, none⟩ = false := frozen_gr (v := .int .i64 xb) hw1 (by go_simp) (by go_simp)
        have cw1_1_2 : w1.cell? ⟨w.heap.size + 1, 2, none⟩ = some (.int .i64 xc) := cell_gr hw1 (by go_simp)
        have fw1_1_2 : w1.frozen? ⟨w.heap.size + 1, 2, none⟩ = false := frozen_gr (v := .int .i64 xc) hw1 (by go_simp) (by go_simp)
        have cw1_1_3 : w1.cell? ⟨w.heap.size + 1, 3, none⟩ = some (.int .i64 xd) := cell_gr hw1 (by go_simp)
        have fw1_1_3 : w1.frozen? ⟨w.heap.size + 1, 3, none⟩ = false := frozen_gr (v := .int .i64 xd) hw1 (by go_simp) (by go_simp)
        have zw1_1 : w.heap.size + 1 < w1.heap.size := World.block_lt_of_cell? _ _ cw1_1_0
        have gw1 : Gr w w1 := Gr.trans (by have gg := gwr; have gs := gg.size; go_grown) hw1
        clear hw1 gwr
        clear s0 s1 s2 s3
        have s0 := cell_gr gw1 (HC.out i hin).1
        have s1 := cell_gr gw1 (HC.out i hin).2.1
        have s2 := cell_gr gw1 (HC.out i hin).2.2.1
        have s3 := cell_gr gw1 (HC.out i hin).2.2.2
        go_wp2_with fail
        refine Hd.wp_region_tail 12 (by kernel_rfl) (by kernel_rfl) ?_
        intro KQ hKQ
        repeat (first | (refine Hd.wpG_skip (by decide) rfl ?_; simp only [Act.put, List.setIfInBounds_toArray, List.set_cons_zero, List.set_cons_succ]) | (refine Hd.wpG_want (by decide) rfl ?_; apply Exists.intro; refine ⟨?_, ?_⟩; (· intro wx gx; (obtain ⟨mx, rfl⟩ := gx); all_goals (apply Hd.gAt_of_quiet; intro K hK; go_big_quiet_op; first | exact hK _ rfl | (apply Exists.intro; refine ⟨fun _ => ?_, ?_⟩; (· fail); exact hK _ rfl))); try simp only [Act.put, List.setIfInBounds_toArray, List.set_cons_zero, List.set_cons_succ]))
        refine Hd.wpG_nil (hKQ _ ?_)
        clear hKQ KQ
        intro w2 hhw2
        have hw2 := Hd.gr_of_spread hhw2
        have cw2_0_0 : w2.cell? ⟨w.heap.size, 0, none⟩ = some (.int .i64 0) := cell_gr hw2 (by go_simp)
        have fw2_0_0 : w2.frozen? ⟨w.heap.size, 0, none⟩ = false := frozen_gr (v := .int .i64 0) hw2 (by go_simp) (by go_simp)
        have cw2_0_1 : w2.cell? ⟨w.heap.size, 1, none⟩ = some (.int .i64 0) := cell_gr hw2 (by go_simp)
        have fw2_0_1 : w2.frozen? ⟨w.heap.size, 1, none⟩ = false := frozen_gr (v := .int .i64 0) hw2 (by go_simp) (by go_simp)
        have cw2_0_2 : w2.cell? ⟨w.heap.size, 2, none⟩ = some (.int .i64 0) := cell_gr hw2 (by go_simp)
        have fw2_0_2 : w2.frozen? ⟨w.heap.size, 2, none⟩ = false := frozen_gr (v := .int .i64 0) hw2 (by go_simp) (by go_simp)
        have cw2_0_3 : w2.cell? ⟨w.heap.size, 3, none⟩ = some (.int .i64 0) := cell_gr hw2 (by go_simp)
        have fw2_0_3 : w2.frozen? ⟨w.heap.size, 3, none⟩ = false := frozen_gr (v := .int .i64 0) hw2 (by go_simp) (by go_simp)
        have zw2_0 : w.heap.size < w2.heap.size := World.block_lt_of_cell? _ _ cw2_0_0
        have cw2_1_0 : w2.cell? ⟨w.heap.size + 1, 0, none⟩ = some (.int .i64 xa) := cell_gr hw2 (by go_simp)
        have fw2_1_0 : w2.frozen? ⟨w.heap.size + 1, 0, none⟩ = false := frozen_gr (v := .int .i64 xa) hw2 (by go_simp) (by go_simp)
        have cw2_1_1 : w2.cell? ⟨w.heap.size + 1, 1, none⟩ = some (.int .i64 xb) := cell_gr hw2 (by go_simp)
        have fw2_1_1 : w2.frozen? ⟨w.heap.size + 1, 1, none⟩ = false := frozen_gr (v := .int .i64 xb) hw2 (by go_simp) (by go_simp)
        have cw2_1_2 : w2.cell? ⟨w.heap.size + 1, 2, none⟩ = some (.int .i64 xc) := cell_gr hw2 (by go_simp)
        have fw2_1_2 : w2.frozen? ⟨w.heap.size + 1, 2, none⟩ = false := frozen_gr (v := .int .i64 xc) hw2 (by go_simp) (by go_simp)
        have cw2_1_3 : w2.cell? ⟨w.heap.size + 1, 3, none⟩ = some (.int .i64 xd) := cell_gr hw2 (by go_simp)
        have fw2_1_3 : w2.frozen? ⟨w.heap.size + 1, 3, none⟩ = false := frozen_gr (v := .int .i64 xd) hw2 (by go_simp) (by go_simp)
        have zw2_1 : w.heap.size + 1 < w2.heap.size := World.block_lt_of_cell? _ _ cw2_1_0
        have gw2 : Gr w w2 := Gr.trans (by have gg := gw1; have gs := gg.size; go_grown) hw2
        clear hw2 hhw2 gw1 zw1_0 cw1_0_0 fw1_0_0 cw1_0_1 fw1_0_1 cw1_0_2 fw1_0_2 cw1_0_3 fw1_0_3 zw1_1 cw1_1_0 fw1_1_0 cw1_1_1 fw1_1_1 cw1_1_2 fw1_1_2 cw1_1_3 fw1_1_3
        clear s0 s1 s2 s3
        have s0 := cell_gr gw2 (HC.out i hin).1
        have s1 := cell_gr gw2 (HC.out i hin).2.1
        have s2 := cell_gr gw2 (HC.out i hin).2.2.1
        have s3 := cell_gr gw2 (HC.out i hin).2.2.2
        go_wp2_with fail
        generalize hhw3 : (w2.setCell ⟨w.heap.size + 1, 0, none⟩ (.int .i64 ya)) = w3
        have cw3_0_0 : w3.cell? ⟨w.heap.size, 0, none⟩ = some (.int .i64 0) := by subst hhw3; go_simp
        have fw3_0_0 : w3.frozen? ⟨w.heap.size, 0, none⟩ = false := by subst hhw3; go_simp
        have cw3_0_1 : w3.cell? ⟨w.heap.size, 1, none⟩ = some (.int .i64 0) := by subst hhw3; go_simp
        have fw3_0_1 : w3.frozen? ⟨w.heap.size, 1, none⟩ = false := by subst hhw3; go_simp
        have cw3_0_2 : w3.cell? ⟨w.heap.size, 2, none⟩ = some (.int .i64 0) := by subst hhw3; go_simp
        have fw3_0_2 : w3.frozen? ⟨w.heap.size, 2, none⟩ = false := by subst hhw3; go_simp
        have cw3_0_3 : w3.cell? ⟨w.heap.size, 3, none⟩ = some (.int .i64 0) := by subst hhw3; go_simp
        have fw3_0_3 : w3.frozen? ⟨w.heap.size, 3, none⟩ = false := by subst hhw3; go_simp
        have zw3_0 : w.heap.size < w3.heap.size := World.block_lt_of_cell? _ _ cw3_0_0
        have cw3_1_0 : w3.cell? ⟨w.heap.size + 1, 0, none⟩ = some (.int .i64 ya) := by subst hhw3; go_simp
        have fw3_1_0 : w3.frozen? ⟨w.heap.size + 1, 0, none⟩ = false := by subst hhw3; go_simp
        have cw3_1_1 : w3.cell? ⟨w.heap.size + 1, 1, none⟩ = some (.int .i64 xb) := by subst hhw3; go_simp
        have fw3_1_1 : w3.frozen? ⟨w.heap.size + 1, 1, none⟩ = false := by subst hhw3; go_simp
        have cw3_1_2 : w3.cell? ⟨w.heap.size + 1, 2, none⟩ = some (.int .i64 xc) := by subst hhw3; go_simp
        have fw3_1_2 : w3.frozen? ⟨w.heap.size + 1, 2, none⟩ = false := by subst hhw3; go_simp
        have cw3_1_3 : w3.cell? ⟨w.heap.size + 1, 3, none⟩ = some (.int .i64 xd) := by subst hhw3; go_simp
        have fw3_1_3 : w3.frozen? ⟨w.heap.size + 1, 3, none⟩ = false := by subst hhw3; go_simp
        have zw3_1 : w.heap.size + 1 < w3.heap.size := World.block_lt_of_cell? _ _ cw3_1_0
        have gw3 : Gr w w3 := by subst hhw3; have gg := gw2; have gs := gg.size; go_grown
        clear hhw3 gw2 zw2_0 cw2_0_0 fw2_0_0 cw2_0_1 fw2_0_1 cw2_0_2 fw2_0_2 cw2_0_3 fw2_0_3 zw2_1 cw2_1_0 fw2_1_0 cw2_1_1 fw2_1_1 cw2_1_2 fw2_1_2 cw2_1_3 fw2_1_3
        clear s0 s1 s2 s3
        have s0 := cell_gr gw3 (HC.out i hin).1
        have s1 := cell_gr gw3 (HC.out i hin).2.1
        have s2 := cell_gr gw3 (HC.out i hin).2.2.1
        have s3 := cell_gr gw3 (HC.out i hin).2.2.2
        go_wp2_with fail
        refine Hd.wp_region_tail 12 (by kernel_rfl) (by kernel_rfl) ?_
        intro KQ hKQ
        repeat (first | (refine Hd.wpG_skip (by decide) rfl ?_; simp only [Act.put, List.setIfInBounds_toArray, List.set_cons_zero, List.set_cons_succ]) | (refine Hd.wpG_want (by decide) rfl ?_; apply Exists.intro; refine ⟨?_, ?_⟩; (· intro wx gx; (obtain ⟨mx, rfl⟩ := gx); all_goals (apply Hd.gAt_of_quiet; intro K hK; go_big_quiet_op; first | exact hK _ rfl | (apply Exists.intro; refine ⟨fun _ => ?_, ?_⟩; (· fail); exact hK _ rfl))); try simp only [Act.put, List.setIfInBounds_toArray, List.set_cons_zero, List.set_cons_succ]))
        refine Hd.wpG_nil (hKQ _ ?_)
        clear hKQ KQ
        intro w4 hhw4
        have hw4 := Hd.gr_of_spread hhw4
        have cw4_0_0 : w4.cell? ⟨w.heap.size, 0, none⟩ = some (.int .i64 0) := cell_gr hw4 (by go_simp)
        have fw4_0_0 : w4.frozen? ⟨w.heap.size, 0, none⟩ = false := frozen_gr (v := .int .i64 0) hw4 (by go_simp) (by go_simp)
        have cw4_0_1 : w4.cell? ⟨w.heap.size, 1, none⟩ = some (.int .i64 0) := cell_gr hw4 (by go_simp)
        have fw4_0_1 : w4.frozen? ⟨w.heap.size, 1, none⟩ = false := frozen_gr (v := .int .i64 0) hw4 (by go_simp) (by go_simp)
        have cw4_0_2 : w4.cell? ⟨w.heap.size, 2, none⟩ = some (.int .i64 0) := cell_gr hw4 (by go_simp)
        have fw4_0_2 : w4.frozen? ⟨w.heap.size, 2, none⟩ = false := frozen_gr (v := .int .i64 0) hw4 (by go_simp) (by go_simp)
        have cw4_0_3 : w4.cell? ⟨w.heap.size, 3, none⟩ = some (.int .i64 0) := cell_gr hw4 (by go_simp)
        have fw4_0_3 : w4.frozen? ⟨w.heap.size, 3, none⟩ = false := frozen_gr (v := .int .i64 0) hw4 (by go_simp) (by go_simp)
        have zw4_0 : w.heap.size < w4.heap.size := World.block_lt_of_cell? _ _ cw4_0_0
        have cw4_1_0 : w4.cell? ⟨w.heap.size + 1, 0, none⟩ = some (.int .i64 ya) := cell_gr hw4 (by go_simp)
        have fw4_1_0 : w4.frozen? ⟨w.heap.size + 1, 0, none⟩ = false := frozen_gr (v := .int .i64 ya) hw4 (by go_simp) (by go_simp)
        have cw4_1_1 : w4.cell? ⟨w.heap.size + 1, 1, none⟩ = some (.int .i64 xb) := cell_gr hw4 (by go_simp)
        have fw4_1_1 : w4.frozen? ⟨w.heap.size + 1, 1, none⟩ = false := frozen_gr (v := .int .i64 xb) hw4 (by go_simp) (by go_simp)
        have cw4_1_2 : w4.cell? ⟨w.heap.size + 1, 2, none⟩ = some (.int .i64 xc) := cell_gr hw4 (by go_simp)
        have fw4_1_2 : w4.frozen? ⟨w.heap.size + 1, 2, none⟩ = false := frozen_gr (v := .int .i64 xc) hw4 (by go_simp) (by go_simp)
        have cw4_1_3 : w4.cell? ⟨w.heap.size + 1, 3, none⟩ = some (.int .i64 xd) := cell_gr hw4 (by go_simp)
        have fw4_1_3 : w4.frozen? ⟨w.heap.size + 1, 3, none⟩ = false := frozen_gr (v := .int .i64 xd) hw4 (by go_simp) (by go_simp)
        have zw4_1 : w.heap.size + 1 < w4.heap.size := World.block_lt_of_cell? _ _ cw4_1_0
        have gw4 : Gr w w4 := Gr.trans (by have gg := gw3; have gs := gg.size; go_grown) hw4
        clear hw4 hhw4 gw3 zw3_0 cw3_0_0 fw3_0_0 cw3_0_1 fw3_0_1 cw3_0_2 fw3_0_2 cw3_0_3 fw3_0_3 zw3_1 cw3_1_0 fw3_1_0 cw3_1_1 fw3_1_1 cw3_1_2 fw3_1_2 cw3_1_3 fw3_1_3
        clear s0 s1 s2 s3
        have s0 := cell_gr gw4 (HC.out i hin).1
        have s1 := cell_gr gw4 (HC.out i hin).2.1
        have s2 := cell_gr gw4 (HC.out i hin).2.2.1
        have s3 := cell_gr gw4 (HC.out i hin).2.2.2
        go_wp2_with fail
        generalize hhw5 : (w4.setCell ⟨w.heap.size + 1, 1, none⟩ (.int .i64 yb)) = w5
        have cw5_0_0 : w5.cell? ⟨w.heap.size, 0, none⟩ = some (.int .i64 0) := by subst hhw5; go_simp
        have fw5_0_0 : w5.frozen? ⟨w.heap.size, 0, none⟩ = false := by subst hhw5; go_simp
        have cw5_0_1 : w5.cell? ⟨w.heap.size, 1, none⟩ = some (.int .i64 0) := by subst hhw5; go_simp
        have fw5_0_1 : w5.frozen? ⟨w.heap.size, 1, none⟩ = false := by subst hhw5; go_simp
        have cw5_0_2 : w5.cell? ⟨w.heap.size, 2, none⟩ = some (.int .i64 0) := by subst hhw5; go_simp
        have fw5_0_2 : w5.frozen? ⟨w.heap.size, 2, none⟩ = false := by subst hhw5; go_simp
        have cw5_0_3 : w5.cell? ⟨w.heap.size, 3, none⟩ = some (.int .i64 0) := by subst hhw5; go_simp
        have fw5_0_3 : w5.frozen? ⟨w.heap.size, 3, none⟩ = false := by subst hhw5; go_simp
        have zw5_0 : w.heap.size < w5.heap.size := World.block_lt_of_cell? _ _ cw5_0_0
        have cw5_1_0 : w5.cell? ⟨w.heap.size + 1, 0, none⟩ = some (.int .i64 ya) := by subst hhw5; go_simp
        have fw5_1_0 : w5.frozen? ⟨w.heap.size + 1, 0, none⟩ = false := by subst hhw5; go_simp
        have cw5_1_1 : w5.cell? ⟨w.heap.size + 1, 1, none⟩ = some (.int .i64 yb) := by subst hhw5; go_simp
        have fw5_1_1 : w5.frozen? ⟨w.heap.size + 1, 1, none⟩ = false := by subst hhw5; go_simp
        have cw5_1_2 : w5.cell? ⟨w.heap.size + 1, 2, none⟩ = some (.int .i64 xc) := by subst hhw5; go_simp
        have fw5_1_2 : w5.frozen? ⟨w.heap.size + 1, 2, none⟩ = false := by subst hhw5; go_simp
        have cw5_1_3 : w5.cell? ⟨w.heap.size + 1, 3, none⟩ = some (.int .i64 xd) := by subst hhw5; go_simp
        have fw5_1_3 : w5.frozen? ⟨w.heap.size + 1, 3, none⟩ = false := by subst hhw5; go_simp
        have zw5_1 : w.heap.size + 1 < w5.heap.size := World.block_lt_of_cell? _ _ cw5_1_0
        have gw5 : Gr w w5 := by subst hhw5; have gg := gw4; have gs := gg.size; go_grown
        clear hhw5 gw4 zw4_0 cw4_0_0 fw4_0_0 cw4_0_1 fw4_0_1 cw4_0_2 fw4_0_2 cw4_0_3 fw4_0_3 zw4_1 cw4_1_0 fw4_1_0 cw4_1_1 fw4_1_1 cw4_1_2 fw4_1_2 cw4_1_3 fw4_1_3
        clear s0 s1 s2 s3
        have s0 := cell_gr gw5 (HC.out i hin).1
        have s1 := cell_gr gw5 (HC.out i hin).2.1
        have s2 := cell_gr gw5 (HC.out i hin).2.2.1
        have s3 := cell_gr gw5 (HC.out i hin).2.2.2
        go_wp2_with fail
        refine Hd.wp_region_tail 12 (by kernel_rfl) (by kernel_rfl) ?_
        intro KQ hKQ
        repeat (first | (refine Hd.wpG_skip (by decide) rfl ?_; simp only [Act.put, List.setIfInBounds_toArray, List.set_cons_zero, List.set_cons_succ]) | (refine Hd.wpG_want (by decide) rfl ?_; apply Exists.intro; refine ⟨?_, ?_⟩; (· intro wx gx; (obtain ⟨mx, rfl⟩ := gx); all_goals (apply Hd.gAt_of_quiet; intro K hK; go_big_quiet_op; first | exact hK _ rfl | (apply Exists.intro; refine ⟨fun _ => ?_, ?_⟩; (· fail); exact hK _ rfl))); try simp only [Act.put, List.setIfInBounds_toArray, List.set_cons_zero, List.set_cons_succ]))
        refine Hd.wpG_nil (hKQ _ ?_)
        clear hKQ KQ
        intro w6 hhw6
        have hw6 := Hd.gr_of_spread hhw6
        have cw6_0_0 : w6.cell? ⟨w.heap.size, 0, none⟩ = some (.int .i64 0) := cell_gr hw6 (by go_simp)
        have fw6_0_0 : w6.frozen? ⟨w.heap.size, 0, none⟩ = false := frozen_gr (v := .int .i64 0) hw6 (by go_simp) (by go_simp)
        have cw6_0_1 : w6.cell? ⟨w.heap.size, 1, none⟩ = some (.int .i64 0) := cell_gr hw6 (by go_simp)
        have fw6_0_1 : w6.frozen? ⟨w.heap.size, 1, none⟩ = false := frozen_gr (v := .int .i64 0) hw6 (by go_simp) (by go_simp)
        have cw6_0_2 : w6.cell? ⟨w.heap.size, 2, none⟩ = some (.int .i64 0) := cell_gr hw6 (by go_simp)
        have fw6_0_2 : w6.frozen? ⟨w.heap.size, 2, none⟩ = false := frozen_gr (v := .int .i64 0) hw6 (by go_simp) (by go_simp)
        have cw6_0_3 : w6.cell? ⟨w.heap.size, 3, none⟩ = some (.int .i64 0) := cell_gr hw6 (by go_simp)
        have fw6_0_3 : w6.frozen? ⟨w.heap.size, 3, none⟩ = false := frozen_gr (v := .int .i64 0) hw6 (by go_simp) (by go_simp)
        have zw6_0 : w.heap.size < w6.heap.size := World.block_lt_of_cell? _ _ cw6_0_0
        have cw6_1_0 : w6.cell? ⟨w.heap.size + 1, 0, none⟩ = some (.int .i64 ya) := cell_gr hw6 (by go_simp)
        have fw6_1_0 : w6.frozen? ⟨w.heap.size + 1, 0, none⟩ = false := frozen_gr (v := .int .i64 ya) hw6 (by go_simp) (by go_simp)
        have cw6_1_1 : w6.cell? ⟨w.heap.size + 1, 1, none⟩ = some (.int .i64 yb) := cell_gr hw6 (by go_simp)
        have fw6_1_1 : w6.frozen? ⟨w.heap.size + 1, 1, none⟩ = false := frozen_gr (v := .int .i64 yb) hw6 (by go_simp) (by go_simp)
        have cw6_1_2 : w6.cell? ⟨w.heap.size + 1, 2, none⟩ = some (.int .i64 xc) := cell_gr hw6 (by go_simp)
        have fw6_1_2 : w6.frozen? ⟨w.heap.size + 1, 2, none⟩ = false := frozen_gr (v := .int .i64 xc) hw6 (by go_simp) (by go_simp)
        have cw6_1_3 : w6.cell? ⟨w.heap.size + 1, 3, none⟩ = some (.int .i64 xd) := cell_gr hw6 (by go_simp)
        have fw6_1_3 : w6.frozen? ⟨w.heap.size + 1, 3, none⟩ = false := frozen_gr (v := .int .i64 xd) hw6 (by go_simp) (by go_simp)
        have zw6_1 : w.heap.size + 1 < w6.heap.size := World.block_lt_of_cell? _ _ cw6_1_0
        have gw6 : Gr w w6 := Gr.trans (by have gg := gw5; have gs := gg.size; go_grown) hw6
        clear hw6 hhw6 gw5 zw5_0 cw5_0_0 fw5_0_0 cw5_0_1 fw5_0_1 cw5_0_2 fw5_0_2 cw5_0_3 fw5_0_3 zw5_1 cw5_1_0 fw5_1_0 cw5_1_1 fw5_1_1 cw5_1_2 fw5_1_2 cw5_1_3 fw5_1_3
        clear s0 s1 s2 s3
        have s0 := cell_gr gw6 (HC.out i hin).1
        have s1 := cell_gr gw6 (HC.out i hin).2.1
        have s2 := cell_gr gw6 (HC.out i hin).2.2.1
        have s3 := cell_gr gw6 (HC.out i hin).2.2.2
        go_wp2_with fail
        generalize hhw7 : (w6.setCell ⟨w.heap.size + 1, 2, none⟩ (.int .i64 yc)) = w7
        have cw7_0_0 : w7.cell? ⟨w.heap.size, 0, none⟩ = some (.int .i64 0) := by subst hhw7; go_simp
        have fw7_0_0 : w7.frozen? ⟨w.heap.size, 0, none⟩ = false := by subst hhw7; go_simp
        have cw7_0_1 : w7.cell? ⟨w.heap.size, 1, none⟩ = some (.int .i64 0) := by subst hhw7; go_simp
        have fw7_0_1 : w7.frozen? ⟨w.heap.size, 1, none⟩ = false := by subst hhw7; go_simp
        have cw7_0_2 : w7.cell? ⟨w.heap.size, 2, none⟩ = some (.int .i64 0) := by subst hhw7; go_simp
        have fw7_0_2 : w7.frozen? ⟨w.heap.size, 2, none⟩ = false := by subst hhw7; go_simp
        have cw7_0_3 : w7.cell? ⟨w.heap.size, 3, none⟩ = some (.int .i64 0) := by subst hhw7; go_simp
        have fw7_0_3 : w7.frozen? ⟨w.heap.size, 3, none⟩ = false := by subst hhw7; go_simp
        have zw7_0 : w.heap.size < w7.heap.size := World.block_lt_of_cell? _ _ cw7_0_0
        have cw7_1_0 : w7.cell? ⟨w.heap.size + 1, 0, none⟩ = some (.int .i64 ya) := by subst hhw7; go_simp
        have fw7_1_0 : w7.frozen? ⟨w.heap.size + 1, 0, none⟩ = false := by subst hhw7; go_simp
        have cw7_1_1 : w7.cell? ⟨w.heap.size + 1, 1, none⟩ = some (.int .i64 yb) := by subst hhw7; go_simp
        have fw7_1_1 : w7.frozen? ⟨w.heap.size + 1, 1, none⟩ = false := by subst hhw7; go_simp
        have cw7_1_2 : w7.cell? ⟨w.heap.size + 1, 2, none⟩ = some (.int .i64 yc) := by subst hhw7; go_simp
        have fw7_1_2 : w7.frozen? ⟨w.heap.size + 1, 2, none⟩ = false := by subst hhw7; go_simp
        have cw7_1_3 : w7.cell? ⟨w.heap.size + 1, 3, none⟩ = some (.int .i64 xd) := by subst hhw7; go_simp
        have fw7_1_3 : w7.frozen? ⟨w.heap.size + 1, 3, none⟩ = false := by subst hhw7; go_simp
        have zw7_1 : w.heap.size + 1 < w7.heap.size := World.block_lt_of_cell? _ _ cw7_1_0
        have gw7 : Gr w w7 := by subst hhw7; have gg := gw6; have gs := gg.size; go_grown
        clear hhw7 gw6 zw6_0 cw6_0_0 fw6_0_0 cw6_0_1 fw6_0_1 cw6_0_2 fw6_0_2 cw6_0_3 fw6_0_3 zw6_1 cw6_1_0 fw6_1_0 cw6_1_1 fw6_1_1 cw6_1_2 fw6_1_2 cw6_1_3 fw6_1_3
        clear s0 s1 s2 s3
        have s0 := cell_gr gw7 (HC.out i hin).1
        have s1 := cell_gr gw7 (HC.out i hin).2.1
        have s2 := cell_gr gw7 (HC.out i hin).2.2.1
        have s3 := cell_gr gw7 (HC.out i hin).2.2.2
        go_wp2_with fail
        refine Hd.wp_region_tail 12 (by kernel_rfl) (by kernel_rfl) ?_
        intro KQ hKQ
        repeat (first | (refine Hd.wpG_skip (by decide) rfl ?_; simp only [Act.put, List.setIfInBounds_toArray, List.set_cons_zero, List.set_cons_succ]) | (refine Hd.wpG_want (by decide) rfl ?_; apply Exists.intro; refine ⟨?_, ?_⟩; (· intro wx gx; (obtain ⟨mx, rfl⟩ := gx); all_goals (apply Hd.gAt_of_quiet; intro K hK; go_big_quiet_op; first | exact hK _ rfl | (apply Exists.intro; refine ⟨fun _ => ?_, ?_⟩; (· fail); exact hK _ rfl))); try simp only [Act.put, List.setIfInBounds_toArray, List.set_cons_zero, List.set_cons_succ]))
        refine Hd.wpG_nil (hKQ _ ?_)
        clear hKQ KQ
        intro w8 hhw8
        have hw8 := Hd.gr_of_spread hhw8
        have cw8_0_0 : w8.cell? ⟨w.heap.size, 0, none⟩ = some (.int .i64 0) := cell_gr hw8 (by go_simp)
        have fw8_0_0 : w8.frozen? ⟨w.heap.size, 0, none⟩ = false := frozen_gr (v := .int .i64 0) hw8 (by go_simp) (by go_simp)
        have cw8_0_1 : w8.cell? ⟨w.heap.size, 1, none⟩ = some (.int .i64 0) := cell_gr hw8 (by go_simp)
        have fw8_0_1 : w8.frozen? ⟨w.heap.size, 1, none⟩ = false := frozen_gr (v := .int .i64 0) hw8 (by go_simp) (by go_simp)
        have cw8_0_2 : w8.cell? ⟨w.heap.size, 2, none⟩ = some (.int .i64 0) := cell_gr hw8 (by go_simp)
        have fw8_0_2 : w8.frozen? ⟨w.heap.size, 2, none⟩ = false := frozen_gr (v := .int .i64 0) hw8 (by go_simp) (by go_simp)
        have cw8_0_3 : w8.cell? ⟨w.heap.size, 3, none⟩ = some (.int .i64 0) := cell_gr hw8 (by go_simp)
        have fw8_0_3 : w8.frozen? ⟨w.heap.size, 3, none⟩ = false := frozen_gr (v := .int .i64 0) hw8 (by go_simp) (by go_simp)
        have zw8_0 : w.heap.size < w8.heap.size := World.block_lt_of_cell? _ _ cw8_0_0
        have cw8_1_0 : w8.cell? ⟨w.heap.size + 1, 0, none⟩ = some (.int .i64 ya) := cell_gr hw8 (by go_simp)
        have fw8_1_0 : w8.frozen? ⟨w.heap.size + 1, 0, none⟩ = false := frozen_gr (v := .int .i64 ya) hw8 (by go_simp) (by go_simp)
        have cw8_1_1 : w8.cell? ⟨w.heap.size + 1, 1, none⟩ = some (.int .i64 yb) := cell_gr hw8 (by go_simp)
        have fw8_1_1 : w8.frozen? ⟨w.heap.size + 1, 1, none⟩ = false := frozen_gr (v := .int .i64 yb) hw8 (by go_simp) (by go_simp)
        have cw8_1_2 : w8.cell? ⟨w.heap.size + 1, 2, none⟩ = some (.int .i64 yc) := cell_gr hw8 (by go_simp)
        have fw8_1_2 : w8.frozen? ⟨w.heap.size + 1, 2, none⟩ = false := frozen_gr (v := .int .i64 yc) hw8 (by go_simp) (by go_simp)
        have cw8_1_3 : w8.cell? ⟨w.heap.size + 1, 3, none⟩ = some (.int .i64 xd) := cell_gr hw8 (by go_simp)
        have fw8_1_3 : w8.frozen? ⟨w.heap.size + 1, 3, none⟩ = false := frozen_gr (v := .int .i64 xd) hw8 (by go_simp) (by go_simp)
        have zw8_1 : w.heap.size + 1 < w8.heap.size := World.block_lt_of_cell? _ _ cw8_1_0
        have gw8 : Gr w w8 := Gr.trans (by have gg := gw7; have gs := gg.size; go_grown) hw8
        clear hw8 hhw8 gw7 zw7_0 cw7_0_0 fw7_0_0 cw7_0_1 fw7_0_1 cw7_0_2 fw7_0_2 cw7_0_3 fw7_0_3 zw7_1 cw7_1_0 fw7_1_0 cw7_1_1 fw7_1_1 cw7_1_2 fw7_1_2 cw7_1_3 fw7_1_3
        clear s0 s1 s2 s3
        have s0 := cell_gr gw8 (HC.out i hin).1
        have s1 := cell_gr gw8 (HC.out i hin).2.1
        have s2 := cell_gr gw8 (HC.out i hin).2.2.1
        have s3 := cell_gr gw8 (HC.out i hin).2.2.2
        go_wp2_with fail
        go_roundg (n - (i + 1))
        case measure => omega
        case rel => exact ⟨i + 1, by omega, by go_num, HE.out, by go_simp, by go_simp, by go_simp, by go_simp, by go_simp, by go_simp, by go_simp, by go_simp, by show _ = some (Value.int .i64 (minZ (accMin A i) (A i))); rw [← HY.out.1]; go_simp, by show _ = some (Value.int .i64 (minZ (accMin B i) (B i))); rw [← HY.out.2.1]; go_simp, by show _ = some (Value.int .i64 (maxZ (accMax C i) (C i))); rw [← HY.out.2.2.1]; go_simp, by show _ = some (Value.int .i64 (maxZ (accMax D i) (D i))); rw [← HY.out.2.2.2]; go_simp, by go_simp, by go_simp, by go_simp, by go_simp, by have gg := gw8; have gs := gg.size; go_grown⟩
      · have hb' : boxB (A i) (B i) (C i) (D i) = false := by simpa using hb
        have hR := HR1.out i hin hall hb'
        obtain ⟨z, hz, -, ez⟩ := boxErr_code hb'
        rw [ez] at K hR
        have HR := Lib.hid hR
        have HH := Lib.hid K
        clear hR hb hb' K ez hall
        have z1 : (z == 0) = false := by rcases hz with rfl | rfl <;> rfl
        have z2 : (z != 0) = true := by rcases hz with rfl | rfl <;> rfl
        clear hz
        go_wp2_with fail
        go_at_call 72
        refine ((HH.out _)).mono ?_
        rintro e w1 ⟨rfl, hw1⟩
        have cw1_0_0 : w1.cell? ⟨w.heap.size, 0, none⟩ = some (.int .i64 0) := cell_gr hw1 (by go_simp)
        have fw1_0_0 : w1.frozen? ⟨w.heap.size, 0, none⟩ = false := frozen_gr (v := .int .i64 0) hw1 (by go_simp) (by go_simp)
        have cw1_0_1 : w1.cell? ⟨w.heap.size, 1, none⟩ = some (.int .i64 0) := cell_gr hw1 (by go_simp)
        have fw1_0_1 : w1.frozen? ⟨w.heap.size, 1, none⟩ = false := frozen_gr (v := .int .i64 0) hw1 (by go_simp) (by go_simp)
        have cw1_0_2 : w1.cell? ⟨w.heap.size, 2, none⟩ = some (.int .i64 0) := cell_gr hw1 (by go_simp)
        have fw1_0_2 : w1.frozen? ⟨w.heap.size, 2, none⟩ = false := frozen_gr (v := .int .i64 0) hw1 (by go_simp) (by go_simp)
        have cw1_0_3 : w1.cell? ⟨w.heap.size, 3, none⟩ = some (.int .i64 0) := cell_gr hw1 (by go_simp)
        have fw1_0_3 : w1.frozen? ⟨w.heap.size, 3, none⟩ = false := frozen_gr (v := .int .i64 0) hw1 (by go_simp) (by go_simp)
        have zw1_0 : w.heap.size < w1.heap.size := World.block_lt_of_cell? _ _ cw1_0_0
        have gw1 : Gr w w1 := Gr.trans (by have gg := gwr; have gs := gg.size; go_grown) hw1
        clear hw1 gwr
        go_wp2_with fail
        refine bodyPost_ret (v := .tuple #[.agg #[.int .i64 0, .int .i64 0, .int .i64 0, .int .i64 0], .int .i64 z]) (by simp [results, Tryd.results61, go_sem, *]) rfl ⟨by rw [HR.out], by have gg := gw1; have gs := gg.size; go_grown⟩
    · obtain rfl : i = n := by omega
      have hR := HR2.out hall
      have HR := Lib.hid hR
      clear hR hall k0 k1 k2 k3
      have ti : decide ((i : Int) < (i : Int)) = false := decide_eq_false (by omega)
      go_wp2_with fail
      refine bodyPost_ret (v := .tuple #[.agg #[.int .i64 (accMin A i), .int .i64 (accMin B i), .int .i64 (accMax C i), .int .i64 (accMax D i)], .int .i64 0]) (by simp [results, Tryd.results61, go_sem, *]) rfl ⟨by rw [HR.out], by have gg := gwr; have gs := gg.size; go_grown⟩
end Go.Proofs.YtkodmfkchbbmiaaDoor
namespace Go.Proofs.YtkodmfkchbbmiaaDoor
set_option linter.unusedVariables false
open Go.ChangeShapes Go.WideShapes Go.ChangeAt Go.RowKit

set_option maxHeartbeats 1000000 in
set_option maxRecDepth 100000 in
theorem c_rCross (ax ay bx by' cx cy : Int) (W : World) :
    Calls Tryd.prog 114 #[.agg #[.int .i64 ax, .int .i64 ay], .agg #[.int .i64 bx, .int .i64 by'], .agg #[.int .i64 cx, .int .i64 cy]] W fun e w' => e = .returned (.int .i64 (crossZ ax ay bx by' cx cy)) ∧ Gr W w' := by
  obtain ⟨q1, e1⟩ : ∃ q, q = nearB ax ay := ⟨_, rfl⟩
  obtain ⟨q2, e2⟩ : ∃ q, q = nearB bx by' := ⟨_, rfl⟩
  obtain ⟨q3, e3⟩ : ∃ q, q = nearB cx cy := ⟨_, rfl⟩
  have A1 := c_rPoint ax ay
  have A2 := c_rPoint bx by'
  have A3 := c_rPoint cx cy
  rw [← e1] at A1
  rw [← e2] at A2
  rw [← e3] at A3
  have H1 := Lib.hid A1
  have H2 := Lib.hid A2
  have H3 := Lib.hid A3
  clear A1 A2 A3
  unfold crossZ
  rw [← e1, ← e2, ← e3]
  have hc : q1 = false ∨ (q1 = true ∧ q2 = false) ∨ (q1 = true ∧ q2 = true ∧ q3 = false) ∨ (q1 = true ∧ q2 = true ∧ q3 = true) := by cases q1 <;> cases q2 <;> cases q3 <;> simp
  rcases hc with rfl | ⟨rfl, rfl⟩ | ⟨rfl, rfl, rfl⟩ | ⟨rfl, rfl, rfl⟩
  · clear e1 e2 e3
    go_enter Tryd.func114, Tryd.ntmps114
    go_wp2_with fail
    go_at_call 58
    refine ((H1.out _)).mono ?_
    rintro e w1 ⟨rfl, hw1⟩
    have cw1_0_0 : w1.cell? ⟨W.heap.size, 0, none⟩ = some (.int .i64 ax) := cell_gr hw1 (by go_simp)
    have cw1_0_1 : w1.cell? ⟨W.heap.size, 1, none⟩ = some (.int .i64 ay) := cell_gr hw1 (by go_simp)
    have zw1_0 : W.heap.size < w1.heap.size := World.block_lt_of_cell? _ _ cw1_0_0
    have cw1_1_0 : w1.cell? ⟨W.heap.size + 1, 0, none⟩ = some (.int .i64 bx) := cell_gr hw1 (by go_simp)
    have cw1_1_1 : w1.cell? ⟨W.heap.size + 1, 1, none⟩ = some (.int .i64 by') := cell_gr hw1 (by go_simp)
    have zw1_1 : W.heap.size + 1 < w1.heap.size := World.block_lt_of_cell? _ _ cw1_1_0
    have cw1_2_0 : w1.cell? ⟨W.heap.size + 1 + 1, 0, none⟩ = some (.int .i64 cx) := cell_gr hw1 (by go_simp)
    have cw1_2_1 : w1.cell? ⟨W.heap.size + 1 + 1, 1, none⟩ = some (.int .i64 cy) := cell_gr hw1 (by go_simp)
    have zw1_2 : W.heap.size + 1 + 1 < w1.heap.size := World.block_lt_of_cell? _ _ cw1_2_0
    have gw1 : Gr W w1 := Gr.trans (by go_grown) hw1
    clear hw1
    go_wp2_with fail
    go_ret
    exact ⟨rfl, by go_grown⟩
  · clear e1 e2 e3
    go_enter Tryd.func114, Tryd.ntmps114
    go_wp2_with fail
    go_at_call 58
    refine ((H1.out _)).mono ?_
    rintro e w1 ⟨rfl, hw1⟩
    have cw1_0_0 : w1.cell? ⟨W.heap.size, 0, none⟩ = some (.int .i64 ax) := cell_gr hw1 (by go_simp)
    have cw1_0_1 : w1.cell? ⟨W.heap.size, 1, none⟩ = some (.int .i64 ay) := cell_gr hw1 (by go_simp)
    have zw1_0 : W.heap.size < w1.heap.size := World.block_lt_of_cell? _ _ cw1_0_0
    have cw1_1_0 : w1.cell? ⟨W.heap.size + 1, 0, none⟩ = some (.int .i64 bx) := cell_gr hw1 (by go_simp)
    have cw1_1_1 : w1.cell? ⟨W.heap.size + 1, 1, none⟩ = some (.int .i64 by') := cell_gr hw1 (by go_simp)
    have zw1_1 : W.heap.size + 1 < w1.heap.size := World.block_lt_of_cell? _ _ cw1_1_0
    have cw1_2_0 : w1.cell? ⟨W.heap.size + 1 + 1, 0, none⟩ = some (.int .i64 cx) := cell_gr hw1 (by go_simp)
    have cw1_2_1 : w1.cell? ⟨W.heap.size + 1 + 1, 1, none⟩ = some (.int .i64 cy) := cell_gr hw1 (by go_simp)
    have zw1_2 : W.heap.size + 1 + 1 < w1.heap.size := World.block_lt_of_cell? _ _ cw1_2_0
    have gw1 : Gr W w1 := Gr.trans (by go_grown) hw1
    clear hw1
    go_wp2_with fail
    go_at_call 58
    refine ((H2.out _)).mono ?_
    rintro e w2 ⟨rfl, hw2⟩
    have cw2_0_0 : w2.cell? ⟨W.heap.size, 0, none⟩ = some (.int .i64 ax) := cell_gr hw2 (by go_simp)
    have cw2_0_1 : w2.cell? ⟨W.heap.size, 1, none⟩ = some (.int .i64 ay) := cell_gr hw2 (by go_simp)
    have zw2_0 : W.heap.size < w2.heap.size := World.block_lt_of_cell? _ _ cw2_0_0
    have cw2_1_0 : w2.cell? ⟨W.heap.size + 1, 0, none⟩ = some (.int .i64 bx) := cell_gr hw2 (by go_simp)
    have cw2_1_1 : w2.cell? ⟨W.heap.size + 1, 1, none⟩ = some (.int .i64 by') := cell_gr hw2 (by go_simp)
    have zw2_1 : W.heap.size + 1 < w2.heap.size := World.block_lt_of_cell? _ _ cw2_1_0
    have cw2_2_0 : w2.cell? ⟨W.heap.size + 1 + 1, 0, none⟩ = some (.int .i64 cx) := cell_gr hw2 (by go_simp)
    have cw2_2_1 : w2.cell? ⟨W.heap.size + 1 + 1, 1, none⟩ = some (.int .i64 cy) := cell_gr hw2 (by go_simp)
    have zw2_2 : W.heap.size + 1 + 1 < w2.heap.size := World.block_lt_of_cell? _ _ cw2_2_0
    have gw2 : Gr W w2 := Gr.trans (by have gg := gw1; have gs := gg.size; go_grown) hw2
    clear hw2 gw1 zw1_0 cw1_0_0 cw1_0_1 zw1_1 cw1_1_0 cw1_1_1 zw1_2 cw1_2_0 cw1_2_1
    go_wp2_with fail
    go_ret
    exact ⟨rfl, by go_grown⟩
  · clear e1 e2 e3
    go_enter Tryd.func114, Tryd.ntmps114
    go_wp2_with fail
    go_at_call 58
    refine ((H1.out _)).mono ?_
    rintro e w1 ⟨rfl, hw1⟩
    have cw1_0_0 : w1.cell? ⟨W.heap.size, 0, none⟩ = some (.int .i64 ax) := cell_gr hw1 (by go_simp)
    have cw1_0_1 : w1.cell? ⟨W.heap.size, 1, none⟩ = some (.int .i64 ay) := cell_gr hw1 (by go_simp)
    have zw1_0 : W.heap.size < w1.heap.size := World.block_lt_of_cell? _ _ cw1_0_0
    have cw1_1_0 : w1.cell? ⟨W.heap.size + 1, 0, none⟩ = some (.int .i64 bx) := cell_gr hw1 (by go_simp)
    have cw1_1_1 : w1.cell? ⟨W.heap.size + 1, 1, none⟩ = some (.int .i64 by') := cell_gr hw1 (by go_simp)
    have zw1_1 : W.heap.size + 1 < w1.heap.size := World.block_lt_of_cell? _ _ cw1_1_0
    have cw1_2_0 : w1.cell? ⟨W.heap.size + 1 + 1, 0, none⟩ = some (.int .i64 cx) := cell_gr hw1 (by go_simp)
    have cw1_2_1 : w1.cell? ⟨W.heap.size + 1 + 1, 1, none⟩ = some (.int .i64 cy) := cell_gr hw1 (by go_simp)
    have zw1_2 : W.heap.size + 1 + 1 < w1.heap.size := World.block_lt_of_cell? _ _ cw1_2_0
    have gw1 : Gr W w1 := Gr.trans (by go_grown) hw1
    clear hw1
    go_wp2_with fail
    go_at_call 58
    refine ((H2.out _)).mono ?_
    rintro e w2 ⟨rfl, hw2⟩
    have cw2_0_0 : w2.cell? ⟨W.heap.size, 0, none⟩ = some (.int .i64 ax) := cell_gr hw2 (by go_simp)
    have cw2_0_1 : w2.cell? ⟨W.heap.size, 1, none⟩ = some (.int .i64 ay) := cell_gr hw2 (by go_simp)
    have zw2_0 : W.heap.size < w2.heap.size := World.block_lt_of_cell? _ _ cw2_0_0
    have cw2_1_0 : w2.cell? ⟨W.heap.size + 1, 0, none⟩ = some (.int .i64 bx) := cell_gr hw2 (by go_simp)
    have cw2_1_1 : w2.cell? ⟨W.heap.size + 1, 1, none⟩ = some (.int .i64 by') := cell_gr hw2 (by go_simp)
    have zw2_1 : W.heap.size + 1 < w2.heap.size := World.block_lt_of_cell? _ _ cw2_1_0
    have cw2_2_0 : w2.cell? ⟨W.heap.size + 1 + 1, 0, none⟩ = some (.int .i64 cx) := cell_gr hw2 (by go_simp)
    have cw2_2_1 : w2.cell? ⟨W.heap.size + 1 + 1, 1, none⟩ = some (.int .i64 cy) := cell_gr hw2 (by go_simp)
    have zw2_2 : W.heap.size + 1 + 1 < w2.heap.size := World.block_lt_of_cell? _ _ cw2_2_0
    have gw2 : Gr W w2 := Gr.trans (by have gg := gw1; have gs := gg.size; go_grown) hw2
    clear hw2 gw1 zw1_0 cw1_0_0 cw1_0_1 zw1_1 cw1_1_0 cw1_1_1 zw1_2 cw1_2_0 cw1_2_1
    go_wp2_with fail
    go_at_call 58
    refine ((H3.out _)).mono ?_
    rintro e w3 ⟨rfl, hw3⟩
    have cw3_0_0 : w3.cell? ⟨W.heap.size, 0, none⟩ = some (.int .i64 ax) := cell_gr hw3 (by go_simp)
    have cw3_0_1 : w3.cell? ⟨W.heap.size, 1, none⟩ = some (.int .i64 ay) := cell_gr hw3 (by go_simp)
    have zw3_0 : W.heap.size < w3.heap.size := World.block_lt_of_cell? _ _ cw3_0_0
    have cw3_1_0 : w3.cell? ⟨W.heap.size + 1, 0, none⟩ = some (.int .i64 bx) := cell_gr hw3 (by go_simp)
    have cw3_1_1 : w3.cell? ⟨W.heap.size + 1, 1, none⟩ = some (.int .i64 by') := cell_gr hw3 (by go_simp)
    have zw3_1 : W.heap.size + 1 < w3.heap.size := World.block_lt_of_cell? _ _ cw3_1_0
    have cw3_2_0 : w3.cell? ⟨W.heap.size + 1 + 1, 0, none⟩ = some (.int .i64 cx) := cell_gr hw3 (by go_simp)
    have cw3_2_1 : w3.cell? ⟨W.heap.size + 1 + 1, 1, none⟩ = some (.int .i64 cy) := cell_gr hw3 (by go_simp)
    have zw3_2 : W.heap.size + 1 + 1 < w3.heap.size := World.block_lt_of_cell? _ _ cw3_2_0
    have gw3 : Gr W w3 := Gr.trans (by have gg := gw2; have gs := gg.size; go_grown) hw3
    clear hw3 gw2 zw2_0 cw2_0_0 cw2_0_1 zw2_1 cw2_1_0 cw2_1_1 zw2_2 cw2_2_0 cw2_2_1
    go_wp2_with fail
    go_ret
    exact ⟨rfl, by go_grown⟩
  · have n1 := nearB_iff.1 e1.symm
    have n2 := nearB_iff.1 e2.symm
    have n3 := nearB_iff.1 e3.symm
    have m1 := mul_near (x := bx - ax) (y := cy - ay) (by omega) (by omega)
    have m2 := mul_near (x := by' - ay) (y := cx - ax) (by omega) (by omega)
    obtain ⟨p1, hp1⟩ : ∃ p, p = (bx - ax) * (cy - ay) := ⟨_, rfl⟩
    obtain ⟨p2, hp2⟩ : ∃ p, p = (by' - ay) * (cx - ax) := ⟨_, rfl⟩
    rw [← hp1] at m1
    rw [← hp2] at m2
    have w1' : wrap64 (bx - ax) = bx - ax := IntWalk.wrap64_in _ (by omega)
    have w2' : wrap64 (cy - ay) = cy - ay := IntWalk.wrap64_in _ (by omega)
    have w3' : wrap64 (by' - ay) = by' - ay := IntWalk.wrap64_in _ (by omega)
    have w4' : wrap64 (cx - ax) = cx - ax := IntWalk.wrap64_in _ (by omega)
    have w5' : wrap64 ((bx - ax) * (cy - ay)) = p1 := by rw [← hp1]; exact IntWalk.wrap64_in _ (by omega)
    have w6' : wrap64 ((by' - ay) * (cx - ax)) = p2 := by rw [← hp2]; exact IntWalk.wrap64_in _ (by omega)
    have w7' : wrap64 (p1 - p2) = p1 - p2 := IntWalk.wrap64_in _ (by omega)
    have f1 : IntKind.i64.wrap (bx - ax) = bx - ax := IntWalk.i64_in _ (by omega)
    have f2 : IntKind.i64.wrap (cy - ay) = cy - ay := IntWalk.i64_in _ (by omega)
    have f3 : IntKind.i64.wrap (by' - ay) = by' - ay := IntWalk.i64_in _ (by omega)
    have f4 : IntKind.i64.wrap (cx - ax) = cx - ax := IntWalk.i64_in _ (by omega)
    have f5 : IntKind.i64.wrap ((bx - ax) * (cy - ay)) = p1 := by rw [← hp1]; exact IntWalk.i64_in _ (by omega)
    have f6 : IntKind.i64.wrap ((by' - ay) * (cx - ax)) = p2 := by rw [← hp2]; exact IntWalk.i64_in _ (by omega)
    have f7 : IntKind.i64.wrap (p1 - p2) = p1 - p2 := IntWalk.i64_in _ (by omega)
    rw [← hp1, ← hp2]
    clear n1 n2 n3 m1 m2 hp1 hp2 e1 e2 e3
    go_enter Tryd.func114, Tryd.ntmps114
    go_wp2_with fail
    go_at_call 58
    refine ((H1.out _)).mono ?_
    rintro e w1 ⟨rfl, hw1⟩
    have cw1_0_0 : w1.cell? ⟨W.heap.size, 0, none⟩ = some (.int .i64 ax) := cell_gr hw1 (by go_simp)
    have cw1_0_1 : w1.cell? ⟨W.heap.size, 1, none⟩ = some (.int .i64 ay) := cell_gr hw1 (by go_simp)
    have zw1_0 : W.heap.size < w1.heap.size := World.block_lt_of_cell? _ _ cw1_0_0
    have cw1_1_0 : w1.cell? ⟨W.heap.size + 1, 0, none⟩ = some (.int .i64 bx) := cell_gr hw1 (by go_simp)
    have cw1_1_1 : w1.cell? ⟨W.heap.size + 1, 1, none⟩ = some (.int .i64 by') := cell_gr hw1 (by go_simp)
    have zw1_1 : W.heap.size + 1 < w1.heap.size := World.block_lt_of_cell? _ _ cw1_1_0
    have cw1_2_0 : w1.cell? ⟨W.heap.size + 1 + 1, 0, none⟩ = some (.int .i64 cx) := cell_gr hw1 (by go_simp)
    have cw1_2_1 : w1.cell? ⟨W.heap.size + 1 + 1, 1, none⟩ = some (.int .i64 cy) := cell_gr hw1 (by go_simp)
    have zw1_2 : W.heap.size + 1 + 1 < w1.heap.size := World.block_lt_of_cell? _ _ cw1_2_0
    have gw1 : Gr W w1 := Gr.trans (by go_grown) hw1
    clear hw1
    go_wp2_with fail
    go_at_call 58
    refine ((H2.out _)).mono ?_
    rintro e w2 ⟨rfl, hw2⟩
    have cw2_0_0 : w2.cell? ⟨W.heap.size, 0, none⟩ = some (.int .i64 ax) := cell_gr hw2 (by go_simp)
    have cw2_0_1 : w2.cell? ⟨W.heap.size, 1, none⟩ = some (.int .i64 ay) := cell_gr hw2 (by go_simp)
    have zw2_0 : W.heap.size < w2.heap.size := World.block_lt_of_cell? _ _ cw2_0_0
    have cw2_1_0 : w2.cell? ⟨W.heap.size + 1, 0, none⟩ = some (.int .i64 bx) := cell_gr hw2 (by go_simp)
    have cw2_1_1 : w2.cell? ⟨W.heap.size + 1, 1, none⟩ = some (.int .i64 by') := cell_gr hw2 (by go_simp)
    have zw2_1 : W.heap.size + 1 < w2.heap.size := World.block_lt_of_cell? _ _ cw2_1_0
    have cw2_2_0 : w2.cell? ⟨W.heap.size + 1 + 1, 0, none⟩ = some (.int .i64 cx) := cell_gr hw2 (by go_simp)
    have cw2_2_1 : w2.cell? ⟨W.heap.size + 1 + 1, 1, none⟩ = some (.int .i64 cy) := cell_gr hw2 (by go_simp)
    have zw2_2 : W.heap.size + 1 + 1 < w2.heap.size := World.block_lt_of_cell? _ _ cw2_2_0
    have gw2 : Gr W w2 := Gr.trans (by have gg := gw1; have gs := gg.size; go_grown) hw2
    clear hw2 gw1 zw1_0 cw1_0_0 cw1_0_1 zw1_1 cw1_1_0 cw1_1_1 zw1_2 cw1_2_0 cw1_2_1
    go_wp2_with fail
    go_at_call 58
    refine ((H3.out _)).mono ?_
    rintro e w3 ⟨rfl, hw3⟩
    have cw3_0_0 : w3.cell? ⟨W.heap.size, 0, none⟩ = some (.int .i64 ax) := cell_gr hw3 (by go_simp)
    have cw3_0_1 : w3.cell? ⟨W.heap.size, 1, none⟩ = some (.int .i64 ay) := cell_gr hw3 (by go_simp)
    have zw3_0 : W.heap.size < w3.heap.size := World.block_lt_of_cell? _ _ cw3_0_0
    have cw3_1_0 : w3.cell? ⟨W.heap.size + 1, 0, none⟩ = some (.int .i64 bx) := cell_gr hw3 (by go_simp)
    have cw3_1_1 : w3.cell? ⟨W.heap.size + 1, 1, none⟩ = some (.int .i64 by') := cell_gr hw3 (by go_simp)
    have zw3_1 : W.heap.size + 1 < w3.heap.size := World.block_lt_of_cell? _ _ cw3_1_0
    have cw3_2_0 : w3.cell? ⟨W.heap.size + 1 + 1, 0, none⟩ = some (.int .i64 cx) := cell_gr hw3 (by go_simp)
    have cw3_2_1 : w3.cell? ⟨W.heap.size + 1 + 1, 1, none⟩ = some (.int .i64 cy) := cell_gr hw3 (by go_simp)
    have zw3_2 : W.heap.size + 1 + 1 < w3.heap.size := World.block_lt_of_cell? _ _ cw3_2_0
    have gw3 : Gr W w3 := Gr.trans (by have gg := gw2; have gs := gg.size; go_grown) hw3
    clear hw3 gw2 zw2_0 cw2_0_0 cw2_0_1 zw2_1 cw2_1_0 cw2_1_1 zw2_2 cw2_2_0 cw2_2_1
    go_wp2_with fail
    go_ret
    exact ⟨rfl, by go_grown⟩
set_option maxRecDepth 100000 in
theorem c_rOrient (ax ay bx by' cx cy : Int) (W : World) :
    Calls Tryd.prog 144 #[.agg #[.int .i64 ax, .int .i64 ay], .agg #[.int .i64 bx, .int .i64 by'], .agg #[.int .i64 cx, .int .i64 cy]] W fun e w' => e = .returned (.int .i64 (cmpZ (crossZ ax ay bx by' cx cy) 0)) ∧ Gr W w' := by
  have A := c_rCross ax ay bx by' cx cy
  generalize crossZ ax ay bx by' cx cy = x at *
  have H1 := Lib.hid A
  clear A
  rcases Int.lt_trichotomy x 0 with h | h | h
  · rw [cmpZ_lt h]
    have h2 : ¬ 0 < x := by omega
    go_enter Tryd.func144, Tryd.ntmps144
    go_wp2_with fail
    go_at_call 114
    refine ((H1.out _)).mono ?_
    rintro e w1 ⟨rfl, hw1⟩
    have cw1_0_0 : w1.cell? ⟨W.heap.size, 0, none⟩ = some (.int .i64 ax) := cell_gr hw1 (by go_simp)
    have cw1_0_1 : w1.cell? ⟨W.heap.size, 1, none⟩ = some (.int .i64 ay) := cell_gr hw1 (by go_simp)
    have zw1_0 : W.heap.size < w1.heap.size := World.block_lt_of_cell? _ _ cw1_0_0
    have cw1_1_0 : w1.cell? ⟨W.heap.size + 1, 0, none⟩ = some (.int .i64 bx) := cell_gr hw1 (by go_simp)
    have cw1_1_1 : w1.cell? ⟨W.heap.size + 1, 1, none⟩ = some (.int .i64 by') := cell_gr hw1 (by go_simp)
    have zw1_1 : W.heap.size + 1 < w1.heap.size := World.block_lt_of_cell? _ _ cw1_1_0
    have cw1_2_0 : w1.cell? ⟨W.heap.size + 1 + 1, 0, none⟩ = some (.int .i64 cx) := cell_gr hw1 (by go_simp)
    have cw1_2_1 : w1.cell? ⟨W.heap.size + 1 + 1, 1, none⟩ = some (.int .i64 cy) := cell_gr hw1 (by go_simp)
    have zw1_2 : W.heap.size + 1 + 1 < w1.heap.size := World.block_lt_of_cell? _ _ cw1_2_0
    have gw1 : Gr W w1 := Gr.trans (by go_grown) hw1
    clear hw1
    go_wp2_with fail
    go_ret
    exact ⟨rfl, by go_grown⟩
  · subst h
    rw [cmpZ_eq]
    go_enter Tryd.func144, Tryd.ntmps144
    go_wp2_with fail
    go_at_call 114
    refine ((H1.out _)).mono ?_
    rintro e w1 ⟨rfl, hw1⟩
    have cw1_0_0 : w1.cell? ⟨W.heap.size, 0, none⟩ = some (.int .i64 ax) := cell_gr hw1 (by go_simp)
    have cw1_0_1 : w1.cell? ⟨W.heap.size, 1, none⟩ = some (.int .i64 ay) := cell_gr hw1 (by go_simp)
    have zw1_0 : W.heap.size < w1.heap.size := World.block_lt_of_cell? _ _ cw1_0_0
    have cw1_1_0 : w1.cell? ⟨W.heap.size + 1, 0, none⟩ = some (.int .i64 bx) := cell_gr hw1 (by go_simp)
    have cw1_1_1 : w1.cell? ⟨W.heap.size + 1, 1, none⟩ = some (.int .i64 by') := cell_gr hw1 (by go_simp)
    have zw1_1 : W.heap.size + 1 < w1.heap.size := World.block_lt_of_cell? _ _ cw1_1_0
    have cw1_2_0 : w1.cell? ⟨W.heap.size + 1 + 1, 0, none⟩ = some (.int .i64 cx) := cell_gr hw1 (by go_simp)
    have cw1_2_1 : w1.cell? ⟨W.heap.size + 1 + 1, 1, none⟩ = some (.int .i64 cy) := cell_gr hw1 (by go_simp)
    have zw1_2 : W.heap.size + 1 + 1 < w1.heap.size := World.block_lt_of_cell? _ _ cw1_2_0
    have gw1 : Gr W w1 := Gr.trans (by go_grown) hw1
    clear hw1
    go_wp2_with fail
    go_ret
    exact ⟨rfl, by go_grown⟩
  · rw [cmpZ_gt h]
    go_enter Tryd.func144, Tryd.ntmps144
    go_wp2_with fail
    go_at_call 114
    refine ((H1.out _)).mono ?_
    rintro e w1 ⟨rfl, hw1⟩
    have cw1_0_0 : w1.cell? ⟨W.heap.size, 0, none⟩ = some (.int .i64 ax) := cell_gr hw1 (by go_simp)
    have cw1_0_1 : w1.cell? ⟨W.heap.size, 1, none⟩ = some (.int .i64 ay) := cell_gr hw1 (by go_simp)
    have zw1_0 : W.heap.size < w1.heap.size := World.block_lt_of_cell? _ _ cw1_0_0
    have cw1_1_0 : w1.cell? ⟨W.heap.size + 1, 0, none⟩ = some (.int .i64 bx) := cell_gr hw1 (by go_simp)
    have cw1_1_1 : w1.cell? ⟨W.heap.size + 1, 1, none⟩ = some (.int .i64 by') := cell_gr hw1 (by go_simp)
    have zw1_1 : W.heap.size + 1 < w1.heap.size := World.block_lt_of_cell? _ _ cw1_1_0
    have cw1_2_0 : w1.cell? ⟨W.heap.size + 1 + 1, 0, none⟩ = some (.int .i64 cx) := cell_gr hw1 (by go_simp)
    have cw1_2_1 : w1.cell? ⟨W.heap.size + 1 + 1, 1, none⟩ = some (.int .i64 cy) := cell_gr hw1 (by go_simp)
    have zw1_2 : W.heap.size + 1 + 1 < w1.heap.size := World.block_lt_of_cell? _ _ cw1_2_0
    have gw1 : Gr W w1 := Gr.trans (by go_grown) hw1
    clear hw1
    go_wp2_with fail
    go_ret
    exact ⟨rfl, by go_grown⟩
end Go.Proofs.YtkodmfkchbbmiaaDoor
namespace Go.Proofs.YtkodmfkchbbmiaaDoor
set_option linter.unusedVariables false
open Go.ChangeShapes Go.WideShapes Go.ChangeAt Go.RowKit

theorem nat_sq (x : Int) : ((x.natAbs * x.natAbs : Nat) : Int) = x * x := by
  rw [Int.natCast_mul]
  rcases Int.le_total 0 x with h | h
  · rw [Int.natAbs_of_nonneg h]
  · rw [Int.ofNat_natAbs_of_nonpos h, Int.neg_mul_neg]
end Go.Proofs.YtkodmfkchbbmiaaDoor
