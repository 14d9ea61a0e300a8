/- plane: Union of any boxes; the document's; the numbers of errors -/
import Derived.Test.YthjhhnolkiejpaaPm
import Derived.Test.YthjhhnolkiejpaaRi
import Derived.Test.YthjhhnolkiejpaaJ
import Derived.Test.YthjhhnolkiejpaaSb
namespace Go.Proofs.Ythjhhnolkiejpaa
set_option linter.unusedVariables false
open Go.ChangeShapes Go.WideShapes Go.ChangeAt Go.RowKit

/-- The least number of the first k, the first one's own too; the greatest. -/
def accMin (A : Nat → Int) : Nat → Int
  | 0 => A 0
  | k + 1 => minZ (accMin A k) (A k)
def accMax (A : Nat → Int) : Nat → Int
  | 0 => A 0
  | k + 1 => maxZ (accMax A k) (A k)
theorem boxErr_code {lx ly hx hy : Int} (h : boxB lx ly hx hy = false) : ∃ z : Int, (z = 1 ∨ z = 2) ∧ boxErr lx ly hx hy = .iface 56 (.int .i64 z) ∧ boxCode lx ly hx hy = z := by
  unfold boxB at h
  unfold boxErr boxCode
  by_cases h1 : (nearB lx ly && nearB hx hy) = true
  · rw [if_pos h1, if_pos h1]
    by_cases h2 : (decide (lx ≤ hx) && decide (ly ≤ hy)) = true
    · rw [h1, Bool.true_and, h2] at h
      cases h
    · rw [if_neg h2, if_neg h2]
      exact ⟨1, Or.inl rfl, rfl, rfl⟩
  · rw [if_neg h1, if_neg h1]
    exact ⟨2, Or.inr rfl, rfl, rfl⟩

set_option maxHeartbeats 2000000 in
set_option maxRecDepth 100000 in
theorem c_UnionN (n cap : Nat) (A B C D : Nat → Int) (b off : Nat) (w : World) (hn : 1 ≤ n) (hn2 : n ≤ 200) (R : Value)
    (hc : ∀ k, k < n → w.cell? ⟨b, off + k * 4, none⟩ = some (.int .i64 (A k)) ∧ w.cell? ⟨b, off + k * 4 + 1, none⟩ = some (.int .i64 (B k)) ∧ w.cell? ⟨b, off + k * 4 + 2, none⟩ = some (.int .i64 (C k)) ∧ w.cell? ⟨b, off + k * 4 + 3, none⟩ = some (.int .i64 (D k)))
    (r1 : ∀ j, j < n → allBox A B C D j = true → boxB (A j) (B j) (C j) (D j) = false → R = .tuple #[.agg #[.int .i64 0, .int .i64 0, .int .i64 0, .int .i64 0], boxErr (A j) (B j) (C j) (D j)])
    (r2 : allBox A B C D n = true → R = .tuple #[.agg #[.int .i64 (accMin A n), .int .i64 (accMin B n), .int .i64 (accMax C n), .int .i64 (accMax D n)], .nilIface]) :
    Calls Try.prog 16 #[.slice (some ⟨b, off, none⟩) n cap] w fun e w' => e = .returned R ∧ Gr w w' := by
  have t1 : ((n : Int) == 0) = false := by simp; omega
  have t2 : ((n : Int) != 0) = true := by simp; omega
  have t3 : (0 : Int) < (n : Int) := by omega
  have t4 : 0 < n := by omega
  have k0 : w.cell? ⟨b, off, none⟩ = some (.int .i64 (A 0)) := by simpa using (hc 0 (by omega)).1
  have k1 : w.cell? ⟨b, off + 1, none⟩ = some (.int .i64 (B 0)) := by simpa using (hc 0 (by omega)).2.1
  have k2 : w.cell? ⟨b, off + 2, none⟩ = some (.int .i64 (C 0)) := by simpa using (hc 0 (by omega)).2.2.1
  have k3 : w.cell? ⟨b, off + 3, none⟩ = some (.int .i64 (D 0)) := by simpa using (hc 0 (by omega)).2.2.2
  have hblt := World.block_lt_of_cell? _ _ k0
  have HC := Lib.hid hc
  have HR1 := Lib.hid r1
  have HR2 := Lib.hid r2
  clear hc r1 r2
  go_enter Try.func16, Try.ntmps16
  go_wp2_with fail
  go_loopg [18] n (fun k v wr => ∃ i : Nat, i + k = n ∧ v = .int .i64 i ∧ allBox A B C D i = true ∧ wr.cell? ⟨w.heap.size, 0, none⟩ = some (.int .i64 0) ∧ wr.cell? ⟨w.heap.size, 1, none⟩ = some (.int .i64 0) ∧ wr.cell? ⟨w.heap.size, 2, none⟩ = some (.int .i64 0) ∧ wr.cell? ⟨w.heap.size, 3, none⟩ = some (.int .i64 0) ∧ wr.frozen? ⟨w.heap.size, 0, none⟩ = false ∧ wr.frozen? ⟨w.heap.size, 1, none⟩ = false ∧ wr.frozen? ⟨w.heap.size, 2, none⟩ = false ∧ wr.frozen? ⟨w.heap.size, 3, none⟩ = false ∧ wr.cell? ⟨w.heap.size + 1, 0, none⟩ = some (.int .i64 (accMin A i)) ∧ wr.cell? ⟨w.heap.size + 1, 1, none⟩ = some (.int .i64 (accMin B i)) ∧ wr.cell? ⟨w.heap.size + 1, 2, none⟩ = some (.int .i64 (accMax C i)) ∧ wr.cell? ⟨w.heap.size + 1, 3, none⟩ = some (.int .i64 (accMax D i)) ∧ wr.frozen? ⟨w.heap.size + 1, 0, none⟩ = false ∧ wr.frozen? ⟨w.heap.size + 1, 1, none⟩ = false ∧ wr.frozen? ⟨w.heap.size + 1, 2, none⟩ = false ∧ wr.frozen? ⟨w.heap.size + 1, 3, none⟩ = false ∧ Gr w wr)
  case atStart => exact ⟨0, by omega, rfl, rfl, by go_simp, by go_simp, by go_simp, by go_simp, by go_simp, by go_simp, by go_simp, by go_simp, by unfold accMin; go_simp, by unfold accMin; go_simp, by unfold accMax; go_simp, by unfold accMax; go_simp, by go_simp, by go_simp, by go_simp, by go_simp, by go_grown⟩
  case round =>
    obtain ⟨i, hk, rfl, hall, c0, c1, c2, c3, f0, f1, f2, f3, a0, a1, a2, a3, g0, g1, g2, g3, gwr⟩ := hrel
    have zwr0 := World.block_lt_of_cell? _ _ c0
    have zwr := World.block_lt_of_cell? _ _ a0
    by_cases hin : i < n
    · have ti : decide ((i : Int) < (n : Int)) = true := decide_eq_true (by omega)
      have ti2 : decide (i < n) = true := decide_eq_true hin
      have ti3 : (i : Int) < (n : Int) := by omega
      have s0 := cell_gr gwr (HC.out i hin).1
      have s1 := cell_gr gwr (HC.out i hin).2.1
      have s2 := cell_gr gwr (HC.out i hin).2.2.1
      have s3 := cell_gr gwr (HC.out i hin).2.2.2
      clear k0 k1 k2 k3
      by_cases hb : boxB (A i) (B i) (C i) (D i) = true
      · have e : allBox A B C D (i + 1) = true := by simp only [allBox, hall, hb]; rfl
        have HE := Lib.hid e
        have H1 := Lib.hid (c_CheckBox_ok hb)
        have H2 := Lib.hid (c_join (accMin A i) (accMin B i) (accMax C i) (accMax D i) (A i) (B i) (C i) (D i))
        obtain ⟨xa, ea⟩ : ∃ x, x = accMin A i := ⟨_, rfl⟩
        obtain ⟨xb, eb⟩ : ∃ x, x = accMin B i := ⟨_, rfl⟩
        obtain ⟨xc, ec⟩ : ∃ x, x = accMax C i := ⟨_, rfl⟩
        obtain ⟨xd, ed⟩ : ∃ x, x = accMax D i := ⟨_, rfl⟩
        obtain ⟨ya, ea'⟩ : ∃ x, x = minZ (accMin A i) (A i) := ⟨_, rfl⟩
        obtain ⟨yb, eb'⟩ : ∃ x, x = minZ (accMin B i) (B i) := ⟨_, rfl⟩
        obtain ⟨yc, ec'⟩ : ∃ x, x = maxZ (accMax C i) (C i) := ⟨_, rfl⟩
        obtain ⟨yd, ed'⟩ : ∃ x, x = maxZ (accMax D i) (D i) := ⟨_, rfl⟩
        rw [← ea', ← eb', ← ec', ← ed', ← ea, ← eb, ← ec, ← ed] at H2
        rw [← ea] at a0
        rw [← eb] at a1
        rw [← ec] at a2
        rw [← ed] at a3
        have HY := Lib.hid (And.intro ea' (And.intro eb' (And.intro ec' ed')))
        clear e hall hb ea eb ec ed ea' eb' ec' ed'
        go_wp2_with fail
        go_at_call 56
        refine ((H1.out _)).mono ?_
        rintro e w1 ⟨rfl, hw1⟩
        have cw1_0_0 : w1.cell? ⟨w.heap.size, 0, none⟩ = some (.int .i64 0) := cell_gr hw1 (by go_simp)
        have fw1_0_0 : w1.frozen? ⟨w.heap.size, 0, none⟩ = false := frozen_gr (v := .int .i64 0) hw1 (by go_simp) (by go_simp)
        have cw1_0_1 : w1.cell? ⟨w.heap.size, 1, none⟩ = some (.int .i64 0) := cell_gr hw1 (by go_simp)
        have fw1_0_1 : w1.frozen? ⟨w.heap.size, 1, none⟩ = false := frozen_gr (v := .int .i64 0) hw1 (by go_simp) (by go_simp)
        have cw1_0_2 : w1.cell? ⟨w.heap.size, 2, none⟩ = some (.int .i64 0) := cell_gr hw1 (by go_simp)
        have fw1_0_2 : w1.frozen? ⟨w.heap.size, 2, none⟩ = false := frozen_gr (v := .int .i64 0) hw1 (by go_simp) (by go_simp)
        have cw1_0_3 : w1.cell? ⟨w.heap.size, 3, none⟩ = some (.int .i64 0) := cell_gr hw1 (by go_simp)
        have fw1_0_3 : w1.frozen? ⟨w.heap.size, 3, none⟩ = false := frozen_gr (v := .int .i64 0) hw1 (by go_simp) (by go_simp)
        have zw1_0 : w.heap.size < w1.heap.size := World.block_lt_of_cell? _ _ cw1_0_0
        have cw1_1_0 : w1.cell? ⟨w.heap.size + 1, 0, none⟩ = some (.int .i64 xa) := cell_gr hw1 (by go_simp)
        have fw1_1_0 : w1.frozen? ⟨w.heap.size + 1, 0, none⟩ = false := frozen_gr (v := .int .i64 xa) hw1 (by go_simp) (by go_simp)
        have cw1_1_1 : w1.cell? ⟨w.heap.size + 1, 1, none⟩ = some (.int .i64 xb) := cell_gr hw1 (by go_simp)
        have fw1_1_1 : w1.frozen? ⟨w.heap.size + 1, 1, none⟩ = false := frozen_gr (v := .int .i64 xb) hw1 (by go_simp) (by go_simp)
        have cw1_1_2 : w1.cell? ⟨w.heap.size + 1, 2, none⟩ = some (.int .i64 xc) := cell_gr hw1 (by go_simp)
        have fw1_1_2 : w1.frozen? ⟨w.heap.size + 1, 2, none⟩ = false := frozen_gr (v := .int .i64 xc) hw1 (by go_simp) (by go_simp)
        have cw1_1_3 : w1.cell? ⟨w.heap.size + 1, 3, none⟩ = some (.int .i64 xd) := cell_gr hw1 (by go_simp)
        have fw1_1_3 : w1.frozen? ⟨w.heap.size + 1, 3, none⟩ = false := frozen_gr (v := .int .i64 xd) hw1 (by go_simp) (by go_simp)
        have zw1_1 : w.heap.size + 1 < w1.heap.size := World.block_lt_of_cell? _ _ cw1_1_0
        have cw1_2_0 : w1.cell? ⟨wr.heap.size, 0, none⟩ = some (.int .i64 (A i)) := cell_gr hw1 (by go_simp)
        have cw1_2_1 : w1.cell? ⟨wr.heap.size, 1, none⟩ = some (.int .i64 (B i)) := cell_gr hw1 (by go_simp)
        have cw1_2_2 : w1.cell? ⟨wr.heap.size, 2, none⟩ = some (.int .i64 (C i)) := cell_gr hw1 (by go_simp)
        have cw1_2_3 : w1.cell? ⟨wr.heap.size, 3, none⟩ = some (.int .i64 (D i)) := cell_gr hw1 (by go_simp)
        have zw1_2 : wr.heap.size < w1.heap.size := World.block_lt_of_cell? _ _ cw1_2_0
        have gw1 : Gr w w1 := Gr.trans (by have gg := gwr; have gs := gg.size; go_grown) hw1
        clear hw1 gwr
        go_wp2_with fail
        go_at_call 57
        refine ((H2.out _)).mono ?_
        rintro e w2 ⟨rfl, hw2⟩
        have cw2_0_0 : w2.cell? ⟨w.heap.size, 0, none⟩ = some (.int .i64 0) := cell_gr hw2 (by go_simp)
        have fw2_0_0 : w2.frozen? ⟨w.heap.size, 0, none⟩ = false := frozen_gr (v := .int .i64 0) hw2 (by go_simp) (by go_simp)
        have cw2_0_1 : w2.cell? ⟨w.heap.size, 1, none⟩ = some (.int .i64 0) := cell_gr hw2 (by go_simp)
        have fw2_0_1 : w2.frozen? ⟨w.heap.size, 1, none⟩ = false := frozen_gr (v := .int .i64 0) hw2 (by go_simp) (by go_simp)
        have cw2_0_2 : w2.cell? ⟨w.heap.size, 2, none⟩ = some (.int .i64 0) := cell_gr hw2 (by go_simp)
        have fw2_0_2 : w2.frozen? ⟨w.heap.size, 2, none⟩ = false := frozen_gr (v := .int .i64 0) hw2 (by go_simp) (by go_simp)
        have cw2_0_3 : w2.cell? ⟨w.heap.size, 3, none⟩ = some (.int .i64 0) := cell_gr hw2 (by go_simp)
        have fw2_0_3 : w2.frozen? ⟨w.heap.size, 3, none⟩ = false := frozen_gr (v := .int .i64 0) hw2 (by go_simp) (by go_simp)
        have zw2_0 : w.heap.size < w2.heap.size := World.block_lt_of_cell? _ _ cw2_0_0
        have cw2_1_0 : w2.cell? ⟨w.heap.size + 1, 0, none⟩ = some (.int .i64 xa) := cell_gr hw2 (by go_simp)
        have fw2_1_0 : w2.frozen? ⟨w.heap.size + 1, 0, none⟩ = false := frozen_gr (v := .int .i64 xa) hw2 (by go_simp) (by go_simp)
        have cw2_1_1 : w2.cell? ⟨w.heap.size + 1, 1, none⟩ = some (.int .i64 xb) := cell_gr hw2 (by go_simp)
        have fw2_1_1 : w2.frozen? ⟨w.heap.size + 1, 1, none⟩ = false := frozen_gr (v := .int .i64 xb) hw2 (by go_simp) (by go_simp)
        have cw2_1_2 : w2.cell? ⟨w.heap.size + 1, 2, none⟩ = some (.int .i64 xc) := cell_gr hw2 (by go_simp)
        have fw2_1_2 : w2.frozen? ⟨w.heap.size + 1, 2, none⟩ = false := frozen_gr (v := .int .i64 xc) hw2 (by go_simp) (by go_simp)
        have cw2_1_3 : w2.cell? ⟨w.heap.size + 1, 3, none⟩ = some (.int .i64 xd) := cell_gr hw2 (by go_simp)
        have fw2_1_3 : w2.frozen? ⟨w.heap.size + 1, 3, none⟩ = false := frozen_gr (v := .int .i64 xd) hw2 (by go_simp) (by go_simp)
        have zw2_1 : w.heap.size + 1 < w2.heap.size := World.block_lt_of_cell? _ _ cw2_1_0
        have cw2_2_0 : w2.cell? ⟨wr.heap.size, 0, none⟩ = some (.int .i64 (A i)) := cell_gr hw2 (by go_simp)
        have cw2_2_1 : w2.cell? ⟨wr.heap.size, 1, none⟩ = some (.int .i64 (B i)) := cell_gr hw2 (by go_simp)
        have cw2_2_2 : w2.cell? ⟨wr.heap.size, 2, none⟩ = some (.int .i64 (C i)) := cell_gr hw2 (by go_simp)
        have cw2_2_3 : w2.cell? ⟨wr.heap.size, 3, none⟩ = some (.int .i64 (D i)) := cell_gr hw2 (by go_simp)
        have zw2_2 : wr.heap.size < w2.heap.size := World.block_lt_of_cell? _ _ cw2_2_0
        have gw2 : Gr w w2 := Gr.trans (by have gg := gw1; have gs := gg.size; go_grown) hw2
        clear hw2 gw1 zw1_0 cw1_0_0 fw1_0_0 cw1_0_1 fw1_0_1 cw1_0_2 fw1_0_2 cw1_0_3 fw1_0_3 zw1_1 cw1_1_0 fw1_1_0 cw1_1_1 fw1_1_1 cw1_1_2 fw1_1_2 cw1_1_3 fw1_1_3 zw1_2 cw1_2_0 cw1_2_1 cw1_2_2 cw1_2_3
        go_wp2_with fail
        go_roundg (n - (i + 1))
        case measure => omega
        case rel => exact ⟨i + 1, by omega, by go_num, HE.out, by go_simp, by go_simp, by go_simp, by go_simp, by go_simp, by go_simp, by go_simp, by go_simp, by show _ = some (Value.int .i64 (minZ (accMin A i) (A i))); rw [← HY.out.1]; go_simp, by show _ = some (Value.int .i64 (minZ (accMin B i) (B i))); rw [← HY.out.2.1]; go_simp, by show _ = some (Value.int .i64 (maxZ (accMax C i) (C i))); rw [← HY.out.2.2.1]; go_simp, by show _ = some (Value.int .i64 (maxZ (accMax D i) (D i))); rw [← HY.out.2.2.2]; go_simp, by go_simp, by go_simp, by go_simp, by go_simp, by have gg := gw2; have gs := gg.size; go_grown⟩
      · have hb' : boxB (A i) (B i) (C i) (D i) = false := by simpa using hb
        have hR := HR1.out i hin hall hb'
        obtain ⟨z, hz, ez, -⟩ := boxErr_code hb'
        have H1 := c_CheckBox (A i) (B i) (C i) (D i)
        rw [ez] at H1 hR
        have HR := Lib.hid hR
        have HH := Lib.hid H1
        clear hR hb hb' H1 ez hall
        go_wp2_with fail
        go_at_call 56
        refine ((HH.out _)).mono ?_
        rintro e w1 ⟨rfl, hw1⟩
        have cw1_0_0 : w1.cell? ⟨w.heap.size, 0, none⟩ = some (.int .i64 0) := cell_gr hw1 (by go_simp)
        have fw1_0_0 : w1.frozen? ⟨w.heap.size, 0, none⟩ = false := frozen_gr (v := .int .i64 0) hw1 (by go_simp) (by go_simp)
        have cw1_0_1 : w1.cell? ⟨w.heap.size, 1, none⟩ = some (.int .i64 0) := cell_gr hw1 (by go_simp)
        have fw1_0_1 : w1.frozen? ⟨w.heap.size, 1, none⟩ = false := frozen_gr (v := .int .i64 0) hw1 (by go_simp) (by go_simp)
        have cw1_0_2 : w1.cell? ⟨w.heap.size, 2, none⟩ = some (.int .i64 0) := cell_gr hw1 (by go_simp)
        have fw1_0_2 : w1.frozen? ⟨w.heap.size, 2, none⟩ = false := frozen_gr (v := .int .i64 0) hw1 (by go_simp) (by go_simp)
        have cw1_0_3 : w1.cell? ⟨w.heap.size, 3, none⟩ = some (.int .i64 0) := cell_gr hw1 (by go_simp)
        have fw1_0_3 : w1.frozen? ⟨w.heap.size, 3, none⟩ = false := frozen_gr (v := .int .i64 0) hw1 (by go_simp) (by go_simp)
        have zw1_0 : w.heap.size < w1.heap.size := World.block_lt_of_cell? _ _ cw1_0_0
        have cw1_1_0 : w1.cell? ⟨wr.heap.size, 0, none⟩ = some (.int .i64 (A i)) := cell_gr hw1 (by go_simp)
        have cw1_1_1 : w1.cell? ⟨wr.heap.size, 1, none⟩ = some (.int .i64 (B i)) := cell_gr hw1 (by go_simp)
        have cw1_1_2 : w1.cell? ⟨wr.heap.size, 2, none⟩ = some (.int .i64 (C i)) := cell_gr hw1 (by go_simp)
        have cw1_1_3 : w1.cell? ⟨wr.heap.size, 3, none⟩ = some (.int .i64 (D i)) := cell_gr hw1 (by go_simp)
        have zw1_1 : wr.heap.size < w1.heap.size := World.block_lt_of_cell? _ _ cw1_1_0
        have gw1 : Gr w w1 := Gr.trans (by have gg := gwr; have gs := gg.size; go_grown) hw1
        clear hw1 gwr
        go_wp2_with fail
        refine bodyPost_ret (v := .tuple #[.agg #[.int .i64 0, .int .i64 0, .int .i64 0, .int .i64 0], .iface 56 (.int .i64 z)]) (by simp [results, Try.results16, go_sem, *]) rfl ⟨by rw [HR.out], by have gg := gw1; have gs := gg.size; go_grown⟩
    · obtain rfl : i = n := by omega
      have hR := HR2.out hall
      have HR := Lib.hid hR
      clear hR hall k0 k1 k2 k3
      have ti : decide ((i : Int) < (i : Int)) = false := decide_eq_false (by omega)
      go_wp2_with fail
      refine bodyPost_ret (v := .tuple #[.agg #[.int .i64 (accMin A i), .int .i64 (accMin B i), .int .i64 (accMax C i), .int .i64 (accMax D i)], .nilIface]) (by simp [results, Try.results16, go_sem, *]) rfl ⟨by rw [HR.out], by have gg := gwr; have gs := gg.size; go_grown⟩
set_option maxRecDepth 100000 in
theorem c_Union0 (cap : Nat) (a : Option Addr) (w : World) : Calls Try.prog 16 #[.slice a 0 cap] w fun e w' => e = .returned (.tuple #[.agg #[.int .i64 0, .int .i64 0, .int .i64 0, .int .i64 0], .iface 56 (.int .i64 1)]) ∧ Gr w w' := by
  go_enter Try.func16, Try.ntmps16
  go_wp2_with fail
  refine bodyPost_ret (v := .tuple #[.agg #[.int .i64 0, .int .i64 0, .int .i64 0, .int .i64 0], .iface 56 (.int .i64 1)]) (by simp [results, Try.results16, go_sem, *]) rfl ⟨rfl, by go_grown⟩
end Go.Proofs.Ythjhhnolkiejpaa
