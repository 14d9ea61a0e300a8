/- the document's own BoxInside, Area, Grow, BoxDist; Grow of boxes that may not be -/
import Derived.Test.YtfamocpbmbhmbaaDoorRs
import Derived.Test.YtfamocpbmbhmbaaDoorPn
namespace Go.Proofs.YtfamocpbmbhmbaaDoor
set_option linter.unusedVariables false
open Go.ChangeShapes Go.WideShapes Go.ChangeAt Go.RowKit

set_option maxHeartbeats 1000000 in
set_option maxRecDepth 100000 in
theorem c_rArea_no (lx ly hx hy : Int) (b1 : boxB lx ly hx hy = false) (W : World) :
    Calls Tryd.prog 25 #[.agg #[.int .i64 lx, .int .i64 ly, .int .i64 hx, .int .i64 hy]] W fun e w' => e = .returned (.agg #[.int .u64 0, .int .u64 0]) ∧ Gr W w' := by
  have M := c_rCheckBox lx ly hx hy
  have z1 : (boxCode lx ly hx hy == 0) = false := by rw [boxCode_zero, b1]
  obtain ⟨k1, e1⟩ : ∃ k, k = boxCode lx ly hx hy := ⟨_, rfl⟩
  rw [← e1] at M z1
  have z2 : (k1 != 0) = true := by simpa using z1
  have H1 := Lib.hid M
  clear M b1 e1
  go_enter Tryd.func25, Tryd.ntmps25
  go_wp2_with fail
  go_at_call 24
  refine ((H1.out _)).mono ?_
  rintro e w1 ⟨rfl, hw1⟩
  have cw1_0_0 : w1.cell? ⟨W.heap.size, 0, none⟩ = some (.int .i64 lx) := cell_gr hw1 (by go_simp)
  have cw1_0_1 : w1.cell? ⟨W.heap.size, 1, none⟩ = some (.int .i64 ly) := cell_gr hw1 (by go_simp)
  have cw1_0_2 : w1.cell? ⟨W.heap.size, 2, none⟩ = some (.int .i64 hx) := cell_gr hw1 (by go_simp)
  have cw1_0_3 : w1.cell? ⟨W.heap.size, 3, none⟩ = some (.int .i64 hy) := cell_gr hw1 (by go_simp)
  have zw1_0 : W.heap.size < w1.heap.size := World.block_lt_of_cell? _ _ cw1_0_0
  have cw1_1_0 : w1.cell? ⟨W.heap.size + 1, 0, none⟩ = some (.int .u64 0) := cell_gr hw1 (by go_simp)
  have fw1_1_0 : w1.frozen? ⟨W.heap.size + 1, 0, none⟩ = false := frozen_gr (v := .int .u64 0) hw1 (by go_simp) (by go_simp)
  have cw1_1_1 : w1.cell? ⟨W.heap.size + 1, 1, none⟩ = some (.int .u64 0) := cell_gr hw1 (by go_simp)
  have fw1_1_1 : w1.frozen? ⟨W.heap.size + 1, 1, none⟩ = false := frozen_gr (v := .int .u64 0) hw1 (by go_simp) (by go_simp)
  have zw1_1 : W.heap.size + 1 < w1.heap.size := World.block_lt_of_cell? _ _ cw1_1_0
  have gw1 : Gr W w1 := Gr.trans (by go_grown) hw1
  clear hw1
  go_wp2_with fail
  refine bodyPost_ret (v := .agg #[.int .u64 0, .int .u64 0]) (by simp [results, Tryd.results25, go_sem, *]) rfl ⟨rfl, by go_grown⟩
set_option maxHeartbeats 1000000 in
set_option maxRecDepth 100000 in
theorem c_rArea (lx ly hx hy : Int) (b1 : boxB lx ly hx hy = true) (s : Nat) (hs : (s : Int) = (hx - lx) * (hy - ly)) (W : World) :
    Calls Tryd.prog 25 #[.agg #[.int .i64 lx, .int .i64 ly, .int .i64 hx, .int .i64 hy]] W fun e w' => e = .returned (.agg #[.int .u64 0, .int .u64 s]) ∧ Gr W w' := by
  have M := c_rCheckBox lx ly hx hy
  have z1 : boxCode lx ly hx hy = 0 := by simpa using (boxCode_zero (lx := lx) (ly := ly) (hx := hx) (hy := hy)).trans b1
  rw [z1] at M
  have n1 := nearB_iff.1 (boxB_iff.1 b1).1.1
  have n2 := nearB_iff.1 (boxB_iff.1 b1).1.2
  have n4 := (boxB_iff.1 b1).2
  obtain ⟨x, hx'⟩ : ∃ x : Nat, (x : Int) = hx - lx := ⟨_, Int.toNat_of_nonneg (by omega)⟩
  obtain ⟨y, hy'⟩ : ∃ y : Nat, (y : Int) = hy - ly := ⟨_, Int.toNat_of_nonneg (by omega)⟩
  have hxy : x * y ≤ 2147483646 * 2147483646 := Nat.mul_le_mul (by omega) (by omega)
  have N := c_rMul x y (by unfold Wd; omega) (by unfold Wd; omega)
  have es : s = x * y := by
    rw [← hx', ← hy', ← Int.natCast_mul] at hs
    omega
  rw [← es, show s / 18446744073709551616 = 0 by omega, show s % 18446744073709551616 = s by omega] at N
  have e1 : wrap64 (hx - lx) = x := by rw [hx']; exact IntWalk.wrap64_in _ (by omega)
  have e2 : wrap64 (hy - ly) = y := by rw [hy']; exact IntWalk.wrap64_in _ (by omega)
  have f1 : IntKind.i64.wrap (hx - lx) = x := by rw [hx']; exact IntWalk.i64_in _ (by omega)
  have f2 : IntKind.i64.wrap (hy - ly) = y := by rw [hy']; exact IntWalk.i64_in _ (by omega)
  have f3 : IntKind.u64.wrap (x : Int) = x := IntWalk.u64_in _ (by omega)
  have f4 : IntKind.u64.wrap (y : Int) = y := IntWalk.u64_in _ (by omega)
  have H1 := Lib.hid M
  have H2 := Lib.hid N
  clear M N b1 n1 n2 n4 hx' hy' hxy es hs z1
  go_enter Tryd.func25, Tryd.ntmps25
  go_wp2_with fail
  go_at_call 24
  refine ((H1.out _)).mono ?_
  rintro e w1 ⟨rfl, hw1⟩
  have cw1_0_0 : w1.cell? ⟨W.heap.size, 0, none⟩ = some (.int .i64 lx) := cell_gr hw1 (by go_simp)
  have cw1_0_1 : w1.cell? ⟨W.heap.size, 1, none⟩ = some (.int .i64 ly) := cell_gr hw1 (by go_simp)
  have cw1_0_2 : w1.cell? ⟨W.heap.size, 2, none⟩ = some (.int .i64 hx) := cell_gr hw1 (by go_simp)
  have cw1_0_3 : w1.cell? ⟨W.heap.size, 3, none⟩ = some (.int .i64 hy) := cell_gr hw1 (by go_simp)
  have zw1_0 : W.heap.size < w1.heap.size := World.block_lt_of_cell? _ _ cw1_0_0
  have cw1_1_0 : w1.cell? ⟨W.heap.size + 1, 0, none⟩ = some (.int .u64 0) := cell_gr hw1 (by go_simp)
  have fw1_1_0 : w1.frozen? ⟨W.heap.size + 1, 0, none⟩ = false := frozen_gr (v := .int .u64 0) hw1 (by go_simp) (by go_simp)
  have cw1_1_1 : w1.cell? ⟨W.heap.size + 1, 1, none⟩ = some (.int .u64 0) := cell_gr hw1 (by go_simp)
  have fw1_1_1 : w1.frozen? ⟨W.heap.size + 1, 1, none⟩ = false := frozen_gr (v := .int .u64 0) hw1 (by go_simp) (by go_simp)
  have zw1_1 : W.heap.size + 1 < w1.heap.size := World.block_lt_of_cell? _ _ cw1_1_0
  have gw1 : Gr W w1 := Gr.trans (by go_grown) hw1
  clear hw1
  go_wp2_with fail
  go_at_call 46
  refine ((H2.out _)).mono ?_
  rintro e w2 ⟨rfl, hw2⟩
  have cw2_0_0 : w2.cell? ⟨W.heap.size, 0, none⟩ = some (.int .i64 lx) := cell_gr hw2 (by go_simp)
  have cw2_0_1 : w2.cell? ⟨W.heap.size, 1, none⟩ = some (.int .i64 ly) := cell_gr hw2 (by go_simp)
  have cw2_0_2 : w2.cell? ⟨W.heap.size, 2, none⟩ = some (.int .i64 hx) := cell_gr hw2 (by go_simp)
  have cw2_0_3 : w2.cell? ⟨W.heap.size, 3, none⟩ = some (.int .i64 hy) := cell_gr hw2 (by go_simp)
  have zw2_0 : W.heap.size < w2.heap.size := World.block_lt_of_cell? _ _ cw2_0_0
  have cw2_1_0 : w2.cell? ⟨W.heap.size + 1, 0, none⟩ = some (.int .u64 0) := cell_gr hw2 (by go_simp)
  have fw2_1_0 : w2.frozen? ⟨W.heap.size + 1, 0, none⟩ = false := frozen_gr (v := .int .u64 0) hw2 (by go_simp) (by go_simp)
  have cw2_1_1 : w2.cell? ⟨W.heap.size + 1, 1, none⟩ = some (.int .u64 0) := cell_gr hw2 (by go_simp)
  have fw2_1_1 : w2.frozen? ⟨W.heap.size + 1, 1, none⟩ = false := frozen_gr (v := .int .u64 0) hw2 (by go_simp) (by go_simp)
  have zw2_1 : W.heap.size + 1 < w2.heap.size := World.block_lt_of_cell? _ _ cw2_1_0
  have gw2 : Gr W w2 := Gr.trans (by have gg := gw1; have gs := gg.size; go_grown) hw2
  clear hw2 gw1 zw1_0 cw1_0_0 cw1_0_1 cw1_0_2 cw1_0_3 zw1_1 cw1_1_0 fw1_1_0 cw1_1_1 fw1_1_1
  go_wp2_with fail
  refine bodyPost_ret (v := .agg #[.int .u64 0, .int .u64 s]) (by simp [results, Tryd.results25, go_sem, *]) rfl ⟨rfl, by go_grown⟩

end Go.Proofs.YtfamocpbmbhmbaaDoor
