/- plane: join, Union of two, Area, Grow -/
import Derived.Test.YthjhhnolkiejpaaPl
import Derived.Test.YthjhhnolkiejpaaP
namespace Go.Proofs.Ythjhhnolkiejpaa
set_option linter.unusedVariables false
open Go.ChangeShapes Go.WideShapes Go.ChangeAt Go.RowKit

set_option maxRecDepth 100000 in
theorem p_Is_nil (k : Int) (w : World) : Calls Try.prog 46 #[.nilIface, .iface 56 (.int .i64 k)] w fun e w' => e = .returned (.bool false) ∧ Gr w w' := by
  have hb : ∀ w, (binOp .eql 30 .nilIface (.iface 56 (.int .i64 k))).run Try.prog w = .ok (.bool false) w := fun _ => rfl
  go_enter Try.func46, Try.ntmps46
  go_wp2_with fail
  go_ret
  exact ⟨rfl, by go_grown⟩
def minZ (a b : Int) : Int := if b < a then b else a
def maxZ (a b : Int) : Int := if a < b then b else a
set_option maxHeartbeats 1000000 in
set_option maxRecDepth 100000 in
theorem c_join (lx ly hx hy mx my nx ny : Int) (W : World) :
    Calls Try.prog 57 #[.agg #[.int .i64 lx, .int .i64 ly, .int .i64 hx, .int .i64 hy], .agg #[.int .i64 mx, .int .i64 my, .int .i64 nx, .int .i64 ny]] W fun e w' => e = .returned (.agg #[.int .i64 (minZ lx mx), .int .i64 (minZ ly my), .int .i64 (maxZ hx nx), .int .i64 (maxZ hy ny)]) ∧ Gr W w' := by
  have m1 : ∀ w, (Builtin.min_ #[3, 3] 3 #[.int .i64 lx, .int .i64 mx]).run Try.prog w = .ok (.int .i64 (minZ lx mx)) w := fun w => by simp [Builtin.min_, Builtin.min2, go_sem, minZ]
  have m2 : ∀ w, (Builtin.min_ #[3, 3] 3 #[.int .i64 ly, .int .i64 my]).run Try.prog w = .ok (.int .i64 (minZ ly my)) w := fun w => by simp [Builtin.min_, Builtin.min2, go_sem, minZ]
  have m3 : ∀ w, (Builtin.max_ #[3, 3] 3 #[.int .i64 hx, .int .i64 nx]).run Try.prog w = .ok (.int .i64 (maxZ hx nx)) w := fun w => by simp [Builtin.max_, Builtin.max2, go_sem, maxZ]
  have m4 : ∀ w, (Builtin.max_ #[3, 3] 3 #[.int .i64 hy, .int .i64 ny]).run Try.prog w = .ok (.int .i64 (maxZ hy ny)) w := fun w => by simp [Builtin.max_, Builtin.max2, go_sem, maxZ]
  go_enter Try.func57, Try.ntmps57
  go_wp2_with fail
  refine bodyPost_ret (v := .agg #[.int .i64 (minZ lx mx), .int .i64 (minZ ly my), .int .i64 (maxZ hx nx), .int .i64 (maxZ hy ny)]) (by simp [results, Try.results57, go_sem, *]) rfl ⟨rfl, by go_grown⟩
theorem minZ_self (a : Int) : minZ a a = a := by unfold minZ; simp
theorem maxZ_self (a : Int) : maxZ a a = a := by unfold maxZ; simp
theorem c_join_self (lx ly hx hy : Int) (W : World) :
    Calls Try.prog 57 #[.agg #[.int .i64 lx, .int .i64 ly, .int .i64 hx, .int .i64 hy], .agg #[.int .i64 lx, .int .i64 ly, .int .i64 hx, .int .i64 hy]] W fun e w' => e = .returned (.agg #[.int .i64 lx, .int .i64 ly, .int .i64 hx, .int .i64 hy]) ∧ Gr W w' := by
  have h := c_join lx ly hx hy lx ly hx hy W
  simp only [minZ_self, maxZ_self] at h
  exact h
theorem c_CheckBox_ok {lx ly hx hy : Int} (h : boxB lx ly hx hy = true) (W : World) :
    Calls Try.prog 56 #[.agg #[.int .i64 lx, .int .i64 ly, .int .i64 hx, .int .i64 hy]] W fun e w' => e = .returned .nilIface ∧ Gr W w' := by
  rw [← boxErr_true h]
  exact c_CheckBox lx ly hx hy W
set_option maxHeartbeats 1000000 in
set_option maxRecDepth 100000 in
theorem c_Union2 (lx ly hx hy mx my nx ny : Int) (b1 : boxB lx ly hx hy = true) (b2 : boxB mx my nx ny = true) (B : Nat) (w : World) (hB : B < w.heap.size)
    (k0 : w.cell? ⟨B, 0, none⟩ = some (.int .i64 lx)) (k1 : w.cell? ⟨B, 1, none⟩ = some (.int .i64 ly)) (k2 : w.cell? ⟨B, 2, none⟩ = some (.int .i64 hx)) (k3 : w.cell? ⟨B, 3, none⟩ = some (.int .i64 hy))
    (k4 : w.cell? ⟨B, 4, none⟩ = some (.int .i64 mx)) (k5 : w.cell? ⟨B, 5, none⟩ = some (.int .i64 my)) (k6 : w.cell? ⟨B, 6, none⟩ = some (.int .i64 nx)) (k7 : w.cell? ⟨B, 7, none⟩ = some (.int .i64 ny)) :
    Calls Try.prog 16 #[.slice (some ⟨B, 0, none⟩) 2 2] w fun e w' => e = .returned (.tuple #[.agg #[.int .i64 (minZ lx mx), .int .i64 (minZ ly my), .int .i64 (maxZ hx nx), .int .i64 (maxZ hy ny)], .nilIface]) ∧ Gr w w' := by
  have H1 := Lib.hid (c_CheckBox_ok b1)
  have H2 := Lib.hid (c_CheckBox_ok b2)
  have H3 := Lib.hid (c_join lx ly hx hy mx my nx ny)
  clear b1 b2
  obtain ⟨jx, ejx⟩ : ∃ j, j = minZ lx mx := ⟨_, rfl⟩
  obtain ⟨jy, ejy⟩ : ∃ j, j = minZ ly my := ⟨_, rfl⟩
  obtain ⟨jz, ejz⟩ : ∃ j, j = maxZ hx nx := ⟨_, rfl⟩
  obtain ⟨jw, ejw⟩ : ∃ j, j = maxZ hy ny := ⟨_, rfl⟩
  rw [← ejx, ← ejy, ← ejz, ← ejw] at H3 ⊢
  clear ejx ejy ejz ejw
  go_enter Try.func16, Try.ntmps16
  go_wp2_with fail
  go_loopg [18] 2 (fun k v wr => ∃ (i : Nat) (a b c d : Int), i + k = 2 ∧ v = .int .i64 i ∧ (i ≤ 1 → a = lx ∧ b = ly ∧ c = hx ∧ d = hy) ∧ (i = 2 → a = jx ∧ b = jy ∧ c = jz ∧ d = jw) ∧
    wr.cell? ⟨w.heap.size, 0, none⟩ = some (.int .i64 0) ∧ wr.cell? ⟨w.heap.size, 1, none⟩ = some (.int .i64 0) ∧ wr.cell? ⟨w.heap.size, 2, none⟩ = some (.int .i64 0) ∧ wr.cell? ⟨w.heap.size, 3, none⟩ = some (.int .i64 0) ∧
    wr.frozen? ⟨w.heap.size, 0, none⟩ = false ∧ wr.frozen? ⟨w.heap.size, 1, none⟩ = false ∧ wr.frozen? ⟨w.heap.size, 2, none⟩ = false ∧ wr.frozen? ⟨w.heap.size, 3, none⟩ = false ∧
    wr.cell? ⟨w.heap.size + 1, 0, none⟩ = some (.int .i64 a) ∧ wr.cell? ⟨w.heap.size + 1, 1, none⟩ = some (.int .i64 b) ∧ wr.cell? ⟨w.heap.size + 1, 2, none⟩ = some (.int .i64 c) ∧ wr.cell? ⟨w.heap.size + 1, 3, none⟩ = some (.int .i64 d) ∧
    wr.frozen? ⟨w.heap.size + 1, 0, none⟩ = false ∧ wr.frozen? ⟨w.heap.size + 1, 1, none⟩ = false ∧ wr.frozen? ⟨w.heap.size + 1, 2, none⟩ = false ∧ wr.frozen? ⟨w.heap.size + 1, 3, none⟩ = false ∧ Gr w wr)
  case atStart => exact ⟨0, lx, ly, hx, hy, by omega, rfl, fun _ => ⟨rfl, rfl, rfl, rfl⟩, fun h => by omega, by go_simp, by go_simp, by go_simp, by go_simp, by go_simp, by go_simp, by go_simp, by go_simp, by go_simp, by go_simp, by go_simp, by go_simp, by go_simp, by go_simp, by go_simp, by go_simp, by go_grown⟩
  case round =>
    obtain ⟨i, a, b, c, d, hk, rfl, p1, p2, c0, c1, c2, c3, f0, f1, f2, f3, a0, a1, a2, a3, g0, g1, g2, g3, gwr⟩ := hrel
    rcases (by omega : i = 0 ∨ i = 1 ∨ i = 2) with rfl | rfl | rfl
    · obtain ⟨rfl, rfl, rfl, rfl⟩ := p1 (by omega)
      have s0 := cell_gr gwr k0
      have s1 := cell_gr gwr k1
      have s2 := cell_gr gwr k2
      have s3 := cell_gr gwr k3
      have zwr0 := World.block_lt_of_cell? _ _ c0
      have zwr := World.block_lt_of_cell? _ _ a0
      go_wp2_with fail
      go_at_call 56
      refine ((H1.out _)).mono ?_
      rintro e w1 ⟨rfl, hw1⟩
      have cw1_0_0 : w1.cell? ⟨w.heap.size, 0, none⟩ = some (.int .i64 0) := cell_gr hw1 (by go_simp)
      have fw1_0_0 : w1.frozen? ⟨w.heap.size, 0, none⟩ = false := frozen_gr (v := .int .i64 0) hw1 (by go_simp) (by go_simp)
      have cw1_0_1 : w1.cell? ⟨w.heap.size, 1, none⟩ = some (.int .i64 0) := cell_gr hw1 (by go_simp)
      have fw1_0_1 : w1.frozen? ⟨w.heap.size, 1, none⟩ = false := frozen_gr (v := .int .i64 0) hw1 (by go_simp) (by go_simp)
      have cw1_0_2 : w1.cell? ⟨w.heap.size, 2, none⟩ = some (.int .i64 0) := cell_gr hw1 (by go_simp)
      have fw1_0_2 : w1.frozen? ⟨w.heap.size, 2, none⟩ = false := frozen_gr (v := .int .i64 0) hw1 (by go_simp) (by go_simp)
      have cw1_0_3 : w1.cell? ⟨w.heap.size, 3, none⟩ = some (.int .i64 0) := cell_gr hw1 (by go_simp)
      have fw1_0_3 : w1.frozen? ⟨w.heap.size, 3, none⟩ = false := frozen_gr (v := .int .i64 0) hw1 (by go_simp) (by go_simp)
      have zw1_0 : w.heap.size < w1.heap.size := World.block_lt_of_cell? _ _ cw1_0_0
      have cw1_1_0 : w1.cell? ⟨w.heap.size + 1, 0, none⟩ = some (.int .i64 a) := cell_gr hw1 (by go_simp)
      have fw1_1_0 : w1.frozen? ⟨w.heap.size + 1, 0, none⟩ = false := frozen_gr (v := .int .i64 a) hw1 (by go_simp) (by go_simp)
      have cw1_1_1 : w1.cell? ⟨w.heap.size + 1, 1, none⟩ = some (.int .i64 b) := cell_gr hw1 (by go_simp)
      have fw1_1_1 : w1.frozen? ⟨w.heap.size + 1, 1, none⟩ = false := frozen_gr (v := .int .i64 b) hw1 (by go_simp) (by go_simp)
      have cw1_1_2 : w1.cell? ⟨w.heap.size + 1, 2, none⟩ = some (.int .i64 c) := cell_gr hw1 (by go_simp)
      have fw1_1_2 : w1.frozen? ⟨w.heap.size + 1, 2, none⟩ = false := frozen_gr (v := .int .i64 c) hw1 (by go_simp) (by go_simp)
      have cw1_1_3 : w1.cell? ⟨w.heap.size + 1, 3, none⟩ = some (.int .i64 d) := cell_gr hw1 (by go_simp)
      have fw1_1_3 : w1.frozen? ⟨w.heap.size + 1, 3, none⟩ = false := frozen_gr (v := .int .i64 d) hw1 (by go_simp) (by go_simp)
      have zw1_1 : w.heap.size + 1 < w1.heap.size := World.block_lt_of_cell? _ _ cw1_1_0
      have cw1_2_0 : w1.cell? ⟨wr.heap.size, 0, none⟩ = some (.int .i64 a) := cell_gr hw1 (by go_simp)
      have cw1_2_1 : w1.cell? ⟨wr.heap.size, 1, none⟩ = some (.int .i64 b) := cell_gr hw1 (by go_simp)
      have cw1_2_2 : w1.cell? ⟨wr.heap.size, 2, none⟩ = some (.int .i64 c) := cell_gr hw1 (by go_simp)
      have cw1_2_3 : w1.cell? ⟨wr.heap.size, 3, none⟩ = some (.int .i64 d) := cell_gr hw1 (by go_simp)
      have zw1_2 : wr.heap.size < w1.heap.size := World.block_lt_of_cell? _ _ cw1_2_0
      have gw1 : Gr w w1 := Gr.trans (by have gg := gwr; have gs := gg.size; go_grown) hw1
      clear hw1 gwr
      go_wp2_with fail
      go_at_call 57
      refine ((c_join_self _ _ _ _ _)).mono ?_
      rintro e w2 ⟨rfl, hw2⟩
      have cw2_0_0 : w2.cell? ⟨w.heap.size, 0, none⟩ = some (.int .i64 0) := cell_gr hw2 (by go_simp)
      have fw2_0_0 : w2.frozen? ⟨w.heap.size, 0, none⟩ = false := frozen_gr (v := .int .i64 0) hw2 (by go_simp) (by go_simp)
      have cw2_0_1 : w2.cell? ⟨w.heap.size, 1, none⟩ = some (.int .i64 0) := cell_gr hw2 (by go_simp)
      have fw2_0_1 : w2.frozen? ⟨w.heap.size, 1, none⟩ = false := frozen_gr (v := .int .i64 0) hw2 (by go_simp) (by go_simp)
      have cw2_0_2 : w2.cell? ⟨w.heap.size, 2, none⟩ = some (.int .i64 0) := cell_gr hw2 (by go_simp)
      have fw2_0_2 : w2.frozen? ⟨w.heap.size, 2, none⟩ = false := frozen_gr (v := .int .i64 0) hw2 (by go_simp) (by go_simp)
      have cw2_0_3 : w2.cell? ⟨w.heap.size, 3, none⟩ = some (.int .i64 0) := cell_gr hw2 (by go_simp)
      have fw2_0_3 : w2.frozen? ⟨w.heap.size, 3, none⟩ = false := frozen_gr (v := .int .i64 0) hw2 (by go_simp) (by go_simp)
      have zw2_0 : w.heap.size < w2.heap.size := World.block_lt_of_cell? _ _ cw2_0_0
      have cw2_1_0 : w2.cell? ⟨w.heap.size + 1, 0, none⟩ = some (.int .i64 a) := cell_gr hw2 (by go_simp)
      have fw2_1_0 : w2.frozen? ⟨w.heap.size + 1, 0, none⟩ = false := frozen_gr (v := .int .i64 a) hw2 (by go_simp) (by go_simp)
      have cw2_1_1 : w2.cell? ⟨w.heap.size + 1, 1, none⟩ = some (.int .i64 b) := cell_gr hw2 (by go_simp)
      have fw2_1_1 : w2.frozen? ⟨w.heap.size + 1, 1, none⟩ = false := frozen_gr (v := .int .i64 b) hw2 (by go_simp) (by go_simp)
      have cw2_1_2 : w2.cell? ⟨w.heap.size + 1, 2, none⟩ = some (.int .i64 c) := cell_gr hw2 (by go_simp)
      have fw2_1_2 : w2.frozen? ⟨w.heap.size + 1, 2, none⟩ = false := frozen_gr (v := .int .i64 c) hw2 (by go_simp) (by go_simp)
      have cw2_1_3 : w2.cell? ⟨w.heap.size + 1, 3, none⟩ = some (.int .i64 d) := cell_gr hw2 (by go_simp)
      have fw2_1_3 : w2.frozen? ⟨w.heap.size + 1, 3, none⟩ = false := frozen_gr (v := .int .i64 d) hw2 (by go_simp) (by go_simp)
      have zw2_1 : w.heap.size + 1 < w2.heap.size := World.block_lt_of_cell? _ _ cw2_1_0
      have cw2_2_0 : w2.cell? ⟨wr.heap.size, 0, none⟩ = some (.int .i64 a) := cell_gr hw2 (by go_simp)
      have cw2_2_1 : w2.cell? ⟨wr.heap.size, 1, none⟩ = some (.int .i64 b) := cell_gr hw2 (by go_simp)
      have cw2_2_2 : w2.cell? ⟨wr.heap.size, 2, none⟩ = some (.int .i64 c) := cell_gr hw2 (by go_simp)
      have cw2_2_3 : w2.cell? ⟨wr.heap.size, 3, none⟩ = some (.int .i64 d) := cell_gr hw2 (by go_simp)
      have zw2_2 : wr.heap.size < w2.heap.size := World.block_lt_of_cell? _ _ cw2_2_0
      have gw2 : Gr w w2 := Gr.trans (by have gg := gw1; have gs := gg.size; go_grown) hw2
      clear hw2 gw1 zw1_0 cw1_0_0 fw1_0_0 cw1_0_1 fw1_0_1 cw1_0_2 fw1_0_2 cw1_0_3 fw1_0_3 zw1_1 cw1_1_0 fw1_1_0 cw1_1_1 fw1_1_1 cw1_1_2 fw1_1_2 cw1_1_3 fw1_1_3 zw1_2 cw1_2_0 cw1_2_1 cw1_2_2 cw1_2_3
      go_wp2_with fail
      go_roundg 1
      case measure => omega
      case rel => exact ⟨1, a, b, c, d, by omega, rfl, fun _ => ⟨rfl, rfl, rfl, rfl⟩, fun h => by omega, by go_simp, by go_simp, by go_simp, by go_simp, by go_simp, by go_simp, by go_simp, by go_simp, by go_simp, by go_simp, by go_simp, by go_simp, by go_simp, by go_simp, by go_simp, by go_simp, by have gg := gw2; have gs := gg.size; go_grown⟩
    · obtain ⟨rfl, rfl, rfl, rfl⟩ := p1 (by omega)
      have s0 := cell_gr gwr k4
      have s1 := cell_gr gwr k5
      have s2 := cell_gr gwr k6
      have s3 := cell_gr gwr k7
      have zwr0 := World.block_lt_of_cell? _ _ c0
      have zwr := World.block_lt_of_cell? _ _ a0
      go_wp2_with fail
      go_at_call 56
      refine ((H2.out _)).mono ?_
      rintro e w1 ⟨rfl, hw1⟩
      have cw1_0_0 : w1.cell? ⟨w.heap.size, 0, none⟩ = some (.int .i64 0) := cell_gr hw1 (by go_simp)
      have fw1_0_0 : w1.frozen? ⟨w.heap.size, 0, none⟩ = false := frozen_gr (v := .int .i64 0) hw1 (by go_simp) (by go_simp)
      have cw1_0_1 : w1.cell? ⟨w.heap.size, 1, none⟩ = some (.int .i64 0) := cell_gr hw1 (by go_simp)
      have fw1_0_1 : w1.frozen? ⟨w.heap.size, 1, none⟩ = false := frozen_gr (v := .int .i64 0) hw1 (by go_simp) (by go_simp)
      have cw1_0_2 : w1.cell? ⟨w.heap.size, 2, none⟩ = some (.int .i64 0) := cell_gr hw1 (by go_simp)
      have fw1_0_2 : w1.frozen? ⟨w.heap.size, 2, none⟩ = false := frozen_gr (v := .int .i64 0) hw1 (by go_simp) (by go_simp)
      have cw1_0_3 : w1.cell? ⟨w.heap.size, 3, none⟩ = some (.int .i64 0) := cell_gr hw1 (by go_simp)
      have fw1_0_3 : w1.frozen? ⟨w.heap.size, 3, none⟩ = false := frozen_gr (v := .int .i64 0) hw1 (by go_simp) (by go_simp)
      have zw1_0 : w.heap.size < w1.heap.size := World.block_lt_of_cell? _ _ cw1_0_0
      have cw1_1_0 : w1.cell? ⟨w.heap.size + 1, 0, none⟩ = some (.int .i64 a) := cell_gr hw1 (by go_simp)
      have fw1_1_0 : w1.frozen? ⟨w.heap.size + 1, 0, none⟩ = false := frozen_gr (v := .int .i64 a) hw1 (by go_simp) (by go_simp)
      have cw1_1_1 : w1.cell? ⟨w.heap.size + 1, 1, none⟩ = some (.int .i64 b) := cell_gr hw1 (by go_simp)
      have fw1_1_1 : w1.frozen? ⟨w.heap.size + 1, 1, none⟩ = false := frozen_gr (v := .int .i64 b) hw1 (by go_simp) (by go_simp)
      have cw1_1_2 : w1.cell? ⟨w.heap.size + 1, 2, none⟩ = some (.int .i64 c) := cell_gr hw1 (by go_simp)
      have fw1_1_2 : w1.frozen? ⟨w.heap.size + 1, 2, none⟩ = false := frozen_gr (v := .int .i64 c) hw1 (by go_simp) (by go_simp)
      have cw1_1_3 : w1.cell? ⟨w.heap.size + 1, 3, none⟩ = some (.int .i64 d) := cell_gr hw1 (by go_simp)
      have fw1_1_3 : w1.frozen? ⟨w.heap.size + 1, 3, none⟩ = false := frozen_gr (v := .int .i64 d) hw1 (by go_simp) (by go_simp)
      have zw1_1 : w.heap.size + 1 < w1.heap.size := World.block_lt_of_cell? _ _ cw1_1_0
      have cw1_2_0 : w1.cell? ⟨wr.heap.size, 0, none⟩ = some (.int .i64 mx) := cell_gr hw1 (by go_simp)
      have cw1_2_1 : w1.cell? ⟨wr.heap.size, 1, none⟩ = some (.int .i64 my) := cell_gr hw1 (by go_simp)
      have cw1_2_2 : w1.cell? ⟨wr.heap.size, 2, none⟩ = some (.int .i64 nx) := cell_gr hw1 (by go_simp)
      have cw1_2_3 : w1.cell? ⟨wr.heap.size, 3, none⟩ = some (.int .i64 ny) := cell_gr hw1 (by go_simp)
      have zw1_2 : wr.heap.size < w1.heap.size := World.block_lt_of_cell? _ _ cw1_2_0
      have gw1 : Gr w w1 := Gr.trans (by have gg := gwr; have gs := gg.size; go_grown) hw1
      clear hw1 gwr
      go_wp2_with fail
      go_at_call 57
      refine ((H3.out _)).mono ?_
      rintro e w2 ⟨rfl, hw2⟩
      have cw2_0_0 : w2.cell? ⟨w.heap.size, 0, none⟩ = some (.int .i64 0) := cell_gr hw2 (by go_simp)
      have fw2_0_0 : w2.frozen? ⟨w.heap.size, 0, none⟩ = false := frozen_gr (v := .int .i64 0) hw2 (by go_simp) (by go_simp)
      have cw2_0_1 : w2.cell? ⟨w.heap.size, 1, none⟩ = some (.int .i64 0) := cell_gr hw2 (by go_simp)
      have fw2_0_1 : w2.frozen? ⟨w.heap.size, 1, none⟩ = false := frozen_gr (v := .int .i64 0) hw2 (by go_simp) (by go_simp)
      have cw2_0_2 : w2.cell? ⟨w.heap.size, 2, none⟩ = some (.int .i64 0) := cell_gr hw2 (by go_simp)
      have fw2_0_2 : w2.frozen? ⟨w.heap.size, 2, none⟩ = false := frozen_gr (v := .int .i64 0) hw2 (by go_simp) (by go_simp)
      have cw2_0_3 : w2.cell? ⟨w.heap.size, 3, none⟩ = some (.int .i64 0) := cell_gr hw2 (by go_simp)
      have fw2_0_3 : w2.frozen? ⟨w.heap.size, 3, none⟩ = false := frozen_gr (v := .int .i64 0) hw2 (by go_simp) (by go_simp)
      have zw2_0 : w.heap.size < w2.heap.size := World.block_lt_of_cell? _ _ cw2_0_0
      have cw2_1_0 : w2.cell? ⟨w.heap.size + 1, 0, none⟩ = some (.int .i64 a) := cell_gr hw2 (by go_simp)
      have fw2_1_0 : w2.frozen? ⟨w.heap.size + 1, 0, none⟩ = false := frozen_gr (v := .int .i64 a) hw2 (by go_simp) (by go_simp)
      have cw2_1_1 : w2.cell? ⟨w.heap.size + 1, 1, none⟩ = some (.int .i64 b) := cell_gr hw2 (by go_simp)
      have fw2_1_1 : w2.frozen? ⟨w.heap.size + 1, 1, none⟩ = false := frozen_gr (v := .int .i64 b) hw2 (by go_simp) (by go_simp)
      have cw2_1_2 : w2.cell? ⟨w.heap.size + 1, 2, none⟩ = some (.int .i64 c) := cell_gr hw2 (by go_simp)
      have fw2_1_2 : w2.frozen? ⟨w.heap.size + 1, 2, none⟩ = false := frozen_gr (v := .int .i64 c) hw2 (by go_simp) (by go_simp)
      have cw2_1_3 : w2.cell? ⟨w.heap.size + 1, 3, none⟩ = some (.int .i64 d) := cell_gr hw2 (by go_simp)
      have fw2_1_3 : w2.frozen? ⟨w.heap.size + 1, 3, none⟩ = false := frozen_gr (v := .int .i64 d) hw2 (by go_simp) (by go_simp)
      have zw2_1 : w.heap.size + 1 < w2.heap.size := World.block_lt_of_cell? _ _ cw2_1_0
      have cw2_2_0 : w2.cell? ⟨wr.heap.size, 0, none⟩ = some (.int .i64 mx) := cell_gr hw2 (by go_simp)
      have cw2_2_1 : w2.cell? ⟨wr.heap.size, 1, none⟩ = some (.int .i64 my) := cell_gr hw2 (by go_simp)
      have cw2_2_2 : w2.cell? ⟨wr.heap.size, 2, none⟩ = some (.int .i64 nx) := cell_gr hw2 (by go_simp)
      have cw2_2_3 : w2.cell? ⟨wr.heap.size, 3, none⟩ = some (.int .i64 ny) := cell_gr hw2 (by go_simp)
      have zw2_2 : wr.heap.size < w2.heap.size := World.block_lt_of_cell? _ _ cw2_2_0
      have gw2 : Gr w w2 := Gr.trans (by have gg := gw1; have gs := gg.size; go_grown) hw2
      clear hw2 gw1 zw1_0 cw1_0_0 fw1_0_0 cw1_0_1 fw1_0_1 cw1_0_2 fw1_0_2 cw1_0_3 fw1_0_3 zw1_1 cw1_1_0 fw1_1_0 cw1_1_1 fw1_1_1 cw1_1_2 fw1_1_2 cw1_1_3 fw1_1_3 zw1_2 cw1_2_0 cw1_2_1 cw1_2_2 cw1_2_3
      go_wp2_with fail
      go_roundg 0
      case measure => omega
      case rel => exact ⟨2, jx, jy, jz, jw, by omega, rfl, fun h => by omega, fun _ => ⟨rfl, rfl, rfl, rfl⟩, by go_simp, by go_simp, by go_simp, by go_simp, by go_simp, by go_simp, by go_simp, by go_simp, by go_simp, by go_simp, by go_simp, by go_simp, by go_simp, by go_simp, by go_simp, by go_simp, by have gg := gw2; have gs := gg.size; go_grown⟩
    · obtain ⟨rfl, rfl, rfl, rfl⟩ := p2 rfl
      have zwr0 := World.block_lt_of_cell? _ _ c0
      have zwr := World.block_lt_of_cell? _ _ a0
      go_wp2_with fail
      refine bodyPost_ret (v := .tuple #[.agg #[.int .i64 a, .int .i64 b, .int .i64 c, .int .i64 d], .nilIface]) (by simp [results, Try.results16, go_sem, *]) rfl ⟨rfl, by have gg := gwr; have gs := gg.size; go_grown⟩
end Go.Proofs.Ythjhhnolkiejpaa
