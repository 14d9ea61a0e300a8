/- plane: Dist; what the document fixes; PlaneTurns -/
import Derived.Test.YthjhhnolkiejpaaPd
import Derived.Test.YthjhhnolkiejpaaJ
import Derived.Test.YthjhhnolkiejpaaS
namespace Go.Proofs.Ythjhhnolkiejpaa
set_option linter.unusedVariables false
open Go.ChangeShapes Go.WideShapes Go.ChangeAt Go.RowKit

/-- Dist's answer, of what may be. -/
def distZ (lx ly hx hy px py : Int) : Int := beyZ lx hx px * beyZ lx hx px + beyZ ly hy py * beyZ ly hy py
theorem boxB_iff {lx ly hx hy : Int} : boxB lx ly hx hy = true ↔ (nearB lx ly = true ∧ nearB hx hy = true) ∧ lx ≤ hx ∧ ly ≤ hy := by
  unfold boxB
  simp [and_assoc]
set_option maxHeartbeats 1000000 in
theorem c_Dist_no (lx ly hx hy px py : Int) (W : World) (hq : (boxB lx ly hx hy && nearB px py) = false) :
    Calls Try.prog 21 #[.agg #[.int .i64 lx, .int .i64 ly, .int .i64 hx, .int .i64 hy], .agg #[.int .i64 px, .int .i64 py]] W fun e w' => e = .returned (.agg #[.int .u64 0, .int .u64 0, .int .u64 0]) ∧ Gr W w' := by
  obtain ⟨q1, e1⟩ : ∃ q, q = boxB lx ly hx hy := ⟨_, rfl⟩
  obtain ⟨q2, e2⟩ : ∃ q, q = nearB px py := ⟨_, rfl⟩
  have M : ∀ b w, b < w.heap.size → w.cell? ⟨b, 0, none⟩ = some (.int .i64 lx) → w.cell? ⟨b, 1, none⟩ = some (.int .i64 ly) → w.cell? ⟨b, 2, none⟩ = some (.int .i64 hx) → w.cell? ⟨b, 3, none⟩ = some (.int .i64 hy) →
      Calls Try.prog 58 #[.slice (some ⟨b, 0, none⟩) 1 1] w fun e w' => e = .returned (.bool q1) ∧ Gr w w' := fun b w hb k0 k1 k2 k3 => by
    rw [e1]; exact c_mayBe1 lx ly hx hy b w hb k0 k1 k2 k3
  have N := c_near px py
  rw [← e2] at N
  rw [← e1, ← e2] at hq
  have H1 := Lib.hid M
  have H2 := Lib.hid N
  clear M N e1 e2
  have hc : q1 = false ∨ (q1 = true ∧ q2 = false) := by cases q1 <;> simp_all
  clear hq
  rcases hc with rfl | ⟨rfl, rfl⟩
  · go_enter Try.func21, Try.ntmps21
    go_wp2_with fail
    go_at_call 58
    refine ((H1.out _ _ (by go_simp) (by go_simp) (by go_simp) (by go_simp) (by go_simp))).mono ?_
    rintro e w1 ⟨rfl, hw1⟩
    have cw1_0_0 : w1.cell? ⟨W.heap.size, 0, none⟩ = some (.int .i64 lx) := cell_gr hw1 (by go_simp)
    have cw1_0_1 : w1.cell? ⟨W.heap.size, 1, none⟩ = some (.int .i64 ly) := cell_gr hw1 (by go_simp)
    have cw1_0_2 : w1.cell? ⟨W.heap.size, 2, none⟩ = some (.int .i64 hx) := cell_gr hw1 (by go_simp)
    have cw1_0_3 : w1.cell? ⟨W.heap.size, 3, none⟩ = some (.int .i64 hy) := cell_gr hw1 (by go_simp)
    have zw1_0 : W.heap.size < w1.heap.size := World.block_lt_of_cell? _ _ cw1_0_0
    have cw1_1_0 : w1.cell? ⟨W.heap.size + 1, 0, none⟩ = some (.int .i64 px) := cell_gr hw1 (by go_simp)
    have cw1_1_1 : w1.cell? ⟨W.heap.size + 1, 1, none⟩ = some (.int .i64 py) := cell_gr hw1 (by go_simp)
    have zw1_1 : W.heap.size + 1 < w1.heap.size := World.block_lt_of_cell? _ _ cw1_1_0
    have cw1_2_0 : w1.cell? ⟨W.heap.size + 1 + 1, 0, none⟩ = some (.int .u64 0) := cell_gr hw1 (by go_simp)
    have fw1_2_0 : w1.frozen? ⟨W.heap.size + 1 + 1, 0, none⟩ = false := frozen_gr (v := .int .u64 0) hw1 (by go_simp) (by go_simp)
    have cw1_2_1 : w1.cell? ⟨W.heap.size + 1 + 1, 1, none⟩ = some (.int .u64 0) := cell_gr hw1 (by go_simp)
    have fw1_2_1 : w1.frozen? ⟨W.heap.size + 1 + 1, 1, none⟩ = false := frozen_gr (v := .int .u64 0) hw1 (by go_simp) (by go_simp)
    have cw1_2_2 : w1.cell? ⟨W.heap.size + 1 + 1, 2, none⟩ = some (.int .u64 0) := cell_gr hw1 (by go_simp)
    have fw1_2_2 : w1.frozen? ⟨W.heap.size + 1 + 1, 2, none⟩ = false := frozen_gr (v := .int .u64 0) hw1 (by go_simp) (by go_simp)
    have zw1_2 : W.heap.size + 1 + 1 < w1.heap.size := World.block_lt_of_cell? _ _ cw1_2_0
    have gw1 : Gr W w1 := Gr.trans (by go_grown) hw1
    clear hw1
    go_wp2_with fail
    refine bodyPost_ret (v := .agg #[.int .u64 0, .int .u64 0, .int .u64 0]) (by simp [results, Try.results21, go_sem, *]) rfl ⟨rfl, by go_grown⟩
  · go_enter Try.func21, Try.ntmps21
    go_wp2_with fail
    go_at_call 58
    refine ((H1.out _ _ (by go_simp) (by go_simp) (by go_simp) (by go_simp) (by go_simp))).mono ?_
    rintro e w1 ⟨rfl, hw1⟩
    have cw1_0_0 : w1.cell? ⟨W.heap.size, 0, none⟩ = some (.int .i64 lx) := cell_gr hw1 (by go_simp)
    have cw1_0_1 : w1.cell? ⟨W.heap.size, 1, none⟩ = some (.int .i64 ly) := cell_gr hw1 (by go_simp)
    have cw1_0_2 : w1.cell? ⟨W.heap.size, 2, none⟩ = some (.int .i64 hx) := cell_gr hw1 (by go_simp)
    have cw1_0_3 : w1.cell? ⟨W.heap.size, 3, none⟩ = some (.int .i64 hy) := cell_gr hw1 (by go_simp)
    have zw1_0 : W.heap.size < w1.heap.size := World.block_lt_of_cell? _ _ cw1_0_0
    have cw1_1_0 : w1.cell? ⟨W.heap.size + 1, 0, none⟩ = some (.int .i64 px) := cell_gr hw1 (by go_simp)
    have cw1_1_1 : w1.cell? ⟨W.heap.size + 1, 1, none⟩ = some (.int .i64 py) := cell_gr hw1 (by go_simp)
    have zw1_1 : W.heap.size + 1 < w1.heap.size := World.block_lt_of_cell? _ _ cw1_1_0
    have cw1_2_0 : w1.cell? ⟨W.heap.size + 1 + 1, 0, none⟩ = some (.int .u64 0) := cell_gr hw1 (by go_simp)
    have fw1_2_0 : w1.frozen? ⟨W.heap.size + 1 + 1, 0, none⟩ = false := frozen_gr (v := .int .u64 0) hw1 (by go_simp) (by go_simp)
    have cw1_2_1 : w1.cell? ⟨W.heap.size + 1 + 1, 1, none⟩ = some (.int .u64 0) := cell_gr hw1 (by go_simp)
    have fw1_2_1 : w1.frozen? ⟨W.heap.size + 1 + 1, 1, none⟩ = false := frozen_gr (v := .int .u64 0) hw1 (by go_simp) (by go_simp)
    have cw1_2_2 : w1.cell? ⟨W.heap.size + 1 + 1, 2, none⟩ = some (.int .u64 0) := cell_gr hw1 (by go_simp)
    have fw1_2_2 : w1.frozen? ⟨W.heap.size + 1 + 1, 2, none⟩ = false := frozen_gr (v := .int .u64 0) hw1 (by go_simp) (by go_simp)
    have zw1_2 : W.heap.size + 1 + 1 < w1.heap.size := World.block_lt_of_cell? _ _ cw1_2_0
    have gw1 : Gr W w1 := Gr.trans (by go_grown) hw1
    clear hw1
    go_wp2_with fail
    go_at_call 60
    refine ((H2.out _)).mono ?_
    rintro e w2 ⟨rfl, hw2⟩
    have cw2_0_0 : w2.cell? ⟨W.heap.size, 0, none⟩ = some (.int .i64 lx) := cell_gr hw2 (by go_simp)
    have cw2_0_1 : w2.cell? ⟨W.heap.size, 1, none⟩ = some (.int .i64 ly) := cell_gr hw2 (by go_simp)
    have cw2_0_2 : w2.cell? ⟨W.heap.size, 2, none⟩ = some (.int .i64 hx) := cell_gr hw2 (by go_simp)
    have cw2_0_3 : w2.cell? ⟨W.heap.size, 3, none⟩ = some (.int .i64 hy) := cell_gr hw2 (by go_simp)
    have zw2_0 : W.heap.size < w2.heap.size := World.block_lt_of_cell? _ _ cw2_0_0
    have cw2_1_0 : w2.cell? ⟨W.heap.size + 1, 0, none⟩ = some (.int .i64 px) := cell_gr hw2 (by go_simp)
    have cw2_1_1 : w2.cell? ⟨W.heap.size + 1, 1, none⟩ = some (.int .i64 py) := cell_gr hw2 (by go_simp)
    have zw2_1 : W.heap.size + 1 < w2.heap.size := World.block_lt_of_cell? _ _ cw2_1_0
    have cw2_2_0 : w2.cell? ⟨W.heap.size + 1 + 1, 0, none⟩ = some (.int .u64 0) := cell_gr hw2 (by go_simp)
    have fw2_2_0 : w2.frozen? ⟨W.heap.size + 1 + 1, 0, none⟩ = false := frozen_gr (v := .int .u64 0) hw2 (by go_simp) (by go_simp)
    have cw2_2_1 : w2.cell? ⟨W.heap.size + 1 + 1, 1, none⟩ = some (.int .u64 0) := cell_gr hw2 (by go_simp)
    have fw2_2_1 : w2.frozen? ⟨W.heap.size + 1 + 1, 1, none⟩ = false := frozen_gr (v := .int .u64 0) hw2 (by go_simp) (by go_simp)
    have cw2_2_2 : w2.cell? ⟨W.heap.size + 1 + 1, 2, none⟩ = some (.int .u64 0) := cell_gr hw2 (by go_simp)
    have fw2_2_2 : w2.frozen? ⟨W.heap.size + 1 + 1, 2, none⟩ = false := frozen_gr (v := .int .u64 0) hw2 (by go_simp) (by go_simp)
    have zw2_2 : W.heap.size + 1 + 1 < w2.heap.size := World.block_lt_of_cell? _ _ cw2_2_0
    have gw2 : Gr W w2 := Gr.trans (by have gg := gw1; have gs := gg.size; go_grown) hw2
    clear hw2 gw1 zw1_0 cw1_0_0 cw1_0_1 cw1_0_2 cw1_0_3 zw1_1 cw1_1_0 cw1_1_1 zw1_2 cw1_2_0 fw1_2_0 cw1_2_1 fw1_2_1 cw1_2_2 fw1_2_2
    go_wp2_with fail
    refine bodyPost_ret (v := .agg #[.int .u64 0, .int .u64 0, .int .u64 0]) (by simp [results, Try.results21, go_sem, *]) rfl ⟨rfl, by go_grown⟩
theorem bey_near {lo hi v : Int} (h : lo ≤ hi) (h1 : -1073741823 ≤ lo ∧ lo ≤ 1073741823) (h2 : -1073741823 ≤ hi ∧ hi ≤ 1073741823) (h3 : -1073741823 ≤ v ∧ v ≤ 1073741823) : -2147483646 ≤ beyZ lo hi v ∧ beyZ lo hi v ≤ 2147483646 := by
  unfold beyZ
  split <;> (try split) <;> omega
set_option maxHeartbeats 1000000 in
set_option maxRecDepth 100000 in
theorem c_Dist (lx ly hx hy px py : Int) (W : World) (hq : boxB lx ly hx hy = true ∧ nearB px py = true) :
    Calls Try.prog 21 #[.agg #[.int .i64 lx, .int .i64 ly, .int .i64 hx, .int .i64 hy], .agg #[.int .i64 px, .int .i64 py]] W fun e w' => e = .returned (.agg #[.int .u64 0, .int .u64 (distZ lx ly hx hy px py), .int .u64 1]) ∧ Gr W w' := by
  have M : ∀ b w, b < w.heap.size → w.cell? ⟨b, 0, none⟩ = some (.int .i64 lx) → w.cell? ⟨b, 1, none⟩ = some (.int .i64 ly) → w.cell? ⟨b, 2, none⟩ = some (.int .i64 hx) → w.cell? ⟨b, 3, none⟩ = some (.int .i64 hy) →
      Calls Try.prog 58 #[.slice (some ⟨b, 0, none⟩) 1 1] w fun e w' => e = .returned (.bool true) ∧ Gr w w' := fun b w hb k0 k1 k2 k3 => by
    rw [← hq.1]; exact c_mayBe1 lx ly hx hy b w hb k0 k1 k2 k3
  have N := c_near px py
  rw [hq.2] at N
  have n1 := nearB_iff.1 (boxB_iff.1 hq.1).1.1
  have n2 := nearB_iff.1 (boxB_iff.1 hq.1).1.2
  have n3 := nearB_iff.1 hq.2
  have n4 := (boxB_iff.1 hq.1).2
  have B1 := c_beyond lx hx px n4.1 ⟨n1.1, n1.2.1⟩ ⟨n2.1, n2.2.1⟩ ⟨n3.1, n3.2.1⟩
  have B2 := c_beyond ly hy py n4.2 n1.2.2 n2.2.2 n3.2.2
  have Q := c_squares (beyZ lx hx px) (beyZ ly hy py) (bey_near n4.1 ⟨n1.1, n1.2.1⟩ ⟨n2.1, n2.2.1⟩ ⟨n3.1, n3.2.1⟩) (bey_near n4.2 n1.2.2 n2.2.2 n3.2.2)
  obtain ⟨z, hz⟩ : ∃ z, z = distZ lx ly hx hy px py := ⟨_, rfl⟩
  have hz' : beyZ lx hx px * beyZ lx hx px + beyZ ly hy py * beyZ ly hy py = z := hz.symm
  rw [← hz]
  rw [hz'] at Q
  have H1 := Lib.hid M
  have H2 := Lib.hid N
  have H3 := Lib.hid B1
  have H4 := Lib.hid B2
  have H5 := Lib.hid Q
  clear M N B1 B2 Q hq n1 n2 n3 n4 hz hz'
  go_enter Try.func21, Try.ntmps21
  go_wp2_with fail
  go_at_call 58
  refine ((H1.out _ _ (by go_simp) (by go_simp) (by go_simp) (by go_simp) (by go_simp))).mono ?_
  rintro e w1 ⟨rfl, hw1⟩
  have cw1_0_0 : w1.cell? ⟨W.heap.size, 0, none⟩ = some (.int .i64 lx) := cell_gr hw1 (by go_simp)
  have cw1_0_1 : w1.cell? ⟨W.heap.size, 1, none⟩ = some (.int .i64 ly) := cell_gr hw1 (by go_simp)
  have cw1_0_2 : w1.cell? ⟨W.heap.size, 2, none⟩ = some (.int .i64 hx) := cell_gr hw1 (by go_simp)
  have cw1_0_3 : w1.cell? ⟨W.heap.size, 3, none⟩ = some (.int .i64 hy) := cell_gr hw1 (by go_simp)
  have zw1_0 : W.heap.size < w1.heap.size := World.block_lt_of_cell? _ _ cw1_0_0
  have cw1_1_0 : w1.cell? ⟨W.heap.size + 1, 0, none⟩ = some (.int .i64 px) := cell_gr hw1 (by go_simp)
  have cw1_1_1 : w1.cell? ⟨W.heap.size + 1, 1, none⟩ = some (.int .i64 py) := cell_gr hw1 (by go_simp)
  have zw1_1 : W.heap.size + 1 < w1.heap.size := World.block_lt_of_cell? _ _ cw1_1_0
  have cw1_2_0 : w1.cell? ⟨W.heap.size + 1 + 1, 0, none⟩ = some (.int .u64 0) := cell_gr hw1 (by go_simp)
  have fw1_2_0 : w1.frozen? ⟨W.heap.size + 1 + 1, 0, none⟩ = false := frozen_gr (v := .int .u64 0) hw1 (by go_simp) (by go_simp)
  have cw1_2_1 : w1.cell? ⟨W.heap.size + 1 + 1, 1, none⟩ = some (.int .u64 0) := cell_gr hw1 (by go_simp)
  have fw1_2_1 : w1.frozen? ⟨W.heap.size + 1 + 1, 1, none⟩ = false := frozen_gr (v := .int .u64 0) hw1 (by go_simp) (by go_simp)
  have cw1_2_2 : w1.cell? ⟨W.heap.size + 1 + 1, 2, none⟩ = some (.int .u64 0) := cell_gr hw1 (by go_simp)
  have fw1_2_2 : w1.frozen? ⟨W.heap.size + 1 + 1, 2, none⟩ = false := frozen_gr (v := .int .u64 0) hw1 (by go_simp) (by go_simp)
  have zw1_2 : W.heap.size + 1 + 1 < w1.heap.size := World.block_lt_of_cell? _ _ cw1_2_0
  have gw1 : Gr W w1 := Gr.trans (by go_grown) hw1
  clear hw1
  go_wp2_with fail
  go_at_call 60
  refine ((H2.out _)).mono ?_
  rintro e w2 ⟨rfl, hw2⟩
  have cw2_0_0 : w2.cell? ⟨W.heap.size, 0, none⟩ = some (.int .i64 lx) := cell_gr hw2 (by go_simp)
  have cw2_0_1 : w2.cell? ⟨W.heap.size, 1, none⟩ = some (.int .i64 ly) := cell_gr hw2 (by go_simp)
  have cw2_0_2 : w2.cell? ⟨W.heap.size, 2, none⟩ = some (.int .i64 hx) := cell_gr hw2 (by go_simp)
  have cw2_0_3 : w2.cell? ⟨W.heap.size, 3, none⟩ = some (.int .i64 hy) := cell_gr hw2 (by go_simp)
  have zw2_0 : W.heap.size < w2.heap.size := World.block_lt_of_cell? _ _ cw2_0_0
  have cw2_1_0 : w2.cell? ⟨W.heap.size + 1, 0, none⟩ = some (.int .i64 px) := cell_gr hw2 (by go_simp)
  have cw2_1_1 : w2.cell? ⟨W.heap.size + 1, 1, none⟩ = some (.int .i64 py) := cell_gr hw2 (by go_simp)
  have zw2_1 : W.heap.size + 1 < w2.heap.size := World.block_lt_of_cell? _ _ cw2_1_0
  have cw2_2_0 : w2.cell? ⟨W.heap.size + 1 + 1, 0, none⟩ = some (.int .u64 0) := cell_gr hw2 (by go_simp)
  have fw2_2_0 : w2.frozen? ⟨W.heap.size + 1 + 1, 0, none⟩ = false := frozen_gr (v := .int .u64 0) hw2 (by go_simp) (by go_simp)
  have cw2_2_1 : w2.cell? ⟨W.heap.size + 1 + 1, 1, none⟩ = some (.int .u64 0) := cell_gr hw2 (by go_simp)
  have fw2_2_1 : w2.frozen? ⟨W.heap.size + 1 + 1, 1, none⟩ = false := frozen_gr (v := .int .u64 0) hw2 (by go_simp) (by go_simp)
  have cw2_2_2 : w2.cell? ⟨W.heap.size + 1 + 1, 2, none⟩ = some (.int .u64 0) := cell_gr hw2 (by go_simp)
  have fw2_2_2 : w2.frozen? ⟨W.heap.size + 1 + 1, 2, none⟩ = false := frozen_gr (v := .int .u64 0) hw2 (by go_simp) (by go_simp)
  have zw2_2 : W.heap.size + 1 + 1 < w2.heap.size := World.block_lt_of_cell? _ _ cw2_2_0
  have gw2 : Gr W w2 := Gr.trans (by have gg := gw1; have gs := gg.size; go_grown) hw2
  clear hw2 gw1 zw1_0 cw1_0_0 cw1_0_1 cw1_0_2 cw1_0_3 zw1_1 cw1_1_0 cw1_1_1 zw1_2 cw1_2_0 fw1_2_0 cw1_2_1 fw1_2_1 cw1_2_2 fw1_2_2
  go_wp2_with fail
  refine Hd.wp_region_tail 19 (by kernel_rfl) (by kernel_rfl) ?_
  intro KQ hKQ
  repeat (first | (refine Hd.wpG_skip (by decide) rfl ?_; simp only [Act.put, List.setIfInBounds_toArray, List.set_cons_zero, List.set_cons_succ]) | (refine Hd.wpG_want (by decide) rfl ?_; apply Exists.intro; refine ⟨?_, ?_⟩; (· intro wx gx; (obtain ⟨mx, rfl⟩ := gx); all_goals (apply Hd.gAt_of_quiet; intro K hK; go_big_quiet_op; first | exact hK _ rfl | (apply Exists.intro; refine ⟨fun _ => ?_, ?_⟩; (· (first | (go_at_call 64; first | ((with_reducible refine ((H3.out _)).mono ?_); rintro e w' ⟨rfl, hg⟩; exact ⟨rfl, spread_gr hg⟩) | ((with_reducible refine ((H4.out _)).mono ?_); rintro e w' ⟨rfl, hg⟩; exact ⟨rfl, spread_gr hg⟩)) | (go_at_call 63; first | ((with_reducible refine ((H5.out _)).mono ?_); rintro e w' ⟨rfl, hg⟩; exact ⟨rfl, spread_gr hg⟩)))); exact hK _ rfl))); try simp only [Act.put, List.setIfInBounds_toArray, List.set_cons_zero, List.set_cons_succ]))
  refine Hd.wpG_nil (hKQ _ ?_)
  clear hKQ KQ
  intro w3 hhw3
  have hw3 := Hd.gr_of_spread hhw3
  have cw3_0_0 : w3.cell? ⟨W.heap.size, 0, none⟩ = some (.int .i64 lx) := cell_gr hw3 (by go_simp)
  have cw3_0_1 : w3.cell? ⟨W.heap.size, 1, none⟩ = some (.int .i64 ly) := cell_gr hw3 (by go_simp)
  have cw3_0_2 : w3.cell? ⟨W.heap.size, 2, none⟩ = some (.int .i64 hx) := cell_gr hw3 (by go_simp)
  have cw3_0_3 : w3.cell? ⟨W.heap.size, 3, none⟩ = some (.int .i64 hy) := cell_gr hw3 (by go_simp)
  have zw3_0 : W.heap.size < w3.heap.size := World.block_lt_of_cell? _ _ cw3_0_0
  have cw3_1_0 : w3.cell? ⟨W.heap.size + 1, 0, none⟩ = some (.int .i64 px) := cell_gr hw3 (by go_simp)
  have cw3_1_1 : w3.cell? ⟨W.heap.size + 1, 1, none⟩ = some (.int .i64 py) := cell_gr hw3 (by go_simp)
  have zw3_1 : W.heap.size + 1 < w3.heap.size := World.block_lt_of_cell? _ _ cw3_1_0
  have cw3_2_0 : w3.cell? ⟨W.heap.size + 1 + 1, 0, none⟩ = some (.int .u64 0) := cell_gr hw3 (by go_simp)
  have fw3_2_0 : w3.frozen? ⟨W.heap.size + 1 + 1, 0, none⟩ = false := frozen_gr (v := .int .u64 0) hw3 (by go_simp) (by go_simp)
  have cw3_2_1 : w3.cell? ⟨W.heap.size + 1 + 1, 1, none⟩ = some (.int .u64 0) := cell_gr hw3 (by go_simp)
  have fw3_2_1 : w3.frozen? ⟨W.heap.size + 1 + 1, 1, none⟩ = false := frozen_gr (v := .int .u64 0) hw3 (by go_simp) (by go_simp)
  have cw3_2_2 : w3.cell? ⟨W.heap.size + 1 + 1, 2, none⟩ = some (.int .u64 0) := cell_gr hw3 (by go_simp)
  have fw3_2_2 : w3.frozen? ⟨W.heap.size + 1 + 1, 2, none⟩ = false := frozen_gr (v := .int .u64 0) hw3 (by go_simp) (by go_simp)
  have zw3_2 : W.heap.size + 1 + 1 < w3.heap.size := World.block_lt_of_cell? _ _ cw3_2_0
  have gw3 : Gr W w3 := Gr.trans (by have gg := gw2; have gs := gg.size; go_grown) hw3
  clear hw3 hhw3 gw2 zw2_0 cw2_0_0 cw2_0_1 cw2_0_2 cw2_0_3 zw2_1 cw2_1_0 cw2_1_1 zw2_2 cw2_2_0 fw2_2_0 cw2_2_1 fw2_2_1 cw2_2_2 fw2_2_2
  go_wp2_with fail
  refine bodyPost_ret (v := .agg #[.int .u64 0, .int .u64 z, .int .u64 1]) (by simp [results, Try.results21, go_sem, *]) rfl ⟨rfl, by go_grown⟩

theorem p_Orient (w : World) : Calls Try.prog 55 #[.agg #[.int .i64 0, .int .i64 0], .agg #[.int .i64 1, .int .i64 0], .agg #[.int .i64 0, .int .i64 1]] w fun e w' => e = .returned (.int .i64 1) ∧ Gr w w' := c_Orient 0 0 1 0 0 1 w
theorem p_Dist (w : World) : Calls Try.prog 21 #[.agg #[.int .i64 0, .int .i64 0, .int .i64 2, .int .i64 2], .agg #[.int .i64 5, .int .i64 6]] w fun e w' => e = .returned (.agg #[.int .u64 0, .int .u64 25, .int .u64 1]) ∧ Gr w w' := c_Dist 0 0 2 2 5 6 w ⟨rfl, rfl⟩
theorem p_Has (w : World) : Calls Try.prog 19 #[.agg #[.int .i64 0, .int .i64 0, .int .i64 2, .int .i64 2], .agg #[.int .i64 1, .int .i64 1]] w fun e w' => e = .returned (.bool true) ∧ Gr w w' := c_Has 0 0 2 2 1 1 w
theorem p_awake (W : World) : Calls Try.prog 15 #[] W fun e w' => e = .returned (.bool true) ∧ Gr W w' := by
  go_enter Try.func15, Try.ntmps15
  go_wp2_with fail
  go_at_call 55
  refine ((p_Orient _)).mono ?_
  rintro e w1 ⟨rfl, hw1⟩
  have cw1_0_0 : w1.cell? ⟨W.heap.size, 0, none⟩ = some (.int .i64 0) := cell_gr hw1 (by go_simp)
  have cw1_0_1 : w1.cell? ⟨W.heap.size, 1, none⟩ = some (.int .i64 0) := cell_gr hw1 (by go_simp)
  have cw1_0_2 : w1.cell? ⟨W.heap.size, 2, none⟩ = some (.int .i64 2) := cell_gr hw1 (by go_simp)
  have cw1_0_3 : w1.cell? ⟨W.heap.size, 3, none⟩ = some (.int .i64 2) := cell_gr hw1 (by go_simp)
  have zw1_0 : W.heap.size < w1.heap.size := World.block_lt_of_cell? _ _ cw1_0_0
  have gw1 : Gr W w1 := Gr.trans (by go_grown) hw1
  clear hw1
  go_wp2_with fail
  go_at_call 21
  refine ((p_Dist _)).mono ?_
  rintro e w2 ⟨rfl, hw2⟩
  have cw2_0_0 : w2.cell? ⟨W.heap.size, 0, none⟩ = some (.int .i64 0) := cell_gr hw2 (by go_simp)
  have cw2_0_1 : w2.cell? ⟨W.heap.size, 1, none⟩ = some (.int .i64 0) := cell_gr hw2 (by go_simp)
  have cw2_0_2 : w2.cell? ⟨W.heap.size, 2, none⟩ = some (.int .i64 2) := cell_gr hw2 (by go_simp)
  have cw2_0_3 : w2.cell? ⟨W.heap.size, 3, none⟩ = some (.int .i64 2) := cell_gr hw2 (by go_simp)
  have zw2_0 : W.heap.size < w2.heap.size := World.block_lt_of_cell? _ _ cw2_0_0
  have gw2 : Gr W w2 := Gr.trans (by have gg := gw1; have gs := gg.size; go_grown) hw2
  clear hw2 gw1 zw1_0 cw1_0_0 cw1_0_1 cw1_0_2 cw1_0_3
  go_wp2_with fail
  go_at_call 19
  refine ((p_Has _)).mono ?_
  rintro e w3 ⟨rfl, hw3⟩
  have cw3_0_0 : w3.cell? ⟨W.heap.size, 0, none⟩ = some (.int .i64 0) := cell_gr hw3 (by go_simp)
  have cw3_0_1 : w3.cell? ⟨W.heap.size, 1, none⟩ = some (.int .i64 0) := cell_gr hw3 (by go_simp)
  have cw3_0_2 : w3.cell? ⟨W.heap.size, 2, none⟩ = some (.int .i64 2) := cell_gr hw3 (by go_simp)
  have cw3_0_3 : w3.cell? ⟨W.heap.size, 3, none⟩ = some (.int .i64 2) := cell_gr hw3 (by go_simp)
  have zw3_0 : W.heap.size < w3.heap.size := World.block_lt_of_cell? _ _ cw3_0_0
  have gw3 : Gr W w3 := Gr.trans (by have gg := gw2; have gs := gg.size; go_grown) hw3
  clear hw3 gw2 zw2_0 cw2_0_0 cw2_0_1 cw2_0_2 cw2_0_3
  go_wp2_with fail
  go_ret
  exact ⟨rfl, by go_grown⟩

theorem cross_turn (ax ay bx by' cx cy : Int) : crossZ bx by' cx cy ax ay = crossZ ax ay bx by' cx cy := by
  unfold crossZ
  cases nearB ax ay <;> cases nearB bx by' <;> cases nearB cx cy <;> simp <;> grind
theorem cross_swap (ax ay bx by' cx cy : Int) : crossZ bx by' ax ay cx cy = -crossZ ax ay bx by' cx cy := by
  unfold crossZ
  cases nearB ax ay <;> cases nearB bx by' <;> cases nearB cx cy <;> simp <;> grind
theorem cross_same (ax ay bx by' : Int) : crossZ ax ay ax ay bx by' = 0 := by
  unfold crossZ
  cases nearB ax ay <;> cases nearB bx by' <;> simp
theorem cross_bound (ax ay bx by' cx cy : Int) : -9223372019674906632 ≤ crossZ ax ay bx by' cx cy ∧ crossZ ax ay bx by' cx cy ≤ 9223372019674906632 := by
  unfold crossZ
  split
  · rename_i hq
    have hq' : (nearB ax ay = true ∧ nearB bx by' = true) ∧ nearB cx cy = true := by simpa using hq
    have n1 := nearB_iff.1 hq'.1.1
    have n2 := nearB_iff.1 hq'.1.2
    have n3 := nearB_iff.1 hq'.2
    have m1 := mul_near (x := bx - ax) (y := cy - ay) (by omega) (by omega)
    have m2 := mul_near (x := by' - ay) (y := cx - ax) (by omega) (by omega)
    omega
  · omega
theorem cmpZ_neg (x : Int) : cmpZ (-x) 0 = -cmpZ x 0 := by unfold cmpZ; split <;> split <;> (try split) <;> (try split) <;> omega
end Go.Proofs.Ythjhhnolkiejpaa
