/- ratio.Min -/
import Derived.Test.YthjhhnolkiejpaaDoorRd
namespace Go.Proofs.YthjhhnolkiejpaaDoor
set_option linter.unusedVariables false
open Go.ChangeShapes Go.WideShapes Go.ChangeAt Go.RowKit

/-- How the i-th stands to the k-th. -/
def cmpI (H L D : Nat → Nat) (i k : Nat) : Int := cmpD (val (H i) (L i)) (D i) (val (H k) (L k)) (D k)
/-- The first of the least ones among the first k. -/
def bestI (H L D : Nat → Nat) : Nat → Nat
  | 0 => 0
  | k + 1 => if k = 0 then 0 else if cmpI H L D k (bestI H L D k) < 0 then k else bestI H L D k
/-- A number of the least one; nought of none. -/
def curI (H L D F : Nat → Nat) (k : Nat) : Nat := if k = 0 then 0 else F (bestI H L D k)
theorem best_lt (H L D : Nat → Nat) (n : Nat) : bestI H L D (n + 1) < n + 1 := by
  induction n with
  | zero => unfold bestI; simp
  | succ n ih =>
    unfold bestI
    split
    · omega
    · split <;> omega
theorem cur_one (H L D F : Nat → Nat) : curI H L D F 1 = F 0 := by
  unfold curI bestI; simp
theorem cur_less {H L D F : Nat → Nat} {k : Nat} (hk : k ≠ 0) (h : cmpI H L D k (bestI H L D k) < 0) : curI H L D F (k + 1) = F k := by
  unfold curI
  rw [if_neg (by omega)]
  show F (if k = 0 then 0 else if cmpI H L D k (bestI H L D k) < 0 then k else bestI H L D k) = F k
  rw [if_neg hk, if_pos h]
theorem cur_not {H L D F : Nat → Nat} {k : Nat} (hk : k ≠ 0) (h : ¬ cmpI H L D k (bestI H L D k) < 0) : curI H L D F (k + 1) = curI H L D F k := by
  unfold curI
  rw [if_neg (by omega), if_neg hk]
  show F (if k = 0 then 0 else if cmpI H L D k (bestI H L D k) < 0 then k else bestI H L D k) = F (bestI H L D k)
  rw [if_neg hk, if_neg h]
set_option maxHeartbeats 4000000 in
set_option maxRecDepth 100000 in
theorem c_Min (n cap : Nat) (H L D : Nat → Nat) (a : Option Addr) (b off : Nat) (ha : 0 < n → a = some ⟨b, off, none⟩) (w : World) (hn : n ≤ 200)
    (hw : ∀ k, k < n → Wd (H k) ∧ Wd (L k) ∧ Wd (D k))
    (hc : ∀ k, k < n → w.cell? ⟨b, off + k * 3, none⟩ = some (.int .u64 (H k)) ∧ w.cell? ⟨b, off + k * 3 + 1, none⟩ = some (.int .u64 (L k)) ∧ w.cell? ⟨b, off + k * 3 + 2, none⟩ = some (.int .u64 (D k))) :
    Calls Tryd.prog 30 #[.slice a n cap] w fun e w' => e = .returned (.agg #[.int .u64 (curI H L D H n), .int .u64 (curI H L D L n), .int .u64 (curI H L D D n)]) ∧ Gr w w' := by
  have HC := Lib.hid hc
  have HW := Lib.hid hw
  have HA := Lib.hid ha
  clear hc hw ha
  go_enter Tryd.func30, Tryd.ntmps30
  go_wp2_with fail
  go_loopg [9] n (fun k v wr => ∃ i : Nat, i + k = n ∧ v = .int .i64 i ∧ wr.cell? ⟨w.heap.size, 0, none⟩ = some (.int .u64 0) ∧ wr.cell? ⟨w.heap.size, 1, none⟩ = some (.int .u64 0) ∧ wr.cell? ⟨w.heap.size, 2, none⟩ = some (.int .u64 0) ∧ wr.frozen? ⟨w.heap.size, 0, none⟩ = false ∧ wr.frozen? ⟨w.heap.size, 1, none⟩ = false ∧ wr.frozen? ⟨w.heap.size, 2, none⟩ = false ∧ wr.cell? ⟨w.heap.size + 1, 0, none⟩ = some (.int .u64 (curI H L D H i)) ∧ wr.cell? ⟨w.heap.size + 1, 1, none⟩ = some (.int .u64 (curI H L D L i)) ∧ wr.cell? ⟨w.heap.size + 1, 2, none⟩ = some (.int .u64 (curI H L D D i)) ∧ wr.frozen? ⟨w.heap.size + 1, 0, none⟩ = false ∧ wr.frozen? ⟨w.heap.size + 1, 1, none⟩ = false ∧ wr.frozen? ⟨w.heap.size + 1, 2, none⟩ = false ∧ Gr w wr)
  case atStart => exact ⟨0, by omega, rfl, by go_simp, by go_simp, by go_simp, by go_simp, by go_simp, by go_simp, by unfold curI; go_simp, by unfold curI; go_simp, by unfold curI; go_simp, by go_simp, by go_simp, by go_simp, by go_grown⟩
  case round =>
    obtain ⟨i, hk, rfl, c0, c1, c2, f0, f1, f2, a0, a1, a2, g0, g1, g2, gwr⟩ := hrel
    have zwr0 := World.block_lt_of_cell? _ _ c0
    have zwr := World.block_lt_of_cell? _ _ a0
    by_cases hin : i < n
    · obtain rfl := HA.out (by omega)
      have ti : decide ((i : Int) < (n : Int)) = true := decide_eq_true (by omega)
      have ti2 : decide (i < n) = true := decide_eq_true hin
      have ti3 : (i : Int) < (n : Int) := by omega
      have hblt := World.block_lt_of_cell? _ _ (HC.out i hin).1
      have s0 := cell_gr gwr (HC.out i hin).1
      have s1 := cell_gr gwr (HC.out i hin).2.1
      have s2 := cell_gr gwr (HC.out i hin).2.2
      obtain ⟨xa, ea⟩ : ∃ x, x = curI H L D H i := ⟨_, rfl⟩
      obtain ⟨xb, eb⟩ : ∃ x, x = curI H L D L i := ⟨_, rfl⟩
      obtain ⟨xc, ec⟩ : ∃ x, x = curI H L D D i := ⟨_, rfl⟩
      rw [← ea] at a0
      rw [← eb] at a1
      rw [← ec] at a2
      by_cases h0 : i = 0
      · have z1 : ((i : Int) == 0) = true := by simp; omega
        have z2 : (i == 0) = true := by simp; omega
        have EJ : curI H L D H (i + 1) = H i ∧ curI H L D L (i + 1) = L i ∧ curI H L D D (i + 1) = D i := by rw [h0]; exact ⟨cur_one .., cur_one .., cur_one ..⟩
        have E := Lib.hid EJ
        clear EJ h0
        clear ea eb ec
        go_wp2_with fail
        go_roundg (n - (i + 1))
        case measure => omega
        case rel => exact ⟨i + 1, by omega, by go_num, by go_simp, by go_simp, by go_simp, by go_simp, by go_simp, by go_simp, by rw [E.out.1]; go_simp, by rw [E.out.2.1]; go_simp, by rw [E.out.2.2]; go_simp, by go_simp, by go_simp, by go_simp, by have gg := gwr; have gs := gg.size; go_grown⟩
      · have z1 : ((i : Int) == 0) = false := by simp; omega
        have z2 : (i == 0) = false := by simp; omega
        have hwi := HW.out i hin
        have bl : bestI H L D i < n := by
          obtain ⟨m, rfl⟩ : ∃ m, i = m + 1 := ⟨i - 1, by omega⟩
          have := best_lt H L D m
          omega
        have hwb := HW.out _ bl
        have CM := c_rtCompare (H i) (L i) (D i) xa xb xc hwi.1 hwi.2.1 hwi.2.2 (by rw [ea]; unfold curI; rw [if_neg h0]; exact hwb.1) (by rw [eb]; unfold curI; rw [if_neg h0]; exact hwb.2.1) (by rw [ec]; unfold curI; rw [if_neg h0]; exact hwb.2.2)
        have ek : cmpD (val (H i) (L i)) (D i) (val xa xb) xc = cmpI H L D i (bestI H L D i) := by
          rw [ea, eb, ec]; unfold cmpI curI; rw [if_neg h0, if_neg h0, if_neg h0]
        rw [ek] at CM
        have HY := Lib.hid (And.intro ea (And.intro eb ec))
        clear ea eb ec hwi hwb ek bl
        by_cases hlt : cmpI H L D i (bestI H L D i) < 0
        · have E := Lib.hid (And.intro (cur_less (F := H) h0 hlt) (And.intro (cur_less (F := L) h0 hlt) (cur_less (F := D) h0 hlt)))
          obtain ⟨k', ek'⟩ : ∃ k', k' = cmpI H L D i (bestI H L D i) := ⟨_, rfl⟩
          rw [← ek'] at CM hlt
          have H1 := Lib.hid CM
          clear CM ek'
          go_wp2_with fail
          go_at_call 27
          refine ((H1.out _)).mono ?_
          rintro e w1 ⟨rfl, hw1⟩
          have cw1_0_0 : w1.cell? ⟨w.heap.size, 0, none⟩ = some (.int .u64 0) := cell_gr hw1 (by go_simp)
          have fw1_0_0 : w1.frozen? ⟨w.heap.size, 0, none⟩ = false := frozen_gr (v := .int .u64 0) hw1 (by go_simp) (by go_simp)
          have cw1_0_1 : w1.cell? ⟨w.heap.size, 1, none⟩ = some (.int .u64 0) := cell_gr hw1 (by go_simp)
          have fw1_0_1 : w1.frozen? ⟨w.heap.size, 1, none⟩ = false := frozen_gr (v := .int .u64 0) hw1 (by go_simp) (by go_simp)
          have cw1_0_2 : w1.cell? ⟨w.heap.size, 2, none⟩ = some (.int .u64 0) := cell_gr hw1 (by go_simp)
          have fw1_0_2 : w1.frozen? ⟨w.heap.size, 2, none⟩ = false := frozen_gr (v := .int .u64 0) hw1 (by go_simp) (by go_simp)
          have zw1_0 : w.heap.size < w1.heap.size := World.block_lt_of_cell? _ _ cw1_0_0
          have cw1_1_0 : w1.cell? ⟨w.heap.size + 1, 0, none⟩ = some (.int .u64 xa) := cell_gr hw1 (by go_simp)
          have fw1_1_0 : w1.frozen? ⟨w.heap.size + 1, 0, none⟩ = false := frozen_gr (v := .int .u64 xa) hw1 (by go_simp) (by go_simp)
          have cw1_1_1 : w1.cell? ⟨w.heap.size + 1, 1, none⟩ = some (.int .u64 xb) := cell_gr hw1 (by go_simp)
          have fw1_1_1 : w1.frozen? ⟨w.heap.size + 1, 1, none⟩ = false := frozen_gr (v := .int .u64 xb) hw1 (by go_simp) (by go_simp)
          have cw1_1_2 : w1.cell? ⟨w.heap.size + 1, 2, none⟩ = some (.int .u64 xc) := cell_gr hw1 (by go_simp)
          have fw1_1_2 : w1.frozen? ⟨w.heap.size + 1, 2, none⟩ = false := frozen_gr (v := .int .u64 xc) hw1 (by go_simp) (by go_simp)
          have zw1_1 : w.heap.size + 1 < w1.heap.size := World.block_lt_of_cell? _ _ cw1_1_0
          have cw1_2_0 : w1.cell? ⟨wr.heap.size, 0, none⟩ = some (.int .u64 (H i)) := cell_gr hw1 (by go_simp)
          have cw1_2_1 : w1.cell? ⟨wr.heap.size, 1, none⟩ = some (.int .u64 (L i)) := cell_gr hw1 (by go_simp)
          have cw1_2_2 : w1.cell? ⟨wr.heap.size, 2, none⟩ = some (.int .u64 (D i)) := cell_gr hw1 (by go_simp)
          have zw1_2 : wr.heap.size < w1.heap.size := World.block_lt_of_cell? _ _ cw1_2_0
          have gw1 : Gr w w1 := Gr.trans (by have gg := gwr; have gs := gg.size; go_grown) hw1
          clear hw1 gwr
          go_wp2_with fail
          go_roundg (n - (i + 1))
          case measure => omega
          case rel => exact ⟨i + 1, by omega, by go_num, by go_simp, by go_simp, by go_simp, by go_simp, by go_simp, by go_simp, by rw [E.out.1]; go_simp, by rw [E.out.2.1]; go_simp, by rw [E.out.2.2]; go_simp, by go_simp, by go_simp, by go_simp, by have gg := gw1; have gs := gg.size; go_grown⟩
        · have E := Lib.hid (And.intro (cur_not (F := H) h0 hlt) (And.intro (cur_not (F := L) h0 hlt) (cur_not (F := D) h0 hlt)))
          obtain ⟨k', ek'⟩ : ∃ k', k' = cmpI H L D i (bestI H L D i) := ⟨_, rfl⟩
          rw [← ek'] at CM hlt
          have H1 := Lib.hid CM
          clear CM ek'
          go_wp2_with fail
          go_at_call 27
          refine ((H1.out _)).mono ?_
          rintro e w1 ⟨rfl, hw1⟩
          have cw1_0_0 : w1.cell? ⟨w.heap.size, 0, none⟩ = some (.int .u64 0) := cell_gr hw1 (by go_simp)
          have fw1_0_0 : w1.frozen? ⟨w.heap.size, 0, none⟩ = false := frozen_gr (v := .int .u64 0) hw1 (by go_simp) (by go_simp)
          have cw1_0_1 : w1.cell? ⟨w.heap.size, 1, none⟩ = some (.int .u64 0) := cell_gr hw1 (by go_simp)
          have fw1_0_1 : w1.frozen? ⟨w.heap.size, 1, none⟩ = false := frozen_gr (v := .int .u64 0) hw1 (by go_simp) (by go_simp)
          have cw1_0_2 : w1.cell? ⟨w.heap.size, 2, none⟩ = some (.int .u64 0) := cell_gr hw1 (by go_simp)
          have fw1_0_2 : w1.frozen? ⟨w.heap.size, 2, none⟩ = false := frozen_gr (v := .int .u64 0) hw1 (by go_simp) (by go_simp)
          have zw1_0 : w.heap.size < w1.heap.size := World.block_lt_of_cell? _ _ cw1_0_0
          have cw1_1_0 : w1.cell? ⟨w.heap.size + 1, 0, none⟩ = some (.int .u64 xa) := cell_gr hw1 (by go_simp)
          have fw1_1_0 : w1.frozen? ⟨w.heap.size + 1, 0, none⟩ = false := frozen_gr (v := .int .u64 xa) hw1 (by go_simp) (by go_simp)
          have cw1_1_1 : w1.cell? ⟨w.heap.size + 1, 1, none⟩ = some (.int .u64 xb) := cell_gr hw1 (by go_simp)
          have fw1_1_1 : w1.frozen? ⟨w.heap.size + 1, 1, none⟩ = false := frozen_gr (v := .int .u64 xb) hw1 (by go_simp) (by go_simp)
          have cw1_1_2 : w1.cell? ⟨w.heap.size + 1, 2, none⟩ = some (.int .u64 xc) := cell_gr hw1 (by go_simp)
          have fw1_1_2 : w1.frozen? ⟨w.heap.size + 1, 2, none⟩ = false := frozen_gr (v := .int .u64 xc) hw1 (by go_simp) (by go_simp)
          have zw1_1 : w.heap.size + 1 < w1.heap.size := World.block_lt_of_cell? _ _ cw1_1_0
          have cw1_2_0 : w1.cell? ⟨wr.heap.size, 0, none⟩ = some (.int .u64 (H i)) := cell_gr hw1 (by go_simp)
          have cw1_2_1 : w1.cell? ⟨wr.heap.size, 1, none⟩ = some (.int .u64 (L i)) := cell_gr hw1 (by go_simp)
          have cw1_2_2 : w1.cell? ⟨wr.heap.size, 2, none⟩ = some (.int .u64 (D i)) := cell_gr hw1 (by go_simp)
          have zw1_2 : wr.heap.size < w1.heap.size := World.block_lt_of_cell? _ _ cw1_2_0
          have gw1 : Gr w w1 := Gr.trans (by have gg := gwr; have gs := gg.size; go_grown) hw1
          clear hw1 gwr
          go_wp2_with fail
          go_roundg (n - (i + 1))
          case measure => omega
          case rel => exact ⟨i + 1, by omega, by go_num, by go_simp, by go_simp, by go_simp, by go_simp, by go_simp, by go_simp, by rw [E.out.1, ← HY.out.1]; go_simp, by rw [E.out.2.1, ← HY.out.2.1]; go_simp, by rw [E.out.2.2, ← HY.out.2.2]; go_simp, by go_simp, by go_simp, by go_simp, by have gg := gw1; have gs := gg.size; go_grown⟩
    · obtain rfl : i = n := by omega
      obtain ⟨xa, ea⟩ : ∃ x, x = curI H L D H i := ⟨_, rfl⟩
      obtain ⟨xb, eb⟩ : ∃ x, x = curI H L D L i := ⟨_, rfl⟩
      obtain ⟨xc, ec⟩ : ∃ x, x = curI H L D D i := ⟨_, rfl⟩
      rw [← ea] at a0
      rw [← eb] at a1
      rw [← ec] at a2
      have HY := Lib.hid (And.intro ea (And.intro eb ec))
      clear ea eb ec
      go_wp2_with fail
      refine bodyPost_ret (v := .agg #[.int .u64 xa, .int .u64 xb, .int .u64 xc]) (by simp [results, Tryd.results30, go_sem, *]) rfl ⟨by rw [HY.out.1, HY.out.2.1, HY.out.2.2], by have gg := gwr; have gs := gg.size; go_grown⟩
end Go.Proofs.YthjhhnolkiejpaaDoor
