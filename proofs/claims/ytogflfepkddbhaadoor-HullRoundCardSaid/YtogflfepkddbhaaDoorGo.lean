/- plane.Around of any points; ring.Box -/
import Derived.Test.YtogflfepkddbhaaDoorGk
import Derived.Test.YtogflfepkddbhaaDoorPa
namespace Go.Proofs.YtogflfepkddbhaaDoor
set_option linter.unusedVariables false
open Go.ChangeShapes Go.WideShapes Go.ChangeAt Go.RowKit

/-- The least of the first n; 0 of none. -/
def mnN (F : Nat → Int) : Nat → Int
  | 0 => 0
  | n + 1 => if n = 0 then F n else minZ (mnN F n) (F n)
def mxN (F : Nat → Int) : Nat → Int
  | 0 => 0
  | n + 1 => if n = 0 then F n else maxZ (mxN F n) (F n)
theorem mnN_0 (F : Nat → Int) {n : Nat} (h : n = 0) : mnN F (n + 1) = F n := by unfold mnN; rw [if_pos h]
theorem mnN_s (F : Nat → Int) {n : Nat} (h : ¬ n = 0) : mnN F (n + 1) = minZ (mnN F n) (F n) := by conv => lhs; unfold mnN; rw [if_neg h]
theorem mxN_0 (F : Nat → Int) {n : Nat} (h : n = 0) : mxN F (n + 1) = F n := by unfold mxN; rw [if_pos h]
theorem mxN_s (F : Nat → Int) {n : Nat} (h : ¬ n = 0) : mxN F (n + 1) = maxZ (mxN F n) (F n) := by conv => lhs; unfold mxN; rw [if_neg h]
set_option maxHeartbeats 4000000 in
set_option maxRecDepth 100000 in
theorem c_AroundN {n : Nat} {X Y : Nat → Int} {v : Value} (W : World) (h : Pts W v n X Y) (hn : n ≤ 1000000) :
    Calls Tryd.prog 43 #[v] W fun e w' => e = .returned (.agg #[.int .i64 (mnN X n), .int .i64 (mnN Y n), .int .i64 (mxN X n), .int .i64 (mxN Y n)]) ∧ Gr W w' := by
  obtain ⟨ad, cap, B, off, rfl, h1, h2, h3, h4⟩ := h
  have H3 := Lib.hid h3
  have H4 := Lib.hid h4
  have hn9 : (n : Int) ≤ 1000000 := by omega
  clear h3 h4
  go_enter Tryd.func43, Tryd.ntmps43
  go_wp2_with fail
  go_loopg [10] n (fun k u wr => ∃ i : Nat, u = .int .i64 i ∧ i ≤ n ∧ k = n - i ∧
    wr.cell? ⟨W.heap.size, 0, none⟩ = some (.int .i64 0) ∧ wr.cell? ⟨W.heap.size, 1, none⟩ = some (.int .i64 0) ∧ wr.cell? ⟨W.heap.size, 2, none⟩ = some (.int .i64 0) ∧ wr.cell? ⟨W.heap.size, 3, none⟩ = some (.int .i64 0) ∧
    wr.frozen? ⟨W.heap.size, 0, none⟩ = false ∧ wr.frozen? ⟨W.heap.size, 1, none⟩ = false ∧ wr.frozen? ⟨W.heap.size, 2, none⟩ = false ∧ wr.frozen? ⟨W.heap.size, 3, none⟩ = false ∧
    wr.cell? ⟨W.heap.size + 1, 0, none⟩ = some (.int .i64 (mnN X i)) ∧ wr.cell? ⟨W.heap.size + 1, 1, none⟩ = some (.int .i64 (mnN Y i)) ∧ wr.cell? ⟨W.heap.size + 1, 2, none⟩ = some (.int .i64 (mxN X i)) ∧ wr.cell? ⟨W.heap.size + 1, 3, none⟩ = some (.int .i64 (mxN Y i)) ∧
    wr.frozen? ⟨W.heap.size + 1, 0, none⟩ = false ∧ wr.frozen? ⟨W.heap.size + 1, 1, none⟩ = false ∧ wr.frozen? ⟨W.heap.size + 1, 2, none⟩ = false ∧ wr.frozen? ⟨W.heap.size + 1, 3, none⟩ = false ∧ Gr W wr)
  case atStart => exact ⟨0, rfl, Nat.zero_le _, by omega, by go_simp, by go_simp, by go_simp, by go_simp, by go_simp, by go_simp, by go_simp, by go_simp, (show _ = some (Value.int .i64 0) by go_simp), (show _ = some (Value.int .i64 0) by go_simp), (show _ = some (Value.int .i64 0) by go_simp), (show _ = some (Value.int .i64 0) by go_simp), by go_simp, by go_simp, by go_simp, by go_simp, by go_grown⟩
  case round =>
    obtain ⟨i, rfl, hi, hk, c0, c1, c2, c3, f0, f1, f2, f3, a0, a1, a2, a3, g0, g1, g2, g3, gwr⟩ := hrel
    have zwr0 : W.heap.size < wr.heap.size := World.block_lt_of_cell? _ _ c0
    have zwr : W.heap.size + 1 < wr.heap.size := World.block_lt_of_cell? _ _ a0
    by_cases hlt : i < n
    · have ti : decide ((i : Int) < (n : Int)) = true := decide_eq_true (by omega)
      have ti2 : decide (i < n) = true := decide_eq_true hlt
      have ti3 : (i : Int) < (n : Int) := by omega
      have hii : (i : Int) ≤ 1000000 := by omega
      have hmm : n - (i + 1) < gk := by omega
      obtain ⟨k0, k1⟩ := H4.out i hlt
      obtain rfl := H3.out (by omega)
      have s0 := cell_gr gwr k0
      have s1 := cell_gr gwr k1
      have zB : B < W.heap.size := World.block_lt_of_cell? _ _ k0
      have nB1 : ¬ B = W.heap.size + 1 := by omega
      have nB2 : ¬ W.heap.size + 1 = B := by omega
      have nB3 : ¬ B = W.heap.size := by omega
      have nB4 : ¬ W.heap.size = B := by omega
      have CJ := Lib.hid (c_join_self (X i) (Y i) (X i) (Y i))
      have CK := Lib.hid (c_join (mnN X i) (mnN Y i) (mxN X i) (mxN Y i) (X i) (Y i) (X i) (Y i))
      by_cases c : i = 0
      · have E := Lib.hid (And.intro (mnN_0 X c) (And.intro (mnN_0 Y c) (And.intro (mxN_0 X c) (mxN_0 Y c))))
        have u1 : ((i : Int) == 0) = true := by simp; omega
        have u2 : (i == 0) = true := by simp; omega
        generalize mnN X i = a at a0 CK
        generalize mnN Y i = b at a1 CK
        generalize mxN X i = d at a2 CK
        generalize mxN Y i = e at a3 CK
        generalize X i = x at *
        generalize Y i = y at *
        clear hk k0 k1 c CK
        go_wp2_with fail
        go_at_call 62
        refine ((CJ.out _)).mono ?_
        rintro e w1 ⟨rfl, hw1⟩
        have cw1_0_0 : w1.cell? ⟨W.heap.size, 0, none⟩ = some (.int .i64 0) := cell_gr hw1 (by go_simp)
        have fw1_0_0 : w1.frozen? ⟨W.heap.size, 0, none⟩ = false := frozen_gr (v := .int .i64 0) hw1 (by go_simp) (by go_simp)
        have cw1_0_1 : w1.cell? ⟨W.heap.size, 1, none⟩ = some (.int .i64 0) := cell_gr hw1 (by go_simp)
        have fw1_0_1 : w1.frozen? ⟨W.heap.size, 1, none⟩ = false := frozen_gr (v := .int .i64 0) hw1 (by go_simp) (by go_simp)
        have cw1_0_2 : w1.cell? ⟨W.heap.size, 2, none⟩ = some (.int .i64 0) := cell_gr hw1 (by go_simp)
        have fw1_0_2 : w1.frozen? ⟨W.heap.size, 2, none⟩ = false := frozen_gr (v := .int .i64 0) hw1 (by go_simp) (by go_simp)
        have cw1_0_3 : w1.cell? ⟨W.heap.size, 3, none⟩ = some (.int .i64 0) := cell_gr hw1 (by go_simp)
        have fw1_0_3 : w1.frozen? ⟨W.heap.size, 3, none⟩ = false := frozen_gr (v := .int .i64 0) hw1 (by go_simp) (by go_simp)
        have zw1_0 : W.heap.size < w1.heap.size := World.block_lt_of_cell? _ _ cw1_0_0
        have cw1_1_0 : w1.cell? ⟨W.heap.size + 1, 0, none⟩ = some (.int .i64 x) := cell_gr hw1 (by go_simp)
        have fw1_1_0 : w1.frozen? ⟨W.heap.size + 1, 0, none⟩ = false := frozen_gr (v := .int .i64 x) hw1 (by go_simp) (by go_simp)
        have cw1_1_1 : w1.cell? ⟨W.heap.size + 1, 1, none⟩ = some (.int .i64 y) := cell_gr hw1 (by go_simp)
        have fw1_1_1 : w1.frozen? ⟨W.heap.size + 1, 1, none⟩ = false := frozen_gr (v := .int .i64 y) hw1 (by go_simp) (by go_simp)
        have cw1_1_2 : w1.cell? ⟨W.heap.size + 1, 2, none⟩ = some (.int .i64 x) := cell_gr hw1 (by go_simp)
        have fw1_1_2 : w1.frozen? ⟨W.heap.size + 1, 2, none⟩ = false := frozen_gr (v := .int .i64 x) hw1 (by go_simp) (by go_simp)
        have cw1_1_3 : w1.cell? ⟨W.heap.size + 1, 3, none⟩ = some (.int .i64 y) := cell_gr hw1 (by go_simp)
        have fw1_1_3 : w1.frozen? ⟨W.heap.size + 1, 3, none⟩ = false := frozen_gr (v := .int .i64 y) hw1 (by go_simp) (by go_simp)
        have zw1_1 : W.heap.size + 1 < w1.heap.size := World.block_lt_of_cell? _ _ cw1_1_0
        have gw1 : Gr W w1 := Gr.trans (by have gg := gwr; have gs := gg.size; go_grown) hw1
        clear hw1 gwr
        go_wp2_with fail
        go_roundg (n - (i + 1))
        case measure => exact hmm
        case rel =>
          refine ⟨i + 1, by go_num, hlt, rfl, by go_simp, by go_simp, by go_simp, by go_simp, by go_simp, by go_simp, by go_simp, by go_simp, ?_, ?_, ?_, ?_, by go_simp, by go_simp, by go_simp, by go_simp, by have gg := gw1; have gs := gg.size; go_grown⟩
          · rw [E.out.1]; go_simp
          · rw [E.out.2.1]; go_simp
          · rw [E.out.2.2.1]; go_simp
          · rw [E.out.2.2.2]; go_simp
      · have E := Lib.hid (And.intro (mnN_s X c) (And.intro (mnN_s Y c) (And.intro (mxN_s X c) (mxN_s Y c))))
        have u1 : ((i : Int) == 0) = false := by simp; omega
        have u2 : (i == 0) = false := by simp; omega
        generalize mnN X i = a at a0 CK E
        generalize mnN Y i = b at a1 CK E
        generalize mxN X i = d at a2 CK E
        generalize mxN Y i = e at a3 CK E
        generalize X i = x at *
        generalize Y i = y at *
        generalize minZ a x = m1 at *
        generalize minZ b y = m2 at *
        generalize maxZ d x = m3 at *
        generalize maxZ e y = m4 at *
        clear hk k0 k1 c CJ
        go_wp2_with fail
        go_at_call 62
        refine ((CK.out _)).mono ?_
        rintro e w1 ⟨rfl, hw1⟩
        have cw1_0_0 : w1.cell? ⟨W.heap.size, 0, none⟩ = some (.int .i64 0) := cell_gr hw1 (by go_simp)
        have fw1_0_0 : w1.frozen? ⟨W.heap.size, 0, none⟩ = false := frozen_gr (v := .int .i64 0) hw1 (by go_simp) (by go_simp)
        have cw1_0_1 : w1.cell? ⟨W.heap.size, 1, none⟩ = some (.int .i64 0) := cell_gr hw1 (by go_simp)
        have fw1_0_1 : w1.frozen? ⟨W.heap.size, 1, none⟩ = false := frozen_gr (v := .int .i64 0) hw1 (by go_simp) (by go_simp)
        have cw1_0_2 : w1.cell? ⟨W.heap.size, 2, none⟩ = some (.int .i64 0) := cell_gr hw1 (by go_simp)
        have fw1_0_2 : w1.frozen? ⟨W.heap.size, 2, none⟩ = false := frozen_gr (v := .int .i64 0) hw1 (by go_simp) (by go_simp)
        have cw1_0_3 : w1.cell? ⟨W.heap.size, 3, none⟩ = some (.int .i64 0) := cell_gr hw1 (by go_simp)
        have fw1_0_3 : w1.frozen? ⟨W.heap.size, 3, none⟩ = false := frozen_gr (v := .int .i64 0) hw1 (by go_simp) (by go_simp)
        have zw1_0 : W.heap.size < w1.heap.size := World.block_lt_of_cell? _ _ cw1_0_0
        have cw1_1_0 : w1.cell? ⟨W.heap.size + 1, 0, none⟩ = some (.int .i64 a) := cell_gr hw1 (by go_simp)
        have fw1_1_0 : w1.frozen? ⟨W.heap.size + 1, 0, none⟩ = false := frozen_gr (v := .int .i64 a) hw1 (by go_simp) (by go_simp)
        have cw1_1_1 : w1.cell? ⟨W.heap.size + 1, 1, none⟩ = some (.int .i64 b) := cell_gr hw1 (by go_simp)
        have fw1_1_1 : w1.frozen? ⟨W.heap.size + 1, 1, none⟩ = false := frozen_gr (v := .int .i64 b) hw1 (by go_simp) (by go_simp)
        have cw1_1_2 : w1.cell? ⟨W.heap.size + 1, 2, none⟩ = some (.int .i64 d) := cell_gr hw1 (by go_simp)
        have fw1_1_2 : w1.frozen? ⟨W.heap.size + 1, 2, none⟩ = false := frozen_gr (v := .int .i64 d) hw1 (by go_simp) (by go_simp)
        have cw1_1_3 : w1.cell? ⟨W.heap.size + 1, 3, none⟩ = some (.int .i64 e) := cell_gr hw1 (by go_simp)
        have fw1_1_3 : w1.frozen? ⟨W.heap.size + 1, 3, none⟩ = false := frozen_gr (v := .int .i64 e) hw1 (by go_simp) (by go_simp)
        have zw1_1 : W.heap.size + 1 < w1.heap.size := World.block_lt_of_cell? _ _ cw1_1_0
        have gw1 : Gr W w1 := Gr.trans (by have gg := gwr; have gs := gg.size; go_grown) hw1
        clear hw1 gwr
        go_wp2_with fail
        go_roundg (n - (i + 1))
        case measure => exact hmm
        case rel =>
          refine ⟨i + 1, by go_num, hlt, rfl, by go_simp, by go_simp, by go_simp, by go_simp, by go_simp, by go_simp, by go_simp, by go_simp, ?_, ?_, ?_, ?_, by go_simp, by go_simp, by go_simp, by go_simp, by have gg := gw1; have gs := gg.size; go_grown⟩
          · rw [E.out.1]; go_simp
          · rw [E.out.2.1]; go_simp
          · rw [E.out.2.2.1]; go_simp
          · rw [E.out.2.2.2]; go_simp
    · obtain rfl : i = n := by omega
      have ti : decide ((i : Int) < (i : Int)) = false := decide_eq_false (by omega)
      have ti2 : decide (i < i) = false := decide_eq_false (by omega)
      clear hk
      go_wp2_with fail
      refine bodyPost_ret (v := .agg #[.int .i64 (mnN X i), .int .i64 (mnN Y i), .int .i64 (mxN X i), .int .i64 (mxN Y i)]) (by simp [results, Tryd.results43, go_sem, *]) rfl ⟨rfl, by have gg := gwr; have gs := gg.size; go_grown⟩
end Go.Proofs.YtogflfepkddbhaaDoor
