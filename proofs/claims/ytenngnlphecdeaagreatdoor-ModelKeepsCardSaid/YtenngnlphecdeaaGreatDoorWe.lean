/- model: any shape; a copy of a map; what is told of a map of one object -/
import Derived.Test.YtenngnlphecdeaaGreatDoorWd
namespace Go.Proofs.YtenngnlphecdeaaGreatDoor
set_option linter.unusedVariables false
set_option linter.unusedSimpArgs false
open Go.ChangeShapes Go.WideShapes Go.ChangeAt Go.RowKit Go.Maps Go.Sort Go.Shelf

def shK (q : Nat) : Int := if q = 0 then 1 else if q = 1 then 2 else if q = 2 then 3 else 4
def shN (q : Nat) : Nat := if q = 0 then 1 else if q = 1 then 1 else if q = 2 then 2 else 4
def shX (q : Nat) (x : Int) (k : Nat) : Int := if q = 0 then x else if q = 1 then x else if q = 2 then (if k = 0 then x else x + 4) else (if k = 0 then x else if k = 1 then x + 12 else if k = 2 then x + 12 else x + 8)
def shY (q : Nat) (x : Int) (k : Nat) : Int := if q = 0 then x else if q = 1 then x + 4 else if q = 2 then (if k = 0 then x else x + 4) else (if k = 0 then x else if k = 1 then x else if k = 2 then x + 12 else x + 4)
theorem boxN_ok {a b c d : Int} (h1 : nearB a b = true) (h2 : nearB c d = true) (h3 : a ≤ c) (h4 : b ≤ d) : boxN a b c d = 0 := by
  unfold boxN
  rw [h1, h2, decide_eq_true h3, decide_eq_true h4]
  rfl
theorem near_sm {a b : Int} (h1 : 0 ≤ a) (h2 : a ≤ 2000) (h3 : 0 ≤ b) (h4 : b ≤ 2000) : nearB a b = true := nearB_iff.2 ⟨by omega, by omega, by omega, by omega⟩
theorem sh_ring0 : (Rg.ringC 4 (shX 3 0) (shY 3 0)).1 = 0 := by decide
theorem sh_near {x : Int} (h1 : 0 ≤ x) (h2 : x ≤ 900) (k : Nat) : nearB (shX 3 x k) (shY 3 x k) = true := by
  have a : 0 ≤ shX 3 x k ∧ shX 3 x k ≤ 2000 := by unfold shX; simp only [show ¬ (3 : Nat) = 0 by decide, show ¬ (3 : Nat) = 1 by decide, show ¬ (3 : Nat) = 2 by decide, if_false]; split <;> (try split) <;> (try split) <;> omega
  have b : 0 ≤ shY 3 x k ∧ shY 3 x k ≤ 2000 := by unfold shY; simp only [show ¬ (3 : Nat) = 0 by decide, show ¬ (3 : Nat) = 1 by decide, show ¬ (3 : Nat) = 2 by decide, if_false]; split <;> (try split) <;> (try split) <;> omega
  exact near_sm a.1 a.2 b.1 b.2
theorem sh_mv (x : Int) : shX 3 x = (fun k => shX 3 0 k + x) ∧ shY 3 x = (fun k => shY 3 0 k + x) := by
  refine ⟨funext fun k => ?_, funext fun k => ?_⟩
  · unfold shX; simp only [show ¬ (3 : Nat) = 0 by decide, show ¬ (3 : Nat) = 1 by decide, show ¬ (3 : Nat) = 2 by decide, if_false]; split <;> (try split) <;> (try split) <;> omega
  · unfold shY; simp only [show ¬ (3 : Nat) = 0 by decide, show ¬ (3 : Nat) = 1 by decide, show ¬ (3 : Nat) = 2 by decide, if_false]; split <;> (try split) <;> (try split) <;> omega
theorem chg_sh {q : Nat} (hq : q < 4) {x id : Int} (h1 : 0 ≤ x) (h2 : x ≤ 900) (h3 : 0 ≤ id) (h4 : id ≤ 1000) : chgC 1 id (shK q) (shN q) (shX q x) (shY q x) = 0 := by
  rw [chgC_1 h3 (by omega)]
  rcases (by omega : q = 0 ∨ q = 1 ∨ q = 2 ∨ q = 3) with rfl | rfl | rfl | rfl
  · show objC 1 1 _ _ = 0
    rw [objC_1, if_pos rfl]
    exact boxN_ok (near_sm h1 (by show x ≤ 2000; omega) h1 (by show x ≤ 2000; omega)) (near_sm h1 (by show x ≤ 2000; omega) h1 (by show x ≤ 2000; omega)) (Int.le_refl _) (Int.le_refl _)
  · show objC 2 1 _ _ = 0
    rw [objC_2, if_pos rfl]
    exact boxN_ok (a := x) (b := 0) (c := x + 4) (d := 0) (near_sm h1 (by omega) (by omega) (by omega)) (near_sm (by omega) (by omega) (by omega) (by omega)) (by omega) (by omega)
  · show objC 3 2 _ _ = 0
    rw [objC_3, if_pos rfl]
    exact boxN_ok (a := x) (b := x) (c := x + 4) (d := x + 4) (near_sm h1 (by omega) (by omega) (by omega)) (near_sm (by omega) (by omega) (by omega) (by omega)) (by omega) (by omega)
  · show objC 4 4 _ _ = 0
    rw [objC_4]
    have a := sh_mv x
    have b1 := fun k (_ : k < 4) => sh_near (x := 0) (by decide) (by decide) k
    have b2 := fun k (_ : k < 4) => sh_near h1 h2 k
    rw [a.1, a.2] at b2 ⊢
    rw [Rg.mv_ring (n := 4) (X := shX 3 0) (Y := shY 3 0) (x := x) (y := x) b1 b2]
    exact sh_ring0
def ShTo (W : World) (q : Nat) (x : Int) (e : Ending) (w' : World) : Prop := ∃ B, e = .returned (.agg #[.int .i64 (shK q), .slice (some ⟨B, 0, none⟩) (shN q) (shN q)]) ∧ (∀ k, k < shN q → w'.cell? ⟨B, 0 + k * 2, none⟩ = some (.int .i64 (shX q x k)) ∧ w'.cell? ⟨B, 0 + k * 2 + 1, none⟩ = some (.int .i64 (shY q x k))) ∧ w'.frozen? ⟨B, 0, none⟩ = false ∧ W.heap.size ≤ B ∧ Gr W w'
set_option maxHeartbeats 2000000 in
set_option maxRecDepth 100000 in
theorem md_shape_0 (kd x : Int) (hk : -9223372036854775808 ≤ kd ∧ kd ≤ 9223372036854775807) (hq : kd % 4 = 0) (h1 : 0 ≤ x) (h2 : x ≤ 900) (W : World) : Calls Tryz.prog 6 #[.int .i64 kd, .int .i64 x, .int .i64 x, .int .i64 3] W (ShTo W 0 x) := by
  have RX := Lib.hid (fun (W : World) => show Calls Tryz.prog 14 #[.int .i64 x, .int .i64 1000] W fun e w' => e = .returned (.int .i64 x) ∧ Gr W w' from by
    have := c_RoundE x (by omega) (by omega) 1000 (by decide) (by decide) W
    rwa [show x % ((1000 : Nat) : Int) = x from Int.emod_eq_of_lt h1 (by omega)] at this)
  have R3 := Lib.hid (fun (W : World) => show Calls Tryz.prog 14 #[.int .i64 3, .int .i64 50] W fun e w' => e = .returned (.int .i64 3) ∧ Gr W w' from c_RoundE 3 (by decide) (by decide) 50 (by decide) (by decide) W)
  have R4 := Lib.hid (fun (W : World) => show Calls Tryz.prog 14 #[.int .i64 kd, .int .i64 4] W fun e w' => e = .returned (.int .i64 0) ∧ Gr W w' from by
    have := c_RoundE kd hk.1 hk.2 4 (by decide) (by decide) W
    rwa [show kd % ((4 : Nat) : Int) = 0 from hq] at this)
  have e4 : wrap64 (x + 4) = x + 4 := wr_small (by omega)
  have e5 : IntKind.i64.wrap (x + 4) = x + 4 := wk_small (by omega)
  have e12 : wrap64 (x + 12) = x + 12 := wr_small (by omega)
  have e13 : IntKind.i64.wrap (x + 12) = x + 12 := wk_small (by omega)
  have e8 : wrap64 (x + 8) = x + 8 := wr_small (by omega)
  have e9 : IntKind.i64.wrap (x + 8) = x + 8 := wk_small (by omega)
  clear hq hk h1 h2
  go_enter Tryz.func6, Tryz.ntmps6
  go_wp2_with fail
  go_at_call 14
  (with_reducible refine ((RX.out _)).mono ?_)
  rintro e w1 ⟨rfl, hw1⟩
  have cw1_0_0 : w1.cell? ⟨W.heap.size, 0, none⟩ = some (.int .i64 0) := cell_gr hw1 (by go_simp)
  have fw1_0_0 : w1.frozen? ⟨W.heap.size, 0, none⟩ = false := frozen_gr (v := .int .i64 0) hw1 (by go_simp) (by go_simp)
  have cw1_0_1 : w1.cell? ⟨W.heap.size, 1, none⟩ = some (.slice none 0 0) := cell_gr hw1 (by go_simp)
  have fw1_0_1 : w1.frozen? ⟨W.heap.size, 1, none⟩ = false := frozen_gr (v := .slice none 0 0) hw1 (by go_simp) (by go_simp)
  have zw1_0 : W.heap.size < w1.heap.size := World.block_lt_of_cell? _ _ cw1_0_0
  have gw1 : Gr W w1 := Gr.trans (by go_grown) hw1
  clear hw1
  go_wp2_with fail
  go_at_call 14
  (with_reducible refine ((RX.out _)).mono ?_)
  rintro e w2 ⟨rfl, hw2⟩
  have cw2_0_0 : w2.cell? ⟨W.heap.size, 0, none⟩ = some (.int .i64 0) := cell_gr hw2 (by go_simp)
  have fw2_0_0 : w2.frozen? ⟨W.heap.size, 0, none⟩ = false := frozen_gr (v := .int .i64 0) hw2 (by go_simp) (by go_simp)
  have cw2_0_1 : w2.cell? ⟨W.heap.size, 1, none⟩ = some (.slice none 0 0) := cell_gr hw2 (by go_simp)
  have fw2_0_1 : w2.frozen? ⟨W.heap.size, 1, none⟩ = false := frozen_gr (v := .slice none 0 0) hw2 (by go_simp) (by go_simp)
  have zw2_0 : W.heap.size < w2.heap.size := World.block_lt_of_cell? _ _ cw2_0_0
  have gw2 : Gr W w2 := Gr.trans (by have gg := gw1; have gs := gg.size; go_grown) hw2
  clear hw2 gw1 zw1_0 cw1_0_0 fw1_0_0 cw1_0_1 fw1_0_1
  go_wp2_with fail
  go_at_call 14
  (with_reducible refine ((R3.out _)).mono ?_)
  rintro e w3 ⟨rfl, hw3⟩
  have cw3_0_0 : w3.cell? ⟨W.heap.size, 0, none⟩ = some (.int .i64 0) := cell_gr hw3 (by go_simp)
  have fw3_0_0 : w3.frozen? ⟨W.heap.size, 0, none⟩ = false := frozen_gr (v := .int .i64 0) hw3 (by go_simp) (by go_simp)
  have cw3_0_1 : w3.cell? ⟨W.heap.size, 1, none⟩ = some (.slice none 0 0) := cell_gr hw3 (by go_simp)
  have fw3_0_1 : w3.frozen? ⟨W.heap.size, 1, none⟩ = false := frozen_gr (v := .slice none 0 0) hw3 (by go_simp) (by go_simp)
  have zw3_0 : W.heap.size < w3.heap.size := World.block_lt_of_cell? _ _ cw3_0_0
  have gw3 : Gr W w3 := Gr.trans (by have gg := gw2; have gs := gg.size; go_grown) hw3
  clear hw3 gw2 zw2_0 cw2_0_0 fw2_0_0 cw2_0_1 fw2_0_1
  go_wp2_with fail
  go_at_call 14
  (with_reducible refine ((R4.out _)).mono ?_)
  rintro e w4 ⟨rfl, hw4⟩
  have cw4_0_0 : w4.cell? ⟨W.heap.size, 0, none⟩ = some (.int .i64 0) := cell_gr hw4 (by go_simp)
  have fw4_0_0 : w4.frozen? ⟨W.heap.size, 0, none⟩ = false := frozen_gr (v := .int .i64 0) hw4 (by go_simp) (by go_simp)
  have cw4_0_1 : w4.cell? ⟨W.heap.size, 1, none⟩ = some (.slice none 0 0) := cell_gr hw4 (by go_simp)
  have fw4_0_1 : w4.frozen? ⟨W.heap.size, 1, none⟩ = false := frozen_gr (v := .slice none 0 0) hw4 (by go_simp) (by go_simp)
  have zw4_0 : W.heap.size < w4.heap.size := World.block_lt_of_cell? _ _ cw4_0_0
  have gw4 : Gr W w4 := Gr.trans (by have gg := gw3; have gs := gg.size; go_grown) hw4
  clear hw4 gw3 zw3_0 cw3_0_0 fw3_0_0 cw3_0_1 fw3_0_1
  have s4 := gw4.size
  have HG := Lib.hid gw4
  go_wp2_with fail
  refine bodyPost_ret (res_obj (p := 8) (N := W.heap.size) (k := 1) (u := .slice (some ⟨w4.heap.size, 0, none⟩) 1 1) rfl rfl (by go_simp) (by go_simp)) rfl ?_
  refine ⟨w4.heap.size, rfl, fun k hk => ?_, by go_simp, s4, by have gg := HG.out; have gs := gg.size; go_grown⟩
  · have hk' : k < 1 := hk
    rcases (by omega : k = 0) with rfl
    · show World.cell? _ ⟨w4.heap.size, 0, none⟩ = some (.int .i64 (x)) ∧ World.cell? _ ⟨w4.heap.size, 1, none⟩ = some (.int .i64 (x))
      exact ⟨by go_simp, by go_simp⟩
set_option maxHeartbeats 2000000 in
set_option maxRecDepth 100000 in
theorem md_shape_1 (kd x : Int) (hk : -9223372036854775808 ≤ kd ∧ kd ≤ 9223372036854775807) (hq : kd % 4 = 1) (h1 : 0 ≤ x) (h2 : x ≤ 900) (W : World) : Calls Tryz.prog 6 #[.int .i64 kd, .int .i64 x, .int .i64 x, .int .i64 3] W (ShTo W 1 x) := by
  have RX := Lib.hid (fun (W : World) => show Calls Tryz.prog 14 #[.int .i64 x, .int .i64 1000] W fun e w' => e = .returned (.int .i64 x) ∧ Gr W w' from by
    have := c_RoundE x (by omega) (by omega) 1000 (by decide) (by decide) W
    rwa [show x % ((1000 : Nat) : Int) = x from Int.emod_eq_of_lt h1 (by omega)] at this)
  have R3 := Lib.hid (fun (W : World) => show Calls Tryz.prog 14 #[.int .i64 3, .int .i64 50] W fun e w' => e = .returned (.int .i64 3) ∧ Gr W w' from c_RoundE 3 (by decide) (by decide) 50 (by decide) (by decide) W)
  have R4 := Lib.hid (fun (W : World) => show Calls Tryz.prog 14 #[.int .i64 kd, .int .i64 4] W fun e w' => e = .returned (.int .i64 1) ∧ Gr W w' from by
    have := c_RoundE kd hk.1 hk.2 4 (by decide) (by decide) W
    rwa [show kd % ((4 : Nat) : Int) = 1 from hq] at this)
  have e4 : wrap64 (x + 4) = x + 4 := wr_small (by omega)
  have e5 : IntKind.i64.wrap (x + 4) = x + 4 := wk_small (by omega)
  have e12 : wrap64 (x + 12) = x + 12 := wr_small (by omega)
  have e13 : IntKind.i64.wrap (x + 12) = x + 12 := wk_small (by omega)
  have e8 : wrap64 (x + 8) = x + 8 := wr_small (by omega)
  have e9 : IntKind.i64.wrap (x + 8) = x + 8 := wk_small (by omega)
  clear hq hk h1 h2
  go_enter Tryz.func6, Tryz.ntmps6
  go_wp2_with fail
  go_at_call 14
  (with_reducible refine ((RX.out _)).mono ?_)
  rintro e w1 ⟨rfl, hw1⟩
  have cw1_0_0 : w1.cell? ⟨W.heap.size, 0, none⟩ = some (.int .i64 0) := cell_gr hw1 (by go_simp)
  have fw1_0_0 : w1.frozen? ⟨W.heap.size, 0, none⟩ = false := frozen_gr (v := .int .i64 0) hw1 (by go_simp) (by go_simp)
  have cw1_0_1 : w1.cell? ⟨W.heap.size, 1, none⟩ = some (.slice none 0 0) := cell_gr hw1 (by go_simp)
  have fw1_0_1 : w1.frozen? ⟨W.heap.size, 1, none⟩ = false := frozen_gr (v := .slice none 0 0) hw1 (by go_simp) (by go_simp)
  have zw1_0 : W.heap.size < w1.heap.size := World.block_lt_of_cell? _ _ cw1_0_0
  have gw1 : Gr W w1 := Gr.trans (by go_grown) hw1
  clear hw1
  go_wp2_with fail
  go_at_call 14
  (with_reducible refine ((RX.out _)).mono ?_)
  rintro e w2 ⟨rfl, hw2⟩
  have cw2_0_0 : w2.cell? ⟨W.heap.size, 0, none⟩ = some (.int .i64 0) := cell_gr hw2 (by go_simp)
  have fw2_0_0 : w2.frozen? ⟨W.heap.size, 0, none⟩ = false := frozen_gr (v := .int .i64 0) hw2 (by go_simp) (by go_simp)
  have cw2_0_1 : w2.cell? ⟨W.heap.size, 1, none⟩ = some (.slice none 0 0) := cell_gr hw2 (by go_simp)
  have fw2_0_1 : w2.frozen? ⟨W.heap.size, 1, none⟩ = false := frozen_gr (v := .slice none 0 0) hw2 (by go_simp) (by go_simp)
  have zw2_0 : W.heap.size < w2.heap.size := World.block_lt_of_cell? _ _ cw2_0_0
  have gw2 : Gr W w2 := Gr.trans (by have gg := gw1; have gs := gg.size; go_grown) hw2
  clear hw2 gw1 zw1_0 cw1_0_0 fw1_0_0 cw1_0_1 fw1_0_1
  go_wp2_with fail
  go_at_call 14
  (with_reducible refine ((R3.out _)).mono ?_)
  rintro e w3 ⟨rfl, hw3⟩
  have cw3_0_0 : w3.cell? ⟨W.heap.size, 0, none⟩ = some (.int .i64 0) := cell_gr hw3 (by go_simp)
  have fw3_0_0 : w3.frozen? ⟨W.heap.size, 0, none⟩ = false := frozen_gr (v := .int .i64 0) hw3 (by go_simp) (by go_simp)
  have cw3_0_1 : w3.cell? ⟨W.heap.size, 1, none⟩ = some (.slice none 0 0) := cell_gr hw3 (by go_simp)
  have fw3_0_1 : w3.frozen? ⟨W.heap.size, 1, none⟩ = false := frozen_gr (v := .slice none 0 0) hw3 (by go_simp) (by go_simp)
  have zw3_0 : W.heap.size < w3.heap.size := World.block_lt_of_cell? _ _ cw3_0_0
  have gw3 : Gr W w3 := Gr.trans (by have gg := gw2; have gs := gg.size; go_grown) hw3
  clear hw3 gw2 zw2_0 cw2_0_0 fw2_0_0 cw2_0_1 fw2_0_1
  go_wp2_with fail
  go_at_call 14
  (with_reducible refine ((R4.out _)).mono ?_)
  rintro e w4 ⟨rfl, hw4⟩
  have cw4_0_0 : w4.cell? ⟨W.heap.size, 0, none⟩ = some (.int .i64 0) := cell_gr hw4 (by go_simp)
  have fw4_0_0 : w4.frozen? ⟨W.heap.size, 0, none⟩ = false := frozen_gr (v := .int .i64 0) hw4 (by go_simp) (by go_simp)
  have cw4_0_1 : w4.cell? ⟨W.heap.size, 1, none⟩ = some (.slice none 0 0) := cell_gr hw4 (by go_simp)
  have fw4_0_1 : w4.frozen? ⟨W.heap.size, 1, none⟩ = false := frozen_gr (v := .slice none 0 0) hw4 (by go_simp) (by go_simp)
  have zw4_0 : W.heap.size < w4.heap.size := World.block_lt_of_cell? _ _ cw4_0_0
  have gw4 : Gr W w4 := Gr.trans (by have gg := gw3; have gs := gg.size; go_grown) hw4
  clear hw4 gw3 zw3_0 cw3_0_0 fw3_0_0 cw3_0_1 fw3_0_1
  have s4 := gw4.size
  have HG := Lib.hid gw4
  go_wp2_with fail
  refine bodyPost_ret (res_obj (p := 8) (N := W.heap.size) (k := 2) (u := .slice (some ⟨w4.heap.size, 0, none⟩) 1 1) rfl rfl (by go_simp) (by go_simp)) rfl ?_
  refine ⟨w4.heap.size, rfl, fun k hk => ?_, by go_simp, s4, by have gg := HG.out; have gs := gg.size; go_grown⟩
  · have hk' : k < 1 := hk
    rcases (by omega : k = 0) with rfl
    · show World.cell? _ ⟨w4.heap.size, 0, none⟩ = some (.int .i64 (x)) ∧ World.cell? _ ⟨w4.heap.size, 1, none⟩ = some (.int .i64 (x + 4))
      exact ⟨by go_simp, by go_simp⟩
set_option maxHeartbeats 2000000 in
set_option maxRecDepth 100000 in
theorem md_shape_2 (kd x : Int) (hk : -9223372036854775808 ≤ kd ∧ kd ≤ 9223372036854775807) (hq : kd % 4 = 2) (h1 : 0 ≤ x) (h2 : x ≤ 900) (W : World) : Calls Tryz.prog 6 #[.int .i64 kd, .int .i64 x, .int .i64 x, .int .i64 3] W (ShTo W 2 x) := by
  have RX := Lib.hid (fun (W : World) => show Calls Tryz.prog 14 #[.int .i64 x, .int .i64 1000] W fun e w' => e = .returned (.int .i64 x) ∧ Gr W w' from by
    have := c_RoundE x (by omega) (by omega) 1000 (by decide) (by decide) W
    rwa [show x % ((1000 : Nat) : Int) = x from Int.emod_eq_of_lt h1 (by omega)] at this)
  have R3 := Lib.hid (fun (W : World) => show Calls Tryz.prog 14 #[.int .i64 3, .int .i64 50] W fun e w' => e = .returned (.int .i64 3) ∧ Gr W w' from c_RoundE 3 (by decide) (by decide) 50 (by decide) (by decide) W)
  have R4 := Lib.hid (fun (W : World) => show Calls Tryz.prog 14 #[.int .i64 kd, .int .i64 4] W fun e w' => e = .returned (.int .i64 2) ∧ Gr W w' from by
    have := c_RoundE kd hk.1 hk.2 4 (by decide) (by decide) W
    rwa [show kd % ((4 : Nat) : Int) = 2 from hq] at this)
  have e4 : wrap64 (x + 4) = x + 4 := wr_small (by omega)
  have e5 : IntKind.i64.wrap (x + 4) = x + 4 := wk_small (by omega)
  have e12 : wrap64 (x + 12) = x + 12 := wr_small (by omega)
  have e13 : IntKind.i64.wrap (x + 12) = x + 12 := wk_small (by omega)
  have e8 : wrap64 (x + 8) = x + 8 := wr_small (by omega)
  have e9 : IntKind.i64.wrap (x + 8) = x + 8 := wk_small (by omega)
  clear hq hk h1 h2
  go_enter Tryz.func6, Tryz.ntmps6
  go_wp2_with fail
  go_at_call 14
  (with_reducible refine ((RX.out _)).mono ?_)
  rintro e w1 ⟨rfl, hw1⟩
  have cw1_0_0 : w1.cell? ⟨W.heap.size, 0, none⟩ = some (.int .i64 0) := cell_gr hw1 (by go_simp)
  have fw1_0_0 : w1.frozen? ⟨W.heap.size, 0, none⟩ = false := frozen_gr (v := .int .i64 0) hw1 (by go_simp) (by go_simp)
  have cw1_0_1 : w1.cell? ⟨W.heap.size, 1, none⟩ = some (.slice none 0 0) := cell_gr hw1 (by go_simp)
  have fw1_0_1 : w1.frozen? ⟨W.heap.size, 1, none⟩ = false := frozen_gr (v := .slice none 0 0) hw1 (by go_simp) (by go_simp)
  have zw1_0 : W.heap.size < w1.heap.size := World.block_lt_of_cell? _ _ cw1_0_0
  have gw1 : Gr W w1 := Gr.trans (by go_grown) hw1
  clear hw1
  go_wp2_with fail
  go_at_call 14
  (with_reducible refine ((RX.out _)).mono ?_)
  rintro e w2 ⟨rfl, hw2⟩
  have cw2_0_0 : w2.cell? ⟨W.heap.size, 0, none⟩ = some (.int .i64 0) := cell_gr hw2 (by go_simp)
  have fw2_0_0 : w2.frozen? ⟨W.heap.size, 0, none⟩ = false := frozen_gr (v := .int .i64 0) hw2 (by go_simp) (by go_simp)
  have cw2_0_1 : w2.cell? ⟨W.heap.size, 1, none⟩ = some (.slice none 0 0) := cell_gr hw2 (by go_simp)
  have fw2_0_1 : w2.frozen? ⟨W.heap.size, 1, none⟩ = false := frozen_gr (v := .slice none 0 0) hw2 (by go_simp) (by go_simp)
  have zw2_0 : W.heap.size < w2.heap.size := World.block_lt_of_cell? _ _ cw2_0_0
  have gw2 : Gr W w2 := Gr.trans (by have gg := gw1; have gs := gg.size; go_grown) hw2
  clear hw2 gw1 zw1_0 cw1_0_0 fw1_0_0 cw1_0_1 fw1_0_1
  go_wp2_with fail
  go_at_call 14
  (with_reducible refine ((R3.out _)).mono ?_)
  rintro e w3 ⟨rfl, hw3⟩
  have cw3_0_0 : w3.cell? ⟨W.heap.size, 0, none⟩ = some (.int .i64 0) := cell_gr hw3 (by go_simp)
  have fw3_0_0 : w3.frozen? ⟨W.heap.size, 0, none⟩ = false := frozen_gr (v := .int .i64 0) hw3 (by go_simp) (by go_simp)
  have cw3_0_1 : w3.cell? ⟨W.heap.size, 1, none⟩ = some (.slice none 0 0) := cell_gr hw3 (by go_simp)
  have fw3_0_1 : w3.frozen? ⟨W.heap.size, 1, none⟩ = false := frozen_gr (v := .slice none 0 0) hw3 (by go_simp) (by go_simp)
  have zw3_0 : W.heap.size < w3.heap.size := World.block_lt_of_cell? _ _ cw3_0_0
  have gw3 : Gr W w3 := Gr.trans (by have gg := gw2; have gs := gg.size; go_grown) hw3
  clear hw3 gw2 zw2_0 cw2_0_0 fw2_0_0 cw2_0_1 fw2_0_1
  go_wp2_with fail
  go_at_call 14
  (with_reducible refine ((R4.out _)).mono ?_)
  rintro e w4 ⟨rfl, hw4⟩
  have cw4_0_0 : w4.cell? ⟨W.heap.size, 0, none⟩ = some (.int .i64 0) := cell_gr hw4 (by go_simp)
  have fw4_0_0 : w4.frozen? ⟨W.heap.size, 0, none⟩ = false := frozen_gr (v := .int .i64 0) hw4 (by go_simp) (by go_simp)
  have cw4_0_1 : w4.cell? ⟨W.heap.size, 1, none⟩ = some (.slice none 0 0) := cell_gr hw4 (by go_simp)
  have fw4_0_1 : w4.frozen? ⟨W.heap.size, 1, none⟩ = false := frozen_gr (v := .slice none 0 0) hw4 (by go_simp) (by go_simp)
  have zw4_0 : W.heap.size < w4.heap.size := World.block_lt_of_cell? _ _ cw4_0_0
  have gw4 : Gr W w4 := Gr.trans (by have gg := gw3; have gs := gg.size; go_grown) hw4
  clear hw4 gw3 zw3_0 cw3_0_0 fw3_0_0 cw3_0_1 fw3_0_1
  have s4 := gw4.size
  have HG := Lib.hid gw4
  go_wp2_with fail
  refine bodyPost_ret (res_obj (p := 8) (N := W.heap.size) (k := 3) (u := .slice (some ⟨w4.heap.size, 0, none⟩) 2 2) rfl rfl (by go_simp) (by go_simp)) rfl ?_
  refine ⟨w4.heap.size, rfl, fun k hk => ?_, by go_simp, s4, by have gg := HG.out; have gs := gg.size; go_grown⟩
  · have hk' : k < 2 := hk
    rcases (by omega : k = 0 ∨ k = 1) with rfl | rfl
    · show World.cell? _ ⟨w4.heap.size, 0, none⟩ = some (.int .i64 (x)) ∧ World.cell? _ ⟨w4.heap.size, 1, none⟩ = some (.int .i64 (x))
      exact ⟨by go_simp, by go_simp⟩
    · show World.cell? _ ⟨w4.heap.size, 2, none⟩ = some (.int .i64 (x + 4)) ∧ World.cell? _ ⟨w4.heap.size, 3, none⟩ = some (.int .i64 (x + 4))
      exact ⟨by go_simp, by go_simp⟩
set_option maxHeartbeats 2000000 in
set_option maxRecDepth 100000 in
theorem md_shape_3 (kd x : Int) (hk : -9223372036854775808 ≤ kd ∧ kd ≤ 9223372036854775807) (hq : kd % 4 = 3) (h1 : 0 ≤ x) (h2 : x ≤ 900) (W : World) : Calls Tryz.prog 6 #[.int .i64 kd, .int .i64 x, .int .i64 x, .int .i64 3] W (ShTo W 3 x) := by
  have RX := Lib.hid (fun (W : World) => show Calls Tryz.prog 14 #[.int .i64 x, .int .i64 1000] W fun e w' => e = .returned (.int .i64 x) ∧ Gr W w' from by
    have := c_RoundE x (by omega) (by omega) 1000 (by decide) (by decide) W
    rwa [show x % ((1000 : Nat) : Int) = x from Int.emod_eq_of_lt h1 (by omega)] at this)
  have R3 := Lib.hid (fun (W : World) => show Calls Tryz.prog 14 #[.int .i64 3, .int .i64 50] W fun e w' => e = .returned (.int .i64 3) ∧ Gr W w' from c_RoundE 3 (by decide) (by decide) 50 (by decide) (by decide) W)
  have R4 := Lib.hid (fun (W : World) => show Calls Tryz.prog 14 #[.int .i64 kd, .int .i64 4] W fun e w' => e = .returned (.int .i64 3) ∧ Gr W w' from by
    have := c_RoundE kd hk.1 hk.2 4 (by decide) (by decide) W
    rwa [show kd % ((4 : Nat) : Int) = 3 from hq] at this)
  have e4 : wrap64 (x + 4) = x + 4 := wr_small (by omega)
  have e5 : IntKind.i64.wrap (x + 4) = x + 4 := wk_small (by omega)
  have e12 : wrap64 (x + 12) = x + 12 := wr_small (by omega)
  have e13 : IntKind.i64.wrap (x + 12) = x + 12 := wk_small (by omega)
  have e8 : wrap64 (x + 8) = x + 8 := wr_small (by omega)
  have e9 : IntKind.i64.wrap (x + 8) = x + 8 := wk_small (by omega)
  clear hq hk h1 h2
  go_enter Tryz.func6, Tryz.ntmps6
  go_wp2_with fail
  go_at_call 14
  (with_reducible refine ((RX.out _)).mono ?_)
  rintro e w1 ⟨rfl, hw1⟩
  have cw1_0_0 : w1.cell? ⟨W.heap.size, 0, none⟩ = some (.int .i64 0) := cell_gr hw1 (by go_simp)
  have fw1_0_0 : w1.frozen? ⟨W.heap.size, 0, none⟩ = false := frozen_gr (v := .int .i64 0) hw1 (by go_simp) (by go_simp)
  have cw1_0_1 : w1.cell? ⟨W.heap.size, 1, none⟩ = some (.slice none 0 0) := cell_gr hw1 (by go_simp)
  have fw1_0_1 : w1.frozen? ⟨W.heap.size, 1, none⟩ = false := frozen_gr (v := .slice none 0 0) hw1 (by go_simp) (by go_simp)
  have zw1_0 : W.heap.size < w1.heap.size := World.block_lt_of_cell? _ _ cw1_0_0
  have gw1 : Gr W w1 := Gr.trans (by go_grown) hw1
  clear hw1
  go_wp2_with fail
  go_at_call 14
  (with_reducible refine ((RX.out _)).mono ?_)
  rintro e w2 ⟨rfl, hw2⟩
  have cw2_0_0 : w2.cell? ⟨W.heap.size, 0, none⟩ = some (.int .i64 0) := cell_gr hw2 (by go_simp)
  have fw2_0_0 : w2.frozen? ⟨W.heap.size, 0, none⟩ = false := frozen_gr (v := .int .i64 0) hw2 (by go_simp) (by go_simp)
  have cw2_0_1 : w2.cell? ⟨W.heap.size, 1, none⟩ = some (.slice none 0 0) := cell_gr hw2 (by go_simp)
  have fw2_0_1 : w2.frozen? ⟨W.heap.size, 1, none⟩ = false := frozen_gr (v := .slice none 0 0) hw2 (by go_simp) (by go_simp)
  have zw2_0 : W.heap.size < w2.heap.size := World.block_lt_of_cell? _ _ cw2_0_0
  have gw2 : Gr W w2 := Gr.trans (by have gg := gw1; have gs := gg.size; go_grown) hw2
  clear hw2 gw1 zw1_0 cw1_0_0 fw1_0_0 cw1_0_1 fw1_0_1
  go_wp2_with fail
  go_at_call 14
  (with_reducible refine ((R3.out _)).mono ?_)
  rintro e w3 ⟨rfl, hw3⟩
  have cw3_0_0 : w3.cell? ⟨W.heap.size, 0, none⟩ = some (.int .i64 0) := cell_gr hw3 (by go_simp)
  have fw3_0_0 : w3.frozen? ⟨W.heap.size, 0, none⟩ = false := frozen_gr (v := .int .i64 0) hw3 (by go_simp) (by go_simp)
  have cw3_0_1 : w3.cell? ⟨W.heap.size, 1, none⟩ = some (.slice none 0 0) := cell_gr hw3 (by go_simp)
  have fw3_0_1 : w3.frozen? ⟨W.heap.size, 1, none⟩ = false := frozen_gr (v := .slice none 0 0) hw3 (by go_simp) (by go_simp)
  have zw3_0 : W.heap.size < w3.heap.size := World.block_lt_of_cell? _ _ cw3_0_0
  have gw3 : Gr W w3 := Gr.trans (by have gg := gw2; have gs := gg.size; go_grown) hw3
  clear hw3 gw2 zw2_0 cw2_0_0 fw2_0_0 cw2_0_1 fw2_0_1
  go_wp2_with fail
  go_at_call 14
  (with_reducible refine ((R4.out _)).mono ?_)
  rintro e w4 ⟨rfl, hw4⟩
  have cw4_0_0 : w4.cell? ⟨W.heap.size, 0, none⟩ = some (.int .i64 0) := cell_gr hw4 (by go_simp)
  have fw4_0_0 : w4.frozen? ⟨W.heap.size, 0, none⟩ = false := frozen_gr (v := .int .i64 0) hw4 (by go_simp) (by go_simp)
  have cw4_0_1 : w4.cell? ⟨W.heap.size, 1, none⟩ = some (.slice none 0 0) := cell_gr hw4 (by go_simp)
  have fw4_0_1 : w4.frozen? ⟨W.heap.size, 1, none⟩ = false := frozen_gr (v := .slice none 0 0) hw4 (by go_simp) (by go_simp)
  have zw4_0 : W.heap.size < w4.heap.size := World.block_lt_of_cell? _ _ cw4_0_0
  have gw4 : Gr W w4 := Gr.trans (by have gg := gw3; have gs := gg.size; go_grown) hw4
  clear hw4 gw3 zw3_0 cw3_0_0 fw3_0_0 cw3_0_1 fw3_0_1
  have s4 := gw4.size
  have HG := Lib.hid gw4
  go_wp2_with fail
  refine bodyPost_ret (res_obj (p := 8) (N := W.heap.size) (k := 4) (u := .slice (some ⟨w4.heap.size, 0, none⟩) 4 4) rfl rfl (by go_simp) (by go_simp)) rfl ?_
  refine ⟨w4.heap.size, rfl, fun k hk => ?_, by go_simp, s4, by have gg := HG.out; have gs := gg.size; go_grown⟩
  · have hk' : k < 4 := hk
    rcases (by omega : k = 0 ∨ k = 1 ∨ k = 2 ∨ k = 3) with rfl | rfl | rfl | rfl
    · show World.cell? _ ⟨w4.heap.size, 0, none⟩ = some (.int .i64 (x)) ∧ World.cell? _ ⟨w4.heap.size, 1, none⟩ = some (.int .i64 (x))
      exact ⟨by go_simp, by go_simp⟩
    · show World.cell? _ ⟨w4.heap.size, 2, none⟩ = some (.int .i64 (x + 12)) ∧ World.cell? _ ⟨w4.heap.size, 3, none⟩ = some (.int .i64 (x))
      exact ⟨by go_simp, by go_simp⟩
    · show World.cell? _ ⟨w4.heap.size, 4, none⟩ = some (.int .i64 (x + 12)) ∧ World.cell? _ ⟨w4.heap.size, 5, none⟩ = some (.int .i64 (x + 12))
      exact ⟨by go_simp, by go_simp⟩
    · show World.cell? _ ⟨w4.heap.size, 6, none⟩ = some (.int .i64 (x + 8)) ∧ World.cell? _ ⟨w4.heap.size, 7, none⟩ = some (.int .i64 (x + 4))
      exact ⟨by go_simp, by go_simp⟩
theorem md_shape (kd x : Int) (hk : -9223372036854775808 ≤ kd ∧ kd ≤ 9223372036854775807) (h1 : 0 ≤ x) (h2 : x ≤ 900) : ∃ q : Nat, q < 4 ∧ ∀ W : World, Calls Tryz.prog 6 #[.int .i64 kd, .int .i64 x, .int .i64 x, .int .i64 3] W (ShTo W q x) := by
  have a := Int.emod_nonneg kd (show (4 : Int) ≠ 0 by decide)
  have b := Int.emod_lt_of_pos kd (show (0 : Int) < 4 by decide)
  rcases (by omega : kd % 4 = 0 ∨ kd % 4 = 1 ∨ kd % 4 = 2 ∨ kd % 4 = 3) with h | h | h | h
  · exact ⟨0, by decide, fun W => md_shape_0 kd x hk h h1 h2 W⟩
  · exact ⟨1, by decide, fun W => md_shape_1 kd x hk h h1 h2 W⟩
  · exact ⟨2, by decide, fun W => md_shape_2 kd x hk h h1 h2 W⟩
  · exact ⟨3, by decide, fun W => md_shape_3 kd x hk h h1 h2 W⟩
theorem shN_pos {q : Nat} (h : q < 4) : 0 < shN q ∧ shN q ≤ 4 := by
  rcases (by omega : q = 0 ∨ q = 1 ∨ q = 2 ∨ q = 3) with rfl | rfl | rfl | rfl <;> decide
end Go.Proofs.YtenngnlphecdeaaGreatDoor
