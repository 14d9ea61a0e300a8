/- any shape: of any kind, at any place, of any size -/
import Derived.Test.YtpomllpplpalkaaGreatDoorWe
namespace Go.Proofs.YtpomllpplpalkaaGreatDoor
set_option linter.unusedVariables false
set_option linter.unusedSimpArgs false
open Go.ChangeShapes Go.WideShapes Go.ChangeAt Go.RowKit Go.Maps Go.Sort Go.Shelf

def gsX (q : Nat) (x y m : Int) (k : Nat) : Int := if q = 0 then x else if q = 1 then x else if q = 2 then (if k = 0 then x else x + m) else (if k = 0 then x else if k = 1 then x + 3 * m else if k = 2 then x + 3 * m else x + 2 * m)
def gsY (q : Nat) (x y m : Int) (k : Nat) : Int := if q = 0 then y else if q = 1 then x + m else if q = 2 then (if k = 0 then y else y + m) else (if k = 0 then y else if k = 1 then y else if k = 2 then y + 3 * m else y + m)
set_option maxRecDepth 100000 in
theorem gs_ring0 : ∀ m : Nat, m < 51 → 0 < m → (Rg.ringC 4 (gsX 3 0 0 m) (gsY 3 0 0 m)).1 = 0 := by decide
theorem gs_near {x y m : Int} (h1 : 0 ≤ x) (h2 : x ≤ 1000) (h3 : 0 ≤ y) (h4 : y ≤ 1000) (h5 : 0 ≤ m) (h6 : m ≤ 50) (k : Nat) : nearB (gsX 3 x y m k) (gsY 3 x y m k) = true := by
  have a : 0 ≤ gsX 3 x y m k ∧ gsX 3 x y m k ≤ 2000 := by unfold gsX; simp only [show ¬ (3 : Nat) = 0 by decide, show ¬ (3 : Nat) = 1 by decide, show ¬ (3 : Nat) = 2 by decide, if_false]; split <;> (try split) <;> (try split) <;> omega
  have b : 0 ≤ gsY 3 x y m k ∧ gsY 3 x y m k ≤ 2000 := by unfold gsY; simp only [show ¬ (3 : Nat) = 0 by decide, show ¬ (3 : Nat) = 1 by decide, show ¬ (3 : Nat) = 2 by decide, if_false]; split <;> (try split) <;> (try split) <;> omega
  exact near_sm a.1 a.2 b.1 b.2
theorem gs_mv (x y m : Int) : gsX 3 x y m = (fun k => gsX 3 0 0 m k + x) ∧ gsY 3 x y m = (fun k => gsY 3 0 0 m k + y) := by
  refine ⟨funext fun k => ?_, funext fun k => ?_⟩
  · unfold gsX; simp only [show ¬ (3 : Nat) = 0 by decide, show ¬ (3 : Nat) = 1 by decide, show ¬ (3 : Nat) = 2 by decide, if_false]; split <;> (try split) <;> (try split) <;> omega
  · unfold gsY; simp only [show ¬ (3 : Nat) = 0 by decide, show ¬ (3 : Nat) = 1 by decide, show ¬ (3 : Nat) = 2 by decide, if_false]; split <;> (try split) <;> (try split) <;> omega
theorem chg_gs {q : Nat} (hq : q < 4) {x y id : Int} {m : Nat} (h1 : 0 ≤ x) (h2 : x ≤ 1000) (h3 : 0 ≤ y) (h4 : y ≤ 1000) (h5 : 0 < m) (h6 : m ≤ 50) (h7 : 0 ≤ id) (h8 : id ≤ 1000000) : chgC 1 id (shK q) (shN q) (gsX q x y m) (gsY q x y m) = 0 := by
  rw [chgC_1 h7 (by omega)]
  rcases (by omega : q = 0 ∨ q = 1 ∨ q = 2 ∨ q = 3) with rfl | rfl | rfl | rfl
  · show objC 1 1 _ _ = 0
    rw [objC_1, if_pos rfl]
    exact boxN_ok (a := x) (b := y) (c := x) (d := y) (near_sm h1 (by omega) h3 (by omega)) (near_sm h1 (by omega) h3 (by omega)) (Int.le_refl _) (Int.le_refl _)
  · show objC 2 1 _ _ = 0
    rw [objC_2, if_pos rfl]
    exact boxN_ok (a := x) (b := 0) (c := x + m) (d := 0) (near_sm h1 (by omega) (by omega) (by omega)) (near_sm (by omega) (by omega) (by omega) (by omega)) (by omega) (by omega)
  · show objC 3 2 _ _ = 0
    rw [objC_3, if_pos rfl]
    exact boxN_ok (a := x) (b := y) (c := x + m) (d := y + m) (near_sm h1 (by omega) (by omega) (by omega)) (near_sm (by omega) (by omega) (by omega) (by omega)) (by omega) (by omega)
  · show objC 4 4 _ _ = 0
    rw [objC_4]
    have a := gs_mv x y m
    have b1 := fun k (_ : k < 4) => gs_near (x := 0) (y := 0) (m := m) (by decide) (by decide) (by decide) (by decide) (by omega) (by omega) k
    have b2 := fun k (_ : k < 4) => gs_near (m := m) h1 h2 h3 h4 (by omega) (by omega) k
    rw [a.1, a.2] at b2 ⊢
    rw [Rg.mv_ring (n := 4) (X := gsX 3 0 0 m) (Y := gsY 3 0 0 m) (x := x) (y := y) b1 b2]
    exact gs_ring0 m (by omega) h5
def GsTo (W : World) (q : Nat) (x y m : Int) (e : Ending) (w' : World) : Prop := ∃ B, e = .returned (.agg #[.int .i64 (shK q), .slice (some ⟨B, 0, none⟩) (shN q) (shN q)]) ∧ Pts w' (.slice (some ⟨B, 0, none⟩) (shN q) (shN q)) (shN q) (gsX q x y m) (gsY q x y m) ∧ W.heap.size ≤ B ∧ Gr W w' ∧ Fr2 w' B
theorem fr2_made (w : World) (arr : Array Value) (N : Nat) (a b : Value) : Fr2 (((w.setCell ⟨N, 0, none⟩ a).setCell ⟨N, 1, none⟩ b).alloc (.cells arr 58)) w.heap.size := by
  have h : Fr2 (((w.setCell ⟨N, 0, none⟩ a).setCell ⟨N, 1, none⟩ b).alloc (.cells arr 58)) ((w.setCell ⟨N, 0, none⟩ a).setCell ⟨N, 1, none⟩ b).heap.size := ⟨arr, by show (Array.push _ _)[_]? = _; exact Array.getElem?_push_size⟩
  have e : ((w.setCell ⟨N, 0, none⟩ a).setCell ⟨N, 1, none⟩ b).heap.size = w.heap.size := by simp
  rw [e] at h
  exact h
theorem gs_pts {w : World} {B q : Nat} {x y m : Int} (hq : q < 4) (h : ∀ k, k < shN q → w.cell? ⟨B, 0 + k * 2, none⟩ = some (.int .i64 (gsX q x y m k)) ∧ w.cell? ⟨B, 0 + k * 2 + 1, none⟩ = some (.int .i64 (gsY q x y m k))) : Pts w (.slice (some ⟨B, 0, none⟩) (shN q) (shN q)) (shN q) (gsX q x y m) (gsY q x y m) := by
  have := shN_pos hq
  exact ⟨_, shN q, B, 0, rfl, Nat.le_refl _, by omega, fun _ => rfl, h⟩
set_option maxHeartbeats 2000000 in
set_option maxRecDepth 100000 in
theorem gs_shape_0 (kd x y n m : Int) (hk : -9223372036854775808 ≤ kd ∧ kd ≤ 9223372036854775807) (hq : kd % 4 = 0) (h1 : 0 ≤ x) (h2 : x < 1000) (h3 : 0 ≤ y) (h4 : y < 1000) (h5 : 0 ≤ n) (h6 : n < 50) (hm : 1 + n = m) (W : World) : Calls Tryz.prog 16 #[.int .i64 kd, .int .i64 x, .int .i64 y, .int .i64 n] W (GsTo W 0 x y m) := by
  have RX := Lib.hid (fun (W : World) => show Calls Tryz.prog 23 #[.int .i64 x, .int .i64 1000] W fun e w' => e = .returned (.int .i64 x) ∧ Gr W w' from by
    have := c_RoundE x (by omega) (by omega) 1000 (by decide) (by decide) W
    rwa [show x % ((1000 : Nat) : Int) = x from Int.emod_eq_of_lt h1 (by omega)] at this)
  have RY := Lib.hid (fun (W : World) => show Calls Tryz.prog 23 #[.int .i64 y, .int .i64 1000] W fun e w' => e = .returned (.int .i64 y) ∧ Gr W w' from by
    have := c_RoundE y (by omega) (by omega) 1000 (by decide) (by decide) W
    rwa [show y % ((1000 : Nat) : Int) = y from Int.emod_eq_of_lt h3 (by omega)] at this)
  have R3 := Lib.hid (fun (W : World) => show Calls Tryz.prog 23 #[.int .i64 n, .int .i64 50] W fun e w' => e = .returned (.int .i64 n) ∧ Gr W w' from by
    have := c_RoundE n (by omega) (by omega) 50 (by decide) (by decide) W
    rwa [show n % ((50 : Nat) : Int) = n from Int.emod_eq_of_lt h5 (by omega)] at this)
  have R4 := Lib.hid (fun (W : World) => show Calls Tryz.prog 23 #[.int .i64 kd, .int .i64 4] W fun e w' => e = .returned (.int .i64 0) ∧ Gr W w' from by
    have := c_RoundE kd hk.1 hk.2 4 (by decide) (by decide) W
    rwa [show kd % ((4 : Nat) : Int) = 0 from hq] at this)
  have ea0 : wrap64 (1 + n) = m := (wr_small (by omega)).trans (by omega)
  have eb0 : IntKind.i64.wrap (1 + n) = m := (wk_small (by omega)).trans (by omega)
  have ea1 : wrap64 (x + m) = x + m := (wr_small (by omega)).trans (by omega)
  have eb1 : IntKind.i64.wrap (x + m) = x + m := (wk_small (by omega)).trans (by omega)
  have ea2 : wrap64 (y + m) = y + m := (wr_small (by omega)).trans (by omega)
  have eb2 : IntKind.i64.wrap (y + m) = y + m := (wk_small (by omega)).trans (by omega)
  have ea3 : wrap64 (3 * m) = 3 * m := (wr_small (by omega)).trans (by omega)
  have eb3 : IntKind.i64.wrap (3 * m) = 3 * m := (wk_small (by omega)).trans (by omega)
  have ea4 : wrap64 (2 * m) = 2 * m := (wr_small (by omega)).trans (by omega)
  have eb4 : IntKind.i64.wrap (2 * m) = 2 * m := (wk_small (by omega)).trans (by omega)
  have ea5 : wrap64 (x + 3 * m) = x + 3 * m := (wr_small (by omega)).trans (by omega)
  have eb5 : IntKind.i64.wrap (x + 3 * m) = x + 3 * m := (wk_small (by omega)).trans (by omega)
  have ea6 : wrap64 (y + 3 * m) = y + 3 * m := (wr_small (by omega)).trans (by omega)
  have eb6 : IntKind.i64.wrap (y + 3 * m) = y + 3 * m := (wk_small (by omega)).trans (by omega)
  have ea7 : wrap64 (x + 2 * m) = x + 2 * m := (wr_small (by omega)).trans (by omega)
  have eb7 : IntKind.i64.wrap (x + 2 * m) = x + 2 * m := (wk_small (by omega)).trans (by omega)
  clear hq hk h1 h2 h3 h4 h5 h6 hm
  go_enter Tryz.func16, Tryz.ntmps16
  go_wp2_with fail
  go_at_call 23
  (with_reducible refine ((RX.out _)).mono ?_)
  rintro e w1 ⟨rfl, hw1⟩
  have cw1_0_0 : w1.cell? ⟨W.heap.size, 0, none⟩ = some (.int .i64 0) := cell_gr hw1 (by go_simp)
  have fw1_0_0 : w1.frozen? ⟨W.heap.size, 0, none⟩ = false := frozen_gr (v := .int .i64 0) hw1 (by go_simp) (by go_simp)
  have cw1_0_1 : w1.cell? ⟨W.heap.size, 1, none⟩ = some (.slice none 0 0) := cell_gr hw1 (by go_simp)
  have fw1_0_1 : w1.frozen? ⟨W.heap.size, 1, none⟩ = false := frozen_gr (v := .slice none 0 0) hw1 (by go_simp) (by go_simp)
  have zw1_0 : W.heap.size < w1.heap.size := World.block_lt_of_cell? _ _ cw1_0_0
  have gw1 : Gr W w1 := Gr.trans (by go_grown) hw1
  clear hw1
  go_wp2_with fail
  go_at_call 23
  (with_reducible refine ((RY.out _)).mono ?_)
  rintro e w2 ⟨rfl, hw2⟩
  have cw2_0_0 : w2.cell? ⟨W.heap.size, 0, none⟩ = some (.int .i64 0) := cell_gr hw2 (by go_simp)
  have fw2_0_0 : w2.frozen? ⟨W.heap.size, 0, none⟩ = false := frozen_gr (v := .int .i64 0) hw2 (by go_simp) (by go_simp)
  have cw2_0_1 : w2.cell? ⟨W.heap.size, 1, none⟩ = some (.slice none 0 0) := cell_gr hw2 (by go_simp)
  have fw2_0_1 : w2.frozen? ⟨W.heap.size, 1, none⟩ = false := frozen_gr (v := .slice none 0 0) hw2 (by go_simp) (by go_simp)
  have zw2_0 : W.heap.size < w2.heap.size := World.block_lt_of_cell? _ _ cw2_0_0
  have gw2 : Gr W w2 := Gr.trans (by have gg := gw1; have gs := gg.size; go_grown) hw2
  clear hw2 gw1 zw1_0 cw1_0_0 fw1_0_0 cw1_0_1 fw1_0_1
  go_wp2_with fail
  go_at_call 23
  (with_reducible refine ((R3.out _)).mono ?_)
  rintro e w3 ⟨rfl, hw3⟩
  have cw3_0_0 : w3.cell? ⟨W.heap.size, 0, none⟩ = some (.int .i64 0) := cell_gr hw3 (by go_simp)
  have fw3_0_0 : w3.frozen? ⟨W.heap.size, 0, none⟩ = false := frozen_gr (v := .int .i64 0) hw3 (by go_simp) (by go_simp)
  have cw3_0_1 : w3.cell? ⟨W.heap.size, 1, none⟩ = some (.slice none 0 0) := cell_gr hw3 (by go_simp)
  have fw3_0_1 : w3.frozen? ⟨W.heap.size, 1, none⟩ = false := frozen_gr (v := .slice none 0 0) hw3 (by go_simp) (by go_simp)
  have zw3_0 : W.heap.size < w3.heap.size := World.block_lt_of_cell? _ _ cw3_0_0
  have gw3 : Gr W w3 := Gr.trans (by have gg := gw2; have gs := gg.size; go_grown) hw3
  clear hw3 gw2 zw2_0 cw2_0_0 fw2_0_0 cw2_0_1 fw2_0_1
  go_wp2_with fail
  go_at_call 23
  (with_reducible refine ((R4.out _)).mono ?_)
  rintro e w4 ⟨rfl, hw4⟩
  have cw4_0_0 : w4.cell? ⟨W.heap.size, 0, none⟩ = some (.int .i64 0) := cell_gr hw4 (by go_simp)
  have fw4_0_0 : w4.frozen? ⟨W.heap.size, 0, none⟩ = false := frozen_gr (v := .int .i64 0) hw4 (by go_simp) (by go_simp)
  have cw4_0_1 : w4.cell? ⟨W.heap.size, 1, none⟩ = some (.slice none 0 0) := cell_gr hw4 (by go_simp)
  have fw4_0_1 : w4.frozen? ⟨W.heap.size, 1, none⟩ = false := frozen_gr (v := .slice none 0 0) hw4 (by go_simp) (by go_simp)
  have zw4_0 : W.heap.size < w4.heap.size := World.block_lt_of_cell? _ _ cw4_0_0
  have gw4 : Gr W w4 := Gr.trans (by have gg := gw3; have gs := gg.size; go_grown) hw4
  clear hw4 gw3 zw3_0 cw3_0_0 fw3_0_0 cw3_0_1 fw3_0_1
  have s4 := gw4.size
  have HG := Lib.hid gw4
  go_wp2_with fail
  refine bodyPost_ret (res_obj (p := 8) (N := W.heap.size) (k := 1) (u := .slice (some ⟨w4.heap.size, 0, none⟩) 1 1) rfl rfl (by go_simp) (by go_simp)) rfl ?_
  refine ⟨w4.heap.size, rfl, gs_pts (by decide) (fun k hk => ?_), s4, by have gg := HG.out; have gs := gg.size; go_grown, fr2_made _ _ _ _ _⟩
  · have hk' : k < 1 := hk
    rcases (by omega : k = 0) with rfl
    · show World.cell? _ ⟨w4.heap.size, 0, none⟩ = some (.int .i64 (x)) ∧ World.cell? _ ⟨w4.heap.size, 1, none⟩ = some (.int .i64 (y))
      exact ⟨by go_simp, by go_simp⟩
set_option maxHeartbeats 2000000 in
set_option maxRecDepth 100000 in
theorem gs_shape_1 (kd x y n m : Int) (hk : -9223372036854775808 ≤ kd ∧ kd ≤ 9223372036854775807) (hq : kd % 4 = 1) (h1 : 0 ≤ x) (h2 : x < 1000) (h3 : 0 ≤ y) (h4 : y < 1000) (h5 : 0 ≤ n) (h6 : n < 50) (hm : 1 + n = m) (W : World) : Calls Tryz.prog 16 #[.int .i64 kd, .int .i64 x, .int .i64 y, .int .i64 n] W (GsTo W 1 x y m) := by
  have RX := Lib.hid (fun (W : World) => show Calls Tryz.prog 23 #[.int .i64 x, .int .i64 1000] W fun e w' => e = .returned (.int .i64 x) ∧ Gr W w' from by
    have := c_RoundE x (by omega) (by omega) 1000 (by decide) (by decide) W
    rwa [show x % ((1000 : Nat) : Int) = x from Int.emod_eq_of_lt h1 (by omega)] at this)
  have RY := Lib.hid (fun (W : World) => show Calls Tryz.prog 23 #[.int .i64 y, .int .i64 1000] W fun e w' => e = .returned (.int .i64 y) ∧ Gr W w' from by
    have := c_RoundE y (by omega) (by omega) 1000 (by decide) (by decide) W
    rwa [show y % ((1000 : Nat) : Int) = y from Int.emod_eq_of_lt h3 (by omega)] at this)
  have R3 := Lib.hid (fun (W : World) => show Calls Tryz.prog 23 #[.int .i64 n, .int .i64 50] W fun e w' => e = .returned (.int .i64 n) ∧ Gr W w' from by
    have := c_RoundE n (by omega) (by omega) 50 (by decide) (by decide) W
    rwa [show n % ((50 : Nat) : Int) = n from Int.emod_eq_of_lt h5 (by omega)] at this)
  have R4 := Lib.hid (fun (W : World) => show Calls Tryz.prog 23 #[.int .i64 kd, .int .i64 4] W fun e w' => e = .returned (.int .i64 1) ∧ Gr W w' from by
    have := c_RoundE kd hk.1 hk.2 4 (by decide) (by decide) W
    rwa [show kd % ((4 : Nat) : Int) = 1 from hq] at this)
  have ea0 : wrap64 (1 + n) = m := (wr_small (by omega)).trans (by omega)
  have eb0 : IntKind.i64.wrap (1 + n) = m := (wk_small (by omega)).trans (by omega)
  have ea1 : wrap64 (x + m) = x + m := (wr_small (by omega)).trans (by omega)
  have eb1 : IntKind.i64.wrap (x + m) = x + m := (wk_small (by omega)).trans (by omega)
  have ea2 : wrap64 (y + m) = y + m := (wr_small (by omega)).trans (by omega)
  have eb2 : IntKind.i64.wrap (y + m) = y + m := (wk_small (by omega)).trans (by omega)
  have ea3 : wrap64 (3 * m) = 3 * m := (wr_small (by omega)).trans (by omega)
  have eb3 : IntKind.i64.wrap (3 * m) = 3 * m := (wk_small (by omega)).trans (by omega)
  have ea4 : wrap64 (2 * m) = 2 * m := (wr_small (by omega)).trans (by omega)
  have eb4 : IntKind.i64.wrap (2 * m) = 2 * m := (wk_small (by omega)).trans (by omega)
  have ea5 : wrap64 (x + 3 * m) = x + 3 * m := (wr_small (by omega)).trans (by omega)
  have eb5 : IntKind.i64.wrap (x + 3 * m) = x + 3 * m := (wk_small (by omega)).trans (by omega)
  have ea6 : wrap64 (y + 3 * m) = y + 3 * m := (wr_small (by omega)).trans (by omega)
  have eb6 : IntKind.i64.wrap (y + 3 * m) = y + 3 * m := (wk_small (by omega)).trans (by omega)
  have ea7 : wrap64 (x + 2 * m) = x + 2 * m := (wr_small (by omega)).trans (by omega)
  have eb7 : IntKind.i64.wrap (x + 2 * m) = x + 2 * m := (wk_small (by omega)).trans (by omega)
  clear hq hk h1 h2 h3 h4 h5 h6 hm
  go_enter Tryz.func16, Tryz.ntmps16
  go_wp2_with fail
  go_at_call 23
  (with_reducible refine ((RX.out _)).mono ?_)
  rintro e w1 ⟨rfl, hw1⟩
  have cw1_0_0 : w1.cell? ⟨W.heap.size, 0, none⟩ = some (.int .i64 0) := cell_gr hw1 (by go_simp)
  have fw1_0_0 : w1.frozen? ⟨W.heap.size, 0, none⟩ = false := frozen_gr (v := .int .i64 0) hw1 (by go_simp) (by go_simp)
  have cw1_0_1 : w1.cell? ⟨W.heap.size, 1, none⟩ = some (.slice none 0 0) := cell_gr hw1 (by go_simp)
  have fw1_0_1 : w1.frozen? ⟨W.heap.size, 1, none⟩ = false := frozen_gr (v := .slice none 0 0) hw1 (by go_simp) (by go_simp)
  have zw1_0 : W.heap.size < w1.heap.size := World.block_lt_of_cell? _ _ cw1_0_0
  have gw1 : Gr W w1 := Gr.trans (by go_grown) hw1
  clear hw1
  go_wp2_with fail
  go_at_call 23
  (with_reducible refine ((RY.out _)).mono ?_)
  rintro e w2 ⟨rfl, hw2⟩
  have cw2_0_0 : w2.cell? ⟨W.heap.size, 0, none⟩ = some (.int .i64 0) := cell_gr hw2 (by go_simp)
  have fw2_0_0 : w2.frozen? ⟨W.heap.size, 0, none⟩ = false := frozen_gr (v := .int .i64 0) hw2 (by go_simp) (by go_simp)
  have cw2_0_1 : w2.cell? ⟨W.heap.size, 1, none⟩ = some (.slice none 0 0) := cell_gr hw2 (by go_simp)
  have fw2_0_1 : w2.frozen? ⟨W.heap.size, 1, none⟩ = false := frozen_gr (v := .slice none 0 0) hw2 (by go_simp) (by go_simp)
  have zw2_0 : W.heap.size < w2.heap.size := World.block_lt_of_cell? _ _ cw2_0_0
  have gw2 : Gr W w2 := Gr.trans (by have gg := gw1; have gs := gg.size; go_grown) hw2
  clear hw2 gw1 zw1_0 cw1_0_0 fw1_0_0 cw1_0_1 fw1_0_1
  go_wp2_with fail
  go_at_call 23
  (with_reducible refine ((R3.out _)).mono ?_)
  rintro e w3 ⟨rfl, hw3⟩
  have cw3_0_0 : w3.cell? ⟨W.heap.size, 0, none⟩ = some (.int .i64 0) := cell_gr hw3 (by go_simp)
  have fw3_0_0 : w3.frozen? ⟨W.heap.size, 0, none⟩ = false := frozen_gr (v := .int .i64 0) hw3 (by go_simp) (by go_simp)
  have cw3_0_1 : w3.cell? ⟨W.heap.size, 1, none⟩ = some (.slice none 0 0) := cell_gr hw3 (by go_simp)
  have fw3_0_1 : w3.frozen? ⟨W.heap.size, 1, none⟩ = false := frozen_gr (v := .slice none 0 0) hw3 (by go_simp) (by go_simp)
  have zw3_0 : W.heap.size < w3.heap.size := World.block_lt_of_cell? _ _ cw3_0_0
  have gw3 : Gr W w3 := Gr.trans (by have gg := gw2; have gs := gg.size; go_grown) hw3
  clear hw3 gw2 zw2_0 cw2_0_0 fw2_0_0 cw2_0_1 fw2_0_1
  go_wp2_with fail
  go_at_call 23
  (with_reducible refine ((R4.out _)).mono ?_)
  rintro e w4 ⟨rfl, hw4⟩
  have cw4_0_0 : w4.cell? ⟨W.heap.size, 0, none⟩ = some (.int .i64 0) := cell_gr hw4 (by go_simp)
  have fw4_0_0 : w4.frozen? ⟨W.heap.size, 0, none⟩ = false := frozen_gr (v := .int .i64 0) hw4 (by go_simp) (by go_simp)
  have cw4_0_1 : w4.cell? ⟨W.heap.size, 1, none⟩ = some (.slice none 0 0) := cell_gr hw4 (by go_simp)
  have fw4_0_1 : w4.frozen? ⟨W.heap.size, 1, none⟩ = false := frozen_gr (v := .slice none 0 0) hw4 (by go_simp) (by go_simp)
  have zw4_0 : W.heap.size < w4.heap.size := World.block_lt_of_cell? _ _ cw4_0_0
  have gw4 : Gr W w4 := Gr.trans (by have gg := gw3; have gs := gg.size; go_grown) hw4
  clear hw4 gw3 zw3_0 cw3_0_0 fw3_0_0 cw3_0_1 fw3_0_1
  have s4 := gw4.size
  have HG := Lib.hid gw4
  go_wp2_with fail
  refine bodyPost_ret (res_obj (p := 8) (N := W.heap.size) (k := 2) (u := .slice (some ⟨w4.heap.size, 0, none⟩) 1 1) rfl rfl (by go_simp) (by go_simp)) rfl ?_
  refine ⟨w4.heap.size, rfl, gs_pts (by decide) (fun k hk => ?_), s4, by have gg := HG.out; have gs := gg.size; go_grown, fr2_made _ _ _ _ _⟩
  · have hk' : k < 1 := hk
    rcases (by omega : k = 0) with rfl
    · show World.cell? _ ⟨w4.heap.size, 0, none⟩ = some (.int .i64 (x)) ∧ World.cell? _ ⟨w4.heap.size, 1, none⟩ = some (.int .i64 (x + m))
      exact ⟨by go_simp, by go_simp⟩
set_option maxHeartbeats 2000000 in
set_option maxRecDepth 100000 in
theorem gs_shape_2 (kd x y n m : Int) (hk : -9223372036854775808 ≤ kd ∧ kd ≤ 9223372036854775807) (hq : kd % 4 = 2) (h1 : 0 ≤ x) (h2 : x < 1000) (h3 : 0 ≤ y) (h4 : y < 1000) (h5 : 0 ≤ n) (h6 : n < 50) (hm : 1 + n = m) (W : World) : Calls Tryz.prog 16 #[.int .i64 kd, .int .i64 x, .int .i64 y, .int .i64 n] W (GsTo W 2 x y m) := by
  have RX := Lib.hid (fun (W : World) => show Calls Tryz.prog 23 #[.int .i64 x, .int .i64 1000] W fun e w' => e = .returned (.int .i64 x) ∧ Gr W w' from by
    have := c_RoundE x (by omega) (by omega) 1000 (by decide) (by decide) W
    rwa [show x % ((1000 : Nat) : Int) = x from Int.emod_eq_of_lt h1 (by omega)] at this)
  have RY := Lib.hid (fun (W : World) => show Calls Tryz.prog 23 #[.int .i64 y, .int .i64 1000] W fun e w' => e = .returned (.int .i64 y) ∧ Gr W w' from by
    have := c_RoundE y (by omega) (by omega) 1000 (by decide) (by decide) W
    rwa [show y % ((1000 : Nat) : Int) = y from Int.emod_eq_of_lt h3 (by omega)] at this)
  have R3 := Lib.hid (fun (W : World) => show Calls Tryz.prog 23 #[.int .i64 n, .int .i64 50] W fun e w' => e = .returned (.int .i64 n) ∧ Gr W w' from by
    have := c_RoundE n (by omega) (by omega) 50 (by decide) (by decide) W
    rwa [show n % ((50 : Nat) : Int) = n from Int.emod_eq_of_lt h5 (by omega)] at this)
  have R4 := Lib.hid (fun (W : World) => show Calls Tryz.prog 23 #[.int .i64 kd, .int .i64 4] W fun e w' => e = .returned (.int .i64 2) ∧ Gr W w' from by
    have := c_RoundE kd hk.1 hk.2 4 (by decide) (by decide) W
    rwa [show kd % ((4 : Nat) : Int) = 2 from hq] at this)
  have ea0 : wrap64 (1 + n) = m := (wr_small (by omega)).trans (by omega)
  have eb0 : IntKind.i64.wrap (1 + n) = m := (wk_small (by omega)).trans (by omega)
  have ea1 : wrap64 (x + m) = x + m := (wr_small (by omega)).trans (by omega)
  have eb1 : IntKind.i64.wrap (x + m) = x + m := (wk_small (by omega)).trans (by omega)
  have ea2 : wrap64 (y + m) = y + m := (wr_small (by omega)).trans (by omega)
  have eb2 : IntKind.i64.wrap (y + m) = y + m := (wk_small (by omega)).trans (by omega)
  have ea3 : wrap64 (3 * m) = 3 * m := (wr_small (by omega)).trans (by omega)
  have eb3 : IntKind.i64.wrap (3 * m) = 3 * m := (wk_small (by omega)).trans (by omega)
  have ea4 : wrap64 (2 * m) = 2 * m := (wr_small (by omega)).trans (by omega)
  have eb4 : IntKind.i64.wrap (2 * m) = 2 * m := (wk_small (by omega)).trans (by omega)
  have ea5 : wrap64 (x + 3 * m) = x + 3 * m := (wr_small (by omega)).trans (by omega)
  have eb5 : IntKind.i64.wrap (x + 3 * m) = x + 3 * m := (wk_small (by omega)).trans (by omega)
  have ea6 : wrap64 (y + 3 * m) = y + 3 * m := (wr_small (by omega)).trans (by omega)
  have eb6 : IntKind.i64.wrap (y + 3 * m) = y + 3 * m := (wk_small (by omega)).trans (by omega)
  have ea7 : wrap64 (x + 2 * m) = x + 2 * m := (wr_small (by omega)).trans (by omega)
  have eb7 : IntKind.i64.wrap (x + 2 * m) = x + 2 * m := (wk_small (by omega)).trans (by omega)
  clear hq hk h1 h2 h3 h4 h5 h6 hm
  go_enter Tryz.func16, Tryz.ntmps16
  go_wp2_with fail
  go_at_call 23
  (with_reducible refine ((RX.out _)).mono ?_)
  rintro e w1 ⟨rfl, hw1⟩
  have cw1_0_0 : w1.cell? ⟨W.heap.size, 0, none⟩ = some (.int .i64 0) := cell_gr hw1 (by go_simp)
  have fw1_0_0 : w1.frozen? ⟨W.heap.size, 0, none⟩ = false := frozen_gr (v := .int .i64 0) hw1 (by go_simp) (by go_simp)
  have cw1_0_1 : w1.cell? ⟨W.heap.size, 1, none⟩ = some (.slice none 0 0) := cell_gr hw1 (by go_simp)
  have fw1_0_1 : w1.frozen? ⟨W.heap.size, 1, none⟩ = false := frozen_gr (v := .slice none 0 0) hw1 (by go_simp) (by go_simp)
  have zw1_0 : W.heap.size < w1.heap.size := World.block_lt_of_cell? _ _ cw1_0_0
  have gw1 : Gr W w1 := Gr.trans (by go_grown) hw1
  clear hw1
  go_wp2_with fail
  go_at_call 23
  (with_reducible refine ((RY.out _)).mono ?_)
  rintro e w2 ⟨rfl, hw2⟩
  have cw2_0_0 : w2.cell? ⟨W.heap.size, 0, none⟩ = some (.int .i64 0) := cell_gr hw2 (by go_simp)
  have fw2_0_0 : w2.frozen? ⟨W.heap.size, 0, none⟩ = false := frozen_gr (v := .int .i64 0) hw2 (by go_simp) (by go_simp)
  have cw2_0_1 : w2.cell? ⟨W.heap.size, 1, none⟩ = some (.slice none 0 0) := cell_gr hw2 (by go_simp)
  have fw2_0_1 : w2.frozen? ⟨W.heap.size, 1, none⟩ = false := frozen_gr (v := .slice none 0 0) hw2 (by go_simp) (by go_simp)
  have zw2_0 : W.heap.size < w2.heap.size := World.block_lt_of_cell? _ _ cw2_0_0
  have gw2 : Gr W w2 := Gr.trans (by have gg := gw1; have gs := gg.size; go_grown) hw2
  clear hw2 gw1 zw1_0 cw1_0_0 fw1_0_0 cw1_0_1 fw1_0_1
  go_wp2_with fail
  go_at_call 23
  (with_reducible refine ((R3.out _)).mono ?_)
  rintro e w3 ⟨rfl, hw3⟩
  have cw3_0_0 : w3.cell? ⟨W.heap.size, 0, none⟩ = some (.int .i64 0) := cell_gr hw3 (by go_simp)
  have fw3_0_0 : w3.frozen? ⟨W.heap.size, 0, none⟩ = false := frozen_gr (v := .int .i64 0) hw3 (by go_simp) (by go_simp)
  have cw3_0_1 : w3.cell? ⟨W.heap.size, 1, none⟩ = some (.slice none 0 0) := cell_gr hw3 (by go_simp)
  have fw3_0_1 : w3.frozen? ⟨W.heap.size, 1, none⟩ = false := frozen_gr (v := .slice none 0 0) hw3 (by go_simp) (by go_simp)
  have zw3_0 : W.heap.size < w3.heap.size := World.block_lt_of_cell? _ _ cw3_0_0
  have gw3 : Gr W w3 := Gr.trans (by have gg := gw2; have gs := gg.size; go_grown) hw3
  clear hw3 gw2 zw2_0 cw2_0_0 fw2_0_0 cw2_0_1 fw2_0_1
  go_wp2_with fail
  go_at_call 23
  (with_reducible refine ((R4.out _)).mono ?_)
  rintro e w4 ⟨rfl, hw4⟩
  have cw4_0_0 : w4.cell? ⟨W.heap.size, 0, none⟩ = some (.int .i64 0) := cell_gr hw4 (by go_simp)
  have fw4_0_0 : w4.frozen? ⟨W.heap.size, 0, none⟩ = false := frozen_gr (v := .int .i64 0) hw4 (by go_simp) (by go_simp)
  have cw4_0_1 : w4.cell? ⟨W.heap.size, 1, none⟩ = some (.slice none 0 0) := cell_gr hw4 (by go_simp)
  have fw4_0_1 : w4.frozen? ⟨W.heap.size, 1, none⟩ = false := frozen_gr (v := .slice none 0 0) hw4 (by go_simp) (by go_simp)
  have zw4_0 : W.heap.size < w4.heap.size := World.block_lt_of_cell? _ _ cw4_0_0
  have gw4 : Gr W w4 := Gr.trans (by have gg := gw3; have gs := gg.size; go_grown) hw4
  clear hw4 gw3 zw3_0 cw3_0_0 fw3_0_0 cw3_0_1 fw3_0_1
  have s4 := gw4.size
  have HG := Lib.hid gw4
  go_wp2_with fail
  refine bodyPost_ret (res_obj (p := 8) (N := W.heap.size) (k := 3) (u := .slice (some ⟨w4.heap.size, 0, none⟩) 2 2) rfl rfl (by go_simp) (by go_simp)) rfl ?_
  refine ⟨w4.heap.size, rfl, gs_pts (by decide) (fun k hk => ?_), s4, by have gg := HG.out; have gs := gg.size; go_grown, fr2_made _ _ _ _ _⟩
  · have hk' : k < 2 := hk
    rcases (by omega : k = 0 ∨ k = 1) with rfl | rfl
    · show World.cell? _ ⟨w4.heap.size, 0, none⟩ = some (.int .i64 (x)) ∧ World.cell? _ ⟨w4.heap.size, 1, none⟩ = some (.int .i64 (y))
      exact ⟨by go_simp, by go_simp⟩
    · show World.cell? _ ⟨w4.heap.size, 2, none⟩ = some (.int .i64 (x + m)) ∧ World.cell? _ ⟨w4.heap.size, 3, none⟩ = some (.int .i64 (y + m))
      exact ⟨by go_simp, by go_simp⟩
set_option maxHeartbeats 2000000 in
set_option maxRecDepth 100000 in
theorem gs_shape_3 (kd x y n m : Int) (hk : -9223372036854775808 ≤ kd ∧ kd ≤ 9223372036854775807) (hq : kd % 4 = 3) (h1 : 0 ≤ x) (h2 : x < 1000) (h3 : 0 ≤ y) (h4 : y < 1000) (h5 : 0 ≤ n) (h6 : n < 50) (hm : 1 + n = m) (W : World) : Calls Tryz.prog 16 #[.int .i64 kd, .int .i64 x, .int .i64 y, .int .i64 n] W (GsTo W 3 x y m) := by
  have RX := Lib.hid (fun (W : World) => show Calls Tryz.prog 23 #[.int .i64 x, .int .i64 1000] W fun e w' => e = .returned (.int .i64 x) ∧ Gr W w' from by
    have := c_RoundE x (by omega) (by omega) 1000 (by decide) (by decide) W
    rwa [show x % ((1000 : Nat) : Int) = x from Int.emod_eq_of_lt h1 (by omega)] at this)
  have RY := Lib.hid (fun (W : World) => show Calls Tryz.prog 23 #[.int .i64 y, .int .i64 1000] W fun e w' => e = .returned (.int .i64 y) ∧ Gr W w' from by
    have := c_RoundE y (by omega) (by omega) 1000 (by decide) (by decide) W
    rwa [show y % ((1000 : Nat) : Int) = y from Int.emod_eq_of_lt h3 (by omega)] at this)
  have R3 := Lib.hid (fun (W : World) => show Calls Tryz.prog 23 #[.int .i64 n, .int .i64 50] W fun e w' => e = .returned (.int .i64 n) ∧ Gr W w' from by
    have := c_RoundE n (by omega) (by omega) 50 (by decide) (by decide) W
    rwa [show n % ((50 : Nat) : Int) = n from Int.emod_eq_of_lt h5 (by omega)] at this)
  have R4 := Lib.hid (fun (W : World) => show Calls Tryz.prog 23 #[.int .i64 kd, .int .i64 4] W fun e w' => e = .returned (.int .i64 3) ∧ Gr W w' from by
    have := c_RoundE kd hk.1 hk.2 4 (by decide) (by decide) W
    rwa [show kd % ((4 : Nat) : Int) = 3 from hq] at this)
  have ea0 : wrap64 (1 + n) = m := (wr_small (by omega)).trans (by omega)
  have eb0 : IntKind.i64.wrap (1 + n) = m := (wk_small (by omega)).trans (by omega)
  have ea1 : wrap64 (x + m) = x + m := (wr_small (by omega)).trans (by omega)
  have eb1 : IntKind.i64.wrap (x + m) = x + m := (wk_small (by omega)).trans (by omega)
  have ea2 : wrap64 (y + m) = y + m := (wr_small (by omega)).trans (by omega)
  have eb2 : IntKind.i64.wrap (y + m) = y + m := (wk_small (by omega)).trans (by omega)
  have ea3 : wrap64 (3 * m) = 3 * m := (wr_small (by omega)).trans (by omega)
  have eb3 : IntKind.i64.wrap (3 * m) = 3 * m := (wk_small (by omega)).trans (by omega)
  have ea4 : wrap64 (2 * m) = 2 * m := (wr_small (by omega)).trans (by omega)
  have eb4 : IntKind.i64.wrap (2 * m) = 2 * m := (wk_small (by omega)).trans (by omega)
  have ea5 : wrap64 (x + 3 * m) = x + 3 * m := (wr_small (by omega)).trans (by omega)
  have eb5 : IntKind.i64.wrap (x + 3 * m) = x + 3 * m := (wk_small (by omega)).trans (by omega)
  have ea6 : wrap64 (y + 3 * m) = y + 3 * m := (wr_small (by omega)).trans (by omega)
  have eb6 : IntKind.i64.wrap (y + 3 * m) = y + 3 * m := (wk_small (by omega)).trans (by omega)
  have ea7 : wrap64 (x + 2 * m) = x + 2 * m := (wr_small (by omega)).trans (by omega)
  have eb7 : IntKind.i64.wrap (x + 2 * m) = x + 2 * m := (wk_small (by omega)).trans (by omega)
  clear hq hk h1 h2 h3 h4 h5 h6 hm
  go_enter Tryz.func16, Tryz.ntmps16
  go_wp2_with fail
  go_at_call 23
  (with_reducible refine ((RX.out _)).mono ?_)
  rintro e w1 ⟨rfl, hw1⟩
  have cw1_0_0 : w1.cell? ⟨W.heap.size, 0, none⟩ = some (.int .i64 0) := cell_gr hw1 (by go_simp)
  have fw1_0_0 : w1.frozen? ⟨W.heap.size, 0, none⟩ = false := frozen_gr (v := .int .i64 0) hw1 (by go_simp) (by go_simp)
  have cw1_0_1 : w1.cell? ⟨W.heap.size, 1, none⟩ = some (.slice none 0 0) := cell_gr hw1 (by go_simp)
  have fw1_0_1 : w1.frozen? ⟨W.heap.size, 1, none⟩ = false := frozen_gr (v := .slice none 0 0) hw1 (by go_simp) (by go_simp)
  have zw1_0 : W.heap.size < w1.heap.size := World.block_lt_of_cell? _ _ cw1_0_0
  have gw1 : Gr W w1 := Gr.trans (by go_grown) hw1
  clear hw1
  go_wp2_with fail
  go_at_call 23
  (with_reducible refine ((RY.out _)).mono ?_)
  rintro e w2 ⟨rfl, hw2⟩
  have cw2_0_0 : w2.cell? ⟨W.heap.size, 0, none⟩ = some (.int .i64 0) := cell_gr hw2 (by go_simp)
  have fw2_0_0 : w2.frozen? ⟨W.heap.size, 0, none⟩ = false := frozen_gr (v := .int .i64 0) hw2 (by go_simp) (by go_simp)
  have cw2_0_1 : w2.cell? ⟨W.heap.size, 1, none⟩ = some (.slice none 0 0) := cell_gr hw2 (by go_simp)
  have fw2_0_1 : w2.frozen? ⟨W.heap.size, 1, none⟩ = false := frozen_gr (v := .slice none 0 0) hw2 (by go_simp) (by go_simp)
  have zw2_0 : W.heap.size < w2.heap.size := World.block_lt_of_cell? _ _ cw2_0_0
  have gw2 : Gr W w2 := Gr.trans (by have gg := gw1; have gs := gg.size; go_grown) hw2
  clear hw2 gw1 zw1_0 cw1_0_0 fw1_0_0 cw1_0_1 fw1_0_1
  go_wp2_with fail
  go_at_call 23
  (with_reducible refine ((R3.out _)).mono ?_)
  rintro e w3 ⟨rfl, hw3⟩
  have cw3_0_0 : w3.cell? ⟨W.heap.size, 0, none⟩ = some (.int .i64 0) := cell_gr hw3 (by go_simp)
  have fw3_0_0 : w3.frozen? ⟨W.heap.size, 0, none⟩ = false := frozen_gr (v := .int .i64 0) hw3 (by go_simp) (by go_simp)
  have cw3_0_1 : w3.cell? ⟨W.heap.size, 1, none⟩ = some (.slice none 0 0) := cell_gr hw3 (by go_simp)
  have fw3_0_1 : w3.frozen? ⟨W.heap.size, 1, none⟩ = false := frozen_gr (v := .slice none 0 0) hw3 (by go_simp) (by go_simp)
  have zw3_0 : W.heap.size < w3.heap.size := World.block_lt_of_cell? _ _ cw3_0_0
  have gw3 : Gr W w3 := Gr.trans (by have gg := gw2; have gs := gg.size; go_grown) hw3
  clear hw3 gw2 zw2_0 cw2_0_0 fw2_0_0 cw2_0_1 fw2_0_1
  go_wp2_with fail
  go_at_call 23
  (with_reducible refine ((R4.out _)).mono ?_)
  rintro e w4 ⟨rfl, hw4⟩
  have cw4_0_0 : w4.cell? ⟨W.heap.size, 0, none⟩ = some (.int .i64 0) := cell_gr hw4 (by go_simp)
  have fw4_0_0 : w4.frozen? ⟨W.heap.size, 0, none⟩ = false := frozen_gr (v := .int .i64 0) hw4 (by go_simp) (by go_simp)
  have cw4_0_1 : w4.cell? ⟨W.heap.size, 1, none⟩ = some (.slice none 0 0) := cell_gr hw4 (by go_simp)
  have fw4_0_1 : w4.frozen? ⟨W.heap.size, 1, none⟩ = false := frozen_gr (v := .slice none 0 0) hw4 (by go_simp) (by go_simp)
  have zw4_0 : W.heap.size < w4.heap.size := World.block_lt_of_cell? _ _ cw4_0_0
  have gw4 : Gr W w4 := Gr.trans (by have gg := gw3; have gs := gg.size; go_grown) hw4
  clear hw4 gw3 zw3_0 cw3_0_0 fw3_0_0 cw3_0_1 fw3_0_1
  have s4 := gw4.size
  have HG := Lib.hid gw4
  go_wp2_with fail
  refine bodyPost_ret (res_obj (p := 8) (N := W.heap.size) (k := 4) (u := .slice (some ⟨w4.heap.size, 0, none⟩) 4 4) rfl rfl (by go_simp) (by go_simp)) rfl ?_
  refine ⟨w4.heap.size, rfl, gs_pts (by decide) (fun k hk => ?_), s4, by have gg := HG.out; have gs := gg.size; go_grown, fr2_made _ _ _ _ _⟩
  · have hk' : k < 4 := hk
    rcases (by omega : k = 0 ∨ k = 1 ∨ k = 2 ∨ k = 3) with rfl | rfl | rfl | rfl
    · show World.cell? _ ⟨w4.heap.size, 0, none⟩ = some (.int .i64 (x)) ∧ World.cell? _ ⟨w4.heap.size, 1, none⟩ = some (.int .i64 (y))
      exact ⟨by go_simp, by go_simp⟩
    · show World.cell? _ ⟨w4.heap.size, 2, none⟩ = some (.int .i64 (x + 3 * m)) ∧ World.cell? _ ⟨w4.heap.size, 3, none⟩ = some (.int .i64 (y))
      exact ⟨by go_simp, by go_simp⟩
    · show World.cell? _ ⟨w4.heap.size, 4, none⟩ = some (.int .i64 (x + 3 * m)) ∧ World.cell? _ ⟨w4.heap.size, 5, none⟩ = some (.int .i64 (y + 3 * m))
      exact ⟨by go_simp, by go_simp⟩
    · show World.cell? _ ⟨w4.heap.size, 6, none⟩ = some (.int .i64 (x + 2 * m)) ∧ World.cell? _ ⟨w4.heap.size, 7, none⟩ = some (.int .i64 (y + m))
      exact ⟨by go_simp, by go_simp⟩
theorem gs_shape (kd x y n : Int) (m : Nat) (hk : -9223372036854775808 ≤ kd ∧ kd ≤ 9223372036854775807) (h1 : 0 ≤ x) (h2 : x < 1000) (h3 : 0 ≤ y) (h4 : y < 1000) (h5 : 0 ≤ n) (h6 : n < 50) (hm : 1 + n = (m : Int)) : ∃ q : Nat, q < 4 ∧ kd % 4 = (q : Int) ∧ ∀ W : World, Calls Tryz.prog 16 #[.int .i64 kd, .int .i64 x, .int .i64 y, .int .i64 n] W (GsTo W q x y m) := by
  have a := Int.emod_nonneg kd (show (4 : Int) ≠ 0 by decide)
  have b := Int.emod_lt_of_pos kd (show (0 : Int) < 4 by decide)
  rcases (by omega : kd % 4 = 0 ∨ kd % 4 = 1 ∨ kd % 4 = 2 ∨ kd % 4 = 3) with h | h | h | h
  · exact ⟨0, by decide, h, fun W => gs_shape_0 kd x y n m hk h h1 h2 h3 h4 h5 h6 hm W⟩
  · exact ⟨1, by decide, h, fun W => gs_shape_1 kd x y n m hk h h1 h2 h3 h4 h5 h6 hm W⟩
  · exact ⟨2, by decide, h, fun W => gs_shape_2 kd x y n m hk h h1 h2 h3 h4 h5 h6 hm W⟩
  · exact ⟨3, by decide, h, fun W => gs_shape_3 kd x y n m hk h h1 h2 h3 h4 h5 h6 hm W⟩
theorem gs_put (kd x y n id : Int) (hk : -9223372036854775808 ≤ kd ∧ kd ≤ 9223372036854775807) (h1 : 0 ≤ x) (h2 : x < 1000) (h3 : 0 ≤ y) (h4 : y < 1000) (h5 : 0 ≤ n) (h6 : n < 50) (h7 : 0 ≤ id) (h8 : id ≤ 1000000) : ∃ (q m : Nat), q < 4 ∧ kd % 4 = (q : Int) ∧ 1 + n = (m : Int) ∧ chgC 1 id (shK q) (shN q) (gsX q x y m) (gsY q x y m) = 0 ∧ ∀ W : World, Calls Tryz.prog 16 #[.int .i64 kd, .int .i64 x, .int .i64 y, .int .i64 n] W (GsTo W q x y m) := by
  obtain ⟨m, hm⟩ : ∃ m : Nat, 1 + n = (m : Int) := ⟨(1 + n).toNat, by omega⟩
  obtain ⟨q, hq, e, h⟩ := gs_shape kd x y n m hk h1 h2 h3 h4 h5 h6 hm
  exact ⟨q, m, hq, e, hm, chg_gs hq h1 (by omega) h3 (by omega) (by omega) (by omega) h7 h8, h⟩
end Go.Proofs.YtpomllpplpalkaaGreatDoor
