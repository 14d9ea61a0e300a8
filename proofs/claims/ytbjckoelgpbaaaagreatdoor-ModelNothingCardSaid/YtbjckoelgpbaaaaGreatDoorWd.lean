/- model: Same; awake; ModelNothing -/
import Derived.Test.YtbjckoelgpbaaaaGreatDoorWc
namespace Go.Proofs.YtbjckoelgpbaaaaGreatDoor
set_option linter.unusedVariables false
set_option linter.unusedSimpArgs false
open Go.ChangeShapes Go.WideShapes Go.ChangeAt Go.RowKit Go.Maps

theorem md_same_eq (a b : Option Addr) (W : World) (AL : ∀ w, Gr W w → Calls Tryz.prog 19 #[.pointer a] w fun e w' => e = .returned (.int .i64 0) ∧ Gr w w') (BL : ∀ w, Gr W w → Calls Tryz.prog 19 #[.pointer b] w fun e w' => e = .returned (.int .i64 0) ∧ Gr w w') (AI : ∀ w, Gr W w → Calls Tryz.prog 49 #[.pointer a] w fun e w' => e = .returned (.slice none 0 0) ∧ Gr w w') : Calls Tryz.prog 21 #[.pointer a, .pointer b] W fun e w' => e = .returned (.bool true) ∧ Gr W w' := by
  have H1 := Lib.hid AL
  have H2 := Lib.hid BL
  have H3 := Lib.hid AI
  clear AL BL AI
  go_enter Tryz.func21, Tryz.ntmps21
  go_wp2_with fail
  go_at_call 19
  refine ((H1.out _ (by go_grown))).mono ?_
  rintro e w1 ⟨rfl, hw1⟩
  have gw1 : Gr W w1 := Gr.trans (by go_grown) hw1
  clear hw1
  go_wp2_with fail
  go_at_call 19
  refine ((H2.out _ (by have gg := gw1; go_grown))).mono ?_
  rintro e w2 ⟨rfl, hw2⟩
  have gw2 : Gr W w2 := Gr.trans (by have gg := gw1; have gs := gg.size; go_grown) hw2
  clear hw2 gw1
  go_wp2_with fail
  go_at_call 49
  refine ((H3.out _ (by have gg := gw2; go_grown))).mono ?_
  rintro e w3 ⟨rfl, hw3⟩
  have gw3 : Gr W w3 := Gr.trans (by have gg := gw2; have gs := gg.size; go_grown) hw3
  clear hw3 gw2
  go_wp2_with fail
  refine wp_loop_rounds 1 ?_
  rw [rounds_succ]
  go_wp2_with fail
  go_ret
  exact ⟨rfl, gw3⟩
theorem md_same_no (a b : Option Addr) (W : World) (AL : ∀ w, Gr W w → Calls Tryz.prog 19 #[.pointer a] w fun e w' => e = .returned (.int .i64 1) ∧ Gr w w') (BL : ∀ w, Gr W w → Calls Tryz.prog 19 #[.pointer b] w fun e w' => e = .returned (.int .i64 0) ∧ Gr w w') : Calls Tryz.prog 21 #[.pointer a, .pointer b] W fun e w' => e = .returned (.bool false) ∧ Gr W w' := by
  have H1 := Lib.hid AL
  have H2 := Lib.hid BL
  clear AL BL
  go_enter Tryz.func21, Tryz.ntmps21
  go_wp2_with fail
  go_at_call 19
  refine ((H1.out _ (by go_grown))).mono ?_
  rintro e w1 ⟨rfl, hw1⟩
  have gw1 : Gr W w1 := Gr.trans (by go_grown) hw1
  clear hw1
  go_wp2_with fail
  go_at_call 19
  refine ((H2.out _ (by have gg := gw1; go_grown))).mono ?_
  rintro e w2 ⟨rfl, hw2⟩
  have gw2 : Gr W w2 := Gr.trans (by have gg := gw1; have gs := gg.size; go_grown) hw2
  clear hw2 gw1
  go_wp2_with fail
  go_ret
  exact ⟨rfl, gw2⟩
theorem pts_one {w : World} {B : Nat} {x y : Int} (h0 : w.cell? ⟨B, 0, none⟩ = some (.int .i64 x)) (h1 : w.cell? ⟨B, 1, none⟩ = some (.int .i64 y)) : Pts w (.slice (some ⟨B, 0, none⟩) 1 1) 1 (fun _ => x) (fun _ => y) :=
  ⟨_, 1, B, 0, rfl, Nat.le_refl _, by decide, fun _ => rfl, fun q hq => by
    obtain rfl : q = 0 := by omega
    exact ⟨h0, h1⟩⟩
theorem pts_two {w : World} {B : Nat} {x y z t : Int} (h0 : w.cell? ⟨B, 0, none⟩ = some (.int .i64 x)) (h1 : w.cell? ⟨B, 1, none⟩ = some (.int .i64 y)) (h2 : w.cell? ⟨B, 2, none⟩ = some (.int .i64 z)) (h3 : w.cell? ⟨B, 3, none⟩ = some (.int .i64 t)) : Pts w (.slice (some ⟨B, 0, none⟩) 2 2) 2 (fun q => if q = 0 then x else z) (fun q => if q = 0 then y else t) :=
  ⟨_, 2, B, 0, rfl, Nat.le_refl _, by decide, fun _ => rfl, fun q hq => by
    rcases (by omega : q = 0 ∨ q = 1) with rfl | rfl
    · exact ⟨h0, h1⟩
    · exact ⟨h2, h3⟩⟩
theorem chg_one : chgC 1 5 1 1 (fun _ => 1) (fun _ => 1) = 0 := by decide
theorem chg_two : chgC 1 1 3 2 (fun q => if q = 0 then 1 else 3) (fun q => if q = 0 then 1 else 3) = 0 := by decide
set_option maxHeartbeats 2000000 in
set_option maxRecDepth 100000 in
theorem p23_awake (W : World) (hE : ErrT W) : Calls Tryz.prog 22 #[] W fun e w' => e = .returned (.bool true) ∧ Gr W w' := by
  have HE := Lib.hid hE
  clear hE
  go_enter Tryz.func22, Tryz.ntmps22
  go_wp2_with fail
  go_at_call 25
  refine (md_New _).mono ?_
  rintro e w0 ⟨rfl, rfl⟩
  go_wp2_with fail
  go_at_call 16
  (with_reducible refine ((md_shape2 _)).mono ?_)
  rintro e w1 ⟨B, rfl, s0, s1, s2, s3, hB, hw1⟩
  have cw1_0_0 : w1.cell? ⟨W.heap.size, 0, none⟩ = some (.map none) := cell_gr hw1 (by go_simp)
  have fw1_0_0 : w1.frozen? ⟨W.heap.size, 0, none⟩ = false := frozen_gr (v := .map none) hw1 (by go_simp) (by go_simp)
  have zw1_0 : W.heap.size < w1.heap.size := World.block_lt_of_cell? _ _ cw1_0_0
  have gw1 : Gr W w1 := Gr.trans (by go_grown) hw1
  clear hw1
  have hBQ : B ≠ W.heap.size := by
    have := cw1_0_0
    simp at hB
    omega
  have zB := World.block_lt_of_cell? _ _ s0
  have HS := Lib.hid (And.intro s0 (And.intro s1 (And.intro s2 s3)))
  have hW1 := zw1_0
  have AA := Lib.hid (fun w (g : Gr w1 w) => md_apply_new (id := 1) (k := 3) hBQ (by omega) (by omega) (by omega) w (pts_two (cell_gr g HS.out.1) (cell_gr g HS.out.2.1) (cell_gr g HS.out.2.2.1) (cell_gr g HS.out.2.2.2)) chg_two)
  have hC : W.heap.size ≠ w1.heap.size := by omega
  go_wp2_with fail
  go_at_call 18
  refine (AA.out _ (by go_grown) (by go_simp) (by go_simp)).mono ?_
  rintro e w2 ⟨m, B2, c2, rfl, q2, m2, K2⟩
  have G2 : Gr W w2 := Kx.gr K2 (by have gg := gw1; have gs := gg.size; go_grown) (fun k hk => by have h1 : k = W.heap.size := hk; omega)
  have P2 := pts_two (x := 1) (y := 1) (z := 3) (t := 3) (cell_kx K2 (p := ⟨B, 0, none⟩) hBQ (by go_simp)) (cell_kx K2 (p := ⟨B, 1, none⟩) hBQ (by go_simp)) (cell_kx K2 (p := ⟨B, 2, none⟩) hBQ (by go_simp)) (cell_kx K2 (p := ⟨B, 3, none⟩) hBQ (by go_simp))
  have d0 : w2.cell? ⟨w1.heap.size, 0, none⟩ = some (.int .i64 1) := cell_kx K2 (p := ⟨w1.heap.size, 0, none⟩) (fun e => hC e.symm) (by go_simp)
  have d1 : w2.cell? ⟨w1.heap.size, 1, none⟩ = some (.int .i64 1) := cell_kx K2 (p := ⟨w1.heap.size, 1, none⟩) (fun e => hC e.symm) (by go_simp)
  have d2 : w2.cell? ⟨w1.heap.size, 2, none⟩ = some (.int .i64 3) := cell_kx K2 (p := ⟨w1.heap.size, 2, none⟩) (fun e => hC e.symm) (by go_simp)
  have d3 : w2.cell? ⟨w1.heap.size, 3, none⟩ = some (.slice (some ⟨B, 0, none⟩) 2 2) := cell_kx K2 (p := ⟨w1.heap.size, 3, none⟩) (fun e => hC e.symm) (by go_simp)
  have zd := World.block_lt_of_cell? _ _ d0
  have AD := Lib.hid (md_apply_dup (id := 1) (k := 3) (by omega) w2 P2 chg_two q2 m2 (dO_has 1 _) (dO_at 1 _))
  have HQ := Lib.hid (And.intro q2 (And.intro m2 G2))
  clear q2 m2 K2 P2 G2 s0 s1 s2 s3 cw1_0_0 fw1_0_0 zw1_0 gw1 AA hB
  go_wp2_with fail
  go_at_call 18
  refine (AD.out).mono ?_
  rintro e w3 ⟨F, rfl, hf, g3⟩
  have AS := Lib.hid (c_AlIs_hit F modelS 1 6 (by decide) w3 (errT_gr HE.out (Gr.trans HQ.out.2.2 g3)) hf)
  have HG3 := Lib.hid g3
  clear hf g3 d0 d1 d2 d3 zd AD
  go_wp2_with fail
  go_at_call 10
  refine (AS.out).mono ?_
  rintro e w4 ⟨rfl, g4⟩
  have G4 := Gr.trans HG3.out g4
  have AL := Lib.hid (md_len_m w4 (cell_gr G4 HQ.out.1) (ownsMap_kx HQ.out.2.1 (Kx.of_gr (S := fun _ => False) G4) (fun h => h)))
  have HG4 := Lib.hid G4
  clear g4 G4
  go_wp2_with fail
  go_at_call 19
  refine (AL.out).mono ?_
  rintro e w5 ⟨rfl, g5⟩
  rw [dO_size]
  go_wp2_with fail
  go_ret
  exact ⟨rfl, Gr.trans HQ.out.2.2 (Gr.trans HG4.out g5)⟩
set_option maxHeartbeats 4000000 in
set_option maxRecDepth 100000 in
theorem walk_ModelNothing (z : Int) (hz : -9223372036854775808 ≤ z ∧ z ≤ 9223372036854775807) (W : World) (hE : ErrT W) : Calls Tryz.prog 4 #[.int .i64 z] W fun e w' => e = .returned (.bool true) ∧ Gr W w' := by
  have HE := Lib.hid hE
  clear hE hz
  go_enter Tryz.func4, Tryz.ntmps4
  go_wp2_with fail
  go_at_call 16
  (with_reducible refine ((md_shape0 _)).mono ?_)
  rintro e w1 ⟨B, rfl, s0, s1, hB, hw1⟩
  have cw1_0_0 : w1.cell? ⟨W.heap.size, 0, none⟩ = some (.map none) := cell_gr hw1 (by go_simp)
  have fw1_0_0 : w1.frozen? ⟨W.heap.size, 0, none⟩ = false := frozen_gr (v := .map none) hw1 (by go_simp) (by go_simp)
  have zw1_0 : W.heap.size < w1.heap.size := World.block_lt_of_cell? _ _ cw1_0_0
  have gw1 : Gr W w1 := Gr.trans (by go_grown) hw1
  clear hw1
  have hBQ : B ≠ W.heap.size := by
    simp at hB
    omega
  have hC : W.heap.size ≠ w1.heap.size := by omega
  have zB := World.block_lt_of_cell? _ _ s0
  clear hB
  go_wp2_with fail
  go_at_call 17
  (with_reducible refine ((md_get_nil z _)).mono ?_)
  rintro e w2 ⟨rfl, hw2⟩
  have cw2_0_0 : w2.cell? ⟨W.heap.size, 0, none⟩ = some (.map none) := cell_gr hw2 (by go_simp)
  have fw2_0_0 : w2.frozen? ⟨W.heap.size, 0, none⟩ = false := frozen_gr (v := .map none) hw2 (by go_simp) (by go_simp)
  have zw2_0 : W.heap.size < w2.heap.size := World.block_lt_of_cell? _ _ cw2_0_0
  have cw2_1_0 : w2.cell? ⟨w1.heap.size, 0, none⟩ = some (.int .i64 1) := cell_gr hw2 (by go_simp)
  have cw2_1_1 : w2.cell? ⟨w1.heap.size, 1, none⟩ = some (.int .i64 5) := cell_gr hw2 (by go_simp)
  have cw2_1_2 : w2.cell? ⟨w1.heap.size, 2, none⟩ = some (.int .i64 1) := cell_gr hw2 (by go_simp)
  have cw2_1_3 : w2.cell? ⟨w1.heap.size, 3, none⟩ = some (.slice (some ⟨B, 0, none⟩) 1 1) := cell_gr hw2 (by go_simp)
  have zw2_1 : w1.heap.size < w2.heap.size := World.block_lt_of_cell? _ _ cw2_1_0
  have cw2_2_0 : w2.cell? ⟨B, 0, none⟩ = some (.int .i64 1) := cell_gr hw2 (by go_simp)
  have cw2_2_1 : w2.cell? ⟨B, 1, none⟩ = some (.int .i64 1) := cell_gr hw2 (by go_simp)
  have zw2_2 : B < w2.heap.size := World.block_lt_of_cell? _ _ cw2_2_0
  have gw2 : Gr W w2 := Gr.trans (by have gg := gw1; have gs := gg.size; go_grown) hw2
  clear hw2 gw1 zw1_0 cw1_0_0 fw1_0_0
  clear s0 s1
  go_wp2_with fail
  go_at_call 18
  (with_reducible refine ((md_apply_nil 1 5 1 _ 1 1 _)).mono ?_)
  rintro e w3 ⟨F, rfl, hf, hw3⟩
  have cw3_0_0 : w3.cell? ⟨W.heap.size, 0, none⟩ = some (.map none) := cell_gr hw3 (by go_simp)
  have fw3_0_0 : w3.frozen? ⟨W.heap.size, 0, none⟩ = false := frozen_gr (v := .map none) hw3 (by go_simp) (by go_simp)
  have zw3_0 : W.heap.size < w3.heap.size := World.block_lt_of_cell? _ _ cw3_0_0
  have cw3_1_0 : w3.cell? ⟨w1.heap.size, 0, none⟩ = some (.int .i64 1) := cell_gr hw3 (by go_simp)
  have cw3_1_1 : w3.cell? ⟨w1.heap.size, 1, none⟩ = some (.int .i64 5) := cell_gr hw3 (by go_simp)
  have cw3_1_2 : w3.cell? ⟨w1.heap.size, 2, none⟩ = some (.int .i64 1) := cell_gr hw3 (by go_simp)
  have cw3_1_3 : w3.cell? ⟨w1.heap.size, 3, none⟩ = some (.slice (some ⟨B, 0, none⟩) 1 1) := cell_gr hw3 (by go_simp)
  have zw3_1 : w1.heap.size < w3.heap.size := World.block_lt_of_cell? _ _ cw3_1_0
  have cw3_2_0 : w3.cell? ⟨B, 0, none⟩ = some (.int .i64 1) := cell_gr hw3 (by go_simp)
  have cw3_2_1 : w3.cell? ⟨B, 1, none⟩ = some (.int .i64 1) := cell_gr hw3 (by go_simp)
  have zw3_2 : B < w3.heap.size := World.block_lt_of_cell? _ _ cw3_2_0
  have gw3 : Gr W w3 := Gr.trans (by have gg := gw2; have gs := gg.size; go_grown) hw3
  clear hw3 gw2 zw2_0 cw2_0_0 fw2_0_0 zw2_1 cw2_1_0 cw2_1_1 cw2_1_2 cw2_1_3 zw2_2 cw2_2_0 cw2_2_1
  have AS := Lib.hid (c_AlIs_hit F modelS 5 1 (by decide) w3 (errT_gr HE.out gw3) hf)
  clear hf
  go_wp2_with fail
  go_at_call 10
  refine ((AS.out)).mono ?_
  rintro e w4 ⟨rfl, hw4⟩
  have cw4_0_0 : w4.cell? ⟨W.heap.size, 0, none⟩ = some (.map none) := cell_gr hw4 (by go_simp)
  have fw4_0_0 : w4.frozen? ⟨W.heap.size, 0, none⟩ = false := frozen_gr (v := .map none) hw4 (by go_simp) (by go_simp)
  have zw4_0 : W.heap.size < w4.heap.size := World.block_lt_of_cell? _ _ cw4_0_0
  have cw4_1_0 : w4.cell? ⟨w1.heap.size, 0, none⟩ = some (.int .i64 1) := cell_gr hw4 (by go_simp)
  have cw4_1_1 : w4.cell? ⟨w1.heap.size, 1, none⟩ = some (.int .i64 5) := cell_gr hw4 (by go_simp)
  have cw4_1_2 : w4.cell? ⟨w1.heap.size, 2, none⟩ = some (.int .i64 1) := cell_gr hw4 (by go_simp)
  have cw4_1_3 : w4.cell? ⟨w1.heap.size, 3, none⟩ = some (.slice (some ⟨B, 0, none⟩) 1 1) := cell_gr hw4 (by go_simp)
  have zw4_1 : w1.heap.size < w4.heap.size := World.block_lt_of_cell? _ _ cw4_1_0
  have cw4_2_0 : w4.cell? ⟨B, 0, none⟩ = some (.int .i64 1) := cell_gr hw4 (by go_simp)
  have cw4_2_1 : w4.cell? ⟨B, 1, none⟩ = some (.int .i64 1) := cell_gr hw4 (by go_simp)
  have zw4_2 : B < w4.heap.size := World.block_lt_of_cell? _ _ cw4_2_0
  have gw4 : Gr W w4 := Gr.trans (by have gg := gw3; have gs := gg.size; go_grown) hw4
  clear hw4 gw3 zw3_0 cw3_0_0 fw3_0_0 zw3_1 cw3_1_0 cw3_1_1 cw3_1_2 cw3_1_3 zw3_2 cw3_2_0 cw3_2_1
  clear AS
  go_wp2_with fail
  go_at_call 19
  (with_reducible refine ((md_len_nil _)).mono ?_)
  rintro e w5 ⟨rfl, hw5⟩
  have cw5_0_0 : w5.cell? ⟨W.heap.size, 0, none⟩ = some (.map none) := cell_gr hw5 (by go_simp)
  have fw5_0_0 : w5.frozen? ⟨W.heap.size, 0, none⟩ = false := frozen_gr (v := .map none) hw5 (by go_simp) (by go_simp)
  have zw5_0 : W.heap.size < w5.heap.size := World.block_lt_of_cell? _ _ cw5_0_0
  have cw5_1_0 : w5.cell? ⟨w1.heap.size, 0, none⟩ = some (.int .i64 1) := cell_gr hw5 (by go_simp)
  have cw5_1_1 : w5.cell? ⟨w1.heap.size, 1, none⟩ = some (.int .i64 5) := cell_gr hw5 (by go_simp)
  have cw5_1_2 : w5.cell? ⟨w1.heap.size, 2, none⟩ = some (.int .i64 1) := cell_gr hw5 (by go_simp)
  have cw5_1_3 : w5.cell? ⟨w1.heap.size, 3, none⟩ = some (.slice (some ⟨B, 0, none⟩) 1 1) := cell_gr hw5 (by go_simp)
  have zw5_1 : w1.heap.size < w5.heap.size := World.block_lt_of_cell? _ _ cw5_1_0
  have cw5_2_0 : w5.cell? ⟨B, 0, none⟩ = some (.int .i64 1) := cell_gr hw5 (by go_simp)
  have cw5_2_1 : w5.cell? ⟨B, 1, none⟩ = some (.int .i64 1) := cell_gr hw5 (by go_simp)
  have zw5_2 : B < w5.heap.size := World.block_lt_of_cell? _ _ cw5_2_0
  have gw5 : Gr W w5 := Gr.trans (by have gg := gw4; have gs := gg.size; go_grown) hw5
  clear hw5 gw4 zw4_0 cw4_0_0 fw4_0_0 zw4_1 cw4_1_0 cw4_1_1 cw4_1_2 cw4_1_3 zw4_2 cw4_2_0 cw4_2_1
  go_wp2_with fail
  go_at_call 20
  (with_reducible refine ((md_items_nil _)).mono ?_)
  rintro e w6 ⟨ad, cc, rfl, hw6⟩
  have cw6_0_0 : w6.cell? ⟨W.heap.size, 0, none⟩ = some (.map none) := cell_gr hw6 (by go_simp)
  have fw6_0_0 : w6.frozen? ⟨W.heap.size, 0, none⟩ = false := frozen_gr (v := .map none) hw6 (by go_simp) (by go_simp)
  have zw6_0 : W.heap.size < w6.heap.size := World.block_lt_of_cell? _ _ cw6_0_0
  have cw6_1_0 : w6.cell? ⟨w1.heap.size, 0, none⟩ = some (.int .i64 1) := cell_gr hw6 (by go_simp)
  have cw6_1_1 : w6.cell? ⟨w1.heap.size, 1, none⟩ = some (.int .i64 5) := cell_gr hw6 (by go_simp)
  have cw6_1_2 : w6.cell? ⟨w1.heap.size, 2, none⟩ = some (.int .i64 1) := cell_gr hw6 (by go_simp)
  have cw6_1_3 : w6.cell? ⟨w1.heap.size, 3, none⟩ = some (.slice (some ⟨B, 0, none⟩) 1 1) := cell_gr hw6 (by go_simp)
  have zw6_1 : w1.heap.size < w6.heap.size := World.block_lt_of_cell? _ _ cw6_1_0
  have cw6_2_0 : w6.cell? ⟨B, 0, none⟩ = some (.int .i64 1) := cell_gr hw6 (by go_simp)
  have cw6_2_1 : w6.cell? ⟨B, 1, none⟩ = some (.int .i64 1) := cell_gr hw6 (by go_simp)
  have zw6_2 : B < w6.heap.size := World.block_lt_of_cell? _ _ cw6_2_0
  have gw6 : Gr W w6 := Gr.trans (by have gg := gw5; have gs := gg.size; go_grown) hw6
  clear hw6 gw5 zw5_0 cw5_0_0 fw5_0_0 zw5_1 cw5_1_0 cw5_1_1 cw5_1_2 cw5_1_3 zw5_2 cw5_2_0 cw5_2_1
  go_wp2_with fail
  go_at_call 21
  (with_reducible refine ((md_same_eq none none _ (fun w _ => md_len_nil w) (fun w _ => md_len_nil w) (fun w _ => md_ids_nil w))).mono ?_)
  rintro e w7 ⟨rfl, hw7⟩
  have cw7_0_0 : w7.cell? ⟨W.heap.size, 0, none⟩ = some (.map none) := cell_gr hw7 (by go_simp)
  have fw7_0_0 : w7.frozen? ⟨W.heap.size, 0, none⟩ = false := frozen_gr (v := .map none) hw7 (by go_simp) (by go_simp)
  have zw7_0 : W.heap.size < w7.heap.size := World.block_lt_of_cell? _ _ cw7_0_0
  have cw7_1_0 : w7.cell? ⟨w1.heap.size, 0, none⟩ = some (.int .i64 1) := cell_gr hw7 (by go_simp)
  have cw7_1_1 : w7.cell? ⟨w1.heap.size, 1, none⟩ = some (.int .i64 5) := cell_gr hw7 (by go_simp)
  have cw7_1_2 : w7.cell? ⟨w1.heap.size, 2, none⟩ = some (.int .i64 1) := cell_gr hw7 (by go_simp)
  have cw7_1_3 : w7.cell? ⟨w1.heap.size, 3, none⟩ = some (.slice (some ⟨B, 0, none⟩) 1 1) := cell_gr hw7 (by go_simp)
  have zw7_1 : w1.heap.size < w7.heap.size := World.block_lt_of_cell? _ _ cw7_1_0
  have cw7_2_0 : w7.cell? ⟨B, 0, none⟩ = some (.int .i64 1) := cell_gr hw7 (by go_simp)
  have cw7_2_1 : w7.cell? ⟨B, 1, none⟩ = some (.int .i64 1) := cell_gr hw7 (by go_simp)
  have zw7_2 : B < w7.heap.size := World.block_lt_of_cell? _ _ cw7_2_0
  have gw7 : Gr W w7 := Gr.trans (by have gg := gw6; have gs := gg.size; go_grown) hw7
  clear hw7 gw6 zw6_0 cw6_0_0 fw6_0_0 zw6_1 cw6_1_0 cw6_1_1 cw6_1_2 cw6_1_3 zw6_2 cw6_2_0 cw6_2_1
  go_wp2_with fail
  go_at_call 21
  (with_reducible refine ((md_same_eq none (some ⟨W.heap.size, 0, none⟩) _ (fun w _ => md_len_nil w) (fun w g => md_len_0 w (cell_gr g cw7_0_0)) (fun w _ => md_ids_nil w))).mono ?_)
  rintro e w8 ⟨rfl, hw8⟩
  have cw8_0_0 : w8.cell? ⟨W.heap.size, 0, none⟩ = some (.map none) := cell_gr hw8 (by go_simp)
  have fw8_0_0 : w8.frozen? ⟨W.heap.size, 0, none⟩ = false := frozen_gr (v := .map none) hw8 (by go_simp) (by go_simp)
  have zw8_0 : W.heap.size < w8.heap.size := World.block_lt_of_cell? _ _ cw8_0_0
  have cw8_1_0 : w8.cell? ⟨w1.heap.size, 0, none⟩ = some (.int .i64 1) := cell_gr hw8 (by go_simp)
  have cw8_1_1 : w8.cell? ⟨w1.heap.size, 1, none⟩ = some (.int .i64 5) := cell_gr hw8 (by go_simp)
  have cw8_1_2 : w8.cell? ⟨w1.heap.size, 2, none⟩ = some (.int .i64 1) := cell_gr hw8 (by go_simp)
  have cw8_1_3 : w8.cell? ⟨w1.heap.size, 3, none⟩ = some (.slice (some ⟨B, 0, none⟩) 1 1) := cell_gr hw8 (by go_simp)
  have zw8_1 : w1.heap.size < w8.heap.size := World.block_lt_of_cell? _ _ cw8_1_0
  have cw8_2_0 : w8.cell? ⟨B, 0, none⟩ = some (.int .i64 1) := cell_gr hw8 (by go_simp)
  have cw8_2_1 : w8.cell? ⟨B, 1, none⟩ = some (.int .i64 1) := cell_gr hw8 (by go_simp)
  have zw8_2 : B < w8.heap.size := World.block_lt_of_cell? _ _ cw8_2_0
  have gw8 : Gr W w8 := Gr.trans (by have gg := gw7; have gs := gg.size; go_grown) hw8
  clear hw8 gw7 zw7_0 cw7_0_0 fw7_0_0 zw7_1 cw7_1_0 cw7_1_1 cw7_1_2 cw7_1_3 zw7_2 cw7_2_0 cw7_2_1
  go_wp2_with fail
  go_at_call 21
  (with_reducible refine ((md_same_eq (some ⟨W.heap.size, 0, none⟩) none _ (fun w g => md_len_0 w (cell_gr g cw8_0_0)) (fun w _ => md_len_nil w) (fun w g => md_ids_0 w (cell_gr g cw8_0_0)))).mono ?_)
  rintro e w9 ⟨rfl, hw9⟩
  have cw9_0_0 : w9.cell? ⟨W.heap.size, 0, none⟩ = some (.map none) := cell_gr hw9 (by go_simp)
  have fw9_0_0 : w9.frozen? ⟨W.heap.size, 0, none⟩ = false := frozen_gr (v := .map none) hw9 (by go_simp) (by go_simp)
  have zw9_0 : W.heap.size < w9.heap.size := World.block_lt_of_cell? _ _ cw9_0_0
  have cw9_1_0 : w9.cell? ⟨w1.heap.size, 0, none⟩ = some (.int .i64 1) := cell_gr hw9 (by go_simp)
  have cw9_1_1 : w9.cell? ⟨w1.heap.size, 1, none⟩ = some (.int .i64 5) := cell_gr hw9 (by go_simp)
  have cw9_1_2 : w9.cell? ⟨w1.heap.size, 2, none⟩ = some (.int .i64 1) := cell_gr hw9 (by go_simp)
  have cw9_1_3 : w9.cell? ⟨w1.heap.size, 3, none⟩ = some (.slice (some ⟨B, 0, none⟩) 1 1) := cell_gr hw9 (by go_simp)
  have zw9_1 : w1.heap.size < w9.heap.size := World.block_lt_of_cell? _ _ cw9_1_0
  have cw9_2_0 : w9.cell? ⟨B, 0, none⟩ = some (.int .i64 1) := cell_gr hw9 (by go_simp)
  have cw9_2_1 : w9.cell? ⟨B, 1, none⟩ = some (.int .i64 1) := cell_gr hw9 (by go_simp)
  have zw9_2 : B < w9.heap.size := World.block_lt_of_cell? _ _ cw9_2_0
  have gw9 : Gr W w9 := Gr.trans (by have gg := gw8; have gs := gg.size; go_grown) hw9
  clear hw9 gw8 zw8_0 cw8_0_0 fw8_0_0 zw8_1 cw8_1_0 cw8_1_1 cw8_1_2 cw8_1_3 zw8_2 cw8_2_0 cw8_2_1
  have AA := Lib.hid (md_apply_new (id := 5) (k := 1) hBQ (by omega) (by omega) (by omega) w9 (pts_one cw9_2_0 cw9_2_1) chg_one cw9_0_0 fw9_0_0)
  have HG9 := Lib.hid gw9
  go_wp2_with fail
  go_at_call 18
  refine (AA.out).mono ?_
  rintro e wa ⟨m, B2, c2, rfl, q2, m2, K2⟩
  have Ga : Gr W wa := Kx.gr K2 HG9.out (fun k hk => by have h1 : k = W.heap.size := hk; omega)
  have HQ := Lib.hid (And.intro q2 (And.intro m2 Ga))
  have AL := Lib.hid (fun w (g : Gr wa w) => md_len_m w (cell_gr g q2) (ownsMap_kx m2 (Kx.of_gr (S := fun _ => False) g) (fun h => h)))
  have AL2 := Lib.hid (fun w (g : Gr wa w) => show Calls Tryz.prog 19 #[.pointer (some ⟨W.heap.size, 0, none⟩)] w (fun e w' => e = .returned (.int .i64 1) ∧ Gr w w') from md_len_m w (cell_gr g q2) (ownsMap_kx m2 (Kx.of_gr (S := fun _ => False) g) (fun h => h)))
  clear q2 m2 K2 Ga AA cw9_0_0 fw9_0_0 zw9_0 cw9_1_0 cw9_1_1 cw9_1_2 cw9_1_3 zw9_1 cw9_2_0 cw9_2_1 zw9_2 gw9
  go_wp2_with fail
  go_at_call 19
  refine (AL2.out _ (Below.refl _ _)).mono ?_
  rintro e wb ⟨rfl, gb⟩
  have Gb := Lib.hid gb
  clear gb
  go_wp2_with fail
  go_at_call 21
  refine (md_same_no (some ⟨W.heap.size, 0, none⟩) none _ (fun w g => AL2.out w (Gr.trans Gb.out g)) (fun w _ => md_len_nil w)).mono ?_
  rintro e wc ⟨rfl, gc⟩
  have Gc := Lib.hid (Gr.trans HQ.out.2.2 (Gr.trans Gb.out gc))
  clear gc
  go_wp2_with fail
  go_at_call 22
  refine (p23_awake _ (errT_gr HE.out Gc.out)).mono ?_
  rintro e wd ⟨rfl, gd⟩
  go_wp2_with fail
  go_ret
  exact ⟨rfl, Gr.trans Gc.out gd⟩
end Go.Proofs.YtbjckoelgpbaaaaGreatDoor
