/- model: Same; awake; ModelNothing -/
import Derived.Test.YtapfecmdfoobcaaGreatDoorWc
namespace Go.Proofs.YtapfecmdfoobcaaGreatDoor
set_option linter.unusedVariables false
set_option linter.unusedSimpArgs false
open Go.ChangeShapes Go.WideShapes Go.ChangeAt Go.RowKit Go.Maps

theorem md_same_eq (a b : Option Addr) (W : World) (AL : ∀ w, Gr W w → Calls Tryz.prog 17 #[.pointer a] w fun e w' => e = .returned (.int .i64 0) ∧ Gr w w') (BL : ∀ w, Gr W w → Calls Tryz.prog 17 #[.pointer b] w fun e w' => e = .returned (.int .i64 0) ∧ Gr w w') (AI : ∀ w, Gr W w → Calls Tryz.prog 22 #[.pointer a] w fun e w' => e = .returned (.slice none 0 0) ∧ Gr w w') : Calls Tryz.prog 11 #[.pointer a, .pointer b] W fun e w' => e = .returned (.bool true) ∧ Gr W w' := by
  have H1 := Lib.hid AL
  have H2 := Lib.hid BL
  have H3 := Lib.hid AI
  clear AL BL AI
  go_enter Tryz.func11, Tryz.ntmps11
  go_wp2_with fail
  go_at_call 17
  refine ((H1.out _ (by go_grown))).mono ?_
  rintro e w1 ⟨rfl, hw1⟩
  have gw1 : Gr W w1 := Gr.trans (by go_grown) hw1
  clear hw1
  go_wp2_with fail
  go_at_call 17
  refine ((H2.out _ (by have gg := gw1; go_grown))).mono ?_
  rintro e w2 ⟨rfl, hw2⟩
  have gw2 : Gr W w2 := Gr.trans (by have gg := gw1; have gs := gg.size; go_grown) hw2
  clear hw2 gw1
  go_wp2_with fail
  go_at_call 22
  refine ((H3.out _ (by have gg := gw2; go_grown))).mono ?_
  rintro e w3 ⟨rfl, hw3⟩
  have gw3 : Gr W w3 := Gr.trans (by have gg := gw2; have gs := gg.size; go_grown) hw3
  clear hw3 gw2
  go_wp2_with fail
  refine wp_loop_rounds 1 ?_
  rw [rounds_succ]
  go_wp2_with fail
  go_ret
  exact ⟨rfl, gw3⟩
theorem md_same_no (a b : Option Addr) (W : World) (AL : ∀ w, Gr W w → Calls Tryz.prog 17 #[.pointer a] w fun e w' => e = .returned (.int .i64 1) ∧ Gr w w') (BL : ∀ w, Gr W w → Calls Tryz.prog 17 #[.pointer b] w fun e w' => e = .returned (.int .i64 0) ∧ Gr w w') : Calls Tryz.prog 11 #[.pointer a, .pointer b] W fun e w' => e = .returned (.bool false) ∧ Gr W w' := by
  have H1 := Lib.hid AL
  have H2 := Lib.hid BL
  clear AL BL
  go_enter Tryz.func11, Tryz.ntmps11
  go_wp2_with fail
  go_at_call 17
  refine ((H1.out _ (by go_grown))).mono ?_
  rintro e w1 ⟨rfl, hw1⟩
  have gw1 : Gr W w1 := Gr.trans (by go_grown) hw1
  clear hw1
  go_wp2_with fail
  go_at_call 17
  refine ((H2.out _ (by have gg := gw1; go_grown))).mono ?_
  rintro e w2 ⟨rfl, hw2⟩
  have gw2 : Gr W w2 := Gr.trans (by have gg := gw1; have gs := gg.size; go_grown) hw2
  clear hw2 gw1
  go_wp2_with fail
  go_ret
  exact ⟨rfl, gw2⟩
theorem pts_one {w : World} {B : Nat} {x y : Int} (h0 : w.cell? ⟨B, 0, none⟩ = some (.int .i64 x)) (h1 : w.cell? ⟨B, 1, none⟩ = some (.int .i64 y)) : Pts w (.slice (some ⟨B, 0, none⟩) 1 1) 1 (fun _ => x) (fun _ => y) :=
  ⟨_, 1, B, 0, rfl, Nat.le_refl _, by decide, fun _ => rfl, fun q hq => by
    obtain rfl : q = 0 := by omega
    exact ⟨h0, h1⟩⟩
theorem pts_two {w : World} {B : Nat} {x y z t : Int} (h0 : w.cell? ⟨B, 0, none⟩ = some (.int .i64 x)) (h1 : w.cell? ⟨B, 1, none⟩ = some (.int .i64 y)) (h2 : w.cell? ⟨B, 2, none⟩ = some (.int .i64 z)) (h3 : w.cell? ⟨B, 3, none⟩ = some (.int .i64 t)) : Pts w (.slice (some ⟨B, 0, none⟩) 2 2) 2 (fun q => if q = 0 then x else z) (fun q => if q = 0 then y else t) :=
  ⟨_, 2, B, 0, rfl, Nat.le_refl _, by decide, fun _ => rfl, fun q hq => by
    rcases (by omega : q = 0 ∨ q = 1) with rfl | rfl
    · exact ⟨h0, h1⟩
    · exact ⟨h2, h3⟩⟩
theorem chg_one : chgC 1 5 1 1 (fun _ => 1) (fun _ => 1) = 0 := by decide
theorem chg_two : chgC 1 1 3 2 (fun q => if q = 0 then 1 else 3) (fun q => if q = 0 then 1 else 3) = 0 := by decide
set_option maxHeartbeats 2000000 in
set_option maxRecDepth 100000 in
theorem p23_awake (W : World) (hE : ErrT W) : Calls Tryz.prog 6 #[] W fun e w' => e = .returned (.bool true) ∧ Gr W w' := by
  have HE := Lib.hid hE
  clear hE
  go_enter Tryz.func6, Tryz.ntmps6
  go_wp2_with fail
  go_at_call 7
  refine (md_New _).mono ?_
  rintro e w0 ⟨rfl, rfl⟩
  go_wp2_with fail
  go_at_call 15
  (with_reducible refine ((md_shape2 _)).mono ?_)
  rintro e w1 ⟨B, rfl, s0, s1, s2, s3, hB, hw1⟩
  have cw1_0_0 : w1.cell? ⟨W.heap.size, 0, none⟩ = some (.map none) := cell_gr hw1 (by go_simp)
  have fw1_0_0 : w1.frozen? ⟨W.heap.size, 0, none⟩ = false := frozen_gr (v := .map none) hw1 (by go_simp) (by go_simp)
  have zw1_0 : W.heap.size < w1.heap.size := World.block_lt_of_cell? _ _ cw1_0_0
  have gw1 : Gr W w1 := Gr.trans (by go_grown) hw1
  clear hw1
  have hBQ : B ≠ W.heap.size := by
    have := cw1_0_0
    simp at hB
    omega
  have zB := World.block_lt_of_cell? _ _ s0
  have HS := Lib.hid (And.intro s0 (And.intro s1 (And.intro s2 s3)))
  have hW1 := zw1_0
  have AA := Lib.hid (fun w (g : Gr w1 w) => md_apply_new (id := 1) (k := 3) hBQ (by omega) (by omega) (by omega) w (pts_two (cell_gr g HS.out.1) (cell_gr g HS.out.2.1) (cell_gr g HS.out.2.2.1) (cell_gr g HS.out.2.2.2)) chg_two)
  have hC : W.heap.size ≠ w1.heap.size := by omega
  go_wp2_with fail
  go_at_call 9
  refine (AA.out _ (by go_grown) (by go_simp) (by go_simp)).mono ?_
  rintro e w2 ⟨m, B2, c2, rfl, q2, m2, K2, -⟩
  have G2 : Gr W w2 := Kx.gr K2 (by have gg := gw1; have gs := gg.size; go_grown) (fun k hk => by have h1 : k = W.heap.size := hk; omega)
  have P2 := pts_two (x := 1) (y := 1) (z := 3) (t := 3) (cell_kx K2 (p := ⟨B, 0, none⟩) hBQ (by go_simp)) (cell_kx K2 (p := ⟨B, 1, none⟩) hBQ (by go_simp)) (cell_kx K2 (p := ⟨B, 2, none⟩) hBQ (by go_simp)) (cell_kx K2 (p := ⟨B, 3, none⟩) hBQ (by go_simp))
  have d0 : w2.cell? ⟨w1.heap.size, 0, none⟩ = some (.int .i64 1) := cell_kx K2 (p := ⟨w1.heap.size, 0, none⟩) (fun e => hC e.symm) (by go_simp)
  have d1 : w2.cell? ⟨w1.heap.size, 1, none⟩ = some (.int .i64 1) := cell_kx K2 (p := ⟨w1.heap.size, 1, none⟩) (fun e => hC e.symm) (by go_simp)
  have d2 : w2.cell? ⟨w1.heap.size, 2, none⟩ = some (.int .i64 3) := cell_kx K2 (p := ⟨w1.heap.size, 2, none⟩) (fun e => hC e.symm) (by go_simp)
  have d3 : w2.cell? ⟨w1.heap.size, 3, none⟩ = some (.slice (some ⟨B, 0, none⟩) 2 2) := cell_kx K2 (p := ⟨w1.heap.size, 3, none⟩) (fun e => hC e.symm) (by go_simp)
  have zd := World.block_lt_of_cell? _ _ d0
  have AD := Lib.hid (md_apply_dup (id := 1) (k := 3) (by omega) w2 P2 chg_two q2 m2 (dO_has 1 _) (dO_at 1 _))
  have HQ := Lib.hid (And.intro q2 (And.intro m2 G2))
  clear q2 m2 K2 P2 G2 s0 s1 s2 s3 cw1_0_0 fw1_0_0 zw1_0 gw1 AA hB
  go_wp2_with fail
  go_at_call 9
  refine (AD.out).mono ?_
  rintro e w3 ⟨F, rfl, hf, g3⟩
  have AS := Lib.hid (c_AlIs_hit F modelS 1 6 (by decide) w3 (errT_gr HE.out (Gr.trans HQ.out.2.2 g3)) hf)
  have HG3 := Lib.hid g3
  clear hf g3 d0 d1 d2 d3 zd AD
  go_wp2_with fail
  go_at_call 16
  refine (AS.out).mono ?_
  rintro e w4 ⟨rfl, g4⟩
  have G4 := Gr.trans HG3.out g4
  have AL := Lib.hid (md_len_m w4 (cell_gr G4 HQ.out.1) (ownsMap_kx HQ.out.2.1 (Kx.of_gr (S := fun _ => False) G4) (fun h => h)))
  have HG4 := Lib.hid G4
  clear g4 G4
  go_wp2_with fail
  go_at_call 17
  refine (AL.out).mono ?_
  rintro e w5 ⟨rfl, g5⟩
  rw [dO_size]
  go_wp2_with fail
  go_ret
  exact ⟨rfl, Gr.trans HQ.out.2.2 (Gr.trans HG4.out g5)⟩
end Go.Proofs.YtapfecmdfoobcaaGreatDoor
