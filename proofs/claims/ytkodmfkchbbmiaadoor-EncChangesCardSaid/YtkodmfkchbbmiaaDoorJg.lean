/- EncChanges: the walk -/
import Derived.Test.YtkodmfkchbbmiaaDoorJe
import Derived.Test.YtkodmfkchbbmiaaDoorOj
namespace Go.Proofs.YtkodmfkchbbmiaaDoor
set_option linter.unusedVariables false
set_option linter.unusedSimpArgs false
open Go.ChangeShapes Go.WideShapes Go.ChangeAt Go.RowKit

set_option maxHeartbeats 8000000 in
set_option maxRecDepth 100000 in
theorem changes_in {n : Nat} {X Y : Nat → Int} {v b : Value} {L : List UInt8} (kd id k : Int) (W : World) (h : Pts W v n X Y) (hb : Row W b L) (hn : n ≤ 80) (hl : L.length ≤ 1000) (hE : ErrT W) :
    Calls Tryd.prog 10 #[.agg #[.int .i64 kd, .int .i64 id, .int .i64 k, v], b] W fun e w' => e = .returned (.bool true) ∧ Gr W w' := by
  have A1 : ∀ w, Gr W w → Calls Tryd.prog 54 #[.agg #[.int .i64 kd, .int .i64 id, .int .i64 k, v]] w fun e w' => ∃ x u, e = .returned (.tuple #[x, u]) ∧ WErr changeS w' u id (chgC kd id k n X Y) ∧ Row w' x (chgR kd id k n X Y) ∧ Gr w w' := fun w g => c_Change kd id k w (pts_gr h g)
  have A2 : ∀ w, Gr W w → Calls Tryd.prog 55 #[.agg #[.int .i64 kd, .int .i64 id, .int .i64 k, v]] w fun e w' => ∃ x, e = .returned (.tuple #[x, .int .i64 (chgC kd id k n X Y : Nat)]) ∧ Row w' x (chgR kd id k n X Y) ∧ Gr w w' := fun w g => c_rChange kd id k w (pts_gr h g)
  have A3 : ∀ w, Gr W w → Calls Tryd.prog 56 #[b] w (UcTo w L) := fun w g => c_Unchange w (row_gr hb g) (by omega)
  have A4 : ∀ w, Gr W w → Calls Tryd.prog 57 #[b] w (RUcTo w L) := fun w g => c_rUnchange w (row_gr hb g) (by omega)
  have hRl := chgR_len kd id k n X Y
  generalize chgR kd id k n X Y = R at A1 A2 hRl
  generalize chgC kd id k n X Y = c at A1 A2
  have A5 := fun w u v (hu : Row w u R) (hv : Row w v R) => c_Bytes_same w hu hv (by omega)
  have A6 := fun (w : World) (z : Value) (g : Gr W w) (hz : WErr changeS w z id c) => c_AlIs_werr w (errT_gr hE g) hz
  have A8 := fun (w : World) (B : Nat) (g : Gr W w) (hF : FaultAt w B changeS 0 10) => c_AlIs_hit B changeS 0 10 (by omega) w (errT_gr hE g) hF
  have d1 : decide ((80 : Int) < (n : Int)) = false := decide_eq_false (by omega)
  have d2 : decide (80 < n) = false := decide_eq_false (by omega)
  obtain ⟨ad, cap, _, _, rfl, _⟩ := h
  obtain ⟨bd, bcap, _, _, rfl, _⟩ := hb
  obtain ⟨len, el⟩ : ∃ len, len = L.length := ⟨_, rfl⟩
  rw [← el] at A3 A4 ⊢
  have d3 : decide ((1000 : Int) < (len : Int)) = false := decide_eq_false (by omega)
  have d4 : decide (1000 < len) = false := decide_eq_false (by omega)
  have H1 := Lib.hid A1
  have H2 := Lib.hid A2
  have H3 := Lib.hid A3
  have H4 := Lib.hid A4
  have H5 := Lib.hid A5
  have H6 := Lib.hid A6
  have H8 := Lib.hid A8
  clear A1 A2 A3 A4 A5 A6 A8
  clear el hl hn hRl hE
  go_enter Tryd.func10, Tryd.ntmps10
  go_wp2_with fail
  go_at_call 54
  refine (H1.out _ (by go_grown)).mono ?_
  rintro e w1 ⟨x1, u1, rfl, hu1, hr1, g1⟩
  have c0 : w1.cell? ⟨W.heap.size, 0, none⟩ = some (.int .i64 kd) := cell_gr g1 (by go_simp)
  have c1 : w1.cell? ⟨W.heap.size, 1, none⟩ = some (.int .i64 id) := cell_gr g1 (by go_simp)
  have c2 : w1.cell? ⟨W.heap.size, 2, none⟩ = some (.int .i64 k) := cell_gr g1 (by go_simp)
  have c3 : w1.cell? ⟨W.heap.size, 3, none⟩ = some (.slice ad n cap) := cell_gr g1 (by go_simp)
  have G1 : Gr W w1 := Gr.trans (by go_grown) g1
  have U1 := Lib.hid hu1
  have R1 := Lib.hid hr1
  clear hu1 hr1 g1 H1
  go_wp2_with fail
  go_at_call 55
  refine (H2.out _ G1).mono ?_
  rintro e w2 ⟨x2, rfl, hr2, g2⟩
  have G2 : Gr W w2 := Gr.trans G1 g2
  have U2 := Lib.hid (werr_gr U1.out g2)
  have R1' := Lib.hid (row_gr R1.out g2)
  have R2 := Lib.hid hr2
  have e1 := cell_gr g2 c1
  clear hr2 g2 G1 U1 R1 H2 c0 c1 c2 c3
  go_wp2_with fail
  go_at_call 56
  refine (H3.out _ G2).mono ?_
  rintro e w3 hU3
  rcases hU3 with ⟨hbad, B3, rfl, hF3, g3⟩ | ⟨hok, v3, rfl, hP3, g3⟩
  · have G3 : Gr W w3 := Gr.trans G2 g3
    have U3 := Lib.hid (werr_gr U2.out g3)
    have R13 := Lib.hid (row_gr R1'.out g3)
    have R23 := Lib.hid (row_gr R2.out g3)
    have F3 := Lib.hid hF3
    have HBAD := Lib.hid hbad
    have i1 := cell_gr g3 e1
    have zi := World.block_lt_of_cell? _ _ i1
    clear g3 G2 U2 R1' R2 H3 hF3 hbad e1
    go_wp2_with fail
    go_at_call 57
    refine (H4.out _ (by have gg := G3; have gs := gg.size; go_grown)).mono ?_
    rintro e w4 hU4
    rcases hU4 with ⟨_, rfl, g4⟩ | ⟨hok, _⟩
    · have g34 : Gr w3 w4 := Gr.trans (by go_grown) g4
      have k0 : w4.cell? ⟨w3.heap.size, 0, none⟩ = some (.int .i64 0) := cell_gr g4 (by go_simp)
      have k1 : w4.cell? ⟨w3.heap.size, 1, none⟩ = some (.int .i64 0) := cell_gr g4 (by go_simp)
      have k2 : w4.cell? ⟨w3.heap.size, 2, none⟩ = some (.int .i64 0) := cell_gr g4 (by go_simp)
      have k3 : w4.cell? ⟨w3.heap.size, 3, none⟩ = some (.slice none 0 0) := cell_gr g4 (by go_simp)
      have i4 := cell_gr g34 i1
      have zi4 := World.block_lt_of_cell? _ _ i4
      have G4 : Gr W w4 := Gr.trans G3 g34
      have U4 := Lib.hid (werr_gr U3.out g34)
      have R14 := Lib.hid (row_gr R13.out g34)
      have R24 := Lib.hid (row_gr R23.out g34)
      have F4 := Lib.hid (faultAt_gr F3.out g34)
      have z4 := World.block_lt_of_cell? _ _ k0
      have SM := Lib.hid (fun w (p0 : Pts w (.slice none 0 0) 0 (fun _ => 0) (fun _ => 0)) => c_rSame 0 0 true w p0 p0 (by omega) (by simp))
      clear g34 g4 U3 R13 R23 H4 F3 G3 i1
      go_wp2_with fail
      go_at_call 52
      refine ((H5.out _ _ _ (row_gr R14.out (by go_grown)) (row_gr R24.out (by go_grown)))).mono ?_
      rintro e w5 ⟨rfl, hw5⟩
      have cw5_0_0 : w5.cell? ⟨W.heap.size, 1, none⟩ = some (.int .i64 id) := cell_gr hw5 (by go_simp)
      have zw5_0 : W.heap.size < w5.heap.size := World.block_lt_of_cell? _ _ cw5_0_0
      have cw5_1_0 : w5.cell? ⟨w3.heap.size, 0, none⟩ = some (.int .i64 0) := cell_gr hw5 (by go_simp)
      have cw5_1_1 : w5.cell? ⟨w3.heap.size, 1, none⟩ = some (.int .i64 0) := cell_gr hw5 (by go_simp)
      have cw5_1_2 : w5.cell? ⟨w3.heap.size, 2, none⟩ = some (.int .i64 0) := cell_gr hw5 (by go_simp)
      have cw5_1_3 : w5.cell? ⟨w3.heap.size, 3, none⟩ = some (.slice none 0 0) := cell_gr hw5 (by go_simp)
      have zw5_1 : w3.heap.size < w5.heap.size := World.block_lt_of_cell? _ _ cw5_1_0
      have cw5_2_0 : w5.cell? ⟨w4.heap.size, 0, none⟩ = some (.int .i64 0) := cell_gr hw5 (by go_simp)
      have cw5_2_1 : w5.cell? ⟨w4.heap.size, 1, none⟩ = some (.int .i64 0) := cell_gr hw5 (by go_simp)
      have cw5_2_2 : w5.cell? ⟨w4.heap.size, 2, none⟩ = some (.int .i64 0) := cell_gr hw5 (by go_simp)
      have cw5_2_3 : w5.cell? ⟨w4.heap.size, 3, none⟩ = some (.slice none 0 0) := cell_gr hw5 (by go_simp)
      have zw5_2 : w4.heap.size < w5.heap.size := World.block_lt_of_cell? _ _ cw5_2_0
      have gw5 : Gr w4 w5 := Gr.trans (by go_grown) hw5
      clear hw5
      go_wp2_with fail
      go_at_call 16
      refine ((H6.out _ _ (Gr.trans G4 gw5) (werr_gr U4.out gw5))).mono ?_
      rintro e w6 ⟨rfl, hw6⟩
      have cw6_0_0 : w6.cell? ⟨W.heap.size, 1, none⟩ = some (.int .i64 id) := cell_gr hw6 (by go_simp)
      have zw6_0 : W.heap.size < w6.heap.size := World.block_lt_of_cell? _ _ cw6_0_0
      have cw6_1_0 : w6.cell? ⟨w3.heap.size, 0, none⟩ = some (.int .i64 0) := cell_gr hw6 (by go_simp)
      have cw6_1_1 : w6.cell? ⟨w3.heap.size, 1, none⟩ = some (.int .i64 0) := cell_gr hw6 (by go_simp)
      have cw6_1_2 : w6.cell? ⟨w3.heap.size, 2, none⟩ = some (.int .i64 0) := cell_gr hw6 (by go_simp)
      have cw6_1_3 : w6.cell? ⟨w3.heap.size, 3, none⟩ = some (.slice none 0 0) := cell_gr hw6 (by go_simp)
      have zw6_1 : w3.heap.size < w6.heap.size := World.block_lt_of_cell? _ _ cw6_1_0
      have cw6_2_0 : w6.cell? ⟨w4.heap.size, 0, none⟩ = some (.int .i64 0) := cell_gr hw6 (by go_simp)
      have cw6_2_1 : w6.cell? ⟨w4.heap.size, 1, none⟩ = some (.int .i64 0) := cell_gr hw6 (by go_simp)
      have cw6_2_2 : w6.cell? ⟨w4.heap.size, 2, none⟩ = some (.int .i64 0) := cell_gr hw6 (by go_simp)
      have cw6_2_3 : w6.cell? ⟨w4.heap.size, 3, none⟩ = some (.slice none 0 0) := cell_gr hw6 (by go_simp)
      have zw6_2 : w4.heap.size < w6.heap.size := World.block_lt_of_cell? _ _ cw6_2_0
      have gw6 : Gr w4 w6 := Gr.trans (by have gg := gw5; have gs := gg.size; go_grown) hw6
      clear hw6 gw5 zw5_0 cw5_0_0 zw5_1 cw5_1_0 cw5_1_1 cw5_1_2 cw5_1_3 zw5_2 cw5_2_0 cw5_2_1 cw5_2_2 cw5_2_3
      go_wp2_with fail
      go_at_call 53
      refine ((SM.out _ ⟨none, 0, 0, 0, rfl, Nat.le_refl _, by decide, fun h => absurd h (by omega), fun k h => absurd h (by omega)⟩)).mono ?_
      rintro e w7 ⟨rfl, hw7⟩
      have cw7_0_0 : w7.cell? ⟨W.heap.size, 1, none⟩ = some (.int .i64 id) := cell_gr hw7 (by go_simp)
      have zw7_0 : W.heap.size < w7.heap.size := World.block_lt_of_cell? _ _ cw7_0_0
      have cw7_1_0 : w7.cell? ⟨w3.heap.size, 0, none⟩ = some (.int .i64 0) := cell_gr hw7 (by go_simp)
      have cw7_1_1 : w7.cell? ⟨w3.heap.size, 1, none⟩ = some (.int .i64 0) := cell_gr hw7 (by go_simp)
      have cw7_1_2 : w7.cell? ⟨w3.heap.size, 2, none⟩ = some (.int .i64 0) := cell_gr hw7 (by go_simp)
      have cw7_1_3 : w7.cell? ⟨w3.heap.size, 3, none⟩ = some (.slice none 0 0) := cell_gr hw7 (by go_simp)
      have zw7_1 : w3.heap.size < w7.heap.size := World.block_lt_of_cell? _ _ cw7_1_0
      have cw7_2_0 : w7.cell? ⟨w4.heap.size, 0, none⟩ = some (.int .i64 0) := cell_gr hw7 (by go_simp)
      have cw7_2_1 : w7.cell? ⟨w4.heap.size, 1, none⟩ = some (.int .i64 0) := cell_gr hw7 (by go_simp)
      have cw7_2_2 : w7.cell? ⟨w4.heap.size, 2, none⟩ = some (.int .i64 0) := cell_gr hw7 (by go_simp)
      have cw7_2_3 : w7.cell? ⟨w4.heap.size, 3, none⟩ = some (.slice none 0 0) := cell_gr hw7 (by go_simp)
      have zw7_2 : w4.heap.size < w7.heap.size := World.block_lt_of_cell? _ _ cw7_2_0
      have gw7 : Gr w4 w7 := Gr.trans (by have gg := gw6; have gs := gg.size; go_grown) hw7
      clear hw7 gw6 zw6_0 cw6_0_0 zw6_1 cw6_1_0 cw6_1_1 cw6_1_2 cw6_1_3 zw6_2 cw6_2_0 cw6_2_1 cw6_2_2 cw6_2_3
      go_wp2_with fail
      go_at_call 16
      refine ((H8.out _ _ (Gr.trans G4 gw7) (faultAt_gr F4.out gw7))).mono ?_
      rintro e w8 ⟨rfl, hw8⟩
      have cw8_0_0 : w8.cell? ⟨W.heap.size, 1, none⟩ = some (.int .i64 id) := cell_gr hw8 (by go_simp)
      have zw8_0 : W.heap.size < w8.heap.size := World.block_lt_of_cell? _ _ cw8_0_0
      have cw8_1_0 : w8.cell? ⟨w3.heap.size, 0, none⟩ = some (.int .i64 0) := cell_gr hw8 (by go_simp)
      have cw8_1_1 : w8.cell? ⟨w3.heap.size, 1, none⟩ = some (.int .i64 0) := cell_gr hw8 (by go_simp)
      have cw8_1_2 : w8.cell? ⟨w3.heap.size, 2, none⟩ = some (.int .i64 0) := cell_gr hw8 (by go_simp)
      have cw8_1_3 : w8.cell? ⟨w3.heap.size, 3, none⟩ = some (.slice none 0 0) := cell_gr hw8 (by go_simp)
      have zw8_1 : w3.heap.size < w8.heap.size := World.block_lt_of_cell? _ _ cw8_1_0
      have cw8_2_0 : w8.cell? ⟨w4.heap.size, 0, none⟩ = some (.int .i64 0) := cell_gr hw8 (by go_simp)
      have cw8_2_1 : w8.cell? ⟨w4.heap.size, 1, none⟩ = some (.int .i64 0) := cell_gr hw8 (by go_simp)
      have cw8_2_2 : w8.cell? ⟨w4.heap.size, 2, none⟩ = some (.int .i64 0) := cell_gr hw8 (by go_simp)
      have cw8_2_3 : w8.cell? ⟨w4.heap.size, 3, none⟩ = some (.slice none 0 0) := cell_gr hw8 (by go_simp)
      have zw8_2 : w4.heap.size < w8.heap.size := World.block_lt_of_cell? _ _ cw8_2_0
      have gw8 : Gr w4 w8 := Gr.trans (by have gg := gw7; have gs := gg.size; go_grown) hw8
      clear hw8 gw7 zw7_0 cw7_0_0 zw7_1 cw7_1_0 cw7_1_1 cw7_1_2 cw7_1_3 zw7_2 cw7_2_0 cw7_2_1 cw7_2_2 cw7_2_3
      go_wp2_with fail
      go_at_call 47
      refine ((p8_awake _)).mono ?_
      rintro e w9 ⟨rfl, hw9⟩
      have cw9_0_0 : w9.cell? ⟨W.heap.size, 1, none⟩ = some (.int .i64 id) := cell_gr hw9 (by go_simp)
      have zw9_0 : W.heap.size < w9.heap.size := World.block_lt_of_cell? _ _ cw9_0_0
      have cw9_1_0 : w9.cell? ⟨w3.heap.size, 0, none⟩ = some (.int .i64 0) := cell_gr hw9 (by go_simp)
      have cw9_1_1 : w9.cell? ⟨w3.heap.size, 1, none⟩ = some (.int .i64 0) := cell_gr hw9 (by go_simp)
      have cw9_1_2 : w9.cell? ⟨w3.heap.size, 2, none⟩ = some (.int .i64 0) := cell_gr hw9 (by go_simp)
      have cw9_1_3 : w9.cell? ⟨w3.heap.size, 3, none⟩ = some (.slice none 0 0) := cell_gr hw9 (by go_simp)
      have zw9_1 : w3.heap.size < w9.heap.size := World.block_lt_of_cell? _ _ cw9_1_0
      have cw9_2_0 : w9.cell? ⟨w4.heap.size, 0, none⟩ = some (.int .i64 0) := cell_gr hw9 (by go_simp)
      have cw9_2_1 : w9.cell? ⟨w4.heap.size, 1, none⟩ = some (.int .i64 0) := cell_gr hw9 (by go_simp)
      have cw9_2_2 : w9.cell? ⟨w4.heap.size, 2, none⟩ = some (.int .i64 0) := cell_gr hw9 (by go_simp)
      have cw9_2_3 : w9.cell? ⟨w4.heap.size, 3, none⟩ = some (.slice none 0 0) := cell_gr hw9 (by go_simp)
      have zw9_2 : w4.heap.size < w9.heap.size := World.block_lt_of_cell? _ _ cw9_2_0
      have gw9 : Gr w4 w9 := Gr.trans (by have gg := gw8; have gs := gg.size; go_grown) hw9
      clear hw9 gw8 zw8_0 cw8_0_0 zw8_1 cw8_1_0 cw8_1_1 cw8_1_2 cw8_1_3 zw8_2 cw8_2_0 cw8_2_1 cw8_2_2 cw8_2_3
      go_wp2_with fail
      go_ret
      exact ⟨rfl, Gr.trans G4 gw9⟩
    · rw [HBAD.out] at hok
      cases hok
  · have G3 : Gr W w3 := Gr.trans G2 g3
    have U3 := Lib.hid (werr_gr U2.out g3)
    have R13 := Lib.hid (row_gr R1'.out g3)
    have R23 := Lib.hid (row_gr R2.out g3)
    have P3 := Lib.hid hP3
    have HOK := Lib.hid hok
    have i1 := cell_gr g3 e1
    have zi := World.block_lt_of_cell? _ _ i1
    have hM : ucM L ≤ 64 := by unfold ucM; split; exact nmV_le _ _ _ _; omega
    obtain ⟨ad3, cap3, _, _, rfl, _⟩ := hP3
    clear g3 G2 U2 R1' R2 H3 hok e1
    go_wp2_with fail
    go_at_call 57
    refine (H4.out _ (by have gg := G3; have gs := gg.size; go_grown)).mono ?_
    rintro e w4 hU4
    rcases hU4 with ⟨hbad, _⟩ | ⟨_, v4, rfl, hP4, g4⟩
    · rw [HOK.out] at hbad
      cases hbad
    · have g34 : Gr w3 w4 := Gr.trans (by go_grown) g4
      have P4 := Lib.hid hP4
      have P34 := Lib.hid (pts_gr P3.out g34)
      obtain ⟨ad4, cap4, _, _, rfl, _⟩ := hP4
      generalize uoX (ucO L) = X3 at *
      generalize uoY (ucO L) = Y3 at *
      generalize ucM L = m3 at *
      generalize ucK L = k3 at *
      generalize ucE L = e3 at *
      generalize ucK1 L = q3 at *
      generalize ucI L = j3 at *
      have k0 : w4.cell? ⟨w3.heap.size, 0, none⟩ = some (.int .i64 q3) := cell_gr g4 (by go_simp)
      have k1 : w4.cell? ⟨w3.heap.size, 1, none⟩ = some (.int .i64 j3) := cell_gr g4 (by go_simp)
      have k2 : w4.cell? ⟨w3.heap.size, 2, none⟩ = some (.int .i64 k3) := cell_gr g4 (by go_simp)
      have k4 : w4.cell? ⟨w3.heap.size, 3, none⟩ = some (.slice ad3 m3 cap3) := cell_gr g4 (by go_simp)
      have i4 := cell_gr g34 i1
      have zi4 := World.block_lt_of_cell? _ _ i4
      have G4 : Gr W w4 := Gr.trans G3 g34
      have U4 := Lib.hid (werr_gr U3.out g34)
      have R14 := Lib.hid (row_gr R13.out g34)
      have R24 := Lib.hid (row_gr R23.out g34)
      have z4 := World.block_lt_of_cell? _ _ k0
      have te : ((e3 : Int) == (e3 : Int)) = true := by simp
      have tq : ((q3 : Int) == (q3 : Int)) = true := by simp
      have tj : ((j3 : Int) == (j3 : Int)) = true := by simp
      have SM := Lib.hid (fun w (g : Gr w4 w) => c_rSame k3 k3 true w (pts_gr P34.out g) (pts_gr P4.out g) (by omega) (by simp))
      clear g34 g4 U3 R13 R23 H4 G3 P3 P4 P34 hM HOK i1
      go_wp2_with fail
      go_at_call 52
      refine ((H5.out _ _ _ (row_gr R14.out (by go_grown)) (row_gr R24.out (by go_grown)))).mono ?_
      rintro e w5 ⟨rfl, hw5⟩
      have cw5_0_0 : w5.cell? ⟨W.heap.size, 1, none⟩ = some (.int .i64 id) := cell_gr hw5 (by go_simp)
      have zw5_0 : W.heap.size < w5.heap.size := World.block_lt_of_cell? _ _ cw5_0_0
      have cw5_1_0 : w5.cell? ⟨w3.heap.size, 0, none⟩ = some (.int .i64 q3) := cell_gr hw5 (by go_simp)
      have cw5_1_1 : w5.cell? ⟨w3.heap.size, 1, none⟩ = some (.int .i64 j3) := cell_gr hw5 (by go_simp)
      have cw5_1_2 : w5.cell? ⟨w3.heap.size, 2, none⟩ = some (.int .i64 k3) := cell_gr hw5 (by go_simp)
      have cw5_1_3 : w5.cell? ⟨w3.heap.size, 3, none⟩ = some (.slice ad3 m3 cap3) := cell_gr hw5 (by go_simp)
      have zw5_1 : w3.heap.size < w5.heap.size := World.block_lt_of_cell? _ _ cw5_1_0
      have cw5_2_0 : w5.cell? ⟨w4.heap.size, 0, none⟩ = some (.int .i64 q3) := cell_gr hw5 (by go_simp)
      have cw5_2_1 : w5.cell? ⟨w4.heap.size, 1, none⟩ = some (.int .i64 j3) := cell_gr hw5 (by go_simp)
      have cw5_2_2 : w5.cell? ⟨w4.heap.size, 2, none⟩ = some (.int .i64 k3) := cell_gr hw5 (by go_simp)
      have cw5_2_3 : w5.cell? ⟨w4.heap.size, 3, none⟩ = some (.slice ad4 m3 cap4) := cell_gr hw5 (by go_simp)
      have zw5_2 : w4.heap.size < w5.heap.size := World.block_lt_of_cell? _ _ cw5_2_0
      have gw5 : Gr w4 w5 := Gr.trans (by go_grown) hw5
      clear hw5
      go_wp2_with fail
      go_at_call 16
      refine ((H6.out _ _ (Gr.trans G4 gw5) (werr_gr U4.out gw5))).mono ?_
      rintro e w6 ⟨rfl, hw6⟩
      have cw6_0_0 : w6.cell? ⟨W.heap.size, 1, none⟩ = some (.int .i64 id) := cell_gr hw6 (by go_simp)
      have zw6_0 : W.heap.size < w6.heap.size := World.block_lt_of_cell? _ _ cw6_0_0
      have cw6_1_0 : w6.cell? ⟨w3.heap.size, 0, none⟩ = some (.int .i64 q3) := cell_gr hw6 (by go_simp)
      have cw6_1_1 : w6.cell? ⟨w3.heap.size, 1, none⟩ = some (.int .i64 j3) := cell_gr hw6 (by go_simp)
      have cw6_1_2 : w6.cell? ⟨w3.heap.size, 2, none⟩ = some (.int .i64 k3) := cell_gr hw6 (by go_simp)
      have cw6_1_3 : w6.cell? ⟨w3.heap.size, 3, none⟩ = some (.slice ad3 m3 cap3) := cell_gr hw6 (by go_simp)
      have zw6_1 : w3.heap.size < w6.heap.size := World.block_lt_of_cell? _ _ cw6_1_0
      have cw6_2_0 : w6.cell? ⟨w4.heap.size, 0, none⟩ = some (.int .i64 q3) := cell_gr hw6 (by go_simp)
      have cw6_2_1 : w6.cell? ⟨w4.heap.size, 1, none⟩ = some (.int .i64 j3) := cell_gr hw6 (by go_simp)
      have cw6_2_2 : w6.cell? ⟨w4.heap.size, 2, none⟩ = some (.int .i64 k3) := cell_gr hw6 (by go_simp)
      have cw6_2_3 : w6.cell? ⟨w4.heap.size, 3, none⟩ = some (.slice ad4 m3 cap4) := cell_gr hw6 (by go_simp)
      have zw6_2 : w4.heap.size < w6.heap.size := World.block_lt_of_cell? _ _ cw6_2_0
      have gw6 : Gr w4 w6 := Gr.trans (by have gg := gw5; have gs := gg.size; go_grown) hw6
      clear hw6 gw5 zw5_0 cw5_0_0 zw5_1 cw5_1_0 cw5_1_1 cw5_1_2 cw5_1_3 zw5_2 cw5_2_0 cw5_2_1 cw5_2_2 cw5_2_3
      go_wp2_with fail
      go_at_call 53
      refine ((SM.out _ gw6)).mono ?_
      rintro e w7 ⟨rfl, hw7⟩
      have cw7_0_0 : w7.cell? ⟨W.heap.size, 1, none⟩ = some (.int .i64 id) := cell_gr hw7 (by go_simp)
      have zw7_0 : W.heap.size < w7.heap.size := World.block_lt_of_cell? _ _ cw7_0_0
      have cw7_1_0 : w7.cell? ⟨w3.heap.size, 0, none⟩ = some (.int .i64 q3) := cell_gr hw7 (by go_simp)
      have cw7_1_1 : w7.cell? ⟨w3.heap.size, 1, none⟩ = some (.int .i64 j3) := cell_gr hw7 (by go_simp)
      have cw7_1_2 : w7.cell? ⟨w3.heap.size, 2, none⟩ = some (.int .i64 k3) := cell_gr hw7 (by go_simp)
      have cw7_1_3 : w7.cell? ⟨w3.heap.size, 3, none⟩ = some (.slice ad3 m3 cap3) := cell_gr hw7 (by go_simp)
      have zw7_1 : w3.heap.size < w7.heap.size := World.block_lt_of_cell? _ _ cw7_1_0
      have cw7_2_0 : w7.cell? ⟨w4.heap.size, 0, none⟩ = some (.int .i64 q3) := cell_gr hw7 (by go_simp)
      have cw7_2_1 : w7.cell? ⟨w4.heap.size, 1, none⟩ = some (.int .i64 j3) := cell_gr hw7 (by go_simp)
      have cw7_2_2 : w7.cell? ⟨w4.heap.size, 2, none⟩ = some (.int .i64 k3) := cell_gr hw7 (by go_simp)
      have cw7_2_3 : w7.cell? ⟨w4.heap.size, 3, none⟩ = some (.slice ad4 m3 cap4) := cell_gr hw7 (by go_simp)
      have zw7_2 : w4.heap.size < w7.heap.size := World.block_lt_of_cell? _ _ cw7_2_0
      have gw7 : Gr w4 w7 := Gr.trans (by have gg := gw6; have gs := gg.size; go_grown) hw7
      clear hw7 gw6 zw6_0 cw6_0_0 zw6_1 cw6_1_0 cw6_1_1 cw6_1_2 cw6_1_3 zw6_2 cw6_2_0 cw6_2_1 cw6_2_2 cw6_2_3
      go_wp2_with fail
      go_at_call 16
      refine ((c_AlIs_nil changeS 0 _)).mono ?_
      rintro e w8 ⟨rfl, hw8⟩
      have cw8_0_0 : w8.cell? ⟨W.heap.size, 1, none⟩ = some (.int .i64 id) := cell_gr hw8 (by go_simp)
      have zw8_0 : W.heap.size < w8.heap.size := World.block_lt_of_cell? _ _ cw8_0_0
      have cw8_1_0 : w8.cell? ⟨w3.heap.size, 0, none⟩ = some (.int .i64 q3) := cell_gr hw8 (by go_simp)
      have cw8_1_1 : w8.cell? ⟨w3.heap.size, 1, none⟩ = some (.int .i64 j3) := cell_gr hw8 (by go_simp)
      have cw8_1_2 : w8.cell? ⟨w3.heap.size, 2, none⟩ = some (.int .i64 k3) := cell_gr hw8 (by go_simp)
      have cw8_1_3 : w8.cell? ⟨w3.heap.size, 3, none⟩ = some (.slice ad3 m3 cap3) := cell_gr hw8 (by go_simp)
      have zw8_1 : w3.heap.size < w8.heap.size := World.block_lt_of_cell? _ _ cw8_1_0
      have cw8_2_0 : w8.cell? ⟨w4.heap.size, 0, none⟩ = some (.int .i64 q3) := cell_gr hw8 (by go_simp)
      have cw8_2_1 : w8.cell? ⟨w4.heap.size, 1, none⟩ = some (.int .i64 j3) := cell_gr hw8 (by go_simp)
      have cw8_2_2 : w8.cell? ⟨w4.heap.size, 2, none⟩ = some (.int .i64 k3) := cell_gr hw8 (by go_simp)
      have cw8_2_3 : w8.cell? ⟨w4.heap.size, 3, none⟩ = some (.slice ad4 m3 cap4) := cell_gr hw8 (by go_simp)
      have zw8_2 : w4.heap.size < w8.heap.size := World.block_lt_of_cell? _ _ cw8_2_0
      have gw8 : Gr w4 w8 := Gr.trans (by have gg := gw7; have gs := gg.size; go_grown) hw8
      clear hw8 gw7 zw7_0 cw7_0_0 zw7_1 cw7_1_0 cw7_1_1 cw7_1_2 cw7_1_3 zw7_2 cw7_2_0 cw7_2_1 cw7_2_2 cw7_2_3
      go_wp2_with fail
      go_at_call 47
      refine ((p8_awake _)).mono ?_
      rintro e w9 ⟨rfl, hw9⟩
      have cw9_0_0 : w9.cell? ⟨W.heap.size, 1, none⟩ = some (.int .i64 id) := cell_gr hw9 (by go_simp)
      have zw9_0 : W.heap.size < w9.heap.size := World.block_lt_of_cell? _ _ cw9_0_0
      have cw9_1_0 : w9.cell? ⟨w3.heap.size, 0, none⟩ = some (.int .i64 q3) := cell_gr hw9 (by go_simp)
      have cw9_1_1 : w9.cell? ⟨w3.heap.size, 1, none⟩ = some (.int .i64 j3) := cell_gr hw9 (by go_simp)
      have cw9_1_2 : w9.cell? ⟨w3.heap.size, 2, none⟩ = some (.int .i64 k3) := cell_gr hw9 (by go_simp)
      have cw9_1_3 : w9.cell? ⟨w3.heap.size, 3, none⟩ = some (.slice ad3 m3 cap3) := cell_gr hw9 (by go_simp)
      have zw9_1 : w3.heap.size < w9.heap.size := World.block_lt_of_cell? _ _ cw9_1_0
      have cw9_2_0 : w9.cell? ⟨w4.heap.size, 0, none⟩ = some (.int .i64 q3) := cell_gr hw9 (by go_simp)
      have cw9_2_1 : w9.cell? ⟨w4.heap.size, 1, none⟩ = some (.int .i64 j3) := cell_gr hw9 (by go_simp)
      have cw9_2_2 : w9.cell? ⟨w4.heap.size, 2, none⟩ = some (.int .i64 k3) := cell_gr hw9 (by go_simp)
      have cw9_2_3 : w9.cell? ⟨w4.heap.size, 3, none⟩ = some (.slice ad4 m3 cap4) := cell_gr hw9 (by go_simp)
      have zw9_2 : w4.heap.size < w9.heap.size := World.block_lt_of_cell? _ _ cw9_2_0
      have gw9 : Gr w4 w9 := Gr.trans (by have gg := gw8; have gs := gg.size; go_grown) hw9
      clear hw9 gw8 zw8_0 cw8_0_0 zw8_1 cw8_1_0 cw8_1_1 cw8_1_2 cw8_1_3 zw8_2 cw8_2_0 cw8_2_1 cw8_2_2 cw8_2_3
      go_wp2_with fail
      go_ret
      exact ⟨rfl, Gr.trans G4 gw9⟩
section
variable {H : Type} {enc : TypeId × Value → H} {P : Program} {w : World} {base : Nat} {sp : Nat → Bool} {held : Bool} {r : Reach} {b0 : Nat}
/-- A change that comes in. -/
theorem open_change {t ti to' s p u : TypeId} {F0 F1 I0 I1 O0 O1 G0 G1 : Field} {v : Value} {d : DataW H} {ps : List MemPlace} (hs : P.underlying t = some (.struct #[F0, F1])) (hsi : P.underlying ti = some (.struct #[I0, I1])) (hso : P.underlying to' = some (.struct #[O0, O1]))
    (hF0 : F0.type = u ∧ F0.offset = 0) (hF1 : F1.type = ti ∧ F1.offset = 1) (hI0 : I0.type = u ∧ I0.offset = 0) (hI1 : I1.type = to' ∧ I1.offset = 1) (hO0 : O0.type = u ∧ O0.offset = 0) (hO1 : O1.type = s ∧ O1.offset = 1)
    (ct : P.cellsOf t = 4) (ci : P.cellsOf ti = 3) (co : P.cellsOf to' = 2) (cs' : P.cellsOf s = 1)
    (ht : P.underlying s = some (.slice p)) (hp : P.underlying p = some (.struct #[G0, G1])) (hu : P.underlying u = some (.int .i64))
    (hG0 : G0.type = u ∧ G0.offset = 0) (hG1 : G1.type = u ∧ G1.offset = 1) (cp : P.cellsOf p = 2) (cu : P.cellsOf u = 1)
    (hval : Value.okWide P w r b0 t v) (hd : DataW.Trod enc P w base sp held t v d ps) : ∃ (kd id k : Int) (x : Value) (n : Nat) (X Y : Nat → Int), v = .agg #[.int .i64 kd, .int .i64 id, .int .i64 k, x] ∧ (-9223372036854775808 ≤ id ∧ id ≤ 9223372036854775807) ∧ Pts w x n X Y := by
  obtain ⟨cs, rfl, hsz⟩ := okWide_struct hs hval
  obtain ⟨fuel, hf⟩ := hd
  obtain ⟨y0, y1, j, -, hlen, t0, t1⟩ := trod_struct2 hs hf
  rw [ct] at hlen
  replace hlen : cs.toList.length = 4 := hlen
  obtain ⟨l, rfl⟩ : ∃ l : List Value, cs = l.toArray := ⟨cs.toList, by simp⟩
  match l, hlen with
  | [a, b, c, e], _ =>
    rw [hF0.1, hF0.2, cu] at t0
    rw [hF1.1, hF1.2, ci] at t1
    obtain ⟨z0, q0, -, -⟩ := DataW.trod_int hu t0
    simp [Value.cells] at q0
    obtain ⟨y2, y3, j2, -, -, t2, t3⟩ := trod_struct2 hsi t1
    rw [hI0.1, hI0.2, cu] at t2
    rw [hI1.1, hI1.2, co] at t3
    obtain ⟨z1, q1, -, wf1⟩ := DataW.trod_int hu t2
    simp [Value.cells] at q1
    obtain ⟨y4, y5, j3, -, -, t4, t5⟩ := trod_struct2 hso t3
    rw [hO0.1, hO0.2, cu] at t4
    rw [hO1.1, hO1.2, cs'] at t5
    obtain ⟨z2, q2, -, -⟩ := DataW.trod_int hu t4
    simp [Value.cells] at q2
    subst q0 q1 q2
    have t6 : DataW.trod enc P w base sp held j3 s [e] = some y5 := by simpa [Value.cells] using t5
    obtain ⟨n, X, Y, hP⟩ := trod_ptsC ht hp hu hG0 hG1 cp cu t6
    exact ⟨z0, z1, z2, e, n, X, Y, rfl, bounds_i64 wf1, hP⟩
end
theorem walk_EncChanges (W : World) (kd id k : Int) (v b : Value) (L : List UInt8) (h : ∃ (n : Nat) (X Y : Nat → Int), Pts W v n X Y) (hb : Row W b L) (hE : ErrT W) :
    Calls Tryd.prog 10 #[.agg #[.int .i64 kd, .int .i64 id, .int .i64 k, v], b] W fun e w' => e = .returned (.bool true) ∧ Gr W w' := by
  obtain ⟨n, X, Y, h⟩ := h
  by_cases hn : n ≤ 80
  · by_cases hl : L.length ≤ 1000
    · exact changes_in kd id k W h hb hn hl hE
    · obtain ⟨ad, cap, _, _, rfl, _⟩ := h
      obtain ⟨bd, bcap, _, _, rfl, _⟩ := hb
      obtain ⟨len, el⟩ : ∃ len, len = L.length := ⟨_, rfl⟩
      rw [← el] at hl ⊢
      have d1 : decide ((80 : Int) < (n : Int)) = false := decide_eq_false (by omega)
      have d2 : decide (80 < n) = false := decide_eq_false (by omega)
      have d3 : decide ((1000 : Int) < (len : Int)) = true := decide_eq_true (by omega)
      have d4 : decide (1000 < len) = true := decide_eq_true (by omega)
      clear el hl hn
      go_enter Tryd.func10, Tryd.ntmps10
      go_wp2_with fail
      go_at_call 47
      refine ((p8_awake _)).mono ?_
      rintro e w1 ⟨rfl, hw1⟩
      have gw1 : Gr W w1 := Gr.trans (by go_grown) hw1
      clear hw1
      go_wp2_with fail
      go_ret
      exact ⟨rfl, gw1⟩
  · obtain ⟨ad, cap, _, _, rfl, _⟩ := h
    obtain ⟨bd, bcap, _, _, rfl, _⟩ := hb
    have d1 : decide ((80 : Int) < (n : Int)) = true := decide_eq_true (by omega)
    have d2 : decide (80 < n) = true := decide_eq_true (by omega)
    clear hn
    go_enter Tryd.func10, Tryd.ntmps10
    go_wp2_with fail
    go_at_call 47
    refine ((p8_awake _)).mono ?_
    rintro e w1 ⟨rfl, hw1⟩
    have gw1 : Gr W w1 := Gr.trans (by go_grown) hw1
    clear hw1
    go_wp2_with fail
    go_ret
    exact ⟨rfl, gw1⟩
end Go.Proofs.YtkodmfkchbbmiaaDoor
