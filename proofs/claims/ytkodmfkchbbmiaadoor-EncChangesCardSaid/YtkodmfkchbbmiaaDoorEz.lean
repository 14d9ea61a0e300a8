/- EncObjects: the walk -/
import Derived.Test.YtkodmfkchbbmiaaDoorEy
namespace Go.Proofs.YtkodmfkchbbmiaaDoor
set_option linter.unusedVariables false
set_option linter.unusedSimpArgs false
open Go.ChangeShapes Go.WideShapes Go.ChangeAt Go.RowKit

theorem objR_len (k : Int) (n : Nat) (X Y : Nat → Int) : (objR k n X Y).length ≤ 1320 := by
  unfold objR
  split
  · rename_i h; exact objB_len h
  · simp
set_option maxHeartbeats 8000000 in
set_option maxRecDepth 100000 in
theorem objects_in {n : Nat} {X Y : Nat → Int} {v b : Value} {L : List UInt8} (k : Int) (W : World) (h : Pts W v n X Y) (hb : Row W b L) (hn : n ≤ 80) (hl : L.length ≤ 1000) (hE : ErrT W) :
    Calls Tryd.prog 9 #[.agg #[.int .i64 k, v], b] W fun e w' => e = .returned (.bool true) ∧ Gr W w' := by
  have A1 : ∀ w, Gr W w → Calls Tryd.prog 48 #[.agg #[.int .i64 k, v]] w fun e w' => ∃ x u, e = .returned (.tuple #[x, u]) ∧ WErr objectS w' u k (objC k n X Y) ∧ Row w' x (objR k n X Y) ∧ Gr w w' := fun w g => c_Object k w (pts_gr h g)
  have A2 : ∀ w, Gr W w → Calls Tryd.prog 49 #[.agg #[.int .i64 k, v]] w fun e w' => ∃ x, e = .returned (.tuple #[x, .int .i64 (objC k n X Y : Nat)]) ∧ Row w' x (objR k n X Y) ∧ Gr w w' := fun w g => c_rObject k w (pts_gr h g)
  have A3 : ∀ w, Gr W w → Calls Tryd.prog 50 #[b] w (UoTo w L) := fun w g => c_Unobject w (row_gr hb g) (by omega)
  have A4 : ∀ w, Gr W w → Calls Tryd.prog 51 #[b] w (RUoTo w L) := fun w g => c_rUnobject w (row_gr hb g) (by omega)
  have hRl := objR_len k n X Y
  generalize objR k n X Y = R at A1 A2 hRl
  generalize objC k n X Y = c at A1 A2
  have A5 := fun w u v (hu : Row w u R) (hv : Row w v R) => c_Bytes_same w hu hv (by omega)
  have A6 := fun (w : World) (z : Value) (hz : WErr objectS w z k c) => c_Code_oerr w (oerr_werr hz)
  have A8 := fun (w : World) (B : Nat) (g : Gr W w) (hF : FaultAt w B objectS 0 10) => c_AlIs_hit B objectS 0 10 (by omega) w (errT_gr hE g) hF
  have tc : ((c : Int) == (c : Int)) = true := by simp
  have d1 : decide ((80 : Int) < (n : Int)) = false := decide_eq_false (by omega)
  have d2 : decide (80 < n) = false := decide_eq_false (by omega)
  obtain ⟨ad, cap, _, _, rfl, _⟩ := h
  obtain ⟨bd, bcap, _, _, rfl, _⟩ := hb
  obtain ⟨len, el⟩ : ∃ len, len = L.length := ⟨_, rfl⟩
  rw [← el] at A3 A4 ⊢
  have d3 : decide ((1000 : Int) < (len : Int)) = false := decide_eq_false (by omega)
  have d4 : decide (1000 < len) = false := decide_eq_false (by omega)
  have H1 := Lib.hid A1
  have H2 := Lib.hid A2
  have H3 := Lib.hid A3
  have H4 := Lib.hid A4
  have H5 := Lib.hid A5
  have H6 := Lib.hid A6
  have H8 := Lib.hid A8
  clear A1 A2 A3 A4 A5 A6 A8
  clear el hl hn hRl hE
  go_enter Tryd.func9, Tryd.ntmps9
  go_wp2_with fail
  go_at_call 48
  refine (H1.out _ (by go_grown)).mono ?_
  rintro e w1 ⟨x1, u1, rfl, hu1, hr1, g1⟩
  have c0 : w1.cell? ⟨W.heap.size, 0, none⟩ = some (.int .i64 k) := cell_gr g1 (by go_simp)
  have c1 : w1.cell? ⟨W.heap.size, 1, none⟩ = some (.slice ad n cap) := cell_gr g1 (by go_simp)
  have G1 : Gr W w1 := Gr.trans (by go_grown) g1
  have U1 := Lib.hid hu1
  have R1 := Lib.hid hr1
  clear hu1 hr1 g1 H1
  go_wp2_with fail
  go_at_call 49
  refine (H2.out _ G1).mono ?_
  rintro e w2 ⟨x2, rfl, hr2, g2⟩
  have G2 : Gr W w2 := Gr.trans G1 g2
  have U2 := Lib.hid (werr_gr U1.out g2)
  have R1' := Lib.hid (row_gr R1.out g2)
  have R2 := Lib.hid hr2
  clear hr2 g2 G1 U1 R1 H2 c0 c1
  go_wp2_with fail
  go_at_call 50
  refine (H3.out _ G2).mono ?_
  rintro e w3 hU3
  rcases hU3 with ⟨hbad, B3, rfl, hF3, g3⟩ | ⟨hok, v3, rfl, hP3, _, g3⟩
  · have G3 : Gr W w3 := Gr.trans G2 g3
    have U3 := Lib.hid (werr_gr U2.out g3)
    have R13 := Lib.hid (row_gr R1'.out g3)
    have R23 := Lib.hid (row_gr R2.out g3)
    have F3 := Lib.hid hF3
    have HBAD := Lib.hid hbad
    clear g3 G2 U2 R1' R2 H3 hF3 hbad
    go_wp2_with fail
    go_at_call 51
    refine (H4.out _ (by have gg := G3; have gs := gg.size; go_grown)).mono ?_
    rintro e w4 hU4
    rcases hU4 with ⟨_, rfl, g4⟩ | ⟨hok, _⟩
    · have g34 : Gr w3 w4 := Gr.trans (by go_grown) g4
      have k0 : w4.cell? ⟨w3.heap.size, 0, none⟩ = some (.int .i64 0) := cell_gr g4 (by go_simp)
      have k1 : w4.cell? ⟨w3.heap.size, 1, none⟩ = some (.slice none 0 0) := cell_gr g4 (by go_simp)
      have G4 : Gr W w4 := Gr.trans G3 g34
      have U4 := Lib.hid (werr_gr U3.out g34)
      have R14 := Lib.hid (row_gr R13.out g34)
      have R24 := Lib.hid (row_gr R23.out g34)
      have F4 := Lib.hid (faultAt_gr F3.out g34)
      have z4 := World.block_lt_of_cell? _ _ k0
      have SM := Lib.hid (fun w (p0 : Pts w (.slice none 0 0) 0 (fun _ => 0) (fun _ => 0)) => c_rSame 0 0 true w p0 p0 (by omega) (by simp))
      clear g34 g4 U3 R13 R23 H4 F3 G3
      go_wp2_with fail
      go_at_call 52
      refine ((H5.out _ _ _ (row_gr R14.out (by go_grown)) (row_gr R24.out (by go_grown)))).mono ?_
      rintro e w5 ⟨rfl, hw5⟩
      have cw5_0_0 : w5.cell? ⟨w3.heap.size, 0, none⟩ = some (.int .i64 0) := cell_gr hw5 (by go_simp)
      have cw5_0_1 : w5.cell? ⟨w3.heap.size, 1, none⟩ = some (.slice none 0 0) := cell_gr hw5 (by go_simp)
      have zw5_0 : w3.heap.size < w5.heap.size := World.block_lt_of_cell? _ _ cw5_0_0
      have cw5_1_0 : w5.cell? ⟨w4.heap.size, 0, none⟩ = some (.int .i64 0) := cell_gr hw5 (by go_simp)
      have cw5_1_1 : w5.cell? ⟨w4.heap.size, 1, none⟩ = some (.slice none 0 0) := cell_gr hw5 (by go_simp)
      have zw5_1 : w4.heap.size < w5.heap.size := World.block_lt_of_cell? _ _ cw5_1_0
      have gw5 : Gr w4 w5 := Gr.trans (by go_grown) hw5
      clear hw5
      go_wp2_with fail
      go_at_call 28
      refine ((H6.out _ _ (werr_gr U4.out gw5))).mono ?_
      rintro e w6 ⟨rfl, hw6⟩
      have cw6_0_0 : w6.cell? ⟨w3.heap.size, 0, none⟩ = some (.int .i64 0) := cell_gr hw6 (by go_simp)
      have cw6_0_1 : w6.cell? ⟨w3.heap.size, 1, none⟩ = some (.slice none 0 0) := cell_gr hw6 (by go_simp)
      have zw6_0 : w3.heap.size < w6.heap.size := World.block_lt_of_cell? _ _ cw6_0_0
      have cw6_1_0 : w6.cell? ⟨w4.heap.size, 0, none⟩ = some (.int .i64 0) := cell_gr hw6 (by go_simp)
      have cw6_1_1 : w6.cell? ⟨w4.heap.size, 1, none⟩ = some (.slice none 0 0) := cell_gr hw6 (by go_simp)
      have zw6_1 : w4.heap.size < w6.heap.size := World.block_lt_of_cell? _ _ cw6_1_0
      have gw6 : Gr w4 w6 := Gr.trans (by have gg := gw5; have gs := gg.size; go_grown) hw6
      clear hw6 gw5 zw5_0 cw5_0_0 cw5_0_1 zw5_1 cw5_1_0 cw5_1_1
      go_wp2_with fail
      go_at_call 53
      refine ((SM.out _ ⟨none, 0, 0, 0, rfl, Nat.le_refl _, by decide, fun h => absurd h (by omega), fun k h => absurd h (by omega)⟩)).mono ?_
      rintro e w7 ⟨rfl, hw7⟩
      have cw7_0_0 : w7.cell? ⟨w3.heap.size, 0, none⟩ = some (.int .i64 0) := cell_gr hw7 (by go_simp)
      have cw7_0_1 : w7.cell? ⟨w3.heap.size, 1, none⟩ = some (.slice none 0 0) := cell_gr hw7 (by go_simp)
      have zw7_0 : w3.heap.size < w7.heap.size := World.block_lt_of_cell? _ _ cw7_0_0
      have cw7_1_0 : w7.cell? ⟨w4.heap.size, 0, none⟩ = some (.int .i64 0) := cell_gr hw7 (by go_simp)
      have cw7_1_1 : w7.cell? ⟨w4.heap.size, 1, none⟩ = some (.slice none 0 0) := cell_gr hw7 (by go_simp)
      have zw7_1 : w4.heap.size < w7.heap.size := World.block_lt_of_cell? _ _ cw7_1_0
      have gw7 : Gr w4 w7 := Gr.trans (by have gg := gw6; have gs := gg.size; go_grown) hw7
      clear hw7 gw6 zw6_0 cw6_0_0 cw6_0_1 zw6_1 cw6_1_0 cw6_1_1
      go_wp2_with fail
      go_at_call 16
      refine ((H8.out _ _ (Gr.trans G4 gw7) (faultAt_gr F4.out gw7))).mono ?_
      rintro e w8 ⟨rfl, hw8⟩
      have cw8_0_0 : w8.cell? ⟨w3.heap.size, 0, none⟩ = some (.int .i64 0) := cell_gr hw8 (by go_simp)
      have cw8_0_1 : w8.cell? ⟨w3.heap.size, 1, none⟩ = some (.slice none 0 0) := cell_gr hw8 (by go_simp)
      have zw8_0 : w3.heap.size < w8.heap.size := World.block_lt_of_cell? _ _ cw8_0_0
      have cw8_1_0 : w8.cell? ⟨w4.heap.size, 0, none⟩ = some (.int .i64 0) := cell_gr hw8 (by go_simp)
      have cw8_1_1 : w8.cell? ⟨w4.heap.size, 1, none⟩ = some (.slice none 0 0) := cell_gr hw8 (by go_simp)
      have zw8_1 : w4.heap.size < w8.heap.size := World.block_lt_of_cell? _ _ cw8_1_0
      have gw8 : Gr w4 w8 := Gr.trans (by have gg := gw7; have gs := gg.size; go_grown) hw8
      clear hw8 gw7 zw7_0 cw7_0_0 cw7_0_1 zw7_1 cw7_1_0 cw7_1_1
      go_wp2_with fail
      go_at_call 47
      refine ((p8_awake _)).mono ?_
      rintro e w9 ⟨rfl, hw9⟩
      have cw9_0_0 : w9.cell? ⟨w3.heap.size, 0, none⟩ = some (.int .i64 0) := cell_gr hw9 (by go_simp)
      have cw9_0_1 : w9.cell? ⟨w3.heap.size, 1, none⟩ = some (.slice none 0 0) := cell_gr hw9 (by go_simp)
      have zw9_0 : w3.heap.size < w9.heap.size := World.block_lt_of_cell? _ _ cw9_0_0
      have cw9_1_0 : w9.cell? ⟨w4.heap.size, 0, none⟩ = some (.int .i64 0) := cell_gr hw9 (by go_simp)
      have cw9_1_1 : w9.cell? ⟨w4.heap.size, 1, none⟩ = some (.slice none 0 0) := cell_gr hw9 (by go_simp)
      have zw9_1 : w4.heap.size < w9.heap.size := World.block_lt_of_cell? _ _ cw9_1_0
      have gw9 : Gr w4 w9 := Gr.trans (by have gg := gw8; have gs := gg.size; go_grown) hw9
      clear hw9 gw8 zw8_0 cw8_0_0 cw8_0_1 zw8_1 cw8_1_0 cw8_1_1
      go_wp2_with fail
      go_ret
      exact ⟨rfl, Gr.trans G4 gw9⟩
    · rw [HBAD.out] at hok
      cases hok
  · have G3 : Gr W w3 := Gr.trans G2 g3
    have U3 := Lib.hid (werr_gr U2.out g3)
    have R13 := Lib.hid (row_gr R1'.out g3)
    have R23 := Lib.hid (row_gr R2.out g3)
    have P3 := Lib.hid hP3
    have HOK := Lib.hid hok
    obtain ⟨ad3, cap3, _, _, rfl, _⟩ := hP3
    clear g3 G2 U2 R1' R2 H3 hok
    have hM : uoM L ≤ 64 := nmV_le _ _ _ _
    go_wp2_with fail
    go_at_call 51
    refine (H4.out _ (by have gg := G3; have gs := gg.size; go_grown)).mono ?_
    rintro e w4 hU4
    rcases hU4 with ⟨hbad, _⟩ | ⟨_, v4, rfl, hP4, _, g4⟩
    · rw [HOK.out] at hbad
      cases hbad
    · have g34 : Gr w3 w4 := Gr.trans (by go_grown) g4
      have P4 := Lib.hid hP4
      have P34 := Lib.hid (pts_gr P3.out g34)
      obtain ⟨ad4, cap4, _, _, rfl, _⟩ := hP4
      generalize uoX L = X3 at *
      generalize uoY L = Y3 at *
      generalize uoM L = m3 at *
      generalize uoK L = k3 at *
      generalize uoE L = e3 at *
      have k0 : w4.cell? ⟨w3.heap.size, 0, none⟩ = some (.int .i64 k3) := cell_gr g4 (by go_simp)
      have k1 : w4.cell? ⟨w3.heap.size, 1, none⟩ = some (.slice ad3 m3 cap3) := cell_gr g4 (by go_simp)
      have G4 : Gr W w4 := Gr.trans G3 g34
      have U4 := Lib.hid (werr_gr U3.out g34)
      have R14 := Lib.hid (row_gr R13.out g34)
      have R24 := Lib.hid (row_gr R23.out g34)
      have z4 := World.block_lt_of_cell? _ _ k0
      have te : ((e3 : Int) == (e3 : Int)) = true := by simp
      have SM := Lib.hid (fun w (g : Gr w4 w) => c_rSame k3 k3 true w (pts_gr P34.out g) (pts_gr P4.out g) (by omega) (by simp))
      clear g34 g4 U3 R13 R23 H4 G3 P3 P4 P34 hM HOK
      go_wp2_with fail
      go_at_call 52
      refine ((H5.out _ _ _ (row_gr R14.out (by go_grown)) (row_gr R24.out (by go_grown)))).mono ?_
      rintro e w5 ⟨rfl, hw5⟩
      have cw5_0_0 : w5.cell? ⟨w3.heap.size, 0, none⟩ = some (.int .i64 k3) := cell_gr hw5 (by go_simp)
      have cw5_0_1 : w5.cell? ⟨w3.heap.size, 1, none⟩ = some (.slice ad3 m3 cap3) := cell_gr hw5 (by go_simp)
      have zw5_0 : w3.heap.size < w5.heap.size := World.block_lt_of_cell? _ _ cw5_0_0
      have cw5_1_0 : w5.cell? ⟨w4.heap.size, 0, none⟩ = some (.int .i64 k3) := cell_gr hw5 (by go_simp)
      have cw5_1_1 : w5.cell? ⟨w4.heap.size, 1, none⟩ = some (.slice ad4 m3 cap4) := cell_gr hw5 (by go_simp)
      have zw5_1 : w4.heap.size < w5.heap.size := World.block_lt_of_cell? _ _ cw5_1_0
      have gw5 : Gr w4 w5 := Gr.trans (by go_grown) hw5
      clear hw5
      go_wp2_with fail
      go_at_call 28
      refine ((H6.out _ _ (werr_gr U4.out gw5))).mono ?_
      rintro e w6 ⟨rfl, hw6⟩
      have cw6_0_0 : w6.cell? ⟨w3.heap.size, 0, none⟩ = some (.int .i64 k3) := cell_gr hw6 (by go_simp)
      have cw6_0_1 : w6.cell? ⟨w3.heap.size, 1, none⟩ = some (.slice ad3 m3 cap3) := cell_gr hw6 (by go_simp)
      have zw6_0 : w3.heap.size < w6.heap.size := World.block_lt_of_cell? _ _ cw6_0_0
      have cw6_1_0 : w6.cell? ⟨w4.heap.size, 0, none⟩ = some (.int .i64 k3) := cell_gr hw6 (by go_simp)
      have cw6_1_1 : w6.cell? ⟨w4.heap.size, 1, none⟩ = some (.slice ad4 m3 cap4) := cell_gr hw6 (by go_simp)
      have zw6_1 : w4.heap.size < w6.heap.size := World.block_lt_of_cell? _ _ cw6_1_0
      have gw6 : Gr w4 w6 := Gr.trans (by have gg := gw5; have gs := gg.size; go_grown) hw6
      clear hw6 gw5 zw5_0 cw5_0_0 cw5_0_1 zw5_1 cw5_1_0 cw5_1_1
      go_wp2_with fail
      go_at_call 53
      refine ((SM.out _ gw6)).mono ?_
      rintro e w7 ⟨rfl, hw7⟩
      have cw7_0_0 : w7.cell? ⟨w3.heap.size, 0, none⟩ = some (.int .i64 k3) := cell_gr hw7 (by go_simp)
      have cw7_0_1 : w7.cell? ⟨w3.heap.size, 1, none⟩ = some (.slice ad3 m3 cap3) := cell_gr hw7 (by go_simp)
      have zw7_0 : w3.heap.size < w7.heap.size := World.block_lt_of_cell? _ _ cw7_0_0
      have cw7_1_0 : w7.cell? ⟨w4.heap.size, 0, none⟩ = some (.int .i64 k3) := cell_gr hw7 (by go_simp)
      have cw7_1_1 : w7.cell? ⟨w4.heap.size, 1, none⟩ = some (.slice ad4 m3 cap4) := cell_gr hw7 (by go_simp)
      have zw7_1 : w4.heap.size < w7.heap.size := World.block_lt_of_cell? _ _ cw7_1_0
      have gw7 : Gr w4 w7 := Gr.trans (by have gg := gw6; have gs := gg.size; go_grown) hw7
      clear hw7 gw6 zw6_0 cw6_0_0 cw6_0_1 zw6_1 cw6_1_0 cw6_1_1
      go_wp2_with fail
      go_at_call 16
      refine ((c_AlIs_nil objectS 0 _)).mono ?_
      rintro e w8 ⟨rfl, hw8⟩
      have cw8_0_0 : w8.cell? ⟨w3.heap.size, 0, none⟩ = some (.int .i64 k3) := cell_gr hw8 (by go_simp)
      have cw8_0_1 : w8.cell? ⟨w3.heap.size, 1, none⟩ = some (.slice ad3 m3 cap3) := cell_gr hw8 (by go_simp)
      have zw8_0 : w3.heap.size < w8.heap.size := World.block_lt_of_cell? _ _ cw8_0_0
      have cw8_1_0 : w8.cell? ⟨w4.heap.size, 0, none⟩ = some (.int .i64 k3) := cell_gr hw8 (by go_simp)
      have cw8_1_1 : w8.cell? ⟨w4.heap.size, 1, none⟩ = some (.slice ad4 m3 cap4) := cell_gr hw8 (by go_simp)
      have zw8_1 : w4.heap.size < w8.heap.size := World.block_lt_of_cell? _ _ cw8_1_0
      have gw8 : Gr w4 w8 := Gr.trans (by have gg := gw7; have gs := gg.size; go_grown) hw8
      clear hw8 gw7 zw7_0 cw7_0_0 cw7_0_1 zw7_1 cw7_1_0 cw7_1_1
      go_wp2_with fail
      go_at_call 47
      refine ((p8_awake _)).mono ?_
      rintro e w9 ⟨rfl, hw9⟩
      have cw9_0_0 : w9.cell? ⟨w3.heap.size, 0, none⟩ = some (.int .i64 k3) := cell_gr hw9 (by go_simp)
      have cw9_0_1 : w9.cell? ⟨w3.heap.size, 1, none⟩ = some (.slice ad3 m3 cap3) := cell_gr hw9 (by go_simp)
      have zw9_0 : w3.heap.size < w9.heap.size := World.block_lt_of_cell? _ _ cw9_0_0
      have cw9_1_0 : w9.cell? ⟨w4.heap.size, 0, none⟩ = some (.int .i64 k3) := cell_gr hw9 (by go_simp)
      have cw9_1_1 : w9.cell? ⟨w4.heap.size, 1, none⟩ = some (.slice ad4 m3 cap4) := cell_gr hw9 (by go_simp)
      have zw9_1 : w4.heap.size < w9.heap.size := World.block_lt_of_cell? _ _ cw9_1_0
      have gw9 : Gr w4 w9 := Gr.trans (by have gg := gw8; have gs := gg.size; go_grown) hw9
      clear hw9 gw8 zw8_0 cw8_0_0 cw8_0_1 zw8_1 cw8_1_0 cw8_1_1
      go_wp2_with fail
      go_ret
      exact ⟨rfl, Gr.trans G4 gw9⟩
end Go.Proofs.YtkodmfkchbbmiaaDoor
