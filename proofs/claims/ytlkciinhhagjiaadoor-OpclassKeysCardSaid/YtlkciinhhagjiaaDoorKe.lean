/- opclass: the class of points makes a key; what the document fixes -/
import Derived.Test.YtlkciinhhagjiaaDoorKc
namespace Go.Proofs.YtlkciinhhagjiaaDoor
set_option linter.unusedVariables false
set_option linter.unusedSimpArgs false
open Go.ChangeShapes Go.WideShapes Go.ChangeAt Go.RowKit

/-- A key that was laid, by its slice. -/
def KeyTo (W : World) (K : List UInt8) (e : Ending) (w' : World) : Prop := ∃ g c, e = .returned (.slice (some ⟨g, 0, none⟩) K.length c) ∧ Row w' (.slice (some ⟨g, 0, none⟩) K.length c) K ∧ Gr W w'
theorem c_oKey' {lx ly hx hy : Int} (h1 : Iw lx) (h2 : Iw ly) (h3 : Iw hx) (h4 : Iw hy) (W : World) : Calls Tryd.prog 35 #[.agg #[.int .i64 lx, .int .i64 ly, .int .i64 hx, .int .i64 hy]] W (KeyTo W (keyB lx ly hx hy)) := (c_oKey h1 h2 h3 h4 W).mono (by
  rintro e w' ⟨b, rfl, o, g⟩
  have r := row_own o
  have l := (keyB_len h1 h2 h3 h4).1
  obtain ⟨kg, kc, rfl, -⟩ := row_form o (by omega)
  exact ⟨kg, kc, rfl, r, g⟩)
theorem c_rKey' {lx ly hx hy : Int} (h1 : Iw lx) (h2 : Iw ly) (h3 : Iw hx) (h4 : Iw hy) (W : World) : Calls Tryd.prog 36 #[.agg #[.int .i64 lx, .int .i64 ly, .int .i64 hx, .int .i64 hy]] W (KeyTo W (keyB lx ly hx hy)) := (c_rKey h1 h2 h3 h4 W).mono (by
  rintro e w' ⟨b, rfl, o, g⟩
  have r := row_own o
  have l := (keyB_len h1 h2 h3 h4).1
  obtain ⟨kg, kc, rfl, -⟩ := row_form o (by omega)
  exact ⟨kg, kc, rfl, r, g⟩)
theorem c_Boxes1 (W : World) : Calls Tryd.prog 66 #[.int .i64 1] W fun e w' => e = .returned (.tuple #[.iface 133 (.agg #[.int .i64 1]), .nilIface]) ∧ Gr W w' := by
  go_enter Tryd.func66, Tryd.ntmps66
  go_wp2_with fail
  go_ret2
  exact ⟨rfl, by go_grown⟩
set_option maxHeartbeats 2000000 in
set_option maxRecDepth 100000 in
theorem c_Bounds_pt (x y : Int) (B off cap : Nat) (h : nearB x y = true) (W : World) (p0 : W.cell? ⟨B, off, none⟩ = some (.int .i64 x)) (p1 : W.cell? ⟨B, off + 1, none⟩ = some (.int .i64 y)) (hB : B < W.heap.size) :
    Calls Tryd.prog 161 #[.agg #[.int .i64 1, .slice (some ⟨B, off, none⟩) 1 cap]] W fun e w' => e = .returned (.tuple #[.agg #[.int .i64 x, .int .i64 y, .int .i64 x, .int .i64 y], .nilIface]) ∧ Gr W w' := by
  have A1 := fun w (g : Gr W w) => c_Check_pt x y B off cap h w (cell_gr g p0) (cell_gr g p1) (Nat.lt_of_lt_of_le hB g.size)
  have A2 := fun w (g : Gr W w) => c_frame_pt x y B off cap w (cell_gr g p0) (cell_gr g p1) (Nat.lt_of_lt_of_le hB g.size)
  have H1 := Lib.hid A1
  have H2 := Lib.hid A2
  clear A1 A2
  clear p0 p1 h
  go_enter Tryd.func161, Tryd.ntmps161
  go_wp2_with fail
  go_at_call 10
  refine ((H1.out _ (by go_grown))).mono ?_
  rintro e w1 ⟨rfl, hw1⟩
  have cw1_0_0 : w1.cell? ⟨W.heap.size, 0, none⟩ = some (.int .i64 1) := cell_gr hw1 (by go_simp)
  have cw1_0_1 : w1.cell? ⟨W.heap.size, 1, none⟩ = some (.slice (some ⟨B, off, none⟩) 1 cap) := cell_gr hw1 (by go_simp)
  have zw1_0 : W.heap.size < w1.heap.size := World.block_lt_of_cell? _ _ cw1_0_0
  have cw1_1_0 : w1.cell? ⟨W.heap.size + 1, 0, none⟩ = some (.int .i64 0) := cell_gr hw1 (by go_simp)
  have fw1_1_0 : w1.frozen? ⟨W.heap.size + 1, 0, none⟩ = false := frozen_gr (v := .int .i64 0) hw1 (by go_simp) (by go_simp)
  have cw1_1_1 : w1.cell? ⟨W.heap.size + 1, 1, none⟩ = some (.int .i64 0) := cell_gr hw1 (by go_simp)
  have fw1_1_1 : w1.frozen? ⟨W.heap.size + 1, 1, none⟩ = false := frozen_gr (v := .int .i64 0) hw1 (by go_simp) (by go_simp)
  have cw1_1_2 : w1.cell? ⟨W.heap.size + 1, 2, none⟩ = some (.int .i64 0) := cell_gr hw1 (by go_simp)
  have fw1_1_2 : w1.frozen? ⟨W.heap.size + 1, 2, none⟩ = false := frozen_gr (v := .int .i64 0) hw1 (by go_simp) (by go_simp)
  have cw1_1_3 : w1.cell? ⟨W.heap.size + 1, 3, none⟩ = some (.int .i64 0) := cell_gr hw1 (by go_simp)
  have fw1_1_3 : w1.frozen? ⟨W.heap.size + 1, 3, none⟩ = false := frozen_gr (v := .int .i64 0) hw1 (by go_simp) (by go_simp)
  have zw1_1 : W.heap.size + 1 < w1.heap.size := World.block_lt_of_cell? _ _ cw1_1_0
  have gw1 : Gr W w1 := Gr.trans (by go_grown) hw1
  clear hw1
  go_wp2_with fail
  go_at_call 80
  refine ((H2.out _ (by have gg := gw1; have gs := gg.size; go_grown))).mono ?_
  rintro e w2 ⟨rfl, hw2⟩
  have cw2_0_0 : w2.cell? ⟨W.heap.size, 0, none⟩ = some (.int .i64 1) := cell_gr hw2 (by go_simp)
  have cw2_0_1 : w2.cell? ⟨W.heap.size, 1, none⟩ = some (.slice (some ⟨B, off, none⟩) 1 cap) := cell_gr hw2 (by go_simp)
  have zw2_0 : W.heap.size < w2.heap.size := World.block_lt_of_cell? _ _ cw2_0_0
  have cw2_1_0 : w2.cell? ⟨W.heap.size + 1, 0, none⟩ = some (.int .i64 0) := cell_gr hw2 (by go_simp)
  have fw2_1_0 : w2.frozen? ⟨W.heap.size + 1, 0, none⟩ = false := frozen_gr (v := .int .i64 0) hw2 (by go_simp) (by go_simp)
  have cw2_1_1 : w2.cell? ⟨W.heap.size + 1, 1, none⟩ = some (.int .i64 0) := cell_gr hw2 (by go_simp)
  have fw2_1_1 : w2.frozen? ⟨W.heap.size + 1, 1, none⟩ = false := frozen_gr (v := .int .i64 0) hw2 (by go_simp) (by go_simp)
  have cw2_1_2 : w2.cell? ⟨W.heap.size + 1, 2, none⟩ = some (.int .i64 0) := cell_gr hw2 (by go_simp)
  have fw2_1_2 : w2.frozen? ⟨W.heap.size + 1, 2, none⟩ = false := frozen_gr (v := .int .i64 0) hw2 (by go_simp) (by go_simp)
  have cw2_1_3 : w2.cell? ⟨W.heap.size + 1, 3, none⟩ = some (.int .i64 0) := cell_gr hw2 (by go_simp)
  have fw2_1_3 : w2.frozen? ⟨W.heap.size + 1, 3, none⟩ = false := frozen_gr (v := .int .i64 0) hw2 (by go_simp) (by go_simp)
  have zw2_1 : W.heap.size + 1 < w2.heap.size := World.block_lt_of_cell? _ _ cw2_1_0
  have gw2 : Gr W w2 := Gr.trans (by have gg := gw1; have gs := gg.size; go_grown) hw2
  clear hw2 gw1 zw1_0 cw1_0_0 cw1_0_1 zw1_1 cw1_1_0 fw1_1_0 cw1_1_1 fw1_1_1 cw1_1_2 fw1_1_2 cw1_1_3 fw1_1_3
  have GS := gw2.size
  go_wp2_with fail
  refine bodyPost_ret (v := .tuple #[.agg #[.int .i64 x, .int .i64 y, .int .i64 x, .int .i64 y], .nilIface]) (by simp [results, Tryd.results161, go_sem, *]) rfl ⟨rfl, by go_grown⟩
set_option maxHeartbeats 2000000 in
set_option maxRecDepth 100000 in
theorem c_Make_pt (x y : Int) (B off cap : Nat) (hx : Iw x) (hy : Iw y) (h : nearB x y = true) (W : World) (p0 : W.cell? ⟨B, off, none⟩ = some (.int .i64 x)) (p1 : W.cell? ⟨B, off + 1, none⟩ = some (.int .i64 y)) (hB : B < W.heap.size) :
    Calls Tryd.prog 157 #[.agg #[.int .i64 1], .agg #[.int .i64 1, .slice (some ⟨B, off, none⟩) 1 cap]] W fun e w' => ∃ g c, e = .returned (.tuple #[.slice (some ⟨g, 0, none⟩) (keyB x y x y).length c, .nilIface]) ∧ Row w' (.slice (some ⟨g, 0, none⟩) (keyB x y x y).length c) (keyB x y x y) ∧ Gr W w' := by
  have A1 := fun w (g : Gr W w) => c_Bounds_pt x y B off cap h w (cell_gr g p0) (cell_gr g p1) (Nat.lt_of_lt_of_le hB g.size)
  have A2 := fun w => c_oKey' hx hy hx hy w
  generalize keyB x y x y = K at A2 ⊢
  have H1 := Lib.hid A1
  have H2 := Lib.hid A2
  clear A1 A2
  clear p0 p1 h
  go_enter Tryd.func157, Tryd.ntmps157
  go_wp2_with fail
  go_at_call 161
  refine ((H1.out _ (by go_grown))).mono ?_
  rintro e w1 ⟨rfl, hw1⟩
  have cw1_0_0 : w1.cell? ⟨W.heap.size, 0, none⟩ = some (.int .i64 1) := cell_gr hw1 (by go_simp)
  have zw1_0 : W.heap.size < w1.heap.size := World.block_lt_of_cell? _ _ cw1_0_0
  have cw1_1_0 : w1.cell? ⟨W.heap.size + 1, 0, none⟩ = some (.int .i64 1) := cell_gr hw1 (by go_simp)
  have fw1_1_0 : w1.frozen? ⟨W.heap.size + 1, 0, none⟩ = false := frozen_gr (v := .int .i64 1) hw1 (by go_simp) (by go_simp)
  have cw1_1_1 : w1.cell? ⟨W.heap.size + 1, 1, none⟩ = some (.slice (some ⟨B, off, none⟩) 1 cap) := cell_gr hw1 (by go_simp)
  have fw1_1_1 : w1.frozen? ⟨W.heap.size + 1, 1, none⟩ = false := frozen_gr (v := .slice (some ⟨B, off, none⟩) 1 cap) hw1 (by go_simp) (by go_simp)
  have zw1_1 : W.heap.size + 1 < w1.heap.size := World.block_lt_of_cell? _ _ cw1_1_0
  have gw1 : Gr W w1 := Gr.trans (by go_grown) hw1
  clear hw1
  go_wp2_with fail
  go_at_call 35
  refine (H2.out _).mono ?_
  rintro e w2 ⟨g, c, rfl, r, g2⟩
  have R2 := Lib.hid r
  have G2 : Gr W w2 := Gr.trans gw1 (Gr.trans (by go_grown) g2)
  clear g2 r
  go_wp2_with fail
  go_ret2
  exact ⟨g, c, rfl, R2.out, G2⟩
theorem key_1212 : keyB 1 2 1 2 = [2, 4, 2, 4] := by
  have a : Ec.vr 2 = [2] := Ec.vr_small (by decide)
  have b : Ec.vr 4 = [4] := Ec.vr_small (by decide)
  show Ec.vr 2 ++ Ec.vr 4 ++ Ec.vr 2 ++ Ec.vr 4 = _
  rw [a, b]; rfl
set_option maxHeartbeats 4000000 in
set_option maxRecDepth 100000 in
theorem p16_awake (W : World) : Calls Tryd.prog 32 #[] W fun e w' => e = .returned (.bool true) ∧ Gr W w' := by
  have A1 := fun B w p0 p1 hB => c_Make_pt 1 2 B 0 1 (by unfold Iw; omega) (by unfold Iw; omega) (by decide) w p0 p1 hB
  have A2 := fun w => c_oKey' (lx := 1) (ly := 2) (hx := 1) (hy := 2) (by unfold Iw; omega) (by unfold Iw; omega) (by unfold Iw; omega) (by unfold Iw; omega) w
  rw [key_1212] at A1 A2
  have mM := fun (n : Nat) (w : World) => (show (Go.method (n + 1) 133 (.agg #[.int .i64 1]) "Make").run Tryd.prog w = .ok (157, .agg #[.int .i64 1]) w from by kernel_rfl)
  have H1 := Lib.hid A1
  have H2 := Lib.hid A2
  clear A1 A2
  go_enter Tryd.func32, Tryd.ntmps32
  go_wp2_with fail
  go_at_call 66
  refine ((c_Boxes1 _)).mono ?_
  rintro e w1 ⟨rfl, hw1⟩
  have gw1 : Gr W w1 := Gr.trans (by go_grown) hw1
  clear hw1
  go_wp2_with fail
  go_at_call 157
  refine (H1.out _ _ (by go_simp) (by go_simp) (by go_simp)).mono ?_
  rintro e w2 ⟨g, c, rfl, r, g2⟩
  have R2 := Lib.hid r
  have G2 : Gr W w2 := Gr.trans gw1 (Gr.trans (by go_grown) g2)
  clear g2 r
  go_wp2_with fail
  go_at_call 35
  refine (H2.out _).mono ?_
  rintro e w3 ⟨kg, kc, rfl, r3, g3⟩
  have G3 : Gr w2 w3 := Gr.trans (by go_grown) g3
  have R3 := Lib.hid r3
  clear g3 r3
  go_wp2_with fail
  go_at_call 21
  refine (c_Bytes_same (L := [2, 4, 2, 4]) _ (row_gr R2.out (Gr.trans G3 (by go_grown))) (row_gr R3.out (by go_grown)) (by decide)).mono ?_
  rintro e w4 ⟨rfl, g4⟩
  have G4 : Gr w3 w4 := Gr.trans (by go_grown) g4
  clear g4
  go_wp2_with fail
  go_ret
  exact ⟨rfl, Gr.trans G2 (Gr.trans G3 (Gr.trans G4 (by go_grown)))⟩
end Go.Proofs.YtlkciinhhagjiaaDoor
