import Derived.Test.YtpomllpplpalkaaGreatDoorZd
import Derived.Test.YtpomllpplpalkaaGreatDoorPq
import Derived.Test.YtpomllpplpalkaaGreatDoorZa
import Derived.Deep.RegionWith
import Derived.BigRegion
import Derived.Test.YtpomllpplpalkaaGreatDoorPa
import Derived.Test.YtpomllpplpalkaaGreatDoorH
import Derived.Test.YtpomllpplpalkaaGreatDoorZn
/- plane.Around of two points; segm.MeetsBox -/
namespace Go.Proofs.YtpomllpplpalkaaGreatDoor
set_option linter.unusedVariables false
open Go.ChangeShapes Go.WideShapes Go.ChangeAt Go.RowKit

set_option maxHeartbeats 4000000 in
set_option maxRecDepth 100000 in
theorem around_core (ax ay bx by' lx ly hx hy : Int) (B : Nat) (W : World) (hB : B < W.heap.size) (k0 : W.cell? ⟨B, 0, none⟩ = some (.int .i64 ax)) (k1 : W.cell? ⟨B, 1, none⟩ = some (.int .i64 ay)) (k2 : W.cell? ⟨B, 2, none⟩ = some (.int .i64 bx)) (k3 : W.cell? ⟨B, 3, none⟩ = some (.int .i64 by'))
    (A1 : ∀ w, Calls Tryz.prog 200 #[.agg #[.int .i64 ax, .int .i64 ay, .int .i64 ax, .int .i64 ay], .agg #[.int .i64 ax, .int .i64 ay, .int .i64 ax, .int .i64 ay]] w fun e w' => e = .returned (.agg #[.int .i64 ax, .int .i64 ay, .int .i64 ax, .int .i64 ay]) ∧ Gr w w')
    (A2 : ∀ w, Calls Tryz.prog 200 #[.agg #[.int .i64 ax, .int .i64 ay, .int .i64 ax, .int .i64 ay], .agg #[.int .i64 bx, .int .i64 by', .int .i64 bx, .int .i64 by']] w fun e w' => e = .returned (.agg #[.int .i64 lx, .int .i64 ly, .int .i64 hx, .int .i64 hy]) ∧ Gr w w') :
    Calls Tryz.prog 152 #[.slice (some ⟨B, 0, none⟩) 2 2] W fun e w' => e = .returned (.agg #[.int .i64 lx, .int .i64 ly, .int .i64 hx, .int .i64 hy]) ∧ Gr W w' := by
  have H1 := Lib.hid A1
  have H2 := Lib.hid A2
  clear A1 A2
  have nB1 : ¬ B = W.heap.size + 1 := by omega
  have nB2 : ¬ W.heap.size + 1 = B := by omega
  have nB3 : ¬ B = W.heap.size := by omega
  have nB4 : ¬ W.heap.size = B := by omega
  go_enter Tryz.func152, Tryz.ntmps152
  go_wp2_with fail
  refine wp_loop_rounds 3 ?_
  rw [rounds_succ]
  go_wp2_with fail
  go_at_call 200
  refine ((H1.out _)).mono ?_
  rintro e w1 ⟨rfl, hw1⟩
  have cw1_0_0 : w1.cell? ⟨W.heap.size, 0, none⟩ = some (.int .i64 0) := cell_gr hw1 (by go_simp)
  have fw1_0_0 : w1.frozen? ⟨W.heap.size, 0, none⟩ = false := frozen_gr (v := .int .i64 0) hw1 (by go_simp) (by go_simp)
  have cw1_0_1 : w1.cell? ⟨W.heap.size, 1, none⟩ = some (.int .i64 0) := cell_gr hw1 (by go_simp)
  have fw1_0_1 : w1.frozen? ⟨W.heap.size, 1, none⟩ = false := frozen_gr (v := .int .i64 0) hw1 (by go_simp) (by go_simp)
  have cw1_0_2 : w1.cell? ⟨W.heap.size, 2, none⟩ = some (.int .i64 0) := cell_gr hw1 (by go_simp)
  have fw1_0_2 : w1.frozen? ⟨W.heap.size, 2, none⟩ = false := frozen_gr (v := .int .i64 0) hw1 (by go_simp) (by go_simp)
  have cw1_0_3 : w1.cell? ⟨W.heap.size, 3, none⟩ = some (.int .i64 0) := cell_gr hw1 (by go_simp)
  have fw1_0_3 : w1.frozen? ⟨W.heap.size, 3, none⟩ = false := frozen_gr (v := .int .i64 0) hw1 (by go_simp) (by go_simp)
  have zw1_0 : W.heap.size < w1.heap.size := World.block_lt_of_cell? _ _ cw1_0_0
  have cw1_1_0 : w1.cell? ⟨W.heap.size + 1, 0, none⟩ = some (.int .i64 ax) := cell_gr hw1 (by go_simp)
  have fw1_1_0 : w1.frozen? ⟨W.heap.size + 1, 0, none⟩ = false := frozen_gr (v := .int .i64 ax) hw1 (by go_simp) (by go_simp)
  have cw1_1_1 : w1.cell? ⟨W.heap.size + 1, 1, none⟩ = some (.int .i64 ay) := cell_gr hw1 (by go_simp)
  have fw1_1_1 : w1.frozen? ⟨W.heap.size + 1, 1, none⟩ = false := frozen_gr (v := .int .i64 ay) hw1 (by go_simp) (by go_simp)
  have cw1_1_2 : w1.cell? ⟨W.heap.size + 1, 2, none⟩ = some (.int .i64 ax) := cell_gr hw1 (by go_simp)
  have fw1_1_2 : w1.frozen? ⟨W.heap.size + 1, 2, none⟩ = false := frozen_gr (v := .int .i64 ax) hw1 (by go_simp) (by go_simp)
  have cw1_1_3 : w1.cell? ⟨W.heap.size + 1, 3, none⟩ = some (.int .i64 ay) := cell_gr hw1 (by go_simp)
  have fw1_1_3 : w1.frozen? ⟨W.heap.size + 1, 3, none⟩ = false := frozen_gr (v := .int .i64 ay) hw1 (by go_simp) (by go_simp)
  have zw1_1 : W.heap.size + 1 < w1.heap.size := World.block_lt_of_cell? _ _ cw1_1_0
  have gw1 : Gr W w1 := Gr.trans (by go_grown) hw1
  clear hw1
  have j2 := cell_gr gw1 k2
  have j3 := cell_gr gw1 k3
  clear k0 k1 k2 k3
  have zB := World.block_lt_of_cell? _ _ j2
  go_wp2_with fail
  rw [rounds_succ]
  go_wp2_with fail
  go_at_call 200
  refine ((H2.out _)).mono ?_
  rintro e w2 ⟨rfl, hw2⟩
  have cw2_0_0 : w2.cell? ⟨W.heap.size, 0, none⟩ = some (.int .i64 0) := cell_gr hw2 (by go_simp)
  have fw2_0_0 : w2.frozen? ⟨W.heap.size, 0, none⟩ = false := frozen_gr (v := .int .i64 0) hw2 (by go_simp) (by go_simp)
  have cw2_0_1 : w2.cell? ⟨W.heap.size, 1, none⟩ = some (.int .i64 0) := cell_gr hw2 (by go_simp)
  have fw2_0_1 : w2.frozen? ⟨W.heap.size, 1, none⟩ = false := frozen_gr (v := .int .i64 0) hw2 (by go_simp) (by go_simp)
  have cw2_0_2 : w2.cell? ⟨W.heap.size, 2, none⟩ = some (.int .i64 0) := cell_gr hw2 (by go_simp)
  have fw2_0_2 : w2.frozen? ⟨W.heap.size, 2, none⟩ = false := frozen_gr (v := .int .i64 0) hw2 (by go_simp) (by go_simp)
  have cw2_0_3 : w2.cell? ⟨W.heap.size, 3, none⟩ = some (.int .i64 0) := cell_gr hw2 (by go_simp)
  have fw2_0_3 : w2.frozen? ⟨W.heap.size, 3, none⟩ = false := frozen_gr (v := .int .i64 0) hw2 (by go_simp) (by go_simp)
  have zw2_0 : W.heap.size < w2.heap.size := World.block_lt_of_cell? _ _ cw2_0_0
  have cw2_1_0 : w2.cell? ⟨W.heap.size + 1, 0, none⟩ = some (.int .i64 ax) := cell_gr hw2 (by go_simp)
  have fw2_1_0 : w2.frozen? ⟨W.heap.size + 1, 0, none⟩ = false := frozen_gr (v := .int .i64 ax) hw2 (by go_simp) (by go_simp)
  have cw2_1_1 : w2.cell? ⟨W.heap.size + 1, 1, none⟩ = some (.int .i64 ay) := cell_gr hw2 (by go_simp)
  have fw2_1_1 : w2.frozen? ⟨W.heap.size + 1, 1, none⟩ = false := frozen_gr (v := .int .i64 ay) hw2 (by go_simp) (by go_simp)
  have cw2_1_2 : w2.cell? ⟨W.heap.size + 1, 2, none⟩ = some (.int .i64 ax) := cell_gr hw2 (by go_simp)
  have fw2_1_2 : w2.frozen? ⟨W.heap.size + 1, 2, none⟩ = false := frozen_gr (v := .int .i64 ax) hw2 (by go_simp) (by go_simp)
  have cw2_1_3 : w2.cell? ⟨W.heap.size + 1, 3, none⟩ = some (.int .i64 ay) := cell_gr hw2 (by go_simp)
  have fw2_1_3 : w2.frozen? ⟨W.heap.size + 1, 3, none⟩ = false := frozen_gr (v := .int .i64 ay) hw2 (by go_simp) (by go_simp)
  have zw2_1 : W.heap.size + 1 < w2.heap.size := World.block_lt_of_cell? _ _ cw2_1_0
  have gw2 : Gr W w2 := Gr.trans (by have gg := gw1; have gs := gg.size; go_grown) hw2
  clear hw2 gw1 zw1_0 cw1_0_0 fw1_0_0 cw1_0_1 fw1_0_1 cw1_0_2 fw1_0_2 cw1_0_3 fw1_0_3 zw1_1 cw1_1_0 fw1_1_0 cw1_1_1 fw1_1_1 cw1_1_2 fw1_1_2 cw1_1_3 fw1_1_3
  go_wp2_with fail
  rw [rounds_succ]
  go_wp2_with fail
  refine bodyPost_ret (v := .agg #[.int .i64 lx, .int .i64 ly, .int .i64 hx, .int .i64 hy]) (by simp [results, Tryz.results152, go_sem, *]) rfl ⟨rfl, by go_grown⟩
theorem c_Around2 (ax ay bx by' : Int) (B : Nat) (W : World) (hB : B < W.heap.size) (k0 : W.cell? ⟨B, 0, none⟩ = some (.int .i64 ax)) (k1 : W.cell? ⟨B, 1, none⟩ = some (.int .i64 ay)) (k2 : W.cell? ⟨B, 2, none⟩ = some (.int .i64 bx)) (k3 : W.cell? ⟨B, 3, none⟩ = some (.int .i64 by')) :
    Calls Tryz.prog 152 #[.slice (some ⟨B, 0, none⟩) 2 2] W fun e w' => e = .returned (.agg #[.int .i64 (minZ ax bx), .int .i64 (minZ ay by'), .int .i64 (maxZ ax bx), .int .i64 (maxZ ay by')]) ∧ Gr W w' :=
  around_core ax ay bx by' _ _ _ _ B W hB k0 k1 k2 k3 (c_join_self ax ay ax ay) (c_join ax ay ax ay bx by' bx by')
end Go.Proofs.YtpomllpplpalkaaGreatDoor
/- segm.MeetsBox -/
namespace Go.Proofs.YtpomllpplpalkaaGreatDoor
set_option linter.unusedVariables false
open Go.ChangeShapes Go.WideShapes Go.ChangeAt Go.RowKit

def MbCut (W : World) (ax ay bx by' lx ly hx hy : Int) (nm : Bool) (v : Value) (wx : World) : Prop := v = .bool nm ∧ wx.cell? ⟨W.heap.size, 0, none⟩ = some (.int .i64 ax) ∧ wx.cell? ⟨W.heap.size, 1, none⟩ = some (.int .i64 ay) ∧ wx.cell? ⟨W.heap.size + 1, 0, none⟩ = some (.int .i64 bx) ∧ wx.cell? ⟨W.heap.size + 1, 1, none⟩ = some (.int .i64 by') ∧ wx.cell? ⟨W.heap.size + 1 + 1, 0, none⟩ = some (.int .i64 lx) ∧ wx.cell? ⟨W.heap.size + 1 + 1, 1, none⟩ = some (.int .i64 ly) ∧ wx.cell? ⟨W.heap.size + 1 + 1, 2, none⟩ = some (.int .i64 hx) ∧ wx.cell? ⟨W.heap.size + 1 + 1, 3, none⟩ = some (.int .i64 hy) ∧ Gr W wx
def MbTwo (W : World) (ax ay bx by' lx ly hx hy : Int) (p q : Value) (wx : World) : Prop := ∃ b7 b8 : Nat, p = .pointer (some ⟨b7, 0, none⟩) ∧ q = .pointer (some ⟨b8, 0, none⟩) ∧ wx.cell? ⟨b7, 0, none⟩ = some (.int .i64 lx) ∧ wx.cell? ⟨b7, 1, none⟩ = some (.int .i64 hy) ∧ wx.cell? ⟨b8, 0, none⟩ = some (.int .i64 hx) ∧ wx.cell? ⟨b8, 1, none⟩ = some (.int .i64 ly) ∧ wx.cell? ⟨W.heap.size, 0, none⟩ = some (.int .i64 ax) ∧ wx.cell? ⟨W.heap.size, 1, none⟩ = some (.int .i64 ay) ∧ wx.cell? ⟨W.heap.size + 1, 0, none⟩ = some (.int .i64 bx) ∧ wx.cell? ⟨W.heap.size + 1, 1, none⟩ = some (.int .i64 by') ∧ wx.cell? ⟨W.heap.size + 1 + 1, 0, none⟩ = some (.int .i64 lx) ∧ wx.cell? ⟨W.heap.size + 1 + 1, 1, none⟩ = some (.int .i64 ly) ∧ wx.cell? ⟨W.heap.size + 1 + 1, 2, none⟩ = some (.int .i64 hx) ∧ wx.cell? ⟨W.heap.size + 1 + 1, 3, none⟩ = some (.int .i64 hy) ∧ Gr W wx
set_option maxHeartbeats 8000000 in
set_option maxRecDepth 100000 in
theorem gmb_in (ax ay bx by' lx ly hx hy ox oy ux uy : Int) (m nm ha hb k1 k2 r : Bool) (W : World)
    (hc : (nm = true ∧ m = false ∧ r = false) ∨ (nm = false ∧ m = true ∧ ha = true ∧ r = true) ∨ (nm = false ∧ m = true ∧ ha = false ∧ hb = true ∧ r = true) ∨ (nm = false ∧ m = true ∧ ha = false ∧ hb = false ∧ k1 = true ∧ r = true) ∨ (nm = false ∧ m = true ∧ ha = false ∧ hb = false ∧ k1 = false ∧ r = k2)) (hm : (!m) = nm)
    (A1 : ∀ b w, b < w.heap.size → w.cell? ⟨b, 0, none⟩ = some (.int .i64 ax) → w.cell? ⟨b, 1, none⟩ = some (.int .i64 ay) → w.cell? ⟨b, 2, none⟩ = some (.int .i64 bx) → w.cell? ⟨b, 3, none⟩ = some (.int .i64 by') →
      Calls Tryz.prog 164 #[.slice (some ⟨b, 0, none⟩) 2 2] w fun e w' => e = .returned (.bool true) ∧ Gr w w')
    (A2 : ∀ w, Calls Tryz.prog 148 #[.agg #[.int .i64 lx, .int .i64 ly, .int .i64 hx, .int .i64 hy]] w fun e w' => e = .returned (.nilIface) ∧ Gr w w')
    (A3 : ∀ b w, b < w.heap.size → w.cell? ⟨b, 0, none⟩ = some (.int .i64 ax) → w.cell? ⟨b, 1, none⟩ = some (.int .i64 ay) → w.cell? ⟨b, 2, none⟩ = some (.int .i64 bx) → w.cell? ⟨b, 3, none⟩ = some (.int .i64 by') →
      Calls Tryz.prog 152 #[.slice (some ⟨b, 0, none⟩) 2 2] w fun e w' => e = .returned (.agg #[.int .i64 ox, .int .i64 oy, .int .i64 ux, .int .i64 uy]) ∧ Gr w w')
    (A4 : ∀ w, Calls Tryz.prog 154 #[.agg #[.int .i64 ox, .int .i64 oy, .int .i64 ux, .int .i64 uy], .agg #[.int .i64 lx, .int .i64 ly, .int .i64 hx, .int .i64 hy]] w fun e w' => e = .returned (.bool m) ∧ Gr w w')
    (A5 : ∀ w, Calls Tryz.prog 228 #[.agg #[.int .i64 lx, .int .i64 ly, .int .i64 hx, .int .i64 hy], .agg #[.int .i64 ax, .int .i64 ay]] w fun e w' => e = .returned (.bool ha) ∧ Gr w w')
    (A6 : ∀ w, Calls Tryz.prog 228 #[.agg #[.int .i64 lx, .int .i64 ly, .int .i64 hx, .int .i64 hy], .agg #[.int .i64 bx, .int .i64 by']] w fun e w' => e = .returned (.bool hb) ∧ Gr w w')
    (A7 : ∀ w, Calls Tryz.prog 227 #[.agg #[.int .i64 ax, .int .i64 ay], .agg #[.int .i64 bx, .int .i64 by'], .agg #[.int .i64 lx, .int .i64 ly], .agg #[.int .i64 hx, .int .i64 hy]] w fun e w' => e = .returned (.bool k1) ∧ Gr w w')
    (A8 : ∀ w, Calls Tryz.prog 227 #[.agg #[.int .i64 ax, .int .i64 ay], .agg #[.int .i64 bx, .int .i64 by'], .agg #[.int .i64 lx, .int .i64 hy], .agg #[.int .i64 hx, .int .i64 ly]] w fun e w' => e = .returned (.bool k2) ∧ Gr w w') :
    Calls Tryz.prog 201 #[.agg #[.int .i64 ax, .int .i64 ay], .agg #[.int .i64 bx, .int .i64 by'], .agg #[.int .i64 lx, .int .i64 ly, .int .i64 hx, .int .i64 hy]] W fun e w' => e = .returned (.bool r) ∧ Gr W w' := by
  have H1 := Lib.hid A1
  have H2 := Lib.hid A2
  have H3 := Lib.hid A3
  have H4 := Lib.hid A4
  have H5 := Lib.hid A5
  have H6 := Lib.hid A6
  have H7 := Lib.hid A7
  have H8 := Lib.hid A8
  clear A1 A2 A3 A4 A5 A6 A7 A8
  have HC := Lib.hid hc
  have HM := Lib.hid hm
  clear hc hm
  go_enter Tryz.func201, Tryz.ntmps201
  go_wp2_with fail
  go_at_call 164
  refine ((H1.out _ _ (by go_simp) (by go_simp) (by go_simp) (by go_simp) (by go_simp))).mono ?_
  rintro e w1 ⟨rfl, hw1⟩
  have cw1_0_0 : w1.cell? ⟨W.heap.size, 0, none⟩ = some (.int .i64 ax) := cell_gr hw1 (by go_simp)
  have cw1_0_1 : w1.cell? ⟨W.heap.size, 1, none⟩ = some (.int .i64 ay) := cell_gr hw1 (by go_simp)
  have zw1_0 : W.heap.size < w1.heap.size := World.block_lt_of_cell? _ _ cw1_0_0
  have cw1_1_0 : w1.cell? ⟨W.heap.size + 1, 0, none⟩ = some (.int .i64 bx) := cell_gr hw1 (by go_simp)
  have cw1_1_1 : w1.cell? ⟨W.heap.size + 1, 1, none⟩ = some (.int .i64 by') := cell_gr hw1 (by go_simp)
  have zw1_1 : W.heap.size + 1 < w1.heap.size := World.block_lt_of_cell? _ _ cw1_1_0
  have cw1_2_0 : w1.cell? ⟨W.heap.size + 1 + 1, 0, none⟩ = some (.int .i64 lx) := cell_gr hw1 (by go_simp)
  have cw1_2_1 : w1.cell? ⟨W.heap.size + 1 + 1, 1, none⟩ = some (.int .i64 ly) := cell_gr hw1 (by go_simp)
  have cw1_2_2 : w1.cell? ⟨W.heap.size + 1 + 1, 2, none⟩ = some (.int .i64 hx) := cell_gr hw1 (by go_simp)
  have cw1_2_3 : w1.cell? ⟨W.heap.size + 1 + 1, 3, none⟩ = some (.int .i64 hy) := cell_gr hw1 (by go_simp)
  have zw1_2 : W.heap.size + 1 + 1 < w1.heap.size := World.block_lt_of_cell? _ _ cw1_2_0
  have gw1 : Gr W w1 := Gr.trans (by go_grown) hw1
  clear hw1
  go_wp2_with fail
  go_at_call 148
  refine ((H2.out _)).mono ?_
  rintro e w2 ⟨rfl, hw2⟩
  have cw2_0_0 : w2.cell? ⟨W.heap.size, 0, none⟩ = some (.int .i64 ax) := cell_gr hw2 (by go_simp)
  have cw2_0_1 : w2.cell? ⟨W.heap.size, 1, none⟩ = some (.int .i64 ay) := cell_gr hw2 (by go_simp)
  have zw2_0 : W.heap.size < w2.heap.size := World.block_lt_of_cell? _ _ cw2_0_0
  have cw2_1_0 : w2.cell? ⟨W.heap.size + 1, 0, none⟩ = some (.int .i64 bx) := cell_gr hw2 (by go_simp)
  have cw2_1_1 : w2.cell? ⟨W.heap.size + 1, 1, none⟩ = some (.int .i64 by') := cell_gr hw2 (by go_simp)
  have zw2_1 : W.heap.size + 1 < w2.heap.size := World.block_lt_of_cell? _ _ cw2_1_0
  have cw2_2_0 : w2.cell? ⟨W.heap.size + 1 + 1, 0, none⟩ = some (.int .i64 lx) := cell_gr hw2 (by go_simp)
  have cw2_2_1 : w2.cell? ⟨W.heap.size + 1 + 1, 1, none⟩ = some (.int .i64 ly) := cell_gr hw2 (by go_simp)
  have cw2_2_2 : w2.cell? ⟨W.heap.size + 1 + 1, 2, none⟩ = some (.int .i64 hx) := cell_gr hw2 (by go_simp)
  have cw2_2_3 : w2.cell? ⟨W.heap.size + 1 + 1, 3, none⟩ = some (.int .i64 hy) := cell_gr hw2 (by go_simp)
  have zw2_2 : W.heap.size + 1 + 1 < w2.heap.size := World.block_lt_of_cell? _ _ cw2_2_0
  have gw2 : Gr W w2 := Gr.trans (by have gg := gw1; have gs := gg.size; go_grown) hw2
  clear hw2 gw1 zw1_0 cw1_0_0 cw1_0_1 zw1_1 cw1_1_0 cw1_1_1 zw1_2 cw1_2_0 cw1_2_1 cw1_2_2 cw1_2_3
  go_upto_region 3 with fail
  go_cut [25] from 19 to 25 (fun v wx => MbCut W ax ay bx by' lx ly hx hy nm v wx)
  case first =>
    go_region_with (first | (go_at_call 152; refine (H3.out _ _ (by go_simp) (by go_simp) (by go_simp) (by go_simp) (by go_simp)).mono ?_; rintro e w3 ⟨rfl, h3⟩; have w3c0 : w3.cell? ⟨W.heap.size, 0, none⟩ = some (.int .i64 ax) := cell_gr h3 (by go_simp); have w3c1 : w3.cell? ⟨W.heap.size, 1, none⟩ = some (.int .i64 ay) := cell_gr h3 (by go_simp); have w3c2 : w3.cell? ⟨W.heap.size + 1, 0, none⟩ = some (.int .i64 bx) := cell_gr h3 (by go_simp); have w3c3 : w3.cell? ⟨W.heap.size + 1, 1, none⟩ = some (.int .i64 by') := cell_gr h3 (by go_simp); have w3c4 : w3.cell? ⟨W.heap.size + 1 + 1, 0, none⟩ = some (.int .i64 lx) := cell_gr h3 (by go_simp); have w3c5 : w3.cell? ⟨W.heap.size + 1 + 1, 1, none⟩ = some (.int .i64 ly) := cell_gr h3 (by go_simp); have w3c6 : w3.cell? ⟨W.heap.size + 1 + 1, 2, none⟩ = some (.int .i64 hx) := cell_gr h3 (by go_simp); have w3c7 : w3.cell? ⟨W.heap.size + 1 + 1, 3, none⟩ = some (.int .i64 hy) := cell_gr h3 (by go_simp); have g3 : Gr W w3 := Gr.trans (by have gg := gw2; have gs := gg.size; go_grown) h3; clear h3) | (go_at_call 154; refine (H4.out _).mono ?_; rintro e w4 ⟨rfl, h4⟩; have w4c0 : w4.cell? ⟨W.heap.size, 0, none⟩ = some (.int .i64 ax) := cell_gr h4 (by go_simp); have w4c1 : w4.cell? ⟨W.heap.size, 1, none⟩ = some (.int .i64 ay) := cell_gr h4 (by go_simp); have w4c2 : w4.cell? ⟨W.heap.size + 1, 0, none⟩ = some (.int .i64 bx) := cell_gr h4 (by go_simp); have w4c3 : w4.cell? ⟨W.heap.size + 1, 1, none⟩ = some (.int .i64 by') := cell_gr h4 (by go_simp); have w4c4 : w4.cell? ⟨W.heap.size + 1 + 1, 0, none⟩ = some (.int .i64 lx) := cell_gr h4 (by go_simp); have w4c5 : w4.cell? ⟨W.heap.size + 1 + 1, 1, none⟩ = some (.int .i64 ly) := cell_gr h4 (by go_simp); have w4c6 : w4.cell? ⟨W.heap.size + 1 + 1, 2, none⟩ = some (.int .i64 hx) := cell_gr h4 (by go_simp); have w4c7 : w4.cell? ⟨W.heap.size + 1 + 1, 3, none⟩ = some (.int .i64 hy) := cell_gr h4 (by go_simp); have g4 : Gr W w4 := Gr.trans (by have gg := g3; have gs := gg.size; go_grown) h4; clear h4))
    all_goals (go_wp2_with fail; go_meet; exact ⟨by rw [HM.out], by assumption, by assumption, by assumption, by assumption, by assumption, by assumption, by assumption, by assumption, by assumption⟩)
  case rest =>
    obtain ⟨rfl, cc0, cc1, cc2, cc3, cc4, cc5, cc6, cc7, gwc⟩ := hcut
    have zz0 := World.block_lt_of_cell? _ _ cc0
    have zz1 := World.block_lt_of_cell? _ _ cc2
    have zz2 := World.block_lt_of_cell? _ _ cc4
    clear gw2 zw2_0 cw2_0_0 cw2_0_1 zw2_1 cw2_1_0 cw2_1_1 zw2_2 cw2_2_0 cw2_2_1 cw2_2_2 cw2_2_3
    have HK : (nm = true ∧ r = false) ∨ (nm = false ∧ ha = true ∧ r = true) ∨ (nm = false ∧ ha = false ∧ hb = true ∧ r = true) ∨ (nm = false ∧ ha = false ∧ hb = false ∧ ((k1 = true ∧ r = true) ∨ (k1 = false ∧ r = k2))) := by
      rcases HC.out with ⟨a, -, b⟩ | ⟨a, -, b, c⟩ | ⟨a, -, b, c, d⟩ | ⟨a, -, b, c, d, e⟩ | ⟨a, -, b, c, d, e⟩
      · exact Or.inl ⟨a, b⟩
      · exact Or.inr (Or.inl ⟨a, b, c⟩)
      · exact Or.inr (Or.inr (Or.inl ⟨a, b, c, d⟩))
      · exact Or.inr (Or.inr (Or.inr ⟨a, b, c, Or.inl ⟨d, e⟩⟩))
      · exact Or.inr (Or.inr (Or.inr ⟨a, b, c, Or.inr ⟨d, e⟩⟩))
    clear HC HM
    rcases HK with ⟨rfl, rfl⟩ | ⟨rfl, rfl, rfl⟩ | ⟨rfl, rfl, rfl, rfl⟩ | ⟨rfl, rfl, rfl, hk⟩
    · go_wp2_with fail
      go_ret
      exact ⟨rfl, gwc⟩
    · skip
      go_wp2_with fail
      go_at_call 228
      refine ((H5.out _)).mono ?_
      rintro e w5 ⟨rfl, hw5⟩
      have cw5_0_0 : w5.cell? ⟨W.heap.size, 0, none⟩ = some (.int .i64 ax) := cell_gr hw5 (by go_simp)
      have cw5_0_1 : w5.cell? ⟨W.heap.size, 1, none⟩ = some (.int .i64 ay) := cell_gr hw5 (by go_simp)
      have zw5_0 : W.heap.size < w5.heap.size := World.block_lt_of_cell? _ _ cw5_0_0
      have cw5_1_0 : w5.cell? ⟨W.heap.size + 1, 0, none⟩ = some (.int .i64 bx) := cell_gr hw5 (by go_simp)
      have cw5_1_1 : w5.cell? ⟨W.heap.size + 1, 1, none⟩ = some (.int .i64 by') := cell_gr hw5 (by go_simp)
      have zw5_1 : W.heap.size + 1 < w5.heap.size := World.block_lt_of_cell? _ _ cw5_1_0
      have cw5_2_0 : w5.cell? ⟨W.heap.size + 1 + 1, 0, none⟩ = some (.int .i64 lx) := cell_gr hw5 (by go_simp)
      have cw5_2_1 : w5.cell? ⟨W.heap.size + 1 + 1, 1, none⟩ = some (.int .i64 ly) := cell_gr hw5 (by go_simp)
      have cw5_2_2 : w5.cell? ⟨W.heap.size + 1 + 1, 2, none⟩ = some (.int .i64 hx) := cell_gr hw5 (by go_simp)
      have cw5_2_3 : w5.cell? ⟨W.heap.size + 1 + 1, 3, none⟩ = some (.int .i64 hy) := cell_gr hw5 (by go_simp)
      have zw5_2 : W.heap.size + 1 + 1 < w5.heap.size := World.block_lt_of_cell? _ _ cw5_2_0
      have gw5 : Gr W w5 := Gr.trans (by have gg := gwc; have gs := gg.size; go_grown) hw5
      clear hw5 gwc
      go_wp2_with fail
      go_ret
      exact ⟨rfl, gw5⟩
    · skip
      go_wp2_with fail
      go_at_call 228
      refine ((H5.out _)).mono ?_
      rintro e w5 ⟨rfl, hw5⟩
      have cw5_0_0 : w5.cell? ⟨W.heap.size, 0, none⟩ = some (.int .i64 ax) := cell_gr hw5 (by go_simp)
      have cw5_0_1 : w5.cell? ⟨W.heap.size, 1, none⟩ = some (.int .i64 ay) := cell_gr hw5 (by go_simp)
      have zw5_0 : W.heap.size < w5.heap.size := World.block_lt_of_cell? _ _ cw5_0_0
      have cw5_1_0 : w5.cell? ⟨W.heap.size + 1, 0, none⟩ = some (.int .i64 bx) := cell_gr hw5 (by go_simp)
      have cw5_1_1 : w5.cell? ⟨W.heap.size + 1, 1, none⟩ = some (.int .i64 by') := cell_gr hw5 (by go_simp)
      have zw5_1 : W.heap.size + 1 < w5.heap.size := World.block_lt_of_cell? _ _ cw5_1_0
      have cw5_2_0 : w5.cell? ⟨W.heap.size + 1 + 1, 0, none⟩ = some (.int .i64 lx) := cell_gr hw5 (by go_simp)
      have cw5_2_1 : w5.cell? ⟨W.heap.size + 1 + 1, 1, none⟩ = some (.int .i64 ly) := cell_gr hw5 (by go_simp)
      have cw5_2_2 : w5.cell? ⟨W.heap.size + 1 + 1, 2, none⟩ = some (.int .i64 hx) := cell_gr hw5 (by go_simp)
      have cw5_2_3 : w5.cell? ⟨W.heap.size + 1 + 1, 3, none⟩ = some (.int .i64 hy) := cell_gr hw5 (by go_simp)
      have zw5_2 : W.heap.size + 1 + 1 < w5.heap.size := World.block_lt_of_cell? _ _ cw5_2_0
      have gw5 : Gr W w5 := Gr.trans (by have gg := gwc; have gs := gg.size; go_grown) hw5
      clear hw5 gwc
      go_wp2_with fail
      go_at_call 228
      refine ((H6.out _)).mono ?_
      rintro e w6 ⟨rfl, hw6⟩
      have cw6_0_0 : w6.cell? ⟨W.heap.size, 0, none⟩ = some (.int .i64 ax) := cell_gr hw6 (by go_simp)
      have cw6_0_1 : w6.cell? ⟨W.heap.size, 1, none⟩ = some (.int .i64 ay) := cell_gr hw6 (by go_simp)
      have zw6_0 : W.heap.size < w6.heap.size := World.block_lt_of_cell? _ _ cw6_0_0
      have cw6_1_0 : w6.cell? ⟨W.heap.size + 1, 0, none⟩ = some (.int .i64 bx) := cell_gr hw6 (by go_simp)
      have cw6_1_1 : w6.cell? ⟨W.heap.size + 1, 1, none⟩ = some (.int .i64 by') := cell_gr hw6 (by go_simp)
      have zw6_1 : W.heap.size + 1 < w6.heap.size := World.block_lt_of_cell? _ _ cw6_1_0
      have cw6_2_0 : w6.cell? ⟨W.heap.size + 1 + 1, 0, none⟩ = some (.int .i64 lx) := cell_gr hw6 (by go_simp)
      have cw6_2_1 : w6.cell? ⟨W.heap.size + 1 + 1, 1, none⟩ = some (.int .i64 ly) := cell_gr hw6 (by go_simp)
      have cw6_2_2 : w6.cell? ⟨W.heap.size + 1 + 1, 2, none⟩ = some (.int .i64 hx) := cell_gr hw6 (by go_simp)
      have cw6_2_3 : w6.cell? ⟨W.heap.size + 1 + 1, 3, none⟩ = some (.int .i64 hy) := cell_gr hw6 (by go_simp)
      have zw6_2 : W.heap.size + 1 + 1 < w6.heap.size := World.block_lt_of_cell? _ _ cw6_2_0
      have gw6 : Gr W w6 := Gr.trans (by have gg := gw5; have gs := gg.size; go_grown) hw6
      clear hw6 gw5 zw5_0 cw5_0_0 cw5_0_1 zw5_1 cw5_1_0 cw5_1_1 zw5_2 cw5_2_0 cw5_2_1 cw5_2_2 cw5_2_3
      go_wp2_with fail
      go_ret
      exact ⟨rfl, gw6⟩
    · have HKK := Lib.hid hk
      clear hk
      go_wp2_with fail
      go_at_call 228
      refine ((H5.out _)).mono ?_
      rintro e w5 ⟨rfl, hw5⟩
      have cw5_0_0 : w5.cell? ⟨W.heap.size, 0, none⟩ = some (.int .i64 ax) := cell_gr hw5 (by go_simp)
      have cw5_0_1 : w5.cell? ⟨W.heap.size, 1, none⟩ = some (.int .i64 ay) := cell_gr hw5 (by go_simp)
      have zw5_0 : W.heap.size < w5.heap.size := World.block_lt_of_cell? _ _ cw5_0_0
      have cw5_1_0 : w5.cell? ⟨W.heap.size + 1, 0, none⟩ = some (.int .i64 bx) := cell_gr hw5 (by go_simp)
      have cw5_1_1 : w5.cell? ⟨W.heap.size + 1, 1, none⟩ = some (.int .i64 by') := cell_gr hw5 (by go_simp)
      have zw5_1 : W.heap.size + 1 < w5.heap.size := World.block_lt_of_cell? _ _ cw5_1_0
      have cw5_2_0 : w5.cell? ⟨W.heap.size + 1 + 1, 0, none⟩ = some (.int .i64 lx) := cell_gr hw5 (by go_simp)
      have cw5_2_1 : w5.cell? ⟨W.heap.size + 1 + 1, 1, none⟩ = some (.int .i64 ly) := cell_gr hw5 (by go_simp)
      have cw5_2_2 : w5.cell? ⟨W.heap.size + 1 + 1, 2, none⟩ = some (.int .i64 hx) := cell_gr hw5 (by go_simp)
      have cw5_2_3 : w5.cell? ⟨W.heap.size + 1 + 1, 3, none⟩ = some (.int .i64 hy) := cell_gr hw5 (by go_simp)
      have zw5_2 : W.heap.size + 1 + 1 < w5.heap.size := World.block_lt_of_cell? _ _ cw5_2_0
      have gw5 : Gr W w5 := Gr.trans (by have gg := gwc; have gs := gg.size; go_grown) hw5
      clear hw5 gwc
      go_wp2_with fail
      go_at_call 228
      refine ((H6.out _)).mono ?_
      rintro e w6 ⟨rfl, hw6⟩
      have cw6_0_0 : w6.cell? ⟨W.heap.size, 0, none⟩ = some (.int .i64 ax) := cell_gr hw6 (by go_simp)
      have cw6_0_1 : w6.cell? ⟨W.heap.size, 1, none⟩ = some (.int .i64 ay) := cell_gr hw6 (by go_simp)
      have zw6_0 : W.heap.size < w6.heap.size := World.block_lt_of_cell? _ _ cw6_0_0
      have cw6_1_0 : w6.cell? ⟨W.heap.size + 1, 0, none⟩ = some (.int .i64 bx) := cell_gr hw6 (by go_simp)
      have cw6_1_1 : w6.cell? ⟨W.heap.size + 1, 1, none⟩ = some (.int .i64 by') := cell_gr hw6 (by go_simp)
      have zw6_1 : W.heap.size + 1 < w6.heap.size := World.block_lt_of_cell? _ _ cw6_1_0
      have cw6_2_0 : w6.cell? ⟨W.heap.size + 1 + 1, 0, none⟩ = some (.int .i64 lx) := cell_gr hw6 (by go_simp)
      have cw6_2_1 : w6.cell? ⟨W.heap.size + 1 + 1, 1, none⟩ = some (.int .i64 ly) := cell_gr hw6 (by go_simp)
      have cw6_2_2 : w6.cell? ⟨W.heap.size + 1 + 1, 2, none⟩ = some (.int .i64 hx) := cell_gr hw6 (by go_simp)
      have cw6_2_3 : w6.cell? ⟨W.heap.size + 1 + 1, 3, none⟩ = some (.int .i64 hy) := cell_gr hw6 (by go_simp)
      have zw6_2 : W.heap.size + 1 + 1 < w6.heap.size := World.block_lt_of_cell? _ _ cw6_2_0
      have gw6 : Gr W w6 := Gr.trans (by have gg := gw5; have gs := gg.size; go_grown) hw6
      clear hw6 gw5 zw5_0 cw5_0_0 cw5_0_1 zw5_1 cw5_1_0 cw5_1_1 zw5_2 cw5_2_0 cw5_2_1 cw5_2_2 cw5_2_3
      go_upto_region 7 with fail
      go_cut [7, 8] from 34 to 47 (fun p q wx => MbTwo W ax ay bx by' lx ly hx hy p q wx)
      case first =>
        go_region
        all_goals (go_wp2_with fail; go_meet; exact ⟨_, _, rfl, rfl, by go_simp, by go_simp, by go_simp, by go_simp, by go_simp, by go_simp, by go_simp, by go_simp, by go_simp, by go_simp, by go_simp, by go_simp, by have gg := gw6; have gs := gg.size; go_grown⟩)
      case rest =>
        obtain ⟨b7, b8, rfl, rfl, e0, e1, e2, e3, dd0, dd1, dd2, dd3, dd4, dd5, dd6, dd7, gwc2⟩ := hcut
        rcases HKK.out with ⟨rfl, rfl⟩ | ⟨rfl, rfl⟩
        · have wd := True.intro
          go_wp2_with fail
          go_at_call 227
          refine (H7.out _).mono ?_
          rintro e w7 ⟨rfl, h7⟩
          go_wp2_with fail
          go_ret
          exact ⟨rfl, Gr.trans (by have gg := gwc2; have gs := gg.size; go_grown) h7⟩
        · go_wp2_with fail
          go_at_call 227
          refine (H7.out _).mono ?_
          rintro e w7 ⟨rfl, h7⟩
          have g7 : Gr W w7 := Gr.trans (by have gg := gwc2; have gs := gg.size; go_grown) h7
          replace e0 := cell_gr h7 e0
          replace e1 := cell_gr h7 e1
          replace e2 := cell_gr h7 e2
          replace e3 := cell_gr h7 e3
          replace dd0 := cell_gr h7 dd0
          replace dd1 := cell_gr h7 dd1
          replace dd2 := cell_gr h7 dd2
          replace dd3 := cell_gr h7 dd3
          clear h7
          go_wp2_with fail
          go_at_call 227
          refine (H8.out _).mono ?_
          rintro e w8 ⟨rfl, h8⟩
          go_wp2_with fail
          go_ret
          exact ⟨rfl, Gr.trans g7 h8⟩
end Go.Proofs.YtpomllpplpalkaaGreatDoor
/- plane: Grow; PlaneGrows -/
namespace Go.Proofs.YtpomllpplpalkaaGreatDoor
set_option linter.unusedVariables false
open Go.ChangeShapes Go.WideShapes Go.ChangeAt Go.RowKit

theorem min_le (a b : Int) : minZ a b ≤ a ∧ minZ a b ≤ b ∧ (minZ a b = a ∨ minZ a b = b) := by unfold minZ; split <;> omega
theorem max_ge (a b : Int) : a ≤ maxZ a b ∧ b ≤ maxZ a b ∧ (maxZ a b = a ∨ maxZ a b = b) := by unfold maxZ; split <;> omega
theorem box_join {l1 l2 l3 l4 m1 m2 m3 m4 : Int} (h1 : boxB l1 l2 l3 l4 = true) (h2 : boxB m1 m2 m3 m4 = true) : boxB (minZ l1 m1) (minZ l2 m2) (maxZ l3 m3) (maxZ l4 m4) = true := by
  rw [boxB_iff, nearB_iff, nearB_iff] at *
  have a1 := min_le l1 m1
  have a2 := min_le l2 m2
  have a3 := max_ge l3 m3
  have a4 := max_ge l4 m4
  omega
end Go.Proofs.YtpomllpplpalkaaGreatDoor
/- the document's own MeetsBox and SegDist; SegmAsks -/
namespace Go.Proofs.YtpomllpplpalkaaGreatDoor
set_option linter.unusedVariables false
open Go.ChangeShapes Go.WideShapes Go.ChangeAt Go.RowKit

theorem c_dot (ax ay bx by' px py : Int) (h1 : nearB ax ay = true) (h2 : nearB bx by' = true) (h3 : nearB px py = true) (W : World) :
    Calls Tryz.prog 135 #[.agg #[.int .i64 ax, .int .i64 ay], .agg #[.int .i64 bx, .int .i64 by'], .agg #[.int .i64 px, .int .i64 py]] W fun e w' => e = .returned (.int .i64 (alZ ax ay bx by' px py)) ∧ Gr W w' := by
  have n1 := nearB_iff.1 h1
  have n2 := nearB_iff.1 h2
  have n3 := nearB_iff.1 h3
  have m1 := mul_near (x := bx - ax) (y := px - ax) (by omega) (by omega)
  have m2 := mul_near (x := by' - ay) (y := py - ay) (by omega) (by omega)
  unfold alZ
  obtain ⟨p1, hp1⟩ : ∃ p, p = (bx - ax) * (px - ax) := ⟨_, rfl⟩
  obtain ⟨p2, hp2⟩ : ∃ p, p = (by' - ay) * (py - ay) := ⟨_, rfl⟩
  rw [← hp1] at m1
  rw [← hp2] at m2
  have e1 : wrap64 (bx - ax) = bx - ax := IntWalk.wrap64_in _ (by omega)
  have e2 : wrap64 (px - ax) = px - ax := IntWalk.wrap64_in _ (by omega)
  have e3 : wrap64 (by' - ay) = by' - ay := IntWalk.wrap64_in _ (by omega)
  have e4 : wrap64 (py - ay) = py - ay := IntWalk.wrap64_in _ (by omega)
  have e5 : wrap64 ((bx - ax) * (px - ax)) = p1 := by rw [← hp1]; exact IntWalk.wrap64_in _ (by omega)
  have e6 : wrap64 ((by' - ay) * (py - ay)) = p2 := by rw [← hp2]; exact IntWalk.wrap64_in _ (by omega)
  have e7 : wrap64 (p1 + p2) = p1 + p2 := IntWalk.wrap64_in _ (by omega)
  have f1 : IntKind.i64.wrap (bx - ax) = bx - ax := IntWalk.i64_in _ (by omega)
  have f2 : IntKind.i64.wrap (px - ax) = px - ax := IntWalk.i64_in _ (by omega)
  have f3 : IntKind.i64.wrap (by' - ay) = by' - ay := IntWalk.i64_in _ (by omega)
  have f4 : IntKind.i64.wrap (py - ay) = py - ay := IntWalk.i64_in _ (by omega)
  have f5 : IntKind.i64.wrap ((bx - ax) * (px - ax)) = p1 := by rw [← hp1]; exact IntWalk.i64_in _ (by omega)
  have f6 : IntKind.i64.wrap ((by' - ay) * (py - ay)) = p2 := by rw [← hp2]; exact IntWalk.i64_in _ (by omega)
  have f7 : IntKind.i64.wrap (p1 + p2) = p1 + p2 := IntWalk.i64_in _ (by omega)
  rw [← hp1, ← hp2]
  clear n1 n2 n3 h1 h2 h3 m1 m2 hp1 hp2
  go_enter Tryz.func135, Tryz.ntmps135
  go_wp2_with fail
  go_ret
  exact ⟨rfl, by go_grown⟩

end Go.Proofs.YtpomllpplpalkaaGreatDoor
