/- enc.Object of a point; what the document fixes of enc -/
import Derived.Test.YtbjckoelgpbaaaaGreatDoorEa
import Derived.Test.YtbjckoelgpbaaaaGreatDoorPa
import Derived.Test.YtbjckoelgpbaaaaGreatDoorH
namespace Go.Proofs.YtbjckoelgpbaaaaGreatDoor
set_option linter.unusedVariables false
open Go.ChangeShapes Go.WideShapes Go.ChangeAt Go.RowKit

set_option maxHeartbeats 2000000 in
set_option maxRecDepth 100000 in
theorem c_frame_pt (x y : Int) (B off cap : Nat) (W : World) (p0 : W.cell? ⟨B, off, none⟩ = some (.int .i64 x)) (p1 : W.cell? ⟨B, off + 1, none⟩ = some (.int .i64 y)) (hB : B < W.heap.size) :
    Calls Tryz.prog 136 #[.agg #[.int .i64 1, .slice (some ⟨B, off, none⟩) 1 cap]] W fun e w' => e = .returned (.agg #[.int .i64 x, .int .i64 y, .int .i64 x, .int .i64 y]) ∧ Gr W w' := by
  go_enter Tryz.func136, Tryz.ntmps136
  go_wp2_with fail
  generalize hhw0 : (W.alloc (.cells #[.int .i64 1, .slice (some ⟨B, off, none⟩) 1 cap] 46)).alloc (.cells #[.int .i64 0, .int .i64 0, .int .i64 0, .int .i64 0] 221) = w0
  have cw0_0_0 : w0.cell? ⟨W.heap.size, 0, none⟩ = some (.int .i64 1) := by subst hhw0; go_simp
  have cw0_0_1 : w0.cell? ⟨W.heap.size, 1, none⟩ = some (.slice (some ⟨B, off, none⟩) 1 cap) := by subst hhw0; go_simp
  have zw0_0 : W.heap.size < w0.heap.size := World.block_lt_of_cell? _ _ cw0_0_0
  have cw0_1_0 : w0.cell? ⟨W.heap.size + 1, 0, none⟩ = some (.int .i64 0) := by subst hhw0; go_simp
  have fw0_1_0 : w0.frozen? ⟨W.heap.size + 1, 0, none⟩ = false := by subst hhw0; go_simp
  have cw0_1_1 : w0.cell? ⟨W.heap.size + 1, 1, none⟩ = some (.int .i64 0) := by subst hhw0; go_simp
  have fw0_1_1 : w0.frozen? ⟨W.heap.size + 1, 1, none⟩ = false := by subst hhw0; go_simp
  have cw0_1_2 : w0.cell? ⟨W.heap.size + 1, 2, none⟩ = some (.int .i64 0) := by subst hhw0; go_simp
  have fw0_1_2 : w0.frozen? ⟨W.heap.size + 1, 2, none⟩ = false := by subst hhw0; go_simp
  have cw0_1_3 : w0.cell? ⟨W.heap.size + 1, 3, none⟩ = some (.int .i64 0) := by subst hhw0; go_simp
  have fw0_1_3 : w0.frozen? ⟨W.heap.size + 1, 3, none⟩ = false := by subst hhw0; go_simp
  have zw0_1 : W.heap.size + 1 < w0.heap.size := World.block_lt_of_cell? _ _ cw0_1_0
  have gw0 : Gr W w0 := by subst hhw0; go_grown
  clear hhw0
  have q0 := cell_gr gw0 p0
  have q1 := cell_gr gw0 p1
  clear p0 p1
  go_wp2_with fail
  refine Hd.wp_region_tail 9 (by kernel_rfl) (by kernel_rfl) ?_
  intro KQ hKQ
  repeat (first | (refine Hd.wpG_skip (by decide) rfl ?_; simp only [Act.put, List.setIfInBounds_toArray, List.set_cons_zero, List.set_cons_succ]) | (refine Hd.wpG_want (by decide) rfl ?_; apply Exists.intro; refine ⟨?_, ?_⟩; (· intro wx gx; (obtain ⟨mx, rfl⟩ := gx); all_goals (apply Hd.gAt_of_quiet; intro K hK; go_big_quiet_op; first | exact hK _ rfl | (apply Exists.intro; refine ⟨fun _ => ?_, ?_⟩; (· fail); exact hK _ rfl))); try simp only [Act.put, List.setIfInBounds_toArray, List.set_cons_zero, List.set_cons_succ]))
  refine Hd.wpG_nil (hKQ _ ?_)
  clear hKQ KQ
  intro w1 hhw1
  have hw1 := Hd.gr_of_spread hhw1
  have cw1_0_0 : w1.cell? ⟨W.heap.size + 1, 0, none⟩ = some (.int .i64 0) := cell_gr hw1 (by go_simp)
  have fw1_0_0 : w1.frozen? ⟨W.heap.size + 1, 0, none⟩ = false := frozen_gr (v := .int .i64 0) hw1 (by go_simp) (by go_simp)
  have cw1_0_1 : w1.cell? ⟨W.heap.size + 1, 1, none⟩ = some (.int .i64 0) := cell_gr hw1 (by go_simp)
  have fw1_0_1 : w1.frozen? ⟨W.heap.size + 1, 1, none⟩ = false := frozen_gr (v := .int .i64 0) hw1 (by go_simp) (by go_simp)
  have cw1_0_2 : w1.cell? ⟨W.heap.size + 1, 2, none⟩ = some (.int .i64 0) := cell_gr hw1 (by go_simp)
  have fw1_0_2 : w1.frozen? ⟨W.heap.size + 1, 2, none⟩ = false := frozen_gr (v := .int .i64 0) hw1 (by go_simp) (by go_simp)
  have cw1_0_3 : w1.cell? ⟨W.heap.size + 1, 3, none⟩ = some (.int .i64 0) := cell_gr hw1 (by go_simp)
  have fw1_0_3 : w1.frozen? ⟨W.heap.size + 1, 3, none⟩ = false := frozen_gr (v := .int .i64 0) hw1 (by go_simp) (by go_simp)
  have zw1_0 : W.heap.size + 1 < w1.heap.size := World.block_lt_of_cell? _ _ cw1_0_0
  have gw1 : Gr W w1 := Gr.trans (by have gg := gw0; have gs := gg.size; go_grown) hw1
  clear hw1 hhw1 gw0 zw0_0 cw0_0_0 cw0_0_1 zw0_1 cw0_1_0 fw0_1_0 cw0_1_1 fw0_1_1 cw0_1_2 fw0_1_2 cw0_1_3 fw0_1_3
  go_wp2_with fail
  refine bodyPost_ret (v := .agg #[.int .i64 x, .int .i64 y, .int .i64 x, .int .i64 y]) (by simp [results, Tryz.results136, go_sem, *]) rfl ⟨rfl, by go_grown⟩
set_option maxHeartbeats 2000000 in
set_option maxRecDepth 100000 in
theorem c_refusal_pt (x y : Int) (B off cap : Nat) (h : nearB x y = true) (W : World) (p0 : W.cell? ⟨B, off, none⟩ = some (.int .i64 x)) (p1 : W.cell? ⟨B, off + 1, none⟩ = some (.int .i64 y)) (hB : B < W.heap.size) :
    Calls Tryz.prog 131 #[.agg #[.int .i64 1, .slice (some ⟨B, off, none⟩) 1 cap]] W fun e w' => e = .returned (.nilIface) ∧ Gr W w' := by
  have e : boxErr x y x y = .nilIface := by unfold boxErr; simp [h]
  have A1 := fun w => c_CheckBox x y x y w
  rw [e] at A1
  clear e
  have A2 := fun w (g : Gr W w) => c_frame_pt x y B off cap w (cell_gr g p0) (cell_gr g p1) (Nat.lt_of_lt_of_le hB g.size)
  have H1 := Lib.hid A1
  have H2 := Lib.hid A2
  clear A1 A2
  go_enter Tryz.func131, Tryz.ntmps131
  go_wp2_with fail
  go_at_call 136
  refine ((H2.out _ (by go_grown))).mono ?_
  rintro e w1 ⟨rfl, hw1⟩
  have gw1 : Gr W w1 := Gr.trans (by go_grown) hw1
  clear hw1
  go_wp2_with fail
  go_at_call 135
  refine ((H1.out _)).mono ?_
  rintro e w2 ⟨rfl, hw2⟩
  have gw2 : Gr W w2 := Gr.trans (by have gg := gw1; have gs := gg.size; go_grown) hw2
  clear hw2 gw1
  go_wp2_with fail
  go_ret
  exact ⟨rfl, gw2⟩
set_option maxHeartbeats 2000000 in
set_option maxRecDepth 100000 in
theorem c_Check_pt (x y : Int) (B off cap : Nat) (h : nearB x y = true) (W : World) (p0 : W.cell? ⟨B, off, none⟩ = some (.int .i64 x)) (p1 : W.cell? ⟨B, off + 1, none⟩ = some (.int .i64 y)) (hB : B < W.heap.size) :
    Calls Tryz.prog 121 #[.agg #[.int .i64 1, .slice (some ⟨B, off, none⟩) 1 cap]] W fun e w' => e = .returned (.nilIface) ∧ Gr W w' := by
  have A1 : ∀ w, Calls Tryz.prog 130 #[.string ⟨#[111, 98, 106, 101, 99, 116]⟩, .int .i64 1, .nilIface] w fun e w' => e = .returned .nilIface ∧ Gr w w' := by
    intro w
    go_enter Tryz.func130, Tryz.ntmps130
    go_wp2_with fail
    go_ret
    exact ⟨rfl, by go_grown⟩
  have A2 := fun w (g : Gr W w) => c_refusal_pt x y B off cap h w (cell_gr g p0) (cell_gr g p1) (Nat.lt_of_lt_of_le hB g.size)
  have H1 := Lib.hid A1
  have H2 := Lib.hid A2
  clear A1 A2
  go_enter Tryz.func121, Tryz.ntmps121
  go_wp2_with fail
  refine wp_region_spread (by kernel_rfl) (by kernel_rfl) ?_
  try simp only [List.append]
  repeat (first | go_big_quiet_skip | (go_big_quiet_want; go_big_quiet_op; (first | go_big_quiet_on | (apply Exists.intro; refine ⟨fun _ => ?_, ?_⟩; (· (first | (go_at_call 131; first | ((with_reducible refine ((H2.out _ (Gr.trans (by go_grown) (gr_spread _ _)))).mono ?_); rintro e w' ⟨rfl, hg⟩; exact ⟨rfl, spread_gr hg⟩)) | (go_at_call 130; first | ((with_reducible refine ((H1.out _)).mono ?_); rintro e w' ⟨rfl, hg⟩; exact ⟨rfl, spread_gr hg⟩)))); go_big_quiet_on))))
  refine wpQuiet_nil ?_
  intro wr hr
  obtain ⟨mr, rfl⟩ := hr
  go_wp2_with fail
  go_ret
  exact ⟨rfl, Gr.trans (by go_grown) (gr_spread _ _)⟩
theorem own_row2 {w : World} {base : Nat} {v : Value} {L : List UInt8} (h : Own w base v L) (k : Nat) (hk : v.ownBlock = some k) : base ≤ k := own_row h k hk
theorem vr_bytes : Ec.vr 1 ++ Ec.vr 1 ++ (Ec.vr (zz 1) ++ Ec.vr (zz (-1))) = [1, 1, 2, 1] := by
  rw [show zz 1 = 2 from rfl, show zz (-1) = 1 from rfl, Ec.vr_small (by omega), Ec.vr_small (by omega)]
  rfl
theorem vr_m1 : Ec.vr (zz (-1)) = [1] := by
  rw [show zz (-1) = 1 from rfl, Ec.vr_small (by omega)]
  rfl
end Go.Proofs.YtbjckoelgpbaaaaGreatDoor
