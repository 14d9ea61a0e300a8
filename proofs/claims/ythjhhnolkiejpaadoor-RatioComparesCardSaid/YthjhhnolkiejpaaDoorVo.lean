/- the document's own text of a distance: its drawn region -/
import Derived.Test.YthjhhnolkiejpaaDoorVn
import Derived.Test.YthjhhnolkiejpaaDoorVe
import Derived.Deep.RegionWith
import Derived.BigRegion
namespace Go.Proofs.YthjhhnolkiejpaaDoor
set_option linter.unusedVariables false
open Go.ChangeShapes Go.WideShapes Go.ChangeAt Go.RowKit

def TdCut (W : World) (a b c : Nat) (v : Value) (wx : World) : Prop := ∃ B, v = .pointer (some ⟨B, 0, none⟩) ∧ wx.cell? ⟨B, 0, none⟩ = some (.int .u64 a) ∧ wx.cell? ⟨B, 1, none⟩ = some (.int .u64 b) ∧ wx.cell? ⟨B, 2, none⟩ = some (.int .u64 c) ∧ Gr W wx
set_option maxHeartbeats 8000000 in
set_option maxRecDepth 100000 in
theorem td_core (h l d qa qb qc : Nat) (s t : ByteArray) (W : World) (hd : d ≠ 0) (hs : s.size ≤ 100) (ht : t.size ≤ 100)
    (A1 : ∀ w, Calls Tryd.prog 59 #[.agg #[.int .u64 h, .int .u64 l], .int .u64 d] w fun e w' => e = .returned (.agg #[.int .u64 qa, .int .u64 qb, .int .u64 qc]) ∧ Gr w w')
    (A2 : ∀ w, Gr W w → Calls Tryd.prog 24 #[.agg #[.int .u64 qa, .int .u64 qb]] w fun e w' => e = .returned (.string s) ∧ Gr w w')
    (A3 : ∀ w, Gr W w → Calls Tryd.prog 24 #[.agg #[.int .u64 0, .int .u64 qc]] w fun e w' => e = .returned (.string t) ∧ Gr w w') :
    Calls Tryd.prog 29 #[.agg #[.int .u64 h, .int .u64 l, .int .u64 d]] W fun e w' => e = .returned (.string (if qc = 1 then s else (s ++ (⟨#[47]⟩ : ByteArray)) ++ t)) ∧ Gr W w' := by
  have H0 := Lib.hid (fun w => c_rNum h l d w)
  have H00 := Lib.hid (fun w => c_rNum qa qb qc w)
  have H1 := Lib.hid A1
  have H2 := Lib.hid A2
  have H3 := Lib.hid A3
  have z1 : ((d : Int) == 0) = false := by simp; omega
  have z2 : (d == 0) = false := by simp; omega
  clear A1 A2 A3 hd
  go_enter Tryd.func29, Tryd.ntmps29
  go_wp2_with fail
  generalize hhw0 : (W.alloc (.cells #[.int .u64 h, .int .u64 l, .int .u64 d] 47)) = w0
  have cw0_0_0 : w0.cell? ⟨W.heap.size, 0, none⟩ = some (.int .u64 h) := by subst hhw0; go_simp
  have cw0_0_1 : w0.cell? ⟨W.heap.size, 1, none⟩ = some (.int .u64 l) := by subst hhw0; go_simp
  have cw0_0_2 : w0.cell? ⟨W.heap.size, 2, none⟩ = some (.int .u64 d) := by subst hhw0; go_simp
  have zw0_0 : W.heap.size < w0.heap.size := World.block_lt_of_cell? _ _ cw0_0_0
  have gw0 : Gr W w0 := by subst hhw0; go_grown
  clear hhw0
  go_upto_region 3 with fail
  go_cut [3] from 8 to 13 (fun v wx => TdCut W qa qb qc v wx)
  case first =>
    go_region_with (first | (go_at_call 56; refine (H0.out _).mono ?_; rintro e w1 ⟨rfl, h1⟩; have d0 : w1.cell? ⟨W.heap.size, 0, none⟩ = some (.int .u64 h) := cell_gr h1 (by go_simp); have d1 : w1.cell? ⟨W.heap.size, 1, none⟩ = some (.int .u64 l) := cell_gr h1 (by go_simp); have d2 : w1.cell? ⟨W.heap.size, 2, none⟩ = some (.int .u64 d) := cell_gr h1 (by go_simp); have dz := World.block_lt_of_cell? _ _ d0; have g1 : Gr W w1 := Gr.trans (by have gg := gw0; have gs := gg.size; go_grown) h1; (try (refine pair_in (T := w1.cell? ⟨w0.heap.size, 0, none⟩ = some (.int .u64 0)) ?_ (fun p0c0 => ?_); (· (refine cell_gr h1 ?_; go_simp; done)); refine pair_in (T := w1.frozen? ⟨w0.heap.size, 0, none⟩ = false) ?_ (fun p0f0 => ?_); (· (refine frozen_gr (v := .int .u64 0) h1 ?_ ?_; (· (go_simp; done)); (· (go_simp; done)))); refine pair_in (T := w1.cell? ⟨w0.heap.size, 1, none⟩ = some (.int .u64 0)) ?_ (fun p0c1 => ?_); (· (refine cell_gr h1 ?_; go_simp; done)); refine pair_in (T := w1.frozen? ⟨w0.heap.size, 1, none⟩ = false) ?_ (fun p0f1 => ?_); (· (refine frozen_gr (v := .int .u64 0) h1 ?_ ?_; (· (go_simp; done)); (· (go_simp; done)))); refine pair_in (T := w1.cell? ⟨w0.heap.size, 2, none⟩ = some (.int .u64 0)) ?_ (fun p0c2 => ?_); (· (refine cell_gr h1 ?_; go_simp; done)); refine pair_in (T := w1.frozen? ⟨w0.heap.size, 2, none⟩ = false) ?_ (fun p0f2 => ?_); (· (refine frozen_gr (v := .int .u64 0) h1 ?_ ?_; (· (go_simp; done)); (· (go_simp; done)))); have p0z := World.block_lt_of_cell? _ _ p0c0))) | (go_at_call 59; refine (H1.out _).mono ?_; rintro e w2 ⟨rfl, h2⟩; have e0 : w2.cell? ⟨W.heap.size, 0, none⟩ = some (.int .u64 h) := cell_gr h2 (by go_simp); have e1 : w2.cell? ⟨W.heap.size, 1, none⟩ = some (.int .u64 l) := cell_gr h2 (by go_simp); have e2 : w2.cell? ⟨W.heap.size, 2, none⟩ = some (.int .u64 d) := cell_gr h2 (by go_simp); have ez := World.block_lt_of_cell? _ _ e0; have g2 : Gr W w2 := Gr.trans (by have gg := g1; have gs := gg.size; go_grown) h2; (try (refine pair_in (T := w2.cell? ⟨w0.heap.size, 0, none⟩ = some (.int .u64 0)) ?_ (fun q0c0 => ?_); (· (refine cell_gr h2 ?_; go_simp; done)); refine pair_in (T := w2.frozen? ⟨w0.heap.size, 0, none⟩ = false) ?_ (fun q0f0 => ?_); (· (refine frozen_gr (v := .int .u64 0) h2 ?_ ?_; (· (go_simp; done)); (· (go_simp; done)))); refine pair_in (T := w2.cell? ⟨w0.heap.size, 1, none⟩ = some (.int .u64 0)) ?_ (fun q0c1 => ?_); (· (refine cell_gr h2 ?_; go_simp; done)); refine pair_in (T := w2.frozen? ⟨w0.heap.size, 1, none⟩ = false) ?_ (fun q0f1 => ?_); (· (refine frozen_gr (v := .int .u64 0) h2 ?_ ?_; (· (go_simp; done)); (· (go_simp; done)))); refine pair_in (T := w2.cell? ⟨w0.heap.size, 2, none⟩ = some (.int .u64 0)) ?_ (fun q0c2 => ?_); (· (refine cell_gr h2 ?_; go_simp; done)); refine pair_in (T := w2.frozen? ⟨w0.heap.size, 2, none⟩ = false) ?_ (fun q0f2 => ?_); (· (refine frozen_gr (v := .int .u64 0) h2 ?_ ?_; (· (go_simp; done)); (· (go_simp; done)))); have q0z := World.block_lt_of_cell? _ _ q0c0)); (try (refine pair_in (T := w2.cell? ⟨w1.heap.size, 0, none⟩ = some (.int .u64 0)) ?_ (fun q1c0 => ?_); (· (refine cell_gr h2 ?_; go_simp; done)); refine pair_in (T := w2.frozen? ⟨w1.heap.size, 0, none⟩ = false) ?_ (fun q1f0 => ?_); (· (refine frozen_gr (v := .int .u64 0) h2 ?_ ?_; (· (go_simp; done)); (· (go_simp; done)))); refine pair_in (T := w2.cell? ⟨w1.heap.size, 1, none⟩ = some (.int .u64 0)) ?_ (fun q1c1 => ?_); (· (refine cell_gr h2 ?_; go_simp; done)); refine pair_in (T := w2.frozen? ⟨w1.heap.size, 1, none⟩ = false) ?_ (fun q1f1 => ?_); (· (refine frozen_gr (v := .int .u64 0) h2 ?_ ?_; (· (go_simp; done)); (· (go_simp; done)))); refine pair_in (T := w2.cell? ⟨w1.heap.size, 2, none⟩ = some (.int .u64 0)) ?_ (fun q1c2 => ?_); (· (refine cell_gr h2 ?_; go_simp; done)); refine pair_in (T := w2.frozen? ⟨w1.heap.size, 2, none⟩ = false) ?_ (fun q1f2 => ?_); (· (refine frozen_gr (v := .int .u64 0) h2 ?_ ?_; (· (go_simp; done)); (· (go_simp; done)))); have q1z := World.block_lt_of_cell? _ _ q1c0))))
    all_goals (go_wp2_with fail; go_meet; exact ⟨_, rfl, by go_simp, by go_simp, by go_simp, by have gg := g2; have gs := gg.size; go_grown⟩)
  case rest =>
    obtain ⟨B, rfl, x0, x1, x2, gwc⟩ := hcut
    have zx := World.block_lt_of_cell? _ _ x0
    have u1 : ¬ 9223372036854775807 < s.size + 1 := by omega
    have u2 : ¬ 9223372036854775807 < s.size + 1 + t.size := by omega
    by_cases hq : qc = 1
    · have e1 : ((qc : Int) == 1) = true := by simp; omega
      have e2 : ((qc : Int) != 1) = false := by simp; omega
      have e3 : (qc == 1) = true := by simp; omega
      have HQ := Lib.hid hq
      clear hq
      go_wp2_with fail
      go_at_call 56
      refine ((H00.out _)).mono ?_
      rintro e w3 ⟨rfl, hw3⟩
      have cw3_0_0 : w3.cell? ⟨B, 0, none⟩ = some (.int .u64 qa) := cell_gr hw3 (by go_simp)
      have cw3_0_1 : w3.cell? ⟨B, 1, none⟩ = some (.int .u64 qb) := cell_gr hw3 (by go_simp)
      have cw3_0_2 : w3.cell? ⟨B, 2, none⟩ = some (.int .u64 qc) := cell_gr hw3 (by go_simp)
      have zw3_0 : B < w3.heap.size := World.block_lt_of_cell? _ _ cw3_0_0
      have gw3 : Gr W w3 := Gr.trans (by have gg := gwc; have gs := gg.size; go_grown) hw3
      clear hw3 gwc
      go_wp2_with fail
      go_at_call 24
      refine ((H2.out _ (by have gg := gw3; have gs := gg.size; go_grown))).mono ?_
      rintro e w4 ⟨rfl, hw4⟩
      have cw4_0_0 : w4.cell? ⟨B, 0, none⟩ = some (.int .u64 qa) := cell_gr hw4 (by go_simp)
      have cw4_0_1 : w4.cell? ⟨B, 1, none⟩ = some (.int .u64 qb) := cell_gr hw4 (by go_simp)
      have cw4_0_2 : w4.cell? ⟨B, 2, none⟩ = some (.int .u64 qc) := cell_gr hw4 (by go_simp)
      have zw4_0 : B < w4.heap.size := World.block_lt_of_cell? _ _ cw4_0_0
      have gw4 : Gr W w4 := Gr.trans (by have gg := gw3; have gs := gg.size; go_grown) hw4
      clear hw4 gw3 zw3_0 cw3_0_0 cw3_0_1 cw3_0_2
      go_wp2_with fail
      go_ret
      exact ⟨(by first | rfl | (rw [if_pos HQ.out]; rfl) | (simp [HQ.out]; done)), by have gg := gw4; have gs := gg.size; go_grown⟩
    · have e1 : ((qc : Int) == 1) = false := by simp; omega
      have e2 : ((qc : Int) != 1) = true := by simp; omega
      have e3 : (qc == 1) = false := by simp; omega
      have HQ := Lib.hid hq
      clear hq
      go_wp2_with fail
      go_at_call 56
      refine ((H00.out _)).mono ?_
      rintro e w3 ⟨rfl, hw3⟩
      have cw3_0_0 : w3.cell? ⟨B, 0, none⟩ = some (.int .u64 qa) := cell_gr hw3 (by go_simp)
      have cw3_0_1 : w3.cell? ⟨B, 1, none⟩ = some (.int .u64 qb) := cell_gr hw3 (by go_simp)
      have cw3_0_2 : w3.cell? ⟨B, 2, none⟩ = some (.int .u64 qc) := cell_gr hw3 (by go_simp)
      have zw3_0 : B < w3.heap.size := World.block_lt_of_cell? _ _ cw3_0_0
      have gw3 : Gr W w3 := Gr.trans (by have gg := gwc; have gs := gg.size; go_grown) hw3
      clear hw3 gwc
      go_wp2_with fail
      go_at_call 24
      refine ((H2.out _ (by have gg := gw3; have gs := gg.size; go_grown))).mono ?_
      rintro e w4 ⟨rfl, hw4⟩
      have cw4_0_0 : w4.cell? ⟨B, 0, none⟩ = some (.int .u64 qa) := cell_gr hw4 (by go_simp)
      have cw4_0_1 : w4.cell? ⟨B, 1, none⟩ = some (.int .u64 qb) := cell_gr hw4 (by go_simp)
      have cw4_0_2 : w4.cell? ⟨B, 2, none⟩ = some (.int .u64 qc) := cell_gr hw4 (by go_simp)
      have zw4_0 : B < w4.heap.size := World.block_lt_of_cell? _ _ cw4_0_0
      have gw4 : Gr W w4 := Gr.trans (by have gg := gw3; have gs := gg.size; go_grown) hw4
      clear hw4 gw3 zw3_0 cw3_0_0 cw3_0_1 cw3_0_2
      go_wp2_with fail
      go_at_call 24
      refine ((H3.out _ (by have gg := gw4; have gs := gg.size; go_grown))).mono ?_
      rintro e w5 ⟨rfl, hw5⟩
      have cw5_0_0 : w5.cell? ⟨B, 0, none⟩ = some (.int .u64 qa) := cell_gr hw5 (by go_simp)
      have cw5_0_1 : w5.cell? ⟨B, 1, none⟩ = some (.int .u64 qb) := cell_gr hw5 (by go_simp)
      have cw5_0_2 : w5.cell? ⟨B, 2, none⟩ = some (.int .u64 qc) := cell_gr hw5 (by go_simp)
      have zw5_0 : B < w5.heap.size := World.block_lt_of_cell? _ _ cw5_0_0
      have gw5 : Gr W w5 := Gr.trans (by have gg := gw4; have gs := gg.size; go_grown) hw5
      clear hw5 gw4 zw4_0 cw4_0_0 cw4_0_1 cw4_0_2
      go_wp2_with fail
      go_ret
      exact ⟨(by first | rfl | (rw [if_neg HQ.out]; rfl) | (simp [HQ.out]; done)), by have gg := gw5; have gs := gg.size; go_grown⟩
end Go.Proofs.YthjhhnolkiejpaaDoor
