/- ratio.Text of none -/
import Derived.Test.YthjhhnolkiejpaaDoorRr
import Derived.Deep.RegionWith
namespace Go.Proofs.YthjhhnolkiejpaaDoor
set_option linter.unusedVariables false
open Go.ChangeShapes Go.WideShapes Go.ChangeAt Go.RowKit

theorem pair_in {T G : Prop} (t : T) (g : T → G) : G := g t
theorem c_num0 (h l d : Int) (w : World) : Calls Tryd.prog 57 #[.agg #[.int .u64 h, .int .u64 l, .int .u64 d]] w fun e w' => e = .returned (.agg #[.int .u64 h, .int .u64 l]) ∧ Gr w w' := by
  go_enter Tryd.func57, Tryd.ntmps57
  go_wp2
  go_returns
  exact ⟨rfl, by go_grown⟩
set_option maxRecDepth 100000 in
theorem c_Make0n (h l : Nat) (W : World) :
    Calls Tryd.prog 55 #[.agg #[.int .u64 h, .int .u64 l], .int .u64 0] W fun e w' => ∃ B, e = .returned (.tuple #[.agg #[.int .u64 0, .int .u64 0, .int .u64 0], .iface 124 (.pointer (some ⟨B, 0, none⟩))]) ∧ W.heap.size ≤ B ∧ w'.cell? ⟨B, 2, none⟩ = some (.iface 101 (.int .i64 1)) ∧ Gr W w' := by
  go_enter Tryd.func55, Tryd.ntmps55
  go_wp2_with fail
  refine bodyPost_ret (v := .tuple #[.agg #[.int .u64 0, .int .u64 0, .int .u64 0], .iface 124 (.pointer (some ⟨W.heap.size + 1 + 1, 0, none⟩))]) (by simp [results, Tryd.results55, go_sem, *]) rfl ⟨_, rfl, by omega, by go_simp, by go_grown⟩
set_option maxHeartbeats 4000000 in
set_option maxRecDepth 100000 in
theorem c_rtText0 (h l : Nat) (W : World) : Calls Tryd.prog 28 #[.agg #[.int .u64 h, .int .u64 l, .int .u64 0]] W fun e w' => e = .returned (.string ⟨#[110, 111, 110, 101]⟩) ∧ Gr W w' := by
  have H1 := Lib.hid (fun w => c_num0 h l 0 w)
  have H2 := Lib.hid (fun w => c_Make0n h l w)
  have H3 := Lib.hid (fun b w hc => c_Is_fault b 1 1 w hc)
  go_enter Tryd.func28, Tryd.ntmps28
  go_wp2_with fail
  generalize hhw0 : (W.alloc (.cells #[.int .u64 h, .int .u64 l, .int .u64 0] 47)) = w0
  have cw0_0_0 : w0.cell? ⟨W.heap.size, 0, none⟩ = some (.int .u64 h) := by subst hhw0; go_simp
  have cw0_0_1 : w0.cell? ⟨W.heap.size, 1, none⟩ = some (.int .u64 l) := by subst hhw0; go_simp
  have cw0_0_2 : w0.cell? ⟨W.heap.size, 2, none⟩ = some (.int .u64 0) := by subst hhw0; go_simp
  have zw0_0 : W.heap.size < w0.heap.size := World.block_lt_of_cell? _ _ cw0_0_0
  have gw0 : Gr W w0 := by subst hhw0; go_grown
  clear hhw0
  go_wp2_with fail
  go_region_with (first | (go_at_call 57; refine (H1.out _).mono ?_; rintro e w1 ⟨rfl, h1⟩; have d0 : w1.cell? ⟨W.heap.size, 2, none⟩ = some (.int .u64 0) := cell_gr h1 (by go_simp); have zd := World.block_lt_of_cell? _ _ d0; have g1 : Gr W w1 := Gr.trans (by have gg := gw0; have gs := gg.size; go_grown) h1; (try (refine pair_in (T := w1.cell? ⟨w0.heap.size, 0, none⟩ = some (.int .u64 0)) ?_ (fun pc0 => ?_); (· (refine cell_gr h1 ?_; go_simp; done)); refine pair_in (T := w1.frozen? ⟨w0.heap.size, 0, none⟩ = false) ?_ (fun pf0 => ?_); (· (refine frozen_gr (v := .int .u64 0) h1 ?_ ?_; (· (go_simp; done)); (· (go_simp; done)))); refine pair_in (T := w1.cell? ⟨w0.heap.size, 1, none⟩ = some (.int .u64 0)) ?_ (fun pc1 => ?_); (· (refine cell_gr h1 ?_; go_simp; done)); refine pair_in (T := w1.frozen? ⟨w0.heap.size, 1, none⟩ = false) ?_ (fun pf1 => ?_); (· (refine frozen_gr (v := .int .u64 0) h1 ?_ ?_; (· (go_simp; done)); (· (go_simp; done)))); refine pair_in (T := w1.cell? ⟨w0.heap.size, 2, none⟩ = some (.int .u64 0)) ?_ (fun pc2 => ?_); (· (refine cell_gr h1 ?_; go_simp; done)); refine pair_in (T := w1.frozen? ⟨w0.heap.size, 2, none⟩ = false) ?_ (fun pf2 => ?_); (· (refine frozen_gr (v := .int .u64 0) h1 ?_ ?_; (· (go_simp; done)); (· (go_simp; done)))); have pz := World.block_lt_of_cell? _ _ pc0))) | (go_at_call 55; refine (H2.out _).mono ?_; rintro e w2 ⟨B, rfl, hge, hB, h2⟩; have g2 : Gr W w2 := Gr.trans (by have gg := g1; have gs := gg.size; go_grown) h2; have zB := World.block_lt_of_cell? _ _ hB; (try (refine pair_in (T := w2.cell? ⟨w0.heap.size, 0, none⟩ = some (.int .u64 0)) ?_ (fun qc0 => ?_); (· (refine cell_gr h2 ?_; go_simp; done)); refine pair_in (T := w2.frozen? ⟨w0.heap.size, 0, none⟩ = false) ?_ (fun qf0 => ?_); (· (refine frozen_gr (v := .int .u64 0) h2 ?_ ?_; (· (go_simp; done)); (· (go_simp; done)))); refine pair_in (T := w2.cell? ⟨w0.heap.size, 1, none⟩ = some (.int .u64 0)) ?_ (fun qc1 => ?_); (· (refine cell_gr h2 ?_; go_simp; done)); refine pair_in (T := w2.frozen? ⟨w0.heap.size, 1, none⟩ = false) ?_ (fun qf1 => ?_); (· (refine frozen_gr (v := .int .u64 0) h2 ?_ ?_; (· (go_simp; done)); (· (go_simp; done)))); refine pair_in (T := w2.cell? ⟨w0.heap.size, 2, none⟩ = some (.int .u64 0)) ?_ (fun qc2 => ?_); (· (refine cell_gr h2 ?_; go_simp; done)); refine pair_in (T := w2.frozen? ⟨w0.heap.size, 2, none⟩ = false) ?_ (fun qf2 => ?_); (· (refine frozen_gr (v := .int .u64 0) h2 ?_ ?_; (· (go_simp; done)); (· (go_simp; done)))); have qz := World.block_lt_of_cell? _ _ qc0; refine pair_in (T := ¬ B = w0.heap.size) ?_ (fun qn => ?_); (· ((try simp at hge); omega)); refine pair_in (T := ¬ w0.heap.size = B) ?_ (fun qm => ?_); (· ((try simp at hge); omega)))); (try (refine pair_in (T := w2.cell? ⟨w1.heap.size, 0, none⟩ = some (.int .u64 0)) ?_ (fun rc0 => ?_); (· (refine cell_gr h2 ?_; go_simp; done)); refine pair_in (T := w2.frozen? ⟨w1.heap.size, 0, none⟩ = false) ?_ (fun rf0 => ?_); (· (refine frozen_gr (v := .int .u64 0) h2 ?_ ?_; (· (go_simp; done)); (· (go_simp; done)))); refine pair_in (T := w2.cell? ⟨w1.heap.size, 1, none⟩ = some (.int .u64 0)) ?_ (fun rc1 => ?_); (· (refine cell_gr h2 ?_; go_simp; done)); refine pair_in (T := w2.frozen? ⟨w1.heap.size, 1, none⟩ = false) ?_ (fun rf1 => ?_); (· (refine frozen_gr (v := .int .u64 0) h2 ?_ ?_; (· (go_simp; done)); (· (go_simp; done)))); refine pair_in (T := w2.cell? ⟨w1.heap.size, 2, none⟩ = some (.int .u64 0)) ?_ (fun rc2 => ?_); (· (refine cell_gr h2 ?_; go_simp; done)); refine pair_in (T := w2.frozen? ⟨w1.heap.size, 2, none⟩ = false) ?_ (fun rf2 => ?_); (· (refine frozen_gr (v := .int .u64 0) h2 ?_ ?_; (· (go_simp; done)); (· (go_simp; done)))); have rz := World.block_lt_of_cell? _ _ rc0; refine pair_in (T := ¬ B = w1.heap.size) ?_ (fun rn => ?_); (· ((try simp at hge); omega)); refine pair_in (T := ¬ w1.heap.size = B) ?_ (fun rm => ?_); (· ((try simp at hge); omega))))))
  all_goals
    go_wp2_with fail
    go_at_call 58
    refine (H3.out _ _ ?_).mono ?_
    · go_simp
    rintro e w3 ⟨rfl, h3⟩
    go_wp2_with fail
    go_ret
    exact ⟨rfl, Gr.trans (by have gg := g2; have gs := gg.size; go_grown) h3⟩
end Go.Proofs.YthjhhnolkiejpaaDoor
