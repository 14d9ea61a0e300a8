/- HeapPlays: the document's Top and Pop -/
import Derived.Test.YtldlpbfncgcimaaHt
import Derived.Test.YtldlpbfncgcimaaJ
import Derived.Maps.AppendAt
namespace Go.Proofs.Ytldlpbfncgcimaa
set_option linter.unusedVariables false
open Go.ChangeShapes Go.WideShapes Go.ChangeAt Go.RowKit

set_option maxHeartbeats 2000000 in
set_option maxRecDepth 100000 in
theorem rtop_none (p cap : Nat) (ad : Option Addr) (W : World) (p0 : W.cell? ⟨p, 0, none⟩ = some (.slice ad 0 cap)) :
    Calls Try.prog 28 #[.pointer (some ⟨p, 0, none⟩)] W fun e w' => e = .returned (.tuple #[.agg #[.int .i64 0, .int .u64 0, .int .u64 0, .int .u64 0, .bool false, .int .i64 0], .bool false]) ∧ Gr W w' := by
  have zp := World.block_lt_of_cell? _ _ p0
  go_enter Try.func28, Try.ntmps28
  go_wp2_with fail
  refine bodyPost_ret (v := .tuple #[.agg #[.int .i64 0, .int .u64 0, .int .u64 0, .int .u64 0, .bool false, .int .i64 0], .bool false]) (by simp [results, Try.results28, go_sem, *]) rfl ⟨rfl, by go_grown⟩
set_option maxHeartbeats 2000000 in
set_option maxRecDepth 100000 in
theorem rpop_none (p cap : Nat) (ad : Option Addr) (W : World) (p0 : W.cell? ⟨p, 0, none⟩ = some (.slice ad 0 cap)) :
    Calls Try.prog 25 #[.pointer (some ⟨p, 0, none⟩)] W fun e w' => e = .returned (.tuple #[.agg #[.int .i64 0, .int .u64 0, .int .u64 0, .int .u64 0, .bool false, .int .i64 0], .bool false]) ∧ Gr W w' := by
  have zp := World.block_lt_of_cell? _ _ p0
  go_enter Try.func25, Try.ntmps25
  go_wp2_with fail
  refine bodyPost_ret (v := .tuple #[.agg #[.int .i64 0, .int .u64 0, .int .u64 0, .int .u64 0, .bool false, .int .i64 0], .bool false]) (by simp [results, Try.results25, go_sem, *]) rfl ⟨rfl, by go_grown⟩
set_option maxHeartbeats 2000000 in
set_option maxRecDepth 100000 in
theorem rtop_some (p g n cap k : Nat) (x : En) (hk : k < n) (hn : n ≤ 1000) (W : World) (p0 : W.cell? ⟨p, 0, none⟩ = some (.slice (some ⟨g, 0, none⟩) n cap)) (hx : EntAt W g (k * 6) x)
    (A1 : ∀ w, Gr W w → Calls Try.prog 39 #[.pointer (some ⟨p, 0, none⟩)] w fun e w' => e = .returned (.int .i64 k) ∧ Gr w w') :
    Calls Try.prog 28 #[.pointer (some ⟨p, 0, none⟩)] W fun e w' => e = .returned (.tuple #[.agg #[.int .i64 (x).id, .int .u64 (x).hi, .int .u64 (x).lo, .int .u64 (x).den, .bool (x).item, .int .i64 (x).node], .bool true]) ∧ Gr W w' := by
  have b1 : ((n : Int) == 0) = false := by simp; omega
  have b2 : (n == 0) = false := by simp; omega
  have b3 : (k : Int) < (n : Int) := by omega
  have b4 : decide ((k : Int) < (n : Int)) = true := decide_eq_true b3
  have zp := World.block_lt_of_cell? _ _ p0
  have HXE := Lib.hid hx
  clear hx
  have H1 := Lib.hid A1
  clear A1
  go_enter Try.func28, Try.ntmps28
  go_wp2_with fail
  generalize hhw0 : W.alloc (.cells #[.int .i64 0, .int .u64 0, .int .u64 0, .int .u64 0, .bool false, .int .i64 0] 46) = w0
  have cw0_0_0 : w0.cell? ⟨p, 0, none⟩ = some (.slice (some ⟨g, 0, none⟩) n cap) := by subst hhw0; go_simp
  have zw0_0 : p < w0.heap.size := World.block_lt_of_cell? _ _ cw0_0_0
  have cw0_1_0 : w0.cell? ⟨W.heap.size, 0, none⟩ = some (.int .i64 0) := by subst hhw0; go_simp
  have fw0_1_0 : w0.frozen? ⟨W.heap.size, 0, none⟩ = false := by subst hhw0; go_simp
  have cw0_1_1 : w0.cell? ⟨W.heap.size, 1, none⟩ = some (.int .u64 0) := by subst hhw0; go_simp
  have fw0_1_1 : w0.frozen? ⟨W.heap.size, 1, none⟩ = false := by subst hhw0; go_simp
  have cw0_1_2 : w0.cell? ⟨W.heap.size, 2, none⟩ = some (.int .u64 0) := by subst hhw0; go_simp
  have fw0_1_2 : w0.frozen? ⟨W.heap.size, 2, none⟩ = false := by subst hhw0; go_simp
  have cw0_1_3 : w0.cell? ⟨W.heap.size, 3, none⟩ = some (.int .u64 0) := by subst hhw0; go_simp
  have fw0_1_3 : w0.frozen? ⟨W.heap.size, 3, none⟩ = false := by subst hhw0; go_simp
  have cw0_1_4 : w0.cell? ⟨W.heap.size, 4, none⟩ = some (.bool false) := by subst hhw0; go_simp
  have fw0_1_4 : w0.frozen? ⟨W.heap.size, 4, none⟩ = false := by subst hhw0; go_simp
  have cw0_1_5 : w0.cell? ⟨W.heap.size, 5, none⟩ = some (.int .i64 0) := by subst hhw0; go_simp
  have fw0_1_5 : w0.frozen? ⟨W.heap.size, 5, none⟩ = false := by subst hhw0; go_simp
  have zw0_1 : W.heap.size < w0.heap.size := World.block_lt_of_cell? _ _ cw0_1_0
  have gw0 : Gr W w0 := by subst hhw0; go_grown
  clear hhw0
  obtain ⟨x0, x1, x2, x3, x4, x5⟩ := entAt_gr HXE.out gw0
  clear p0
  go_wp2_with fail
  refine Hd.wp_region_tail 8 (by kernel_rfl) (by kernel_rfl) ?_
  intro KQ hKQ
  repeat (first | (refine Hd.wpG_skip (by decide) rfl ?_; simp only [Act.put, List.setIfInBounds_toArray, List.set_cons_zero, List.set_cons_succ]) | (refine Hd.wpG_want (by decide) rfl ?_; apply Exists.intro; refine ⟨?_, ?_⟩; (· intro wx gx; (obtain ⟨mx, rfl⟩ := gx); all_goals (apply Hd.gAt_of_quiet; intro K hK; go_big_quiet_op; first | exact hK _ rfl | (apply Exists.intro; refine ⟨fun _ => ?_, ?_⟩; (· (first | (go_at_call 39; first | ((with_reducible refine ((H1.out _ (Gr.trans (Gr.trans gw0 (gr_spread _ _)) (gr_spread _ _)))).mono ?_); rintro e w' ⟨rfl, hg⟩; exact ⟨rfl, spread_gr hg⟩)))); exact hK _ rfl))); try simp only [Act.put, List.setIfInBounds_toArray, List.set_cons_zero, List.set_cons_succ]))
  refine Hd.wpG_nil (hKQ _ ?_)
  clear hKQ KQ
  intro w1 hhw1
  have hw1 := Hd.gr_of_spread hhw1
  have cw1_0_0 : w1.cell? ⟨p, 0, none⟩ = some (.slice (some ⟨g, 0, none⟩) n cap) := cell_gr hw1 (by go_simp)
  have zw1_0 : p < w1.heap.size := World.block_lt_of_cell? _ _ cw1_0_0
  have cw1_1_0 : w1.cell? ⟨W.heap.size, 0, none⟩ = some (.int .i64 0) := cell_gr hw1 (by go_simp)
  have fw1_1_0 : w1.frozen? ⟨W.heap.size, 0, none⟩ = false := frozen_gr (v := .int .i64 0) hw1 (by go_simp) (by go_simp)
  have cw1_1_1 : w1.cell? ⟨W.heap.size, 1, none⟩ = some (.int .u64 0) := cell_gr hw1 (by go_simp)
  have fw1_1_1 : w1.frozen? ⟨W.heap.size, 1, none⟩ = false := frozen_gr (v := .int .u64 0) hw1 (by go_simp) (by go_simp)
  have cw1_1_2 : w1.cell? ⟨W.heap.size, 2, none⟩ = some (.int .u64 0) := cell_gr hw1 (by go_simp)
  have fw1_1_2 : w1.frozen? ⟨W.heap.size, 2, none⟩ = false := frozen_gr (v := .int .u64 0) hw1 (by go_simp) (by go_simp)
  have cw1_1_3 : w1.cell? ⟨W.heap.size, 3, none⟩ = some (.int .u64 0) := cell_gr hw1 (by go_simp)
  have fw1_1_3 : w1.frozen? ⟨W.heap.size, 3, none⟩ = false := frozen_gr (v := .int .u64 0) hw1 (by go_simp) (by go_simp)
  have cw1_1_4 : w1.cell? ⟨W.heap.size, 4, none⟩ = some (.bool false) := cell_gr hw1 (by go_simp)
  have fw1_1_4 : w1.frozen? ⟨W.heap.size, 4, none⟩ = false := frozen_gr (v := .bool false) hw1 (by go_simp) (by go_simp)
  have cw1_1_5 : w1.cell? ⟨W.heap.size, 5, none⟩ = some (.int .i64 0) := cell_gr hw1 (by go_simp)
  have fw1_1_5 : w1.frozen? ⟨W.heap.size, 5, none⟩ = false := frozen_gr (v := .int .i64 0) hw1 (by go_simp) (by go_simp)
  have zw1_1 : W.heap.size < w1.heap.size := World.block_lt_of_cell? _ _ cw1_1_0
  have gw1 : Gr W w1 := Gr.trans (by have gg := gw0; have gs := gg.size; go_grown) hw1
  clear hw1 hhw1 gw0 zw0_0 cw0_0_0 zw0_1 cw0_1_0 fw0_1_0 cw0_1_1 fw0_1_1 cw0_1_2 fw0_1_2 cw0_1_3 fw0_1_3 cw0_1_4 fw0_1_4 cw0_1_5 fw0_1_5
  have gs := gw1.size
  go_wp2_with fail
  refine bodyPost_ret (v := .tuple #[.agg #[.int .i64 (x).id, .int .u64 (x).hi, .int .u64 (x).lo, .int .u64 (x).den, .bool (x).item, .int .i64 (x).node], .bool true]) (by simp [results, Try.results28, go_sem, *]) rfl ⟨rfl, by go_grown⟩
/-- What the document's Top answers. -/
def rTopV (R : List En) : Value :=
  if h : topI R R.length < R.length then .tuple #[.agg #[.int .i64 (R[topI R R.length]).id, .int .u64 (R[topI R R.length]).hi, .int .u64 (R[topI R R.length]).lo, .int .u64 (R[topI R R.length]).den, .bool (R[topI R R.length]).item, .int .i64 (R[topI R R.length]).node], .bool true] else .tuple #[.agg #[.int .i64 0, .int .u64 0, .int .u64 0, .int .u64 0, .bool false, .int .i64 0], .bool false]
theorem c_rTop (R : List En) (base p : Nat) (v : Value) (hl : R.length ≤ 1000) (W : World) (H : RefAt W base p v R) (hok : ∀ y ∈ R, y.ok) : Calls Try.prog 28 #[.pointer (some ⟨p, 0, none⟩)] W fun e w' => e = .returned ((rTopV R)) ∧ Gr W w' := by
  obtain ⟨ad, g, cap, rfl, h1, h2, h3, h4⟩ := refAt_form H
  rcases Nat.eq_zero_or_pos R.length with h0 | h0
  · have e : rTopV R = .tuple #[.agg #[.int .i64 0, .int .u64 0, .int .u64 0, .int .u64 0, .bool false, .int .i64 0], .bool false] := by unfold rTopV; rw [dif_neg (by omega)]
    rw [e]
    have p0 := (one_cell H.2.1).1
    rw [h0] at p0
    exact rtop_none p cap ad W p0
  · have hk := topI_lt R R.length h0
    have e : rTopV R = .tuple #[.agg #[.int .i64 (R[topI R R.length]).id, .int .u64 (R[topI R R.length]).hi, .int .u64 (R[topI R R.length]).lo, .int .u64 (R[topI R R.length]).den, .bool (R[topI R R.length]).item, .int .i64 (R[topI R R.length]).node], .bool true] := by unfold rTopV; rw [dif_pos hk]
    rw [e]
    obtain ⟨rfl, hpg⟩ := h3 h0
    exact rtop_some p g R.length cap (topI R R.length) R[topI R R.length] hk hl W (one_cell H.2.1).1 (h4 _ hk) (fun w g => c_rtop R base p _ hl w (refAt_gr H g) hok)
end Go.Proofs.Ytldlpbfncgcimaa
