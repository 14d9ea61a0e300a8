/- the document's own products: words -/
import Derived.Test.YtfamocpbmbhmbaaDoorRk
namespace Go.Proofs.YtfamocpbmbhmbaaDoor
set_option linter.unusedVariables false
open Go.ChangeShapes Go.WideShapes Go.ChangeAt Go.RowKit

set_option maxHeartbeats 1000000 in
set_option maxRecDepth 100000 in
theorem c_words1 (a : Nat) (ha : Wd a) (b : Nat) (w : World) (hb : b < w.heap.size) (k0 : w.cell? ⟨b, 0, none⟩ = some (.int .u64 a)) :
    Calls Tryd.prog 66 #[.slice (some ⟨b, 0, none⟩) 1 1] w fun e w' => ∃ B cap, e = .returned (.slice (some ⟨B, 0, none⟩) 2 cap) ∧ w.heap.size ≤ B ∧ w'.cell? ⟨B, 0, none⟩ = some (.int .u64 ((a % 4294967296 : Nat) : Int)) ∧ w'.cell? ⟨B, 1, none⟩ = some (.int .u64 ((a / 4294967296 : Nat) : Int)) ∧ Gr w w' := by
  go_enter Tryd.func66, Tryd.ntmps66
  have q1 : bits BinOp.and IntKind.u64 (a : Int) 4294967295 = ((a % 4294967296 : Nat) : Int) := by
    have e := bits_and_u64_nat a 4294967295 ha (by omega)
    rw [show (4294967295 : Nat) = 2 ^ 32 - 1 from rfl, Nat.and_two_pow_sub_one_eq_mod] at e
    exact e
  have q2 : (a : Int) / 4294967296 = ((a / 4294967296 : Nat) : Int) := by omega
  obtain ⟨lo, elo⟩ : ∃ x, x = a % 4294967296 := ⟨_, rfl⟩
  obtain ⟨hi, ehi⟩ : ∃ x, x = a / 4294967296 := ⟨_, rfl⟩
  rw [← elo] at q1 ⊢
  rw [← ehi] at q2 ⊢
  clear elo ehi
  go_wp2_with fail
  refine wp_loop_rounds 2 ?_
  rw [rounds_succ]
  go_wp2_with fail
  let Rc : World → Prop := fun w' => Gr w w'
  refine Hd.wp_region_head 12 11 Rc Rc (fun v w' => Rc w' ∧ ∃ B, v = .slice (some ⟨B, 0, none⟩) 2 2 ∧ w.heap.size ≤ B ∧ w'.cell? ⟨B, 0, none⟩ = some (.int .u64 lo) ∧ w'.cell? ⟨B, 1, none⟩ = some (.int .u64 hi)) (by kernel_rfl) (by simp only [List.getElem?_toArray, List.getElem?_cons_succ, List.getElem?_cons_zero] <;> rfl) (by kernel_rfl) (by intro cs b h; cases h) ?_ ?_ ?_ ?_ ?_ ?_
  · intro a b h g; exact Gr.trans h g
  · rintro v a b ⟨h, B, e, hB, c0, c1⟩ g
    exact ⟨Gr.trans h g, B, e, hB, cell_gr g c0, cell_gr g c1⟩
  · intro a h; exact h
  · intro v a h; exact h.1
  · show Gr _ _
    go_grown
  · intro KQ hKQ
    repeat (first | (refine Hd.wpG_skip (by decide) rfl ?_; simp only [Act.put, List.setIfInBounds_toArray, List.set_cons_zero, List.set_cons_succ]) | (refine Hd.wpG_want (by decide) rfl ?_; apply Exists.intro; refine ⟨?_, ?_⟩; (· intro wx gx; (have gx0 := cell_gr gx k0; clear gx); all_goals (apply Hd.gAt_of_quiet; intro K hK; go_big_quiet_op; first | exact hK _ rfl | (apply Exists.intro; refine ⟨fun _ => ?_, ?_⟩; (· (fail)); exact hK _ rfl))); try simp only [Act.put, List.setIfInBounds_toArray, List.set_cons_zero, List.set_cons_succ]))
    refine Hd.wpG_k (by decide) ?_ ?_
    · rintro w' gx
      unfold Oper.wp
      go_simp
      change Gr w w' at gx
      have gs := gx.size
      exact ⟨(show Gr w _ by go_grown), gs⟩
    refine Hd.wpG_nil (hKQ _ ?_)
    clear hKQ KQ
    rintro v w1 ⟨gx, B, rfl, hB, b0, b1⟩
    change Gr w w1 at gx
    clear Rc
    have zB := World.block_lt_of_cell? _ _ b0
    go_wp2_with fail
    rw [rounds_succ]
    go_wp2_with fail
    go_ret
    have gs := gx.size
    refine ⟨_, _, rfl, gs, by simp [World.cell?_alloc_new]; rw [Array.getElem?_append_left (by simp)]; rfl, by simp [World.cell?_alloc_new]; rw [Array.getElem?_append_left (by simp)]; rfl, by go_grown⟩
theorem make4 (w : World) : (Instr.makeSlice 95 (.int .i64 4) (.int .i64 4)).run Tryd.prog w = .ok (.slice (some ⟨w.heap.size, 0, none⟩) 4 4) (w.alloc (.cells #[.int .u64 0, .int .u64 0, .int .u64 0, .int .u64 0] 39)) := by kernel_rfl
theorem mask32 (v : Nat) (h : Wd v) : bits BinOp.and IntKind.u64 (v : Int) 4294967295 = ((v % 4294967296 : Nat) : Int) := by
  have e := bits_and_u64_nat v 4294967295 h (by omega)
  rw [show (4294967295 : Nat) = 2 ^ 32 - 1 from rfl, Nat.and_two_pow_sub_one_eq_mod] at e
  exact e
/-- A word of 32 bits. -/
def Hw (a : Nat) : Prop := a < 4294967296
theorem hw_mul {a b : Nat} (ha : Hw a) (hb : Hw b) : a * b ≤ 4294967295 * 4294967295 := Nat.mul_le_mul (by unfold Hw at ha; omega) (by unfold Hw at hb; omega)
set_option maxHeartbeats 2000000 in
set_option maxRecDepth 100000 in
theorem times22_walk (a0 a1 b0 b1 p00 p01 p10 p11 v01 v10 t11 v11 o0 c00 o1 c01 o1' c10 o2 c11 : Nat) (A B ca cb : Nat) (w : World) (hA : A < w.heap.size) (hB : B < w.heap.size)
    (ka0 : w.cell? ⟨A, 0, none⟩ = some (.int .u64 a0)) (ka1 : w.cell? ⟨A, 1, none⟩ = some (.int .u64 a1)) (kb0 : w.cell? ⟨B, 0, none⟩ = some (.int .u64 b0)) (kb1 : w.cell? ⟨B, 1, none⟩ = some (.int .u64 b1))
    (m00 : IntKind.u64.wrap ((a0 : Int) * (b0 : Int)) = (p00 : Int)) (m01 : IntKind.u64.wrap ((a0 : Int) * (b1 : Int)) = (p01 : Int)) (m10 : IntKind.u64.wrap ((a1 : Int) * (b0 : Int)) = (p10 : Int)) (m11 : IntKind.u64.wrap ((a1 : Int) * (b1 : Int)) = (p11 : Int))
    (n00 : IntKind.u64.wrap (p00 : Int) = (p00 : Int)) (n01 : IntKind.u64.wrap (p01 : Int) = (p01 : Int)) (n10 : IntKind.u64.wrap (v10 : Int) = (v10 : Int))
    (s01 : IntKind.u64.wrap ((p01 : Int) + (c00 : Int)) = (v01 : Int)) (s10 : IntKind.u64.wrap ((p10 : Int) + (o1 : Int)) = (v10 : Int)) (s11 : IntKind.u64.wrap ((p11 : Int) + (c01 : Int)) = (t11 : Int)) (r11 : IntKind.u64.wrap ((t11 : Int) + (c10 : Int)) = (v11 : Int))
    (x00 : bits BinOp.and IntKind.u64 (p00 : Int) 4294967295 = (o0 : Int)) (x01 : bits BinOp.and IntKind.u64 (v01 : Int) 4294967295 = (o1 : Int)) (x10 : bits BinOp.and IntKind.u64 (v10 : Int) 4294967295 = (o1' : Int)) (x11 : bits BinOp.and IntKind.u64 (v11 : Int) 4294967295 = (o2 : Int))
    (y00 : (p00 : Int) / 4294967296 = (c00 : Int)) (y01 : (v01 : Int) / 4294967296 = (c01 : Int)) (y10 : (v10 : Int) / 4294967296 = (c10 : Int)) (y11 : (v11 : Int) / 4294967296 = (c11 : Int)) :
    Calls Tryd.prog 65 #[.slice (some ⟨A, 0, none⟩) 2 ca, .slice (some ⟨B, 0, none⟩) 2 cb] w fun e w' => ∃ O, e = .returned (.slice (some ⟨O, 0, none⟩) 4 4) ∧ w'.cell? ⟨O, 0, none⟩ = some (.int .u64 o0) ∧ w'.cell? ⟨O, 1, none⟩ = some (.int .u64 o1') ∧ w'.cell? ⟨O, 2, none⟩ = some (.int .u64 o2) ∧ w'.cell? ⟨O, 3, none⟩ = some (.int .u64 c11) ∧ Gr w w' := by
  have hm := make4
  go_enter Tryd.func65, Tryd.ntmps65
  go_wp2_with fail
  refine wp_loop_rounds 3 ?_
  rw [rounds_succ]
  go_wp2_with fail
  refine wp_loop_rounds 3 ?_
  rw [rounds_succ]
  go_wp2_with fail
  generalize hhw0 : (w.alloc (.cells #[.int .u64 0, .int .u64 0, .int .u64 0, .int .u64 0] 39)) = w0
  have cw0_0_0 : w0.cell? ⟨A, 0, none⟩ = some (.int .u64 a0) := by subst hhw0; go_simp
  have cw0_0_1 : w0.cell? ⟨A, 1, none⟩ = some (.int .u64 a1) := by subst hhw0; go_simp
  have zw0_0 : A < w0.heap.size := World.block_lt_of_cell? _ _ cw0_0_0
  have cw0_1_0 : w0.cell? ⟨B, 0, none⟩ = some (.int .u64 b0) := by subst hhw0; go_simp
  have cw0_1_1 : w0.cell? ⟨B, 1, none⟩ = some (.int .u64 b1) := by subst hhw0; go_simp
  have zw0_1 : B < w0.heap.size := World.block_lt_of_cell? _ _ cw0_1_0
  have cw0_2_0 : w0.cell? ⟨w.heap.size, 0, none⟩ = some (.int .u64 0) := by subst hhw0; go_simp
  have fw0_2_0 : w0.frozen? ⟨w.heap.size, 0, none⟩ = false := by subst hhw0; go_simp
  have cw0_2_1 : w0.cell? ⟨w.heap.size, 1, none⟩ = some (.int .u64 0) := by subst hhw0; go_simp
  have fw0_2_1 : w0.frozen? ⟨w.heap.size, 1, none⟩ = false := by subst hhw0; go_simp
  have cw0_2_2 : w0.cell? ⟨w.heap.size, 2, none⟩ = some (.int .u64 0) := by subst hhw0; go_simp
  have fw0_2_2 : w0.frozen? ⟨w.heap.size, 2, none⟩ = false := by subst hhw0; go_simp
  have cw0_2_3 : w0.cell? ⟨w.heap.size, 3, none⟩ = some (.int .u64 0) := by subst hhw0; go_simp
  have fw0_2_3 : w0.frozen? ⟨w.heap.size, 3, none⟩ = false := by subst hhw0; go_simp
  have zw0_2 : w.heap.size < w0.heap.size := World.block_lt_of_cell? _ _ cw0_2_0
  have gw0 : Gr w w0 := by subst hhw0; go_grown
  clear hhw0
  go_wp2_with fail
  refine Hd.wp_region_tail 18 (by kernel_rfl) (by kernel_rfl) ?_
  intro KQ hKQ
  repeat (first | (refine Hd.wpG_skip (by decide) rfl ?_; simp only [Act.put, List.setIfInBounds_toArray, List.set_cons_zero, List.set_cons_succ]) | (refine Hd.wpG_want (by decide) rfl ?_; apply Exists.intro; refine ⟨?_, ?_⟩; (· intro wx gx; (obtain ⟨mx, rfl⟩ := gx); all_goals (apply Hd.gAt_of_quiet; intro K hK; go_big_quiet_op; first | exact hK _ rfl | (apply Exists.intro; refine ⟨fun _ => ?_, ?_⟩; (· fail); exact hK _ rfl))); try simp only [Act.put, List.setIfInBounds_toArray, List.set_cons_zero, List.set_cons_succ]))
  refine Hd.wpG_nil (hKQ _ ?_)
  clear hKQ KQ
  intro w1 hhw1
  have hw1 := Hd.gr_of_spread hhw1
  have cw1_0_0 : w1.cell? ⟨A, 0, none⟩ = some (.int .u64 a0) := cell_gr hw1 (by go_simp)
  have cw1_0_1 : w1.cell? ⟨A, 1, none⟩ = some (.int .u64 a1) := cell_gr hw1 (by go_simp)
  have zw1_0 : A < w1.heap.size := World.block_lt_of_cell? _ _ cw1_0_0
  have cw1_1_0 : w1.cell? ⟨B, 0, none⟩ = some (.int .u64 b0) := cell_gr hw1 (by go_simp)
  have cw1_1_1 : w1.cell? ⟨B, 1, none⟩ = some (.int .u64 b1) := cell_gr hw1 (by go_simp)
  have zw1_1 : B < w1.heap.size := World.block_lt_of_cell? _ _ cw1_1_0
  have cw1_2_0 : w1.cell? ⟨w.heap.size, 0, none⟩ = some (.int .u64 0) := cell_gr hw1 (by go_simp)
  have fw1_2_0 : w1.frozen? ⟨w.heap.size, 0, none⟩ = false := frozen_gr (v := .int .u64 0) hw1 (by go_simp) (by go_simp)
  have cw1_2_1 : w1.cell? ⟨w.heap.size, 1, none⟩ = some (.int .u64 0) := cell_gr hw1 (by go_simp)
  have fw1_2_1 : w1.frozen? ⟨w.heap.size, 1, none⟩ = false := frozen_gr (v := .int .u64 0) hw1 (by go_simp) (by go_simp)
  have cw1_2_2 : w1.cell? ⟨w.heap.size, 2, none⟩ = some (.int .u64 0) := cell_gr hw1 (by go_simp)
  have fw1_2_2 : w1.frozen? ⟨w.heap.size, 2, none⟩ = false := frozen_gr (v := .int .u64 0) hw1 (by go_simp) (by go_simp)
  have cw1_2_3 : w1.cell? ⟨w.heap.size, 3, none⟩ = some (.int .u64 0) := cell_gr hw1 (by go_simp)
  have fw1_2_3 : w1.frozen? ⟨w.heap.size, 3, none⟩ = false := frozen_gr (v := .int .u64 0) hw1 (by go_simp) (by go_simp)
  have zw1_2 : w.heap.size < w1.heap.size := World.block_lt_of_cell? _ _ cw1_2_0
  have gw1 : Gr w w1 := Gr.trans (by have gg := gw0; have gs := gg.size; go_grown) hw1
  clear hw1 hhw1 gw0 zw0_0 cw0_0_0 cw0_0_1 zw0_1 cw0_1_0 cw0_1_1 zw0_2 cw0_2_0 fw0_2_0 cw0_2_1 fw0_2_1 cw0_2_2 fw0_2_2 cw0_2_3 fw0_2_3
  go_wp2_with fail
  rw [rounds_succ]
  go_wp2_with fail
  generalize hhw2 : (w1.setCell ⟨w.heap.size, 0, none⟩ (.int .u64 o0)) = w2
  have cw2_0_0 : w2.cell? ⟨A, 0, none⟩ = some (.int .u64 a0) := by subst hhw2; go_simp
  have cw2_0_1 : w2.cell? ⟨A, 1, none⟩ = some (.int .u64 a1) := by subst hhw2; go_simp
  have zw2_0 : A < w2.heap.size := World.block_lt_of_cell? _ _ cw2_0_0
  have cw2_1_0 : w2.cell? ⟨B, 0, none⟩ = some (.int .u64 b0) := by subst hhw2; go_simp
  have cw2_1_1 : w2.cell? ⟨B, 1, none⟩ = some (.int .u64 b1) := by subst hhw2; go_simp
  have zw2_1 : B < w2.heap.size := World.block_lt_of_cell? _ _ cw2_1_0
  have cw2_2_0 : w2.cell? ⟨w.heap.size, 0, none⟩ = some (.int .u64 o0) := by subst hhw2; go_simp
  have fw2_2_0 : w2.frozen? ⟨w.heap.size, 0, none⟩ = false := by subst hhw2; go_simp
  have cw2_2_1 : w2.cell? ⟨w.heap.size, 1, none⟩ = some (.int .u64 0) := by subst hhw2; go_simp
  have fw2_2_1 : w2.frozen? ⟨w.heap.size, 1, none⟩ = false := by subst hhw2; go_simp
  have cw2_2_2 : w2.cell? ⟨w.heap.size, 2, none⟩ = some (.int .u64 0) := by subst hhw2; go_simp
  have fw2_2_2 : w2.frozen? ⟨w.heap.size, 2, none⟩ = false := by subst hhw2; go_simp
  have cw2_2_3 : w2.cell? ⟨w.heap.size, 3, none⟩ = some (.int .u64 0) := by subst hhw2; go_simp
  have fw2_2_3 : w2.frozen? ⟨w.heap.size, 3, none⟩ = false := by subst hhw2; go_simp
  have zw2_2 : w.heap.size < w2.heap.size := World.block_lt_of_cell? _ _ cw2_2_0
  have gw2 : Gr w w2 := by subst hhw2; have gg := gw1; have gs := gg.size; go_grown
  clear hhw2 gw1 zw1_0 cw1_0_0 cw1_0_1 zw1_1 cw1_1_0 cw1_1_1 zw1_2 cw1_2_0 fw1_2_0 cw1_2_1 fw1_2_1 cw1_2_2 fw1_2_2 cw1_2_3 fw1_2_3
  go_wp2_with fail
  refine Hd.wp_region_tail 18 (by kernel_rfl) (by kernel_rfl) ?_
  intro KQ hKQ
  repeat (first | (refine Hd.wpG_skip (by decide) rfl ?_; simp only [Act.put, List.setIfInBounds_toArray, List.set_cons_zero, List.set_cons_succ]) | (refine Hd.wpG_want (by decide) rfl ?_; apply Exists.intro; refine ⟨?_, ?_⟩; (· intro wx gx; (obtain ⟨mx, rfl⟩ := gx); all_goals (apply Hd.gAt_of_quiet; intro K hK; go_big_quiet_op; first | exact hK _ rfl | (apply Exists.intro; refine ⟨fun _ => ?_, ?_⟩; (· fail); exact hK _ rfl))); try simp only [Act.put, List.setIfInBounds_toArray, List.set_cons_zero, List.set_cons_succ]))
  refine Hd.wpG_nil (hKQ _ ?_)
  clear hKQ KQ
  intro w3 hhw3
  have hw3 := Hd.gr_of_spread hhw3
  have cw3_0_0 : w3.cell? ⟨A, 0, none⟩ = some (.int .u64 a0) := cell_gr hw3 (by go_simp)
  have cw3_0_1 : w3.cell? ⟨A, 1, none⟩ = some (.int .u64 a1) := cell_gr hw3 (by go_simp)
  have zw3_0 : A < w3.heap.size := World.block_lt_of_cell? _ _ cw3_0_0
  have cw3_1_0 : w3.cell? ⟨B, 0, none⟩ = some (.int .u64 b0) := cell_gr hw3 (by go_simp)
  have cw3_1_1 : w3.cell? ⟨B, 1, none⟩ = some (.int .u64 b1) := cell_gr hw3 (by go_simp)
  have zw3_1 : B < w3.heap.size := World.block_lt_of_cell? _ _ cw3_1_0
  have cw3_2_0 : w3.cell? ⟨w.heap.size, 0, none⟩ = some (.int .u64 o0) := cell_gr hw3 (by go_simp)
  have fw3_2_0 : w3.frozen? ⟨w.heap.size, 0, none⟩ = false := frozen_gr (v := .int .u64 o0) hw3 (by go_simp) (by go_simp)
  have cw3_2_1 : w3.cell? ⟨w.heap.size, 1, none⟩ = some (.int .u64 0) := cell_gr hw3 (by go_simp)
  have fw3_2_1 : w3.frozen? ⟨w.heap.size, 1, none⟩ = false := frozen_gr (v := .int .u64 0) hw3 (by go_simp) (by go_simp)
  have cw3_2_2 : w3.cell? ⟨w.heap.size, 2, none⟩ = some (.int .u64 0) := cell_gr hw3 (by go_simp)
  have fw3_2_2 : w3.frozen? ⟨w.heap.size, 2, none⟩ = false := frozen_gr (v := .int .u64 0) hw3 (by go_simp) (by go_simp)
  have cw3_2_3 : w3.cell? ⟨w.heap.size, 3, none⟩ = some (.int .u64 0) := cell_gr hw3 (by go_simp)
  have fw3_2_3 : w3.frozen? ⟨w.heap.size, 3, none⟩ = false := frozen_gr (v := .int .u64 0) hw3 (by go_simp) (by go_simp)
  have zw3_2 : w.heap.size < w3.heap.size := World.block_lt_of_cell? _ _ cw3_2_0
  have gw3 : Gr w w3 := Gr.trans (by have gg := gw2; have gs := gg.size; go_grown) hw3
  clear hw3 hhw3 gw2 zw2_0 cw2_0_0 cw2_0_1 zw2_1 cw2_1_0 cw2_1_1 zw2_2 cw2_2_0 fw2_2_0 cw2_2_1 fw2_2_1 cw2_2_2 fw2_2_2 cw2_2_3 fw2_2_3
  go_wp2_with fail
  rw [rounds_succ]
  go_wp2_with fail
  generalize hhw4 : (w3.setCell ⟨w.heap.size, 1, none⟩ (.int .u64 o1)) = w4
  have cw4_0_0 : w4.cell? ⟨A, 0, none⟩ = some (.int .u64 a0) := by subst hhw4; go_simp
  have cw4_0_1 : w4.cell? ⟨A, 1, none⟩ = some (.int .u64 a1) := by subst hhw4; go_simp
  have zw4_0 : A < w4.heap.size := World.block_lt_of_cell? _ _ cw4_0_0
  have cw4_1_0 : w4.cell? ⟨B, 0, none⟩ = some (.int .u64 b0) := by subst hhw4; go_simp
  have cw4_1_1 : w4.cell? ⟨B, 1, none⟩ = some (.int .u64 b1) := by subst hhw4; go_simp
  have zw4_1 : B < w4.heap.size := World.block_lt_of_cell? _ _ cw4_1_0
  have cw4_2_0 : w4.cell? ⟨w.heap.size, 0, none⟩ = some (.int .u64 o0) := by subst hhw4; go_simp
  have fw4_2_0 : w4.frozen? ⟨w.heap.size, 0, none⟩ = false := by subst hhw4; go_simp
  have cw4_2_1 : w4.cell? ⟨w.heap.size, 1, none⟩ = some (.int .u64 o1) := by subst hhw4; go_simp
  have fw4_2_1 : w4.frozen? ⟨w.heap.size, 1, none⟩ = false := by subst hhw4; go_simp
  have cw4_2_2 : w4.cell? ⟨w.heap.size, 2, none⟩ = some (.int .u64 0) := by subst hhw4; go_simp
  have fw4_2_2 : w4.frozen? ⟨w.heap.size, 2, none⟩ = false := by subst hhw4; go_simp
  have cw4_2_3 : w4.cell? ⟨w.heap.size, 3, none⟩ = some (.int .u64 0) := by subst hhw4; go_simp
  have fw4_2_3 : w4.frozen? ⟨w.heap.size, 3, none⟩ = false := by subst hhw4; go_simp
  have zw4_2 : w.heap.size < w4.heap.size := World.block_lt_of_cell? _ _ cw4_2_0
  have gw4 : Gr w w4 := by subst hhw4; have gg := gw3; have gs := gg.size; go_grown
  clear hhw4 gw3 zw3_0 cw3_0_0 cw3_0_1 zw3_1 cw3_1_0 cw3_1_1 zw3_2 cw3_2_0 fw3_2_0 cw3_2_1 fw3_2_1 cw3_2_2 fw3_2_2 cw3_2_3 fw3_2_3
  go_wp2_with fail
  rw [rounds_succ]
  go_wp2_with fail
  generalize hhw5 : (w4.setCell ⟨w.heap.size, 2, none⟩ (.int .u64 c01)) = w5
  have cw5_0_0 : w5.cell? ⟨A, 0, none⟩ = some (.int .u64 a0) := by subst hhw5; go_simp
  have cw5_0_1 : w5.cell? ⟨A, 1, none⟩ = some (.int .u64 a1) := by subst hhw5; go_simp
  have zw5_0 : A < w5.heap.size := World.block_lt_of_cell? _ _ cw5_0_0
  have cw5_1_0 : w5.cell? ⟨B, 0, none⟩ = some (.int .u64 b0) := by subst hhw5; go_simp
  have cw5_1_1 : w5.cell? ⟨B, 1, none⟩ = some (.int .u64 b1) := by subst hhw5; go_simp
  have zw5_1 : B < w5.heap.size := World.block_lt_of_cell? _ _ cw5_1_0
  have cw5_2_0 : w5.cell? ⟨w.heap.size, 0, none⟩ = some (.int .u64 o0) := by subst hhw5; go_simp
  have fw5_2_0 : w5.frozen? ⟨w.heap.size, 0, none⟩ = false := by subst hhw5; go_simp
  have cw5_2_1 : w5.cell? ⟨w.heap.size, 1, none⟩ = some (.int .u64 o1) := by subst hhw5; go_simp
  have fw5_2_1 : w5.frozen? ⟨w.heap.size, 1, none⟩ = false := by subst hhw5; go_simp
  have cw5_2_2 : w5.cell? ⟨w.heap.size, 2, none⟩ = some (.int .u64 c01) := by subst hhw5; go_simp
  have fw5_2_2 : w5.frozen? ⟨w.heap.size, 2, none⟩ = false := by subst hhw5; go_simp
  have cw5_2_3 : w5.cell? ⟨w.heap.size, 3, none⟩ = some (.int .u64 0) := by subst hhw5; go_simp
  have fw5_2_3 : w5.frozen? ⟨w.heap.size, 3, none⟩ = false := by subst hhw5; go_simp
  have zw5_2 : w.heap.size < w5.heap.size := World.block_lt_of_cell? _ _ cw5_2_0
  have gw5 : Gr w w5 := by subst hhw5; have gg := gw4; have gs := gg.size; go_grown
  clear hhw5 gw4 zw4_0 cw4_0_0 cw4_0_1 zw4_1 cw4_1_0 cw4_1_1 zw4_2 cw4_2_0 fw4_2_0 cw4_2_1 fw4_2_1 cw4_2_2 fw4_2_2 cw4_2_3 fw4_2_3
  refine wp_loop_rounds 3 ?_
  rw [rounds_succ]
  go_wp2_with fail
  refine Hd.wp_region_tail 18 (by kernel_rfl) (by kernel_rfl) ?_
  intro KQ hKQ
  repeat (first | (refine Hd.wpG_skip (by decide) rfl ?_; simp only [Act.put, List.setIfInBounds_toArray, List.set_cons_zero, List.set_cons_succ]) | (refine Hd.wpG_want (by decide) rfl ?_; apply Exists.intro; refine ⟨?_, ?_⟩; (· intro wx gx; (obtain ⟨mx, rfl⟩ := gx); all_goals (apply Hd.gAt_of_quiet; intro K hK; go_big_quiet_op; first | exact hK _ rfl | (apply Exists.intro; refine ⟨fun _ => ?_, ?_⟩; (· fail); exact hK _ rfl))); try simp only [Act.put, List.setIfInBounds_toArray, List.set_cons_zero, List.set_cons_succ]))
  refine Hd.wpG_nil (hKQ _ ?_)
  clear hKQ KQ
  intro w6 hhw6
  have hw6 := Hd.gr_of_spread hhw6
  have cw6_0_0 : w6.cell? ⟨A, 0, none⟩ = some (.int .u64 a0) := cell_gr hw6 (by go_simp)
  have cw6_0_1 : w6.cell? ⟨A, 1, none⟩ = some (.int .u64 a1) := cell_gr hw6 (by go_simp)
  have zw6_0 : A < w6.heap.size := World.block_lt_of_cell? _ _ cw6_0_0
  have cw6_1_0 : w6.cell? ⟨B, 0, none⟩ = some (.int .u64 b0) := cell_gr hw6 (by go_simp)
  have cw6_1_1 : w6.cell? ⟨B, 1, none⟩ = some (.int .u64 b1) := cell_gr hw6 (by go_simp)
  have zw6_1 : B < w6.heap.size := World.block_lt_of_cell? _ _ cw6_1_0
  have cw6_2_0 : w6.cell? ⟨w.heap.size, 0, none⟩ = some (.int .u64 o0) := cell_gr hw6 (by go_simp)
  have fw6_2_0 : w6.frozen? ⟨w.heap.size, 0, none⟩ = false := frozen_gr (v := .int .u64 o0) hw6 (by go_simp) (by go_simp)
  have cw6_2_1 : w6.cell? ⟨w.heap.size, 1, none⟩ = some (.int .u64 o1) := cell_gr hw6 (by go_simp)
  have fw6_2_1 : w6.frozen? ⟨w.heap.size, 1, none⟩ = false := frozen_gr (v := .int .u64 o1) hw6 (by go_simp) (by go_simp)
  have cw6_2_2 : w6.cell? ⟨w.heap.size, 2, none⟩ = some (.int .u64 c01) := cell_gr hw6 (by go_simp)
  have fw6_2_2 : w6.frozen? ⟨w.heap.size, 2, none⟩ = false := frozen_gr (v := .int .u64 c01) hw6 (by go_simp) (by go_simp)
  have cw6_2_3 : w6.cell? ⟨w.heap.size, 3, none⟩ = some (.int .u64 0) := cell_gr hw6 (by go_simp)
  have fw6_2_3 : w6.frozen? ⟨w.heap.size, 3, none⟩ = false := frozen_gr (v := .int .u64 0) hw6 (by go_simp) (by go_simp)
  have zw6_2 : w.heap.size < w6.heap.size := World.block_lt_of_cell? _ _ cw6_2_0
  have gw6 : Gr w w6 := Gr.trans (by have gg := gw5; have gs := gg.size; go_grown) hw6
  clear hw6 hhw6 gw5 zw5_0 cw5_0_0 cw5_0_1 zw5_1 cw5_1_0 cw5_1_1 zw5_2 cw5_2_0 fw5_2_0 cw5_2_1 fw5_2_1 cw5_2_2 fw5_2_2 cw5_2_3 fw5_2_3
  go_wp2_with fail
  rw [rounds_succ]
  go_wp2_with fail
  generalize hhw7 : (w6.setCell ⟨w.heap.size, 1, none⟩ (.int .u64 o1')) = w7
  have cw7_0_0 : w7.cell? ⟨A, 0, none⟩ = some (.int .u64 a0) := by subst hhw7; go_simp
  have cw7_0_1 : w7.cell? ⟨A, 1, none⟩ = some (.int .u64 a1) := by subst hhw7; go_simp
  have zw7_0 : A < w7.heap.size := World.block_lt_of_cell? _ _ cw7_0_0
  have cw7_1_0 : w7.cell? ⟨B, 0, none⟩ = some (.int .u64 b0) := by subst hhw7; go_simp
  have cw7_1_1 : w7.cell? ⟨B, 1, none⟩ = some (.int .u64 b1) := by subst hhw7; go_simp
  have zw7_1 : B < w7.heap.size := World.block_lt_of_cell? _ _ cw7_1_0
  have cw7_2_0 : w7.cell? ⟨w.heap.size, 0, none⟩ = some (.int .u64 o0) := by subst hhw7; go_simp
  have fw7_2_0 : w7.frozen? ⟨w.heap.size, 0, none⟩ = false := by subst hhw7; go_simp
  have cw7_2_1 : w7.cell? ⟨w.heap.size, 1, none⟩ = some (.int .u64 o1') := by subst hhw7; go_simp
  have fw7_2_1 : w7.frozen? ⟨w.heap.size, 1, none⟩ = false := by subst hhw7; go_simp
  have cw7_2_2 : w7.cell? ⟨w.heap.size, 2, none⟩ = some (.int .u64 c01) := by subst hhw7; go_simp
  have fw7_2_2 : w7.frozen? ⟨w.heap.size, 2, none⟩ = false := by subst hhw7; go_simp
  have cw7_2_3 : w7.cell? ⟨w.heap.size, 3, none⟩ = some (.int .u64 0) := by subst hhw7; go_simp
  have fw7_2_3 : w7.frozen? ⟨w.heap.size, 3, none⟩ = false := by subst hhw7; go_simp
  have zw7_2 : w.heap.size < w7.heap.size := World.block_lt_of_cell? _ _ cw7_2_0
  have gw7 : Gr w w7 := by subst hhw7; have gg := gw6; have gs := gg.size; go_grown
  clear hhw7 gw6 zw6_0 cw6_0_0 cw6_0_1 zw6_1 cw6_1_0 cw6_1_1 zw6_2 cw6_2_0 fw6_2_0 cw6_2_1 fw6_2_1 cw6_2_2 fw6_2_2 cw6_2_3 fw6_2_3
  go_wp2_with fail
  refine Hd.wp_region_tail 18 (by kernel_rfl) (by kernel_rfl) ?_
  intro KQ hKQ
  repeat (first | (refine Hd.wpG_skip (by decide) rfl ?_; simp only [Act.put, List.setIfInBounds_toArray, List.set_cons_zero, List.set_cons_succ]) | (refine Hd.wpG_want (by decide) rfl ?_; apply Exists.intro; refine ⟨?_, ?_⟩; (· intro wx gx; (obtain ⟨mx, rfl⟩ := gx); all_goals (apply Hd.gAt_of_quiet; intro K hK; go_big_quiet_op; first | exact hK _ rfl | (apply Exists.intro; refine ⟨fun _ => ?_, ?_⟩; (· fail); exact hK _ rfl))); try simp only [Act.put, List.setIfInBounds_toArray, List.set_cons_zero, List.set_cons_succ]))
  refine Hd.wpG_nil (hKQ _ ?_)
  clear hKQ KQ
  intro w8 hhw8
  have hw8 := Hd.gr_of_spread hhw8
  have cw8_0_0 : w8.cell? ⟨A, 0, none⟩ = some (.int .u64 a0) := cell_gr hw8 (by go_simp)
  have cw8_0_1 : w8.cell? ⟨A, 1, none⟩ = some (.int .u64 a1) := cell_gr hw8 (by go_simp)
  have zw8_0 : A < w8.heap.size := World.block_lt_of_cell? _ _ cw8_0_0
  have cw8_1_0 : w8.cell? ⟨B, 0, none⟩ = some (.int .u64 b0) := cell_gr hw8 (by go_simp)
  have cw8_1_1 : w8.cell? ⟨B, 1, none⟩ = some (.int .u64 b1) := cell_gr hw8 (by go_simp)
  have zw8_1 : B < w8.heap.size := World.block_lt_of_cell? _ _ cw8_1_0
  have cw8_2_0 : w8.cell? ⟨w.heap.size, 0, none⟩ = some (.int .u64 o0) := cell_gr hw8 (by go_simp)
  have fw8_2_0 : w8.frozen? ⟨w.heap.size, 0, none⟩ = false := frozen_gr (v := .int .u64 o0) hw8 (by go_simp) (by go_simp)
  have cw8_2_1 : w8.cell? ⟨w.heap.size, 1, none⟩ = some (.int .u64 o1') := cell_gr hw8 (by go_simp)
  have fw8_2_1 : w8.frozen? ⟨w.heap.size, 1, none⟩ = false := frozen_gr (v := .int .u64 o1') hw8 (by go_simp) (by go_simp)
  have cw8_2_2 : w8.cell? ⟨w.heap.size, 2, none⟩ = some (.int .u64 c01) := cell_gr hw8 (by go_simp)
  have fw8_2_2 : w8.frozen? ⟨w.heap.size, 2, none⟩ = false := frozen_gr (v := .int .u64 c01) hw8 (by go_simp) (by go_simp)
  have cw8_2_3 : w8.cell? ⟨w.heap.size, 3, none⟩ = some (.int .u64 0) := cell_gr hw8 (by go_simp)
  have fw8_2_3 : w8.frozen? ⟨w.heap.size, 3, none⟩ = false := frozen_gr (v := .int .u64 0) hw8 (by go_simp) (by go_simp)
  have zw8_2 : w.heap.size < w8.heap.size := World.block_lt_of_cell? _ _ cw8_2_0
  have gw8 : Gr w w8 := Gr.trans (by have gg := gw7; have gs := gg.size; go_grown) hw8
  clear hw8 hhw8 gw7 zw7_0 cw7_0_0 cw7_0_1 zw7_1 cw7_1_0 cw7_1_1 zw7_2 cw7_2_0 fw7_2_0 cw7_2_1 fw7_2_1 cw7_2_2 fw7_2_2 cw7_2_3 fw7_2_3
  go_wp2_with fail
  rw [rounds_succ]
  go_wp2_with fail
  generalize hhw9 : (w8.setCell ⟨w.heap.size, 2, none⟩ (.int .u64 o2)) = w9
  have cw9_0_0 : w9.cell? ⟨A, 0, none⟩ = some (.int .u64 a0) := by subst hhw9; go_simp
  have cw9_0_1 : w9.cell? ⟨A, 1, none⟩ = some (.int .u64 a1) := by subst hhw9; go_simp
  have zw9_0 : A < w9.heap.size := World.block_lt_of_cell? _ _ cw9_0_0
  have cw9_1_0 : w9.cell? ⟨B, 0, none⟩ = some (.int .u64 b0) := by subst hhw9; go_simp
  have cw9_1_1 : w9.cell? ⟨B, 1, none⟩ = some (.int .u64 b1) := by subst hhw9; go_simp
  have zw9_1 : B < w9.heap.size := World.block_lt_of_cell? _ _ cw9_1_0
  have cw9_2_0 : w9.cell? ⟨w.heap.size, 0, none⟩ = some (.int .u64 o0) := by subst hhw9; go_simp
  have fw9_2_0 : w9.frozen? ⟨w.heap.size, 0, none⟩ = false := by subst hhw9; go_simp
  have cw9_2_1 : w9.cell? ⟨w.heap.size, 1, none⟩ = some (.int .u64 o1') := by subst hhw9; go_simp
  have fw9_2_1 : w9.frozen? ⟨w.heap.size, 1, none⟩ = false := by subst hhw9; go_simp
  have cw9_2_2 : w9.cell? ⟨w.heap.size, 2, none⟩ = some (.int .u64 o2) := by subst hhw9; go_simp
  have fw9_2_2 : w9.frozen? ⟨w.heap.size, 2, none⟩ = false := by subst hhw9; go_simp
  have cw9_2_3 : w9.cell? ⟨w.heap.size, 3, none⟩ = some (.int .u64 0) := by subst hhw9; go_simp
  have fw9_2_3 : w9.frozen? ⟨w.heap.size, 3, none⟩ = false := by subst hhw9; go_simp
  have zw9_2 : w.heap.size < w9.heap.size := World.block_lt_of_cell? _ _ cw9_2_0
  have gw9 : Gr w w9 := by subst hhw9; have gg := gw8; have gs := gg.size; go_grown
  clear hhw9 gw8 zw8_0 cw8_0_0 cw8_0_1 zw8_1 cw8_1_0 cw8_1_1 zw8_2 cw8_2_0 fw8_2_0 cw8_2_1 fw8_2_1 cw8_2_2 fw8_2_2 cw8_2_3 fw8_2_3
  go_wp2_with fail
  rw [rounds_succ]
  go_wp2_with fail
  generalize hhw10 : (w9.setCell ⟨w.heap.size, 3, none⟩ (.int .u64 c11)) = w10
  have cw10_0_0 : w10.cell? ⟨A, 0, none⟩ = some (.int .u64 a0) := by subst hhw10; go_simp
  have cw10_0_1 : w10.cell? ⟨A, 1, none⟩ = some (.int .u64 a1) := by subst hhw10; go_simp
  have zw10_0 : A < w10.heap.size := World.block_lt_of_cell? _ _ cw10_0_0
  have cw10_1_0 : w10.cell? ⟨B, 0, none⟩ = some (.int .u64 b0) := by subst hhw10; go_simp
  have cw10_1_1 : w10.cell? ⟨B, 1, none⟩ = some (.int .u64 b1) := by subst hhw10; go_simp
  have zw10_1 : B < w10.heap.size := World.block_lt_of_cell? _ _ cw10_1_0
  have cw10_2_0 : w10.cell? ⟨w.heap.size, 0, none⟩ = some (.int .u64 o0) := by subst hhw10; go_simp
  have fw10_2_0 : w10.frozen? ⟨w.heap.size, 0, none⟩ = false := by subst hhw10; go_simp
  have cw10_2_1 : w10.cell? ⟨w.heap.size, 1, none⟩ = some (.int .u64 o1') := by subst hhw10; go_simp
  have fw10_2_1 : w10.frozen? ⟨w.heap.size, 1, none⟩ = false := by subst hhw10; go_simp
  have cw10_2_2 : w10.cell? ⟨w.heap.size, 2, none⟩ = some (.int .u64 o2) := by subst hhw10; go_simp
  have fw10_2_2 : w10.frozen? ⟨w.heap.size, 2, none⟩ = false := by subst hhw10; go_simp
  have cw10_2_3 : w10.cell? ⟨w.heap.size, 3, none⟩ = some (.int .u64 c11) := by subst hhw10; go_simp
  have fw10_2_3 : w10.frozen? ⟨w.heap.size, 3, none⟩ = false := by subst hhw10; go_simp
  have zw10_2 : w.heap.size < w10.heap.size := World.block_lt_of_cell? _ _ cw10_2_0
  have gw10 : Gr w w10 := by subst hhw10; have gg := gw9; have gs := gg.size; go_grown
  clear hhw10 gw9 zw9_0 cw9_0_0 cw9_0_1 zw9_1 cw9_1_0 cw9_1_1 zw9_2 cw9_2_0 fw9_2_0 cw9_2_1 fw9_2_1 cw9_2_2 fw9_2_2 cw9_2_3 fw9_2_3
  go_wp2_with fail
  go_ret
  exact ⟨w.heap.size, rfl, by go_simp, by go_simp, by go_simp, by go_simp, gw10⟩
end Go.Proofs.YtfamocpbmbhmbaaDoor
