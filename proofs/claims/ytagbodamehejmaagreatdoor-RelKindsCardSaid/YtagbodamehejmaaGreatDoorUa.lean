/- what queries may be: rel.queryRefusal, CheckQuery; the document's -/
import Derived.Test.YtagbodamehejmaaGreatDoorEs
namespace Go.Proofs.YtagbodamehejmaaGreatDoor
set_option linter.unusedVariables false
set_option linter.unusedSimpArgs false
open Go.ChangeShapes Go.WideShapes Go.ChangeAt Go.RowKit

/-- What a query is told. -/
def qC (k lx ly hx hy : Int) (n : Nat) (X Y : Nat → Int) : Nat :=
  if k = 1 ∨ k = 2 then boxN lx ly hx hy else if k = 3 then (if nearB lx ly = true then 0 else 2) else if k = 4 then (Rg.ringC n X Y).1 else 5
abbrev queryS : ByteArray := ⟨#[113, 117, 101, 114, 121]⟩
/-- A query: its kind, its box, its ring. -/
abbrev qryV (k lx ly hx hy : Int) (v : Value) : Value := .agg #[.int .i64 k, .int .i64 lx, .int .i64 ly, .int .i64 hx, .int .i64 hy, v]
set_option maxHeartbeats 2000000 in
set_option maxRecDepth 100000 in
theorem c_qRefusal {n : Nat} {X Y : Nat → Int} {v : Value} (k lx ly hx hy : Int) (W : World) (h : Pts W v n X Y) :
    Calls Tryz.prog 22 #[qryV k lx ly hx hy v] W (ObjTo W (qC k lx ly hx hy n X Y)) := by
  have A1 := fun w => c_CheckBox lx ly hx hy w
  have A2 := fun w => c_CheckPoint lx ly w
  have A3 : ∀ w, Gr W w → Calls Tryz.prog 36 #[v] w fun e w' => ∃ f, e = .returned f ∧ AErr ringS w' f (Rg.ringC n X Y).2 (Rg.ringC n X Y).1 ∧ Gr w w' := fun w g => c_ringCheck w (pts_gr h g)
  obtain ⟨ad, cap, B, off, rfl, _⟩ := h
  unfold qC
  generalize (Rg.ringC n X Y).1 = c at A3 ⊢
  generalize (Rg.ringC n X Y).2 = id at A3
  by_cases k12 : k = 1 ∨ k = 2
  · rw [if_pos k12]
    have E := fun w => boxN_err w lx ly hx hy
    obtain ⟨u, hu⟩ : ∃ u, u = boxErr lx ly hx hy := ⟨_, rfl⟩
    rw [← hu] at A1 E
    generalize boxN lx ly hx hy = c at E ⊢
    have H1 := Lib.hid A1
    clear A1
    have HE := Lib.hid E
    clear hu E A2 A3
    rcases k12 with rfl | rfl
    all_goals
      go_enter Tryz.func22, Tryz.ntmps22
      go_wp2_with fail
      go_at_call 37
      refine ((H1.out _)).mono ?_
      rintro e w1 ⟨rfl, hw1⟩
      have gw1 : Gr W w1 := Gr.trans (by go_grown) hw1
      clear hw1
      go_wp2_with fail
      go_ret
      exact ⟨_, rfl, HE.out _, gw1⟩
  rw [if_neg k12]
  have b1 : (k == 1) = false := by simp; omega
  have b2 : (k == 2) = false := by simp; omega
  by_cases k3 : k = 3
  · rw [if_pos k3]
    subst k3
    have E : ∀ w, OErr w (if nearB lx ly = true then .nilIface else .iface 62 (.int .i64 2)) (if nearB lx ly = true then 0 else 2) := fun w => by
      cases nearB lx ly
      · exact errno_one w 2 (by omega)
      · exact Or.inl ⟨rfl, rfl⟩
    generalize (if nearB lx ly = true then Value.nilIface else .iface 62 (.int .i64 2)) = u at A2 E
    generalize (if nearB lx ly = true then 0 else 2) = c at E ⊢
    have H2 := Lib.hid A2
    clear A2
    have HE := Lib.hid E
    clear E A1 A3 k12
    go_enter Tryz.func22, Tryz.ntmps22
    go_wp2_with fail
    go_at_call 14
    refine ((H2.out _)).mono ?_
    rintro e w1 ⟨rfl, hw1⟩
    have gw1 : Gr W w1 := Gr.trans (by go_grown) hw1
    clear hw1
    go_wp2_with fail
    go_ret
    exact ⟨_, rfl, HE.out _, gw1⟩
  rw [if_neg k3]
  have b3 : (k == 3) = false := by simp; omega
  by_cases k4 : k = 4
  · rw [if_pos k4]
    subst k4
    have H3 := Lib.hid A3
    clear A3
    clear A1 A2 k12 k3
    go_enter Tryz.func22, Tryz.ntmps22
    go_wp2_with fail
    go_at_call 36
    refine (H3.out _ (by go_grown)).mono ?_
    rintro e w1 ⟨x, rfl, hx, g1⟩
    have HX := Lib.hid hx
    clear hx
    go_wp2_with fail
    go_ret
    exact ⟨_, rfl, oerr_aerr HX.out, Gr.trans (by go_grown) g1⟩
  rw [if_neg k4]
  have b4 : (k == 4) = false := by simp; omega
  have HE := Lib.hid (fun w => errno_one w 5 (by omega))
  clear A1 A2 A3 k12 k3 k4
  go_enter Tryz.func22, Tryz.ntmps22
  go_wp2_with fail
  go_ret
  exact ⟨_, rfl, HE.out _, by go_grown⟩
set_option maxHeartbeats 2000000 in
set_option maxRecDepth 100000 in
theorem c_CheckQuery {n : Nat} {X Y : Nat → Int} {v : Value} (k lx ly hx hy : Int) (W : World) (h : Pts W v n X Y) :
    Calls Tryz.prog 12 #[qryV k lx ly hx hy v] W (WrTo queryS W k (qC k lx ly hx hy n X Y)) := by
  have A1 : ∀ w, Gr W w → Calls Tryz.prog 22 #[qryV k lx ly hx hy v] w fun e w' => ∃ u, e = .returned u ∧ OErr w' u (qC k lx ly hx hy n X Y) ∧ Gr w w' := fun w g => c_qRefusal k lx ly hx hy w (pts_gr h g)
  generalize qC k lx ly hx hy n X Y = c at A1 ⊢
  have A2 : ∀ (w : World) (u : Value), OErr w u c → Calls Tryz.prog 18 #[.string queryS, .int .i64 k, u] w fun e w' => ∃ x, e = .returned x ∧ WErr queryS w' x k c ∧ Gr w w' := fun w u hu => c_told queryS k u c w hu
  obtain ⟨ad, cap, B, off, rfl, _⟩ := h
  have H1 := Lib.hid A1
  have H2 := Lib.hid A2
  clear A1 A2
  go_enter Tryz.func12, Tryz.ntmps12
  go_wp2_with fail
  try simp only [List.append]
  refine Od.wp_region_ord [(0, false), (1, false), (2, false), (3, true), (4, true), (5, false)] (by kernel_rfl) (by kernel_rfl) ?_
  intro w0 hw0 KQ hKQ
  have cw0_0_0 : w0.cell? ⟨W.heap.size, 0, none⟩ = some (.int .i64 k) := cell_gr hw0 (by go_simp)
  have cw0_0_1 : w0.cell? ⟨W.heap.size, 1, none⟩ = some (.int .i64 lx) := cell_gr hw0 (by go_simp)
  have cw0_0_2 : w0.cell? ⟨W.heap.size, 2, none⟩ = some (.int .i64 ly) := cell_gr hw0 (by go_simp)
  have cw0_0_3 : w0.cell? ⟨W.heap.size, 3, none⟩ = some (.int .i64 hx) := cell_gr hw0 (by go_simp)
  have cw0_0_4 : w0.cell? ⟨W.heap.size, 4, none⟩ = some (.int .i64 hy) := cell_gr hw0 (by go_simp)
  have cw0_0_5 : w0.cell? ⟨W.heap.size, 5, none⟩ = some (.slice ad n cap) := cell_gr hw0 (by go_simp)
  have zw0_0 : W.heap.size < w0.heap.size := World.block_lt_of_cell? _ _ cw0_0_0
  have gw0 : Gr W w0 := Gr.trans (by go_grown) hw0
  skip
  clear hw0
  repeat (first | (refine Od.wpO_skip (by simp only [List.getElem?_toArray, List.getElem?_cons_succ, List.getElem?_cons_zero] <;> rfl) rfl ?_; simp only [Act.put, List.setIfInBounds_toArray, List.set_cons_zero, List.set_cons_succ]) | (refine Od.wpO_pure (by simp only [List.getElem?_toArray, List.getElem?_cons_succ, List.getElem?_cons_zero] <;> rfl) rfl ?_; apply Exists.intro; refine ⟨?_, ?_⟩; (· intro wx gx; obtain ⟨mx, rfl⟩ := spread_of_gr gx; clear gx; all_goals (apply Od.pAt_of_quiet; intro K hK; go_big_quiet_op; first | exact hK _ rfl | (apply Exists.intro; refine ⟨fun _ => ?_, ?_⟩; (· fail); exact hK _ rfl))); try simp only [Act.put, List.setIfInBounds_toArray, List.set_cons_zero, List.set_cons_succ]))
  refine Od.wpO_call (by simp only [List.getElem?_toArray, List.getElem?_cons_succ, List.getElem?_cons_zero] <;> rfl) rfl ?_
  intro QS hQS
  go_wp2_with fail
  go_at_call 22
  (with_reducible refine ((H1.out _ gw0)).mono ?_)
  rintro e w1 ⟨u, rfl, hu, hw1⟩
  go_wp2_with fail
  apply Exists.intro
  refine ⟨?_, hw1, ?_⟩
  · simp only [Act.put, List.setIfInBounds_toArray, List.set_cons_zero, List.set_cons_succ]; rfl
  have cw1_0_0 : w1.cell? ⟨W.heap.size, 0, none⟩ = some (.int .i64 k) := cell_gr hw1 (by go_simp)
  have cw1_0_1 : w1.cell? ⟨W.heap.size, 1, none⟩ = some (.int .i64 lx) := cell_gr hw1 (by go_simp)
  have cw1_0_2 : w1.cell? ⟨W.heap.size, 2, none⟩ = some (.int .i64 ly) := cell_gr hw1 (by go_simp)
  have cw1_0_3 : w1.cell? ⟨W.heap.size, 3, none⟩ = some (.int .i64 hx) := cell_gr hw1 (by go_simp)
  have cw1_0_4 : w1.cell? ⟨W.heap.size, 4, none⟩ = some (.int .i64 hy) := cell_gr hw1 (by go_simp)
  have cw1_0_5 : w1.cell? ⟨W.heap.size, 5, none⟩ = some (.slice ad n cap) := cell_gr hw1 (by go_simp)
  have zw1_0 : W.heap.size < w1.heap.size := World.block_lt_of_cell? _ _ cw1_0_0
  have gw1 : Gr W w1 := Gr.trans (by have gg := gw0; have gs := gg.size; go_grown) hw1
  clear gw0 zw0_0 cw0_0_0 cw0_0_1 cw0_0_2 cw0_0_3 cw0_0_4 cw0_0_5
  clear hw1
  try simp only [Act.put, List.setIfInBounds_toArray, List.set_cons_zero, List.set_cons_succ]
  repeat (first | (refine Od.wpO_skip (by simp only [List.getElem?_toArray, List.getElem?_cons_succ, List.getElem?_cons_zero] <;> rfl) rfl ?_; simp only [Act.put, List.setIfInBounds_toArray, List.set_cons_zero, List.set_cons_succ]) | (refine Od.wpO_pure (by simp only [List.getElem?_toArray, List.getElem?_cons_succ, List.getElem?_cons_zero] <;> rfl) rfl ?_; apply Exists.intro; refine ⟨?_, ?_⟩; (· intro wx gx; obtain ⟨mx, rfl⟩ := spread_of_gr gx; clear gx; all_goals (apply Od.pAt_of_quiet; intro K hK; go_big_quiet_op; first | exact hK _ rfl | (apply Exists.intro; refine ⟨fun _ => ?_, ?_⟩; (· fail); exact hK _ rfl))); try simp only [Act.put, List.setIfInBounds_toArray, List.set_cons_zero, List.set_cons_succ]))
  refine Od.wpO_call (by simp only [List.getElem?_toArray, List.getElem?_cons_succ, List.getElem?_cons_zero] <;> rfl) rfl ?_
  intro QS hQS
  go_wp2_with fail
  go_at_call 18
  (with_reducible refine ((H2.out _ _ hu)).mono ?_)
  rintro e w2 ⟨x, rfl, hz, hw2⟩
  go_wp2_with fail
  apply Exists.intro
  refine ⟨?_, hw2, ?_⟩
  · simp only [Act.put, List.setIfInBounds_toArray, List.set_cons_zero, List.set_cons_succ]; rfl
  have cw2_0_0 : w2.cell? ⟨W.heap.size, 0, none⟩ = some (.int .i64 k) := cell_gr hw2 (by go_simp)
  have cw2_0_1 : w2.cell? ⟨W.heap.size, 1, none⟩ = some (.int .i64 lx) := cell_gr hw2 (by go_simp)
  have cw2_0_2 : w2.cell? ⟨W.heap.size, 2, none⟩ = some (.int .i64 ly) := cell_gr hw2 (by go_simp)
  have cw2_0_3 : w2.cell? ⟨W.heap.size, 3, none⟩ = some (.int .i64 hx) := cell_gr hw2 (by go_simp)
  have cw2_0_4 : w2.cell? ⟨W.heap.size, 4, none⟩ = some (.int .i64 hy) := cell_gr hw2 (by go_simp)
  have cw2_0_5 : w2.cell? ⟨W.heap.size, 5, none⟩ = some (.slice ad n cap) := cell_gr hw2 (by go_simp)
  have zw2_0 : W.heap.size < w2.heap.size := World.block_lt_of_cell? _ _ cw2_0_0
  have gw2 : Gr W w2 := Gr.trans (by have gg := gw1; have gs := gg.size; go_grown) hw2
  clear gw1 zw1_0 cw1_0_0 cw1_0_1 cw1_0_2 cw1_0_3 cw1_0_4 cw1_0_5
  clear hw2
  try simp only [Act.put, List.setIfInBounds_toArray, List.set_cons_zero, List.set_cons_succ]
  repeat (first | (refine Od.wpO_skip (by simp only [List.getElem?_toArray, List.getElem?_cons_succ, List.getElem?_cons_zero] <;> rfl) rfl ?_; simp only [Act.put, List.setIfInBounds_toArray, List.set_cons_zero, List.set_cons_succ]) | (refine Od.wpO_pure (by simp only [List.getElem?_toArray, List.getElem?_cons_succ, List.getElem?_cons_zero] <;> rfl) rfl ?_; apply Exists.intro; refine ⟨?_, ?_⟩; (· intro wx gx; obtain ⟨mx, rfl⟩ := spread_of_gr gx; clear gx; all_goals (apply Od.pAt_of_quiet; intro K hK; go_big_quiet_op; first | exact hK _ rfl | (apply Exists.intro; refine ⟨fun _ => ?_, ?_⟩; (· fail); exact hK _ rfl))); try simp only [Act.put, List.setIfInBounds_toArray, List.set_cons_zero, List.set_cons_succ]))
  refine Od.wpO_nil (hKQ _ _ ?_)
  clear hKQ KQ
  have HX := Lib.hid hz
  clear hz
  go_wp2_with fail
  go_ret
  exact ⟨_, rfl, HX.out, gw2⟩
end Go.Proofs.YtagbodamehejmaaGreatDoor
