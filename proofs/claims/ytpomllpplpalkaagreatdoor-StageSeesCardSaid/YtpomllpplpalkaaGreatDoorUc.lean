import Derived.Test.YtpomllpplpalkaaGreatDoorEs
import Derived.Test.YtpomllpplpalkaaGreatDoorZo
import Derived.Test.YtpomllpplpalkaaGreatDoorZa
import Derived.Test.YtpomllpplpalkaaGreatDoorGo
/- what queries may be: rel.queryRefusal, CheckQuery; the document's -/
namespace Go.Proofs.YtpomllpplpalkaaGreatDoor
set_option linter.unusedVariables false
set_option linter.unusedSimpArgs false
open Go.ChangeShapes Go.WideShapes Go.ChangeAt Go.RowKit

def qC (k lx ly hx hy : Int) (n : Nat) (X Y : Nat → Int) : Nat :=
  if k = 1 ∨ k = 2 then boxN lx ly hx hy else if k = 3 then (if nearB lx ly = true then 0 else 2) else if k = 4 then (Rg.ringC n X Y).1 else 5
abbrev queryS : ByteArray := ⟨#[113, 117, 101, 114, 121]⟩
abbrev qryV (k lx ly hx hy : Int) (v : Value) : Value := .agg #[.int .i64 k, .int .i64 lx, .int .i64 ly, .int .i64 hx, .int .i64 hy, v]
set_option maxHeartbeats 2000000 in
set_option maxRecDepth 100000 in
theorem c_qRefusal {n : Nat} {X Y : Nat → Int} {v : Value} (k lx ly hx hy : Int) (W : World) (h : Pts W v n X Y) :
    Calls Tryz.prog 108 #[qryV k lx ly hx hy v] W (ObjTo W (qC k lx ly hx hy n X Y)) := by
  have A1 := fun w => c_CheckBox lx ly hx hy w
  have A2 := fun w => c_CheckPoint lx ly w
  have A3 : ∀ w, Gr W w → Calls Tryz.prog 149 #[v] w fun e w' => ∃ f, e = .returned f ∧ AErr ringS w' f (Rg.ringC n X Y).2 (Rg.ringC n X Y).1 ∧ Gr w w' := fun w g => c_ringCheck w (pts_gr h g)
  obtain ⟨ad, cap, B, off, rfl, _⟩ := h
  unfold qC
  generalize (Rg.ringC n X Y).1 = c at A3 ⊢
  generalize (Rg.ringC n X Y).2 = id at A3
  by_cases k12 : k = 1 ∨ k = 2
  · rw [if_pos k12]
    have E := fun w => boxN_err w lx ly hx hy
    obtain ⟨u, hu⟩ : ∃ u, u = boxErr lx ly hx hy := ⟨_, rfl⟩
    rw [← hu] at A1 E
    generalize boxN lx ly hx hy = c at E ⊢
    have H1 := Lib.hid A1
    clear A1
    have HE := Lib.hid E
    clear hu E A2 A3
    rcases k12 with rfl | rfl
    all_goals
      go_enter Tryz.func108, Tryz.ntmps108
      go_wp2_with fail
      go_at_call 148
      refine ((H1.out _)).mono ?_
      rintro e w1 ⟨rfl, hw1⟩
      have gw1 : Gr W w1 := Gr.trans (by go_grown) hw1
      clear hw1
      go_wp2_with fail
      go_ret
      exact ⟨_, rfl, HE.out _, gw1⟩
  rw [if_neg k12]
  have b1 : (k == 1) = false := by simp; omega
  have b2 : (k == 2) = false := by simp; omega
  by_cases k3 : k = 3
  · rw [if_pos k3]
    subst k3
    have E : ∀ w, OErr w (if nearB lx ly = true then .nilIface else .iface 107 (.int .i64 2)) (if nearB lx ly = true then 0 else 2) := fun w => by
      cases nearB lx ly
      · exact errno_one w 2 (by omega)
      · exact Or.inl ⟨rfl, rfl⟩
    generalize (if nearB lx ly = true then Value.nilIface else .iface 107 (.int .i64 2)) = u at A2 E
    generalize (if nearB lx ly = true then 0 else 2) = c at E ⊢
    have H2 := Lib.hid A2
    clear A2
    have HE := Lib.hid E
    clear E A1 A3 k12
    go_enter Tryz.func108, Tryz.ntmps108
    go_wp2_with fail
    go_at_call 79
    refine ((H2.out _)).mono ?_
    rintro e w1 ⟨rfl, hw1⟩
    have gw1 : Gr W w1 := Gr.trans (by go_grown) hw1
    clear hw1
    go_wp2_with fail
    go_ret
    exact ⟨_, rfl, HE.out _, gw1⟩
  rw [if_neg k3]
  have b3 : (k == 3) = false := by simp; omega
  by_cases k4 : k = 4
  · rw [if_pos k4]
    subst k4
    have H3 := Lib.hid A3
    clear A3
    clear A1 A2 k12 k3
    go_enter Tryz.func108, Tryz.ntmps108
    go_wp2_with fail
    go_at_call 149
    refine (H3.out _ (by go_grown)).mono ?_
    rintro e w1 ⟨x, rfl, hx, g1⟩
    have HX := Lib.hid hx
    clear hx
    go_wp2_with fail
    go_ret
    exact ⟨_, rfl, oerr_aerr HX.out, Gr.trans (by go_grown) g1⟩
  rw [if_neg k4]
  have b4 : (k == 4) = false := by simp; omega
  have HE := Lib.hid (fun w => errno_one w 5 (by omega))
  clear A1 A2 A3 k12 k3 k4
  go_enter Tryz.func108, Tryz.ntmps108
  go_wp2_with fail
  go_ret
  exact ⟨_, rfl, HE.out _, by go_grown⟩
set_option maxHeartbeats 2000000 in
set_option maxRecDepth 100000 in
theorem c_CheckQuery {n : Nat} {X Y : Nat → Int} {v : Value} (k lx ly hx hy : Int) (W : World) (h : Pts W v n X Y) :
    Calls Tryz.prog 73 #[qryV k lx ly hx hy v] W (WrTo queryS W k (qC k lx ly hx hy n X Y)) := by
  have A1 : ∀ w, Gr W w → Calls Tryz.prog 108 #[qryV k lx ly hx hy v] w fun e w' => ∃ u, e = .returned u ∧ OErr w' u (qC k lx ly hx hy n X Y) ∧ Gr w w' := fun w g => c_qRefusal k lx ly hx hy w (pts_gr h g)
  generalize qC k lx ly hx hy n X Y = c at A1 ⊢
  have A2 : ∀ (w : World) (u : Value), OErr w u c → Calls Tryz.prog 107 #[.string queryS, .int .i64 k, u] w fun e w' => ∃ x, e = .returned x ∧ WErr queryS w' x k c ∧ Gr w w' := fun w u hu => c_told queryS k u c w hu
  obtain ⟨ad, cap, B, off, rfl, _⟩ := h
  have H1 := Lib.hid A1
  have H2 := Lib.hid A2
  clear A1 A2
  go_enter Tryz.func73, Tryz.ntmps73
  go_wp2_with fail
  try simp only [List.append]
  refine Od.wp_region_ord [(0, false), (1, false), (2, false), (3, true), (4, true), (5, false)] (by kernel_rfl) (by kernel_rfl) ?_
  intro w0 hw0 KQ hKQ
  have cw0_0_0 : w0.cell? ⟨W.heap.size, 0, none⟩ = some (.int .i64 k) := cell_gr hw0 (by go_simp)
  have cw0_0_1 : w0.cell? ⟨W.heap.size, 1, none⟩ = some (.int .i64 lx) := cell_gr hw0 (by go_simp)
  have cw0_0_2 : w0.cell? ⟨W.heap.size, 2, none⟩ = some (.int .i64 ly) := cell_gr hw0 (by go_simp)
  have cw0_0_3 : w0.cell? ⟨W.heap.size, 3, none⟩ = some (.int .i64 hx) := cell_gr hw0 (by go_simp)
  have cw0_0_4 : w0.cell? ⟨W.heap.size, 4, none⟩ = some (.int .i64 hy) := cell_gr hw0 (by go_simp)
  have cw0_0_5 : w0.cell? ⟨W.heap.size, 5, none⟩ = some (.slice ad n cap) := cell_gr hw0 (by go_simp)
  have zw0_0 : W.heap.size < w0.heap.size := World.block_lt_of_cell? _ _ cw0_0_0
  have gw0 : Gr W w0 := Gr.trans (by go_grown) hw0
  skip
  clear hw0
  repeat (first | (refine Od.wpO_skip (by simp only [List.getElem?_toArray, List.getElem?_cons_succ, List.getElem?_cons_zero] <;> rfl) rfl ?_; simp only [Act.put, List.setIfInBounds_toArray, List.set_cons_zero, List.set_cons_succ]) | (refine Od.wpO_pure (by simp only [List.getElem?_toArray, List.getElem?_cons_succ, List.getElem?_cons_zero] <;> rfl) rfl ?_; apply Exists.intro; refine ⟨?_, ?_⟩; (· intro wx gx; obtain ⟨mx, rfl⟩ := spread_of_gr gx; clear gx; all_goals (apply Od.pAt_of_quiet; intro K hK; go_big_quiet_op; first | exact hK _ rfl | (apply Exists.intro; refine ⟨fun _ => ?_, ?_⟩; (· fail); exact hK _ rfl))); try simp only [Act.put, List.setIfInBounds_toArray, List.set_cons_zero, List.set_cons_succ]))
  refine Od.wpO_call (by simp only [List.getElem?_toArray, List.getElem?_cons_succ, List.getElem?_cons_zero] <;> rfl) rfl ?_
  intro QS hQS
  go_wp2_with fail
  go_at_call 108
  (with_reducible refine ((H1.out _ gw0)).mono ?_)
  rintro e w1 ⟨u, rfl, hu, hw1⟩
  go_wp2_with fail
  apply Exists.intro
  refine ⟨?_, hw1, ?_⟩
  · simp only [Act.put, List.setIfInBounds_toArray, List.set_cons_zero, List.set_cons_succ]; rfl
  have cw1_0_0 : w1.cell? ⟨W.heap.size, 0, none⟩ = some (.int .i64 k) := cell_gr hw1 (by go_simp)
  have cw1_0_1 : w1.cell? ⟨W.heap.size, 1, none⟩ = some (.int .i64 lx) := cell_gr hw1 (by go_simp)
  have cw1_0_2 : w1.cell? ⟨W.heap.size, 2, none⟩ = some (.int .i64 ly) := cell_gr hw1 (by go_simp)
  have cw1_0_3 : w1.cell? ⟨W.heap.size, 3, none⟩ = some (.int .i64 hx) := cell_gr hw1 (by go_simp)
  have cw1_0_4 : w1.cell? ⟨W.heap.size, 4, none⟩ = some (.int .i64 hy) := cell_gr hw1 (by go_simp)
  have cw1_0_5 : w1.cell? ⟨W.heap.size, 5, none⟩ = some (.slice ad n cap) := cell_gr hw1 (by go_simp)
  have zw1_0 : W.heap.size < w1.heap.size := World.block_lt_of_cell? _ _ cw1_0_0
  have gw1 : Gr W w1 := Gr.trans (by have gg := gw0; have gs := gg.size; go_grown) hw1
  clear gw0 zw0_0 cw0_0_0 cw0_0_1 cw0_0_2 cw0_0_3 cw0_0_4 cw0_0_5
  clear hw1
  try simp only [Act.put, List.setIfInBounds_toArray, List.set_cons_zero, List.set_cons_succ]
  repeat (first | (refine Od.wpO_skip (by simp only [List.getElem?_toArray, List.getElem?_cons_succ, List.getElem?_cons_zero] <;> rfl) rfl ?_; simp only [Act.put, List.setIfInBounds_toArray, List.set_cons_zero, List.set_cons_succ]) | (refine Od.wpO_pure (by simp only [List.getElem?_toArray, List.getElem?_cons_succ, List.getElem?_cons_zero] <;> rfl) rfl ?_; apply Exists.intro; refine ⟨?_, ?_⟩; (· intro wx gx; obtain ⟨mx, rfl⟩ := spread_of_gr gx; clear gx; all_goals (apply Od.pAt_of_quiet; intro K hK; go_big_quiet_op; first | exact hK _ rfl | (apply Exists.intro; refine ⟨fun _ => ?_, ?_⟩; (· fail); exact hK _ rfl))); try simp only [Act.put, List.setIfInBounds_toArray, List.set_cons_zero, List.set_cons_succ]))
  refine Od.wpO_call (by simp only [List.getElem?_toArray, List.getElem?_cons_succ, List.getElem?_cons_zero] <;> rfl) rfl ?_
  intro QS hQS
  go_wp2_with fail
  go_at_call 107
  (with_reducible refine ((H2.out _ _ hu)).mono ?_)
  rintro e w2 ⟨x, rfl, hz, hw2⟩
  go_wp2_with fail
  apply Exists.intro
  refine ⟨?_, hw2, ?_⟩
  · simp only [Act.put, List.setIfInBounds_toArray, List.set_cons_zero, List.set_cons_succ]; rfl
  have cw2_0_0 : w2.cell? ⟨W.heap.size, 0, none⟩ = some (.int .i64 k) := cell_gr hw2 (by go_simp)
  have cw2_0_1 : w2.cell? ⟨W.heap.size, 1, none⟩ = some (.int .i64 lx) := cell_gr hw2 (by go_simp)
  have cw2_0_2 : w2.cell? ⟨W.heap.size, 2, none⟩ = some (.int .i64 ly) := cell_gr hw2 (by go_simp)
  have cw2_0_3 : w2.cell? ⟨W.heap.size, 3, none⟩ = some (.int .i64 hx) := cell_gr hw2 (by go_simp)
  have cw2_0_4 : w2.cell? ⟨W.heap.size, 4, none⟩ = some (.int .i64 hy) := cell_gr hw2 (by go_simp)
  have cw2_0_5 : w2.cell? ⟨W.heap.size, 5, none⟩ = some (.slice ad n cap) := cell_gr hw2 (by go_simp)
  have zw2_0 : W.heap.size < w2.heap.size := World.block_lt_of_cell? _ _ cw2_0_0
  have gw2 : Gr W w2 := Gr.trans (by have gg := gw1; have gs := gg.size; go_grown) hw2
  clear gw1 zw1_0 cw1_0_0 cw1_0_1 cw1_0_2 cw1_0_3 cw1_0_4 cw1_0_5
  clear hw2
  try simp only [Act.put, List.setIfInBounds_toArray, List.set_cons_zero, List.set_cons_succ]
  repeat (first | (refine Od.wpO_skip (by simp only [List.getElem?_toArray, List.getElem?_cons_succ, List.getElem?_cons_zero] <;> rfl) rfl ?_; simp only [Act.put, List.setIfInBounds_toArray, List.set_cons_zero, List.set_cons_succ]) | (refine Od.wpO_pure (by simp only [List.getElem?_toArray, List.getElem?_cons_succ, List.getElem?_cons_zero] <;> rfl) rfl ?_; apply Exists.intro; refine ⟨?_, ?_⟩; (· intro wx gx; obtain ⟨mx, rfl⟩ := spread_of_gr gx; clear gx; all_goals (apply Od.pAt_of_quiet; intro K hK; go_big_quiet_op; first | exact hK _ rfl | (apply Exists.intro; refine ⟨fun _ => ?_, ?_⟩; (· fail); exact hK _ rfl))); try simp only [Act.put, List.setIfInBounds_toArray, List.set_cons_zero, List.set_cons_succ]))
  refine Od.wpO_nil (hKQ _ _ ?_)
  clear hKQ KQ
  have HX := Lib.hid hz
  clear hz
  go_wp2_with fail
  go_ret
  exact ⟨_, rfl, HX.out, gw2⟩
end Go.Proofs.YtpomllpplpalkaaGreatDoor
/- MeetsBox of any segment and box; the document's -/
namespace Go.Proofs.YtpomllpplpalkaaGreatDoor
set_option linter.unusedVariables false
open Go.ChangeShapes Go.WideShapes Go.ChangeAt Go.RowKit

def ovB (lx ly hx hy ax ay bx by' : Int) : Bool := decide (minZ ax bx ≤ hx) && decide (lx ≤ maxZ ax bx) && decide (minZ ay by' ≤ hy) && decide (ly ≤ maxZ ay by')
def mbF (ax ay bx by' lx ly hx hy : Int) : Bool := ovB lx ly hx hy ax ay bx by' && (inB lx ly hx hy ax ay || inB lx ly hx hy bx by' || diF lx ly hx hy ax ay bx by')
def mbG (ax ay bx by' lx ly hx hy : Int) : Bool := nearB ax ay && nearB bx by' && boxB lx ly hx hy && mbF ax ay bx by' lx ly hx hy
set_option maxHeartbeats 4000000 in
set_option maxRecDepth 100000 in
theorem gmb_no (ax ay bx by' lx ly hx hy k : Int) (q : Bool) (ev : Value) (W : World) (hc : q = false ∨ (q = true ∧ ev = .iface 107 (.int .i64 k)))
    (A1 : ∀ b w, b < w.heap.size → w.cell? ⟨b, 0, none⟩ = some (.int .i64 ax) → w.cell? ⟨b, 1, none⟩ = some (.int .i64 ay) → w.cell? ⟨b, 2, none⟩ = some (.int .i64 bx) → w.cell? ⟨b, 3, none⟩ = some (.int .i64 by') →
      Calls Tryz.prog 164 #[.slice (some ⟨b, 0, none⟩) 2 2] w fun e w' => e = .returned (.bool q) ∧ Gr w w')
    (A2 : ∀ w, Calls Tryz.prog 148 #[.agg #[.int .i64 lx, .int .i64 ly, .int .i64 hx, .int .i64 hy]] w fun e w' => e = .returned (ev) ∧ Gr w w') :
    Calls Tryz.prog 201 #[.agg #[.int .i64 ax, .int .i64 ay], .agg #[.int .i64 bx, .int .i64 by'], .agg #[.int .i64 lx, .int .i64 ly, .int .i64 hx, .int .i64 hy]] W fun e w' => e = .returned (.bool false) ∧ Gr W w' := by
  have H1 := Lib.hid A1
  have H2 := Lib.hid A2
  clear A1 A2
  rcases hc with rfl | ⟨rfl, rfl⟩
  · go_enter Tryz.func201, Tryz.ntmps201
    go_wp2_with fail
    go_at_call 164
    refine ((H1.out _ _ (by go_simp) (by go_simp) (by go_simp) (by go_simp) (by go_simp))).mono ?_
    rintro e w1 ⟨rfl, hw1⟩
    have cw1_0_0 : w1.cell? ⟨W.heap.size, 0, none⟩ = some (.int .i64 ax) := cell_gr hw1 (by go_simp)
    have cw1_0_1 : w1.cell? ⟨W.heap.size, 1, none⟩ = some (.int .i64 ay) := cell_gr hw1 (by go_simp)
    have zw1_0 : W.heap.size < w1.heap.size := World.block_lt_of_cell? _ _ cw1_0_0
    have cw1_1_0 : w1.cell? ⟨W.heap.size + 1, 0, none⟩ = some (.int .i64 bx) := cell_gr hw1 (by go_simp)
    have cw1_1_1 : w1.cell? ⟨W.heap.size + 1, 1, none⟩ = some (.int .i64 by') := cell_gr hw1 (by go_simp)
    have zw1_1 : W.heap.size + 1 < w1.heap.size := World.block_lt_of_cell? _ _ cw1_1_0
    have cw1_2_0 : w1.cell? ⟨W.heap.size + 1 + 1, 0, none⟩ = some (.int .i64 lx) := cell_gr hw1 (by go_simp)
    have cw1_2_1 : w1.cell? ⟨W.heap.size + 1 + 1, 1, none⟩ = some (.int .i64 ly) := cell_gr hw1 (by go_simp)
    have cw1_2_2 : w1.cell? ⟨W.heap.size + 1 + 1, 2, none⟩ = some (.int .i64 hx) := cell_gr hw1 (by go_simp)
    have cw1_2_3 : w1.cell? ⟨W.heap.size + 1 + 1, 3, none⟩ = some (.int .i64 hy) := cell_gr hw1 (by go_simp)
    have zw1_2 : W.heap.size + 1 + 1 < w1.heap.size := World.block_lt_of_cell? _ _ cw1_2_0
    have gw1 : Gr W w1 := Gr.trans (by go_grown) hw1
    clear hw1
    go_wp2_with fail
    go_ret
    exact ⟨rfl, by go_grown⟩
  · go_enter Tryz.func201, Tryz.ntmps201
    go_wp2_with fail
    go_at_call 164
    refine ((H1.out _ _ (by go_simp) (by go_simp) (by go_simp) (by go_simp) (by go_simp))).mono ?_
    rintro e w1 ⟨rfl, hw1⟩
    have cw1_0_0 : w1.cell? ⟨W.heap.size, 0, none⟩ = some (.int .i64 ax) := cell_gr hw1 (by go_simp)
    have cw1_0_1 : w1.cell? ⟨W.heap.size, 1, none⟩ = some (.int .i64 ay) := cell_gr hw1 (by go_simp)
    have zw1_0 : W.heap.size < w1.heap.size := World.block_lt_of_cell? _ _ cw1_0_0
    have cw1_1_0 : w1.cell? ⟨W.heap.size + 1, 0, none⟩ = some (.int .i64 bx) := cell_gr hw1 (by go_simp)
    have cw1_1_1 : w1.cell? ⟨W.heap.size + 1, 1, none⟩ = some (.int .i64 by') := cell_gr hw1 (by go_simp)
    have zw1_1 : W.heap.size + 1 < w1.heap.size := World.block_lt_of_cell? _ _ cw1_1_0
    have cw1_2_0 : w1.cell? ⟨W.heap.size + 1 + 1, 0, none⟩ = some (.int .i64 lx) := cell_gr hw1 (by go_simp)
    have cw1_2_1 : w1.cell? ⟨W.heap.size + 1 + 1, 1, none⟩ = some (.int .i64 ly) := cell_gr hw1 (by go_simp)
    have cw1_2_2 : w1.cell? ⟨W.heap.size + 1 + 1, 2, none⟩ = some (.int .i64 hx) := cell_gr hw1 (by go_simp)
    have cw1_2_3 : w1.cell? ⟨W.heap.size + 1 + 1, 3, none⟩ = some (.int .i64 hy) := cell_gr hw1 (by go_simp)
    have zw1_2 : W.heap.size + 1 + 1 < w1.heap.size := World.block_lt_of_cell? _ _ cw1_2_0
    have gw1 : Gr W w1 := Gr.trans (by go_grown) hw1
    clear hw1
    go_wp2_with fail
    go_at_call 148
    refine ((H2.out _)).mono ?_
    rintro e w2 ⟨rfl, hw2⟩
    have cw2_0_0 : w2.cell? ⟨W.heap.size, 0, none⟩ = some (.int .i64 ax) := cell_gr hw2 (by go_simp)
    have cw2_0_1 : w2.cell? ⟨W.heap.size, 1, none⟩ = some (.int .i64 ay) := cell_gr hw2 (by go_simp)
    have zw2_0 : W.heap.size < w2.heap.size := World.block_lt_of_cell? _ _ cw2_0_0
    have cw2_1_0 : w2.cell? ⟨W.heap.size + 1, 0, none⟩ = some (.int .i64 bx) := cell_gr hw2 (by go_simp)
    have cw2_1_1 : w2.cell? ⟨W.heap.size + 1, 1, none⟩ = some (.int .i64 by') := cell_gr hw2 (by go_simp)
    have zw2_1 : W.heap.size + 1 < w2.heap.size := World.block_lt_of_cell? _ _ cw2_1_0
    have cw2_2_0 : w2.cell? ⟨W.heap.size + 1 + 1, 0, none⟩ = some (.int .i64 lx) := cell_gr hw2 (by go_simp)
    have cw2_2_1 : w2.cell? ⟨W.heap.size + 1 + 1, 1, none⟩ = some (.int .i64 ly) := cell_gr hw2 (by go_simp)
    have cw2_2_2 : w2.cell? ⟨W.heap.size + 1 + 1, 2, none⟩ = some (.int .i64 hx) := cell_gr hw2 (by go_simp)
    have cw2_2_3 : w2.cell? ⟨W.heap.size + 1 + 1, 3, none⟩ = some (.int .i64 hy) := cell_gr hw2 (by go_simp)
    have zw2_2 : W.heap.size + 1 + 1 < w2.heap.size := World.block_lt_of_cell? _ _ cw2_2_0
    have gw2 : Gr W w2 := Gr.trans (by have gg := gw1; have gs := gg.size; go_grown) hw2
    clear hw2 gw1 zw1_0 cw1_0_0 cw1_0_1 zw1_1 cw1_1_0 cw1_1_1 zw1_2 cw1_2_0 cw1_2_1 cw1_2_2 cw1_2_3
    go_wp2_with fail
    go_ret
    exact ⟨rfl, by go_grown⟩
theorem c_gMeetsBox (ax ay bx by' lx ly hx hy : Int) (W : World) : Calls Tryz.prog 201 #[.agg #[.int .i64 ax, .int .i64 ay], .agg #[.int .i64 bx, .int .i64 by'], .agg #[.int .i64 lx, .int .i64 ly, .int .i64 hx, .int .i64 hy]] W fun e w' => e = .returned (.bool (mbG ax ay bx by' lx ly hx hy)) ∧ Gr W w' := by
  have A1 := fun b w => c_gMayBe2 ax ay bx by' _ rfl b w
  have A2 := c_CheckBox lx ly hx hy
  unfold mbG
  cases hq : (nearB ax ay && nearB bx by')
  · rw [hq] at A1
    rw [Bool.false_and, Bool.false_and]
    exact gmb_no ax ay bx by' lx ly hx hy 0 false _ W (Or.inl rfl) A1 A2
  · rw [hq] at A1
    cases hb : boxB lx ly hx hy
    · obtain ⟨k, hk⟩ := boxErr_false hb
      rw [Bool.and_false, Bool.false_and]
      exact gmb_no ax ay bx by' lx ly hx hy k true _ W (Or.inr ⟨rfl, hk⟩) A1 A2
    · rw [boxErr_true hb] at A2
      have hn : nearB ax ay = true ∧ nearB bx by' = true := by simpa using hq
      have ha : boxB ax ay ax ay = true := by rw [boxB_iff]; exact ⟨⟨hn.1, hn.1⟩, by omega, by omega⟩
      have hb2 : boxB bx by' bx by' = true := by rw [boxB_iff]; exact ⟨⟨hn.2, hn.2⟩, by omega, by omega⟩
      have hj := box_join ha hb2
      have hbn := (boxB_iff.1 hb).1
      have A3 := fun b w => c_Around2 ax ay bx by' b w
      have A4 := c_Meets (minZ ax bx) (minZ ay by') (maxZ ax bx) (maxZ ay by') lx ly hx hy
      rw [hj, hb] at A4
      have A5 := c_Has lx ly hx hy ax ay
      have A6 := c_Has lx ly hx hy bx by'
      rw [hb, hn.1] at A5
      rw [hb, hn.2] at A6
      simp only [Bool.true_and] at A4 A5 A6
      have A7 := c_gMeet ax ay bx by' lx ly hx hy
      have A8 := c_gMeet ax ay bx by' lx hy hx ly
      have g1 : nearB lx hy = true := by
        have n1 := nearB_iff.1 hbn.1
        have n2 := nearB_iff.1 hbn.2
        rw [nearB_iff]; omega
      have g2 : nearB hx ly = true := by
        have n1 := nearB_iff.1 hbn.1
        have n2 := nearB_iff.1 hbn.2
        rw [nearB_iff]; omega
      rw [show meG ax ay bx by' lx ly hx hy = meF ax ay bx by' lx ly hx hy by unfold meG all4; rw [hn.1, hn.2, hbn.1, hbn.2]; rfl] at A7
      rw [show meG ax ay bx by' lx hy hx ly = meF ax ay bx by' lx hy hx ly by unfold meG all4; rw [hn.1, hn.2, g1, g2]; rfl] at A8
      simp only [Bool.true_and]
      refine gmb_in ax ay bx by' lx ly hx hy _ _ _ _ _ _ _ _ _ _ _ W ?_ rfl A1 A2 A3 A4 A5 A6 A7 A8
      unfold mbF ovB diF
      generalize (decide (minZ ax bx ≤ hx) && decide (lx ≤ maxZ ax bx) && decide (minZ ay by' ≤ hy) && decide (ly ≤ maxZ ay by')) = m
      generalize inB lx ly hx hy ax ay = h1
      generalize inB lx ly hx hy bx by' = h2
      generalize meF ax ay bx by' lx ly hx hy = k1
      generalize meF ax ay bx by' lx hy hx ly = k2
      cases m <;> cases h1 <;> cases h2 <;> cases k1 <;> simp

end Go.Proofs.YtpomllpplpalkaaGreatDoor
/- rel.ringMeetsBox: a ring and a box -/
namespace Go.Proofs.YtpomllpplpalkaaGreatDoor
set_option linter.unusedVariables false
open Go.ChangeShapes Go.WideShapes Go.ChangeAt Go.RowKit Go.Shelf
attribute [local go_sem] Oper.semAt_some

def Box4 (W : World) (B : Nat) (x y z u : Int) : Prop := W.heap[B]? = some (.cells #[.int .i64 x, .int .i64 y, .int .i64 z, .int .i64 u] 60 (0, 0))
theorem Box4.lt {W : World} {B : Nat} {x y z u : Int} (h : Box4 W B x y z u) : B < W.heap.size := (Array.getElem?_eq_some_iff.1 h).1
theorem Box4.cells {W : World} {B : Nat} {x y z u : Int} (h : Box4 W B x y z u) : W.cell? ⟨B, 0, none⟩ = some (.int .i64 x) ∧ W.cell? ⟨B, 1, none⟩ = some (.int .i64 y) ∧ W.cell? ⟨B, 2, none⟩ = some (.int .i64 z) ∧ W.cell? ⟨B, 3, none⟩ = some (.int .i64 u) := by
  refine ⟨?_, ?_, ?_, ?_⟩ <;> simp [World.cell?, show W.heap[B]? = _ from h]
theorem Box4.kept {W W' : World} {row : Option Nat} {B : Nat} {x y z u : Int} (h : Box4 W B x y z u) (hg : W.grownBy W' row) (hne : some B ≠ row) : Box4 W' B x y z u := (hg.block B h.lt hne).trans h
theorem Box4.new (W : World) (x y z u : Int) : Box4 (W.alloc (.cells #[.int .i64 x, .int .i64 y, .int .i64 z, .int .i64 u] 60)) W.heap.size x y z u := World.alloc_heap_new W _
theorem Box4.alloc {W : World} {B : Nat} {x y z u : Int} (h : Box4 W B x y z u) (o : Obj) : Box4 (W.alloc o) B x y z u := h.kept (World.grownBy_alloc W o none) (by simp)
theorem box4_notcells {W W' : World} {row : Option Nat} {B : Nat} {x y z u : Int} (h : Box4 W B x y z u) (hg : W.grownBy W' row) (hr : ∀ r, row = some r → ∃ o : Obj, W.heap[r]? = some o ∧ o.isCells = false) : Box4 W' B x y z u := by
  refine h.kept hg fun e => ?_
  obtain ⟨o, h1, h2⟩ := hr B e.symm
  rw [show W.heap[B]? = _ from h] at h1
  cases h1
  cases h2
theorem box4_own {β : Type} (B : Nat) (x y z u : Int) : Own (fun (_ : β) W => Box4 W B x y z u) := fun s X Y row hs hg hrow => box4_notcells hs hg hrow
def mbW (n : Nat) (X Y : Nat → Int) (lx ly hx hy : Int) (pre : List Nat) : Bool := pre.any fun k => mbG (X k) (Y k) (X (Rg.nx1 n k)) (Y (Rg.nx1 n k)) lx ly hx hy
theorem mbW_snoc (n : Nat) (X Y : Nat → Int) (lx ly hx hy : Int) (pre : List Nat) (k : Nat) : mbW n X Y lx ly hx hy (pre ++ [k]) = (mbW n X Y lx ly hx hy pre || mbG (X k) (Y k) (X (Rg.nx1 n k)) (Y (Rg.nx1 n k)) lx ly hx hy) := by
  unfold mbW; rw [List.any_append]; simp
theorem mbW_mono {n : Nat} {X Y : Nat → Int} {lx ly hx hy : Int} {k : Nat} (hk : k ≤ n) (h : mbW n X Y lx ly hx hy (List.range k) = true) : mbW n X Y lx ly hx hy (List.range n) = true := by
  unfold mbW at *
  rw [List.any_eq_true] at *
  obtain ⟨x, h1, h2⟩ := h
  exact ⟨x, List.mem_range.2 (by have := List.mem_range.1 h1; omega), h2⟩
def arM (n : Nat) (X Y : Nat → Int) (lx ly hx hy : Int) : Bool := boxB (mnN X n) (mnN Y n) (mxN X n) (mxN Y n) && boxB lx ly hx hy && decide (mnN X n ≤ hx) && decide (lx ≤ mxN X n) && decide (mnN Y n ≤ hy) && decide (ly ≤ mxN Y n)
set_option maxHeartbeats 8000000 in
set_option maxRecDepth 100000 in
theorem c_rmb {n : Nat} {X Y : Nat → Int} {v : Value} {lx ly hx hy : Int} (w : World) (h : Pts w v n X Y) (h0 : (Rg.ringC n X Y).1 = 0) (hm : arM n X Y lx ly hx hy = true) :
    Calls Tryz.prog 153 #[v, .agg #[.int .i64 lx, .int .i64 ly, .int .i64 hx, .int .i64 hy]] w fun e w' => e = .returned (.bool (mbW n X Y lx ly hx hy (List.range n) || (nearB lx ly && Rg.hasN n X Y lx ly))) ∧ Gr w w' := by
  have A1 := fun w' (g : Gr w w') => c_AroundN w' (pts_gr h g) (by have := (Rg.ringC_ok h0).1; omega)
  have A2 := fun w' => c_Meets (mnN X n) (mnN Y n) (mxN X n) (mxN Y n) lx ly hx hy w'
  have A3 := fun w' (g : Gr w w') => c_hs w h h0 lx ly w' g
  unfold arM at hm
  rw [hm] at A2
  have h1 : 1 ≤ n := by have := (Rg.ringC_ok h0).1; omega
  have hn : n ≤ 1000 := by have := (Rg.ringC_ok h0).1; omega
  generalize (nearB lx ly && Rg.hasN n X Y lx ly) = hz at A3 ⊢
  obtain ⟨ad, cap, B, off, rfl, q1, q2, q3, q4⟩ := h
  obtain rfl := q3 (by omega)
  have hB : B < w.heap.size := World.block_lt_of_cell? _ _ (q4 0 (by omega)).1
  have HC := Lib.hid q4
  have hmx : Tryz.prog.follows .mixedOrders = true := by kernel_rfl
  have H1 := Lib.hid A1
  have H2 := Lib.hid A2
  have H3 := Lib.hid A3
  clear A1 A2 A3
  clear q3 q4 hm h0
  refine (callsIn_wide (n := 10)).1 ?_
  refine callsIn_of_wp_marks Tryz.func153 rfl trivial ?_ rfl
  simp only [Tryz.ntmps153, List.size_toArray, List.length_cons, List.length_nil, Nat.reduceAdd, Nat.reduceSub, Array.replicate_succ, Array.replicate_zero, List.push_toArray, List.append_toArray, List.nil_append, List.cons_append]
  have n0 : 0 < n := by omega
  gi_wp2
  have bP : Box4 (w.alloc (.cells #[.int .i64 lx, .int .i64 ly, .int .i64 hx, .int .i64 hy] 60)) w.heap.size lx ly hx hy := Box4.new w lx ly hx hy
  have bR := Boxed.new (w.alloc (.cells #[.int .i64 lx, .int .i64 ly, .int .i64 hx, .int .i64 hy] 60)) 4 (.bool false)
  have bP0 := bP.alloc (.cells #[.bool false] 4)
  have hG0 : Gr w ((w.alloc (.cells #[.int .i64 lx, .int .i64 ly, .int .i64 hx, .int .i64 hy] 60)).alloc (.cells #[.bool false] 4)) := by go_grown
  have hsz : ((w.alloc (.cells #[.int .i64 lx, .int .i64 ly, .int .i64 hx, .int .i64 hy] 60)).alloc (.cells #[.bool false] 4)).heap.size = w.heap.size + 2 := by simp
  simp only [World.size_alloc] at bR
  obtain ⟨W1, hW1⟩ : ∃ W1, (w.alloc (.cells #[.int .i64 lx, .int .i64 ly, .int .i64 hx, .int .i64 hy] 60)).alloc (.cells #[.bool false] 4) = W1 := ⟨_, rfl⟩
  rw [hW1] at bP0 bR hG0 hsz ⊢
  clear hW1 bP
  obtain ⟨b0, b1, b2, b3⟩ := bP0.cells
  refine wpIn_mono (Q := Exit.then (fun a' W2 => a' = { tmps := #[.slice (some ⟨B, off, none⟩) n cap, .agg #[.int .i64 lx, .int .i64 ly, .int .i64 hx, .int .i64 hy], undef, .pointer (some ⟨w.heap.size, 0, none⟩), .pointer (some ⟨w.heap.size + 1, 0, none⟩), undef, undef, .slice (some ⟨B, off, none⟩) n cap, .agg #[.int .i64 (mnN X n), .int .i64 (mnN Y n), .int .i64 (mxN X n), .int .i64 (mxN Y n)], .agg #[.int .i64 lx, .int .i64 ly, .int .i64 hx, .int .i64 hy], .bool true, .bool false, undef, undef, undef, undef, undef, undef, undef, undef, undef, undef, undef, undef], defers := [] } ∧ Gr W1 W2) (fun _ _ _ => False)) ?_ ?_
  · generalize mnN X n = m1 at H1 H2 ⊢
    generalize mnN Y n = m2 at H1 H2 ⊢
    generalize mxN X n = m3 at H1 H2 ⊢
    generalize mxN Y n = m4 at H1 H2 ⊢
    gi_region_with_o (first
      | (refine ⟨trivial, ?_⟩; gi_at_call 152; (refine (callsIn_wide.2 (H1.out _ (Gr.trans hG0 (by go_grown)))).mono ?_); rintro e w' ⟨rfl, gx⟩; (have gy : Gr W1 w' := Gr.trans (by go_grown) gx); (have d0 := cell_gr gy b0); (have d1 := cell_gr gy b1); (have d2 := cell_gr gy b2); (have d3 := cell_gr gy b3); clear gx)
      | (gi_at_call 152; (refine (callsIn_wide.2 (H1.out _ (Gr.trans hG0 (by go_grown)))).mono ?_); rintro e w' ⟨rfl, gx⟩; (have gy : Gr W1 w' := Gr.trans (by go_grown) gx); (have d0 := cell_gr gy b0); (have d1 := cell_gr gy b1); (have d2 := cell_gr gy b2); (have d3 := cell_gr gy b3); clear gx)
      | (refine ⟨trivial, ?_⟩; gi_at_call 154; (refine (callsIn_wide.2 (H2.out _)).mono ?_); rintro e w'' ⟨rfl, gx⟩; (have gz : Gr W1 w'' := Gr.trans gy (Gr.trans (by go_grown) gx)); clear gx)
      | (gi_at_call 154; (refine (callsIn_wide.2 (H2.out _)).mono ?_); rintro e w'' ⟨rfl, gx⟩; (have gz : Gr W1 w'' := Gr.trans gy (Gr.trans (by go_grown) gx)); clear gx))
    all_goals exact ⟨rfl, Gr.trans gz (by go_grown)⟩
  intro e a' W2 hh
  cases e
  all_goals try exact False.elim hh
  obtain ⟨rfl, g2⟩ := hh
  dsimp only [Exit.then]
  have g2s := g2.size
  have bP2 : Box4 W2 w.heap.size lx ly hx hy := bP0.kept (gr_grown g2) (by simp)
  have bR2 : Boxed W2 (w.heap.size + 1) 4 (.bool false) := bR.kept (gr_grown g2) (by simp)
  have hG2 : Gr w W2 := Gr.trans hG0 g2
  clear b0 b1 b2 b3 bP0 bR hG0 g2
  gi_wp2_with (refine ⟨trivial, ?_⟩; gi_at_call 118; refine (callsIn_wide.2 (c_Edges _ _ _ _)).mono ?_; rintro e w' ⟨rfl, rfl⟩)
  have bE := Boxed.new W2 32 (.slice (some ⟨B, off, none⟩) n cap)
  have bP0 := bP2.alloc (.cells #[.slice (some ⟨B, off, none⟩) n cap] 32)
  have bR0 := bR2.alloc (.cells #[.slice (some ⟨B, off, none⟩) n cap] 32)
  have hG0 : Gr w (W2.alloc (.cells #[.slice (some ⟨B, off, none⟩) n cap] 32)) := Gr.trans hG2 (by go_grown)
  have hsz0 : (W2.alloc (.cells #[.slice (some ⟨B, off, none⟩) n cap] 32)).heap.size = W2.heap.size + 1 := by simp
  obtain ⟨W0, hW0⟩ : ∃ W0, W2.alloc (.cells #[.slice (some ⟨B, off, none⟩) n cap] 32) = W0 := ⟨_, rfl⟩
  rw [hW0] at bE bP0 bR0 hG0 hsz0 ⊢
  obtain ⟨q, hq⟩ : ∃ q, W2.heap.size = q := ⟨_, rfl⟩
  rw [hq] at bE hsz0 g2s ⊢
  clear hW0 bP2 bR2 hG2 hq H1 H2
  refine wpIn_rangeFunc_ownH rfl (by decide) (gf := 162) (lb := #[.pointer (some ⟨q, 0, none⟩)]) rfl trivial (enters_of Tryz.func162 (by kernel_rfl) rfl)
    (edges_stops (10 - 1) (by decide) q B off n cap X Y hn h1 W0 bE.cell q1 q2 (fun k hk => ⟨cell_gr hG0 (HC.out k hk).1, cell_gr hG0 (HC.out k hk).2⟩)) KK.trans (kk_put (by omega) (by omega)) (Below.refl _ _) (fun _ => rfl)
    (fun pre W => (Boxed W (w.heap.size + 1) 4 (.bool false)) ∧ ((Box4 W w.heap.size lx ly hx hy ∧ mbW n X Y lx ly hx hy pre = false) ∧ (q + 1 ≤ W.heap.size ∧ Below w.heap.size w W)))
    (fun c pre W => (c = .ret ∧ mbW n X Y lx ly hx hy pre = true) ∧ (Boxed W (w.heap.size + 1) 4 (.bool true) ∧ Below w.heap.size w W))
    (OwnFrom.and (Own.from (boxed_own _ _ _) _) (OwnFrom.and (OwnFrom.and (Own.from (box4_own _ _ _ _ _) _) (ownFrom_pure _ _)) (OwnFrom.and (fun _ P Q row hs hg hr => Nat.le_trans hs hg.size) (ownFrom_below (Nat.le_refl _) (by omega)))))
    (fun c => OwnFrom.and (ownFrom_pure _ _) (OwnFrom.and (Own.from (boxed_own _ _ _) _) (ownFrom_below (Nat.le_refl _) (by omega))))
    ⟨bR0, ⟨bP0, rfl⟩, by omega, hG0⟩
    (fun x a' W => ∃ Ba Bb, q + 1 ≤ Ba ∧ q + 1 ≤ Bb ∧ Box2 W Ba (X x) (Y x) ∧ Box2 W Bb (X (Rg.nx1 n x)) (Y (Rg.nx1 n x)) ∧ a' = { tmps := #[.slice (some ⟨B, off, none⟩) n cap, .agg #[.int .i64 lx, .int .i64 ly, .int .i64 hx, .int .i64 hy], undef, .pointer (some ⟨w.heap.size, 0, none⟩), .pointer (some ⟨w.heap.size + 1, 0, none⟩), .pointer (some ⟨Ba, 0, none⟩), .pointer (some ⟨Bb, 0, none⟩), .slice (some ⟨B, off, none⟩) n cap, .agg #[.int .i64 (mnN X n), .int .i64 (mnN Y n), .int .i64 (mxN X n), .int .i64 (mxN Y n)], .agg #[.int .i64 lx, .int .i64 ly, .int .i64 hx, .int .i64 hy], .bool true, .bool false, .slice (some ⟨B, off, none⟩) n cap, .func (.func 162) #[] #[.pointer (some ⟨q, 0, none⟩)], .agg #[.int .i64 (X x), .int .i64 (Y x)], .agg #[.int .i64 (X (Rg.nx1 n x)), .int .i64 (Y (Rg.nx1 n x))], undef, undef, undef, undef, undef, undef, undef, undef], defers := [] })
    (fun x a' _ P Q row hs hg hr => by obtain ⟨Ba, Bb, i1, i2, i3, i4, i5⟩ := hs; exact ⟨Ba, Bb, i1, i2, box2_notcells i3 hg (fun r e => (hr r e).2), box2_notcells i4 hg (fun r e => (hr r e).2), i5⟩)
    ?assign ?body ?done ?stop
  case assign =>
    rintro l pre x W K ⟨bR1, ⟨bP1, hon⟩, hs3, hB1⟩ hK
    gi_wp2
    have gA : Gr W ((W.alloc (.cells #[.int .i64 (X x), .int .i64 (Y x)] 58)).alloc (.cells #[.int .i64 (X (Rg.nx1 n x)), .int .i64 (Y (Rg.nx1 n x))] 58)) := by go_grown
    exact hK _ _ ((gr_keeps gA).from _) ((KK.refl _ _ _).gr gA (by omega) (by omega)) ⟨(bR1.alloc _).alloc _, ⟨(bP1.alloc _).alloc _, hon⟩, Nat.le_trans hs3 gA.size, Gr.trans hB1 gA⟩
      ⟨W.heap.size, W.heap.size + 1, hs3, by omega, (Box2.new W (X x) (Y x)).alloc _, (by have := Box2.new (W.alloc (.cells #[.int .i64 (X x), .int .i64 (Y x)] 58)) (X (Rg.nx1 n x)) (Y (Rg.nx1 n x)); rwa [World.size_alloc] at this), rfl⟩
  case body =>
    rintro l pre x a' W hl ⟨r, hr⟩ ⟨bR1, ⟨bP1, hon⟩, hs3, hB1⟩ ⟨Ba, Bb, hBa, hBb, bA, bB, rfl⟩ hlt
    obtain ⟨a0, a1⟩ := bA.cells
    obtain ⟨b0, b1⟩ := bB.cells
    obtain ⟨p0, p1, p2, p3⟩ := bP1.cells
    have cR := bR1.cell
    have fR := bR1.frozen
    have hso := mbW_snoc n X Y lx ly hx hy pre x
    rw [hon, Bool.false_or] at hso
    have CO := c_gMeetsBox (X x) (Y x) (X (Rg.nx1 n x)) (Y (Rg.nx1 n x)) lx ly hx hy
    generalize mbG (X x) (Y x) (X (Rg.nx1 n x)) (Y (Rg.nx1 n x)) lx ly hx hy = og at CO hso
    generalize X x = xa at a0 CO
    generalize Y x = ya at a1 CO
    generalize X (Rg.nx1 n x) = xb at b0 CO
    generalize Y (Rg.nx1 n x) = yb at b1 CO
    have HCO := Lib.hid CO
    have HSO := Lib.hid hso
    have HB := Lib.hid (And.intro bR1 bP1)
    clear CO hso hon bA bB bR1 bP1
    cases og
    · gi_wp2_with (refine ⟨trivial, ?_⟩; gi_at_call 201; (refine (CallsIn.inRound l (callsIn_wide.2 (HCO.out _))).mono ?_); rintro e w2 ⟨rfl, g2⟩)
      obtain ⟨bR1, bP1⟩ := HB.out
      have g2s := g2.size
      exact ⟨(gr_keeps g2).from _, (KK.refl B q W).gr g2 (by omega) (by omega), ⟨bR1.kept (gr_grown g2) (by simp), ⟨bP1.kept (gr_grown g2) (by simp), HSO.out⟩, by omega, Gr.trans hB1 g2⟩⟩
    · gi_wp2_with (refine ⟨trivial, ?_⟩; gi_at_call 201; (refine (CallsIn.inRound l (callsIn_wide.2 (HCO.out _))).mono ?_); rintro e w2 ⟨rfl, g2⟩; have dR := cell_gr g2 cR; have eR := frozen_gr g2 cR fR)
      obtain ⟨bR1, bP1⟩ := HB.out
      exact ⟨((gr_keeps g2).trans (KeepsOthers.setCell _ _ _)).from _, ⟨rfl, HSO.out⟩, (bR1.kept (gr_grown g2) (by simp)).set _, (Gr.trans hB1 g2).setCell (p := ⟨w.heap.size + 1, 0, none⟩) (by simp) _⟩
  case done =>
    rintro D ys W' hD rfl ⟨bR1, ⟨bP1, hon⟩, hs3, hB1⟩ hK
    obtain ⟨p0, p1, p2, p3⟩ := bP1.cells
    have cR := bR1.cell
    have fR := bR1.frozen
    have HBR := Lib.hid bR1
    clear bR1 bP1
    gi_wp2_with (refine ⟨trivial, ?_⟩; gi_at_call 116; refine (callsIn_wide.2 (H3.out _ (Gr.trans hB1 (by go_grown)))).mono ?_; rintro e w2 ⟨rfl, gx⟩; (have g2 : Gr W' w2 := Gr.trans (by go_grown) gx); have dR := cell_gr g2 cR; have eR := frozen_gr g2 cR fR; clear gx)
    rw [hon, Bool.false_or]
    have bR2 : Boxed w2 (w.heap.size + 1) 4 (.bool false) := HBR.out.kept (gr_grown g2) (by simp)
    have hK1 : w2.heap[D]? = some (.deferred (some [])) := (gr_keeps g2).same D _ hK rfl
    have hK2 : (w2.setCell ⟨w.heap.size + 1, 0, none⟩ (.bool hz)).heap[D]? = some (.deferred (some [])) := (KeepsOthers.setCell _ _ _).same D _ hK1 rfl
    have hc2 := cell_kept (bR2.set (.bool hz)).cell (grownBy_putObj' _ D (.deferred none)) (fun r e => by cases e; exact ⟨_, hK2, rfl⟩)
    refine ⟨by simp, .inl ⟨_, _, rfl, run_takeDeferred hK2, ?_⟩⟩
    exact ⟨_, results_cell1 rfl rfl (Tryz.underlying4) rfl hc2, rfl, ((Gr.trans hB1 g2).setCell (p := ⟨w.heap.size + 1, 0, none⟩) (by simp) _).trans (belowK_b (w := w) (Nat.le_refl _) _ D _ _ (by omega) hK2 rfl rfl)⟩
  case stop =>
    rintro D c pre W hD ⟨k, hk, rfl⟩ ⟨⟨rfl, hon⟩, bR1, hB1⟩ hK
    have cR := bR1.cell
    gi_wp2
    have hc2 := cell_kept cR (grownBy_putObj' _ D (.deferred none)) (fun r e => by cases e; exact ⟨_, hK, rfl⟩)
    rw [mbW_mono hk hon, Bool.true_or]
    refine ⟨by simp, .inl ⟨_, _, rfl, run_takeDeferred hK, ?_⟩⟩
    exact ⟨_, results_cell1 rfl rfl (Tryz.underlying4) rfl hc2, rfl, hB1.trans (belowK_b (w := w) (Nat.le_refl _) _ D _ _ (by omega) hK rfl rfl)⟩
end Go.Proofs.YtpomllpplpalkaaGreatDoor
/- rel.Match of a polygon and a point; what the document fixes of rel; RelChecks -/
namespace Go.Proofs.YtpomllpplpalkaaGreatDoor
set_option linter.unusedVariables false
set_option linter.unusedSimpArgs false
open Go.ChangeShapes Go.WideShapes Go.ChangeAt Go.RowKit

def rmbV (n : Nat) (X Y : Nat → Int) (lx ly hx hy : Int) : Bool := mbW n X Y lx ly hx hy (List.range n) || (nearB lx ly && Rg.hasN n X Y lx ly)
theorem c_rmb' {n : Nat} {X Y : Nat → Int} {v : Value} {lx ly hx hy : Int} (W : World) (h : Pts W v n X Y) (h0 : (Rg.ringC n X Y).1 = 0) (hm : arM n X Y lx ly hx hy = true) : Calls Tryz.prog 153 #[v, .agg #[.int .i64 lx, .int .i64 ly, .int .i64 hx, .int .i64 hy]] W fun e w' => e = .returned (.bool (rmbV n X Y lx ly hx hy)) ∧ Gr W w' := c_rmb W h h0 hm
end Go.Proofs.YtpomllpplpalkaaGreatDoor
