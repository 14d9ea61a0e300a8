/- rel.Match of a polygon and a point; what the document fixes of rel; RelChecks -/
import Derived.Test.YtagbodamehejmaaGreatDoorUb
namespace Go.Proofs.YtagbodamehejmaaGreatDoor
set_option linter.unusedVariables false
set_option linter.unusedSimpArgs false
open Go.ChangeShapes Go.WideShapes Go.ChangeAt Go.RowKit

theorem c_As_nil (x : Value) (W : World) : Calls Tryz.prog 21 #[.nilIface, x] W fun e w' => e = .returned (.bool false) ∧ Gr W w' := by
  go_enter Tryz.func21, Tryz.ntmps21
  go_wp2_with fail
  go_ret
  exact ⟨rfl, by go_grown⟩
set_option maxHeartbeats 2000000 in
set_option maxRecDepth 100000 in
theorem c_allowed0 {D : Nat} (W : World) (p0 : W.cell? ⟨D, 0, none⟩ = some .nilIface) (p1 : W.cell? ⟨D, 1, none⟩ = some .nilIface) : Calls Tryz.prog 11 #[.slice (some ⟨D, 0, none⟩) 2 2] W fun e w' => e = .returned (.bool true) ∧ Gr W w' := by
  have hD := World.block_lt_of_cell? _ _ p0
  go_enter Tryz.func11, Tryz.ntmps11
  go_wp2_with fail
  go_loopg [8] 2 (fun k x wr => ((k = 2 ∧ x = .int .i64 0) ∨ (k = 1 ∧ x = .int .i64 1) ∨ (k = 0 ∧ x = .int .i64 2)) ∧ Gr W wr)
  case atStart => exact ⟨Or.inl ⟨rfl, rfl⟩, by go_grown⟩
  case round =>
    obtain ⟨hx, hg⟩ := hrel
    have r0 := cell_gr hg p0
    have r1 := cell_gr hg p1
    have hgs := hg.size
    rcases hx with ⟨rfl, rfl⟩ | ⟨rfl, rfl⟩ | ⟨rfl, rfl⟩
    · go_wp2_with fail
      go_at_call 21
      refine (c_As_nil _ _).mono ?_
      rintro e w1 ⟨rfl, g1⟩
      have G1 : Gr W w1 := Gr.trans (by go_grown) g1
      clear g1
      go_wp2_with fail
      go_roundg 1
      case measure => omega
      case rel => exact ⟨Or.inr (Or.inl ⟨rfl, rfl⟩), by have gs := G1.size; go_grown⟩
    · go_wp2_with fail
      go_at_call 21
      refine (c_As_nil _ _).mono ?_
      rintro e w1 ⟨rfl, g1⟩
      have G1 : Gr W w1 := Gr.trans (by go_grown) g1
      clear g1
      go_wp2_with fail
      go_roundg 0
      case measure => omega
      case rel => exact ⟨Or.inr (Or.inr ⟨rfl, rfl⟩), by have gs := G1.size; go_grown⟩
    · go_wp2_with fail
      go_ret
      exact ⟨rfl, by go_grown⟩
theorem werr_zero {op : ByteArray} {w : World} {v : Value} {id : Int} {k : Nat} (h : WErr op w v id k) (hk : k = 0) : v = .nilIface := by
  rcases h with ⟨h, -⟩ | ⟨B, u, d, -, h2, -⟩
  · exact h
  · omega
/-- Does a ring meet a box whose box it meets? -/
def rmbV (n : Nat) (X Y : Nat → Int) (lx ly hx hy : Int) : Bool := mbW n X Y lx ly hx hy (List.range n) || (nearB lx ly && Rg.hasN n X Y lx ly)
theorem c_rmb' {n : Nat} {X Y : Nat → Int} {v : Value} {lx ly hx hy : Int} (W : World) (h : Pts W v n X Y) (h0 : (Rg.ringC n X Y).1 = 0) (hm : arM n X Y lx ly hx hy = true) : Calls Tryz.prog 46 #[v, .agg #[.int .i64 lx, .int .i64 ly, .int .i64 hx, .int .i64 hy]] W fun e w' => e = .returned (.bool (rmbV n X Y lx ly hx hy)) ∧ Gr W w' := c_rmb W h h0 hm
section
variable {n : Nat} {X Y : Nat → Int} {v : Value} {px py : Int}
set_option maxRecDepth 100000 in
theorem c_meetsBox4 (lx ly hx hy : Int) (W : World) (h : Pts W v n X Y) (h0 : (Rg.ringC n X Y).1 = 0) (hm : arM n X Y lx ly hx hy = true) :
    Calls Tryz.prog 25 #[.agg #[.int .i64 4, v], .agg #[.int .i64 lx, .int .i64 ly, .int .i64 hx, .int .i64 hy]] W fun e w' => e = .returned (.bool (rmbV n X Y lx ly hx hy)) ∧ Gr W w' := by
  have A1 := fun w (g : Gr W w) => c_rmb' (lx := lx) (ly := ly) (hx := hx) (hy := hy) w (pts_gr h g) h0 hm
  generalize (rmbV n X Y lx ly hx hy) = z at A1 ⊢
  obtain ⟨ad, cap, B, off, rfl, _⟩ := h
  have H1 := Lib.hid A1
  clear A1
  go_enter Tryz.func25, Tryz.ntmps25
  go_wp2_with fail
  go_at_call 46
  refine ((H1.out _ (by go_grown))).mono ?_
  rintro e w1 ⟨rfl, hw1⟩
  have gw1 : Gr W w1 := Gr.trans (by go_grown) hw1
  clear hw1
  go_wp2_with fail
  go_ret
  exact ⟨rfl, gw1⟩
set_option maxRecDepth 100000 in
theorem c_Matches_has (hx hy : Int) (u : Value) (W : World) (hu : ∃ ad m c, u = .slice ad m c) (h : Pts W v n X Y) (h0 : (Rg.ringC n X Y).1 = 0) (hm : arM n X Y px py px py = true) :
    Calls Tryz.prog 13 #[.agg #[.int .i64 4, v], qryV 3 px py hx hy u] W fun e w' => e = .returned (.bool (rmbV n X Y px py px py)) ∧ Gr W w' := by
  have A1 := fun w (g : Gr W w) => c_meetsBox4 px py px py w (pts_gr h g) h0 hm
  generalize (rmbV n X Y px py px py) = z at A1 ⊢
  obtain ⟨ad, cap, B, off, rfl, _⟩ := h
  obtain ⟨bd, m, c, rfl⟩ := hu
  have H1 := Lib.hid A1
  clear A1
  go_enter Tryz.func13, Tryz.ntmps13
  go_wp2_with fail
  go_at_call 25
  refine ((H1.out _ (by go_grown))).mono ?_
  rintro e w1 ⟨rfl, hw1⟩
  have gw1 : Gr W w1 := Gr.trans (by go_grown) hw1
  clear hw1
  go_wp2_with fail
  go_ret
  exact ⟨rfl, gw1⟩
set_option maxHeartbeats 4000000 in
set_option maxRecDepth 100000 in
theorem c_Match_has {m : Nat} {P Q : Nat → Int} (hx hy : Int) (u : Value) (W : World) (hu : Pts W u m P Q) (h : Pts W v n X Y) (h0 : (Rg.ringC n X Y).1 = 0) (hp : nearB px py = true) (hm : arM n X Y px py px py = true) :
    Calls Tryz.prog 5 #[.agg #[.int .i64 4, v], qryV 3 px py hx hy u] W fun e w' => e = .returned (.bool (rmbV n X Y px py px py)) ∧ Gr W w' := by
  have A1 : ∀ w, Gr W w → Calls Tryz.prog 9 #[.agg #[.int .i64 4, v]] w fun e w' => e = .returned .nilIface ∧ Gr w w' := fun w g => (c_relCheck 4 w (pts_gr h g)).mono (by
    rintro e w' ⟨x, rfl, hx, g'⟩
    obtain rfl := werr_zero hx (by rw [objC_4]; exact h0)
    exact ⟨rfl, g'⟩)
  have A2 : ∀ w, Gr W w → Calls Tryz.prog 12 #[qryV 3 px py hx hy u] w fun e w' => e = .returned .nilIface ∧ Gr w w' := fun w g => (c_CheckQuery 3 px py hx hy w (pts_gr hu g)).mono (by
    rintro e w' ⟨x, rfl, hx, g'⟩
    obtain rfl := werr_zero hx (by unfold qC; rw [if_neg (by omega), if_pos rfl, if_pos hp])
    exact ⟨rfl, g'⟩)
  have hu2 : ∃ ad m c, u = .slice ad m c := by obtain ⟨ad, cap, _, _, rfl, _⟩ := hu; exact ⟨_, _, _, rfl⟩
  have A3 := fun w (g : Gr W w) => c_Matches_has (px := px) (py := py) hx hy u w hu2 (pts_gr h g) h0 hm
  have A4 := fun (D : Nat) w => c_allowed0 (D := D) w
  generalize (rmbV n X Y px py px py) = z at A3 ⊢
  obtain ⟨ad, cap, B, off, rfl, _⟩ := h
  obtain ⟨bd, bcap, C, oc, rfl, _⟩ := hu
  have H1 := Lib.hid A1
  have H2 := Lib.hid A2
  have H3 := Lib.hid A3
  have H4 := Lib.hid A4
  clear A1 A2 A3 A4
  clear hu2 hp hm h0
  go_enter Tryz.func5, Tryz.ntmps5
  go_wp2_with fail
  try simp only [List.append]
  refine Od.wp_region_ord [(0, false), (2, false), (1, true), (3, true), (4, true), (5, true), (6, false), (7, false), (8, false), (9, true), (10, false), (11, false)] (by kernel_rfl) (by kernel_rfl) ?_
  intro w0 hw0 KQ hKQ
  have cw0_0_0 : w0.cell? ⟨W.heap.size, 0, none⟩ = some (.int .i64 4) := cell_gr hw0 (by go_simp)
  have cw0_0_1 : w0.cell? ⟨W.heap.size, 1, none⟩ = some (.slice ad n cap) := cell_gr hw0 (by go_simp)
  have zw0_0 : W.heap.size < w0.heap.size := World.block_lt_of_cell? _ _ cw0_0_0
  have cw0_1_0 : w0.cell? ⟨W.heap.size + 1, 0, none⟩ = some (.int .i64 3) := cell_gr hw0 (by go_simp)
  have cw0_1_1 : w0.cell? ⟨W.heap.size + 1, 1, none⟩ = some (.int .i64 px) := cell_gr hw0 (by go_simp)
  have cw0_1_2 : w0.cell? ⟨W.heap.size + 1, 2, none⟩ = some (.int .i64 py) := cell_gr hw0 (by go_simp)
  have cw0_1_3 : w0.cell? ⟨W.heap.size + 1, 3, none⟩ = some (.int .i64 hx) := cell_gr hw0 (by go_simp)
  have cw0_1_4 : w0.cell? ⟨W.heap.size + 1, 4, none⟩ = some (.int .i64 hy) := cell_gr hw0 (by go_simp)
  have cw0_1_5 : w0.cell? ⟨W.heap.size + 1, 5, none⟩ = some (.slice bd m bcap) := cell_gr hw0 (by go_simp)
  have zw0_1 : W.heap.size + 1 < w0.heap.size := World.block_lt_of_cell? _ _ cw0_1_0
  have gw0 : Gr W w0 := Gr.trans (by go_grown) hw0
  skip
  clear hw0
  repeat (first | (refine Od.wpO_skip (by simp only [List.getElem?_toArray, List.getElem?_cons_succ, List.getElem?_cons_zero] <;> rfl) rfl ?_; simp only [Act.put, List.setIfInBounds_toArray, List.set_cons_zero, List.set_cons_succ]) | (refine Od.wpO_pure (by simp only [List.getElem?_toArray, List.getElem?_cons_succ, List.getElem?_cons_zero] <;> rfl) rfl ?_; apply Exists.intro; refine ⟨?_, ?_⟩; (· intro wx gx; obtain ⟨mx, rfl⟩ := spread_of_gr gx; clear gx; all_goals (apply Od.pAt_of_quiet; intro K hK; go_big_quiet_op; first | exact hK _ rfl | (apply Exists.intro; refine ⟨fun _ => ?_, ?_⟩; (· fail); exact hK _ rfl))); try simp only [Act.put, List.setIfInBounds_toArray, List.set_cons_zero, List.set_cons_succ]))
  refine Od.wpO_call (by simp only [List.getElem?_toArray, List.getElem?_cons_succ, List.getElem?_cons_zero] <;> rfl) rfl ?_
  intro QS hQS
  go_wp2_with fail
  go_at_call 9
  (with_reducible refine ((H1.out _ gw0)).mono ?_)
  rintro e w1 ⟨rfl, hw1⟩
  go_wp2_with fail
  apply Exists.intro
  refine ⟨?_, hw1, ?_⟩
  · simp only [Act.put, List.setIfInBounds_toArray, List.set_cons_zero, List.set_cons_succ]; rfl
  have cw1_0_0 : w1.cell? ⟨W.heap.size, 0, none⟩ = some (.int .i64 4) := cell_gr hw1 (by go_simp)
  have cw1_0_1 : w1.cell? ⟨W.heap.size, 1, none⟩ = some (.slice ad n cap) := cell_gr hw1 (by go_simp)
  have zw1_0 : W.heap.size < w1.heap.size := World.block_lt_of_cell? _ _ cw1_0_0
  have cw1_1_0 : w1.cell? ⟨W.heap.size + 1, 0, none⟩ = some (.int .i64 3) := cell_gr hw1 (by go_simp)
  have cw1_1_1 : w1.cell? ⟨W.heap.size + 1, 1, none⟩ = some (.int .i64 px) := cell_gr hw1 (by go_simp)
  have cw1_1_2 : w1.cell? ⟨W.heap.size + 1, 2, none⟩ = some (.int .i64 py) := cell_gr hw1 (by go_simp)
  have cw1_1_3 : w1.cell? ⟨W.heap.size + 1, 3, none⟩ = some (.int .i64 hx) := cell_gr hw1 (by go_simp)
  have cw1_1_4 : w1.cell? ⟨W.heap.size + 1, 4, none⟩ = some (.int .i64 hy) := cell_gr hw1 (by go_simp)
  have cw1_1_5 : w1.cell? ⟨W.heap.size + 1, 5, none⟩ = some (.slice bd m bcap) := cell_gr hw1 (by go_simp)
  have zw1_1 : W.heap.size + 1 < w1.heap.size := World.block_lt_of_cell? _ _ cw1_1_0
  have gw1 : Gr W w1 := Gr.trans (by have gg := gw0; have gs := gg.size; go_grown) hw1
  clear gw0 zw0_0 cw0_0_0 cw0_0_1 zw0_1 cw0_1_0 cw0_1_1 cw0_1_2 cw0_1_3 cw0_1_4 cw0_1_5
  clear hw1
  try simp only [Act.put, List.setIfInBounds_toArray, List.set_cons_zero, List.set_cons_succ]
  repeat (first | (refine Od.wpO_skip (by simp only [List.getElem?_toArray, List.getElem?_cons_succ, List.getElem?_cons_zero] <;> rfl) rfl ?_; simp only [Act.put, List.setIfInBounds_toArray, List.set_cons_zero, List.set_cons_succ]) | (refine Od.wpO_pure (by simp only [List.getElem?_toArray, List.getElem?_cons_succ, List.getElem?_cons_zero] <;> rfl) rfl ?_; apply Exists.intro; refine ⟨?_, ?_⟩; (· intro wx gx; obtain ⟨mx, rfl⟩ := spread_of_gr gx; clear gx; all_goals (apply Od.pAt_of_quiet; intro K hK; go_big_quiet_op; first | exact hK _ rfl | (apply Exists.intro; refine ⟨fun _ => ?_, ?_⟩; (· fail); exact hK _ rfl))); try simp only [Act.put, List.setIfInBounds_toArray, List.set_cons_zero, List.set_cons_succ]))
  refine Od.wpO_call (by simp only [List.getElem?_toArray, List.getElem?_cons_succ, List.getElem?_cons_zero] <;> rfl) rfl ?_
  intro QS hQS
  go_wp2_with fail
  go_at_call 12
  (with_reducible refine ((H2.out _ gw1)).mono ?_)
  rintro e w2 ⟨rfl, hw2⟩
  go_wp2_with fail
  apply Exists.intro
  refine ⟨?_, hw2, ?_⟩
  · simp only [Act.put, List.setIfInBounds_toArray, List.set_cons_zero, List.set_cons_succ]; rfl
  have cw2_0_0 : w2.cell? ⟨W.heap.size, 0, none⟩ = some (.int .i64 4) := cell_gr hw2 (by go_simp)
  have cw2_0_1 : w2.cell? ⟨W.heap.size, 1, none⟩ = some (.slice ad n cap) := cell_gr hw2 (by go_simp)
  have zw2_0 : W.heap.size < w2.heap.size := World.block_lt_of_cell? _ _ cw2_0_0
  have cw2_1_0 : w2.cell? ⟨W.heap.size + 1, 0, none⟩ = some (.int .i64 3) := cell_gr hw2 (by go_simp)
  have cw2_1_1 : w2.cell? ⟨W.heap.size + 1, 1, none⟩ = some (.int .i64 px) := cell_gr hw2 (by go_simp)
  have cw2_1_2 : w2.cell? ⟨W.heap.size + 1, 2, none⟩ = some (.int .i64 py) := cell_gr hw2 (by go_simp)
  have cw2_1_3 : w2.cell? ⟨W.heap.size + 1, 3, none⟩ = some (.int .i64 hx) := cell_gr hw2 (by go_simp)
  have cw2_1_4 : w2.cell? ⟨W.heap.size + 1, 4, none⟩ = some (.int .i64 hy) := cell_gr hw2 (by go_simp)
  have cw2_1_5 : w2.cell? ⟨W.heap.size + 1, 5, none⟩ = some (.slice bd m bcap) := cell_gr hw2 (by go_simp)
  have zw2_1 : W.heap.size + 1 < w2.heap.size := World.block_lt_of_cell? _ _ cw2_1_0
  have gw2 : Gr W w2 := Gr.trans (by have gg := gw1; have gs := gg.size; go_grown) hw2
  clear gw1 zw1_0 cw1_0_0 cw1_0_1 zw1_1 cw1_1_0 cw1_1_1 cw1_1_2 cw1_1_3 cw1_1_4 cw1_1_5
  clear hw2
  try simp only [Act.put, List.setIfInBounds_toArray, List.set_cons_zero, List.set_cons_succ]
  repeat (first | (refine Od.wpO_skip (by simp only [List.getElem?_toArray, List.getElem?_cons_succ, List.getElem?_cons_zero] <;> rfl) rfl ?_; simp only [Act.put, List.setIfInBounds_toArray, List.set_cons_zero, List.set_cons_succ]) | (refine Od.wpO_pure (by simp only [List.getElem?_toArray, List.getElem?_cons_succ, List.getElem?_cons_zero] <;> rfl) rfl ?_; apply Exists.intro; refine ⟨?_, ?_⟩; (· intro wx gx; obtain ⟨mx, rfl⟩ := spread_of_gr gx; clear gx; all_goals (apply Od.pAt_of_quiet; intro K hK; go_big_quiet_op; first | exact hK _ rfl | (apply Exists.intro; refine ⟨fun _ => ?_, ?_⟩; (· fail); exact hK _ rfl))); try simp only [Act.put, List.setIfInBounds_toArray, List.set_cons_zero, List.set_cons_succ]))
  refine Od.wpO_call (by simp only [List.getElem?_toArray, List.getElem?_cons_succ, List.getElem?_cons_zero] <;> rfl) rfl ?_
  intro QS hQS
  go_wp2_with fail
  first | (apply Exists.intro; refine ⟨?_, (by go_grown), ?_⟩; (· simp only [Act.put, List.setIfInBounds_toArray, List.set_cons_zero, List.set_cons_succ]; rfl)) | (refine ⟨(by go_grown), ?_⟩)
  generalize hhw3 : (w2.alloc (.cells #[.nilIface, .nilIface] 41)) = w3
  have hw3 : Gr w2 w3 := by subst hhw3; go_grown
  have cw3_0_0 : w3.cell? ⟨W.heap.size, 0, none⟩ = some (.int .i64 4) := by subst hhw3; go_simp
  have cw3_0_1 : w3.cell? ⟨W.heap.size, 1, none⟩ = some (.slice ad n cap) := by subst hhw3; go_simp
  have zw3_0 : W.heap.size < w3.heap.size := World.block_lt_of_cell? _ _ cw3_0_0
  have cw3_1_0 : w3.cell? ⟨W.heap.size + 1, 0, none⟩ = some (.int .i64 3) := by subst hhw3; go_simp
  have cw3_1_1 : w3.cell? ⟨W.heap.size + 1, 1, none⟩ = some (.int .i64 px) := by subst hhw3; go_simp
  have cw3_1_2 : w3.cell? ⟨W.heap.size + 1, 2, none⟩ = some (.int .i64 py) := by subst hhw3; go_simp
  have cw3_1_3 : w3.cell? ⟨W.heap.size + 1, 3, none⟩ = some (.int .i64 hx) := by subst hhw3; go_simp
  have cw3_1_4 : w3.cell? ⟨W.heap.size + 1, 4, none⟩ = some (.int .i64 hy) := by subst hhw3; go_simp
  have cw3_1_5 : w3.cell? ⟨W.heap.size + 1, 5, none⟩ = some (.slice bd m bcap) := by subst hhw3; go_simp
  have zw3_1 : W.heap.size + 1 < w3.heap.size := World.block_lt_of_cell? _ _ cw3_1_0
  have cw3_2_0 : w3.cell? ⟨w2.heap.size, 0, none⟩ = some (.nilIface) := by subst hhw3; go_simp
  have cw3_2_1 : w3.cell? ⟨w2.heap.size, 1, none⟩ = some (.nilIface) := by subst hhw3; go_simp
  have zw3_2 : w2.heap.size < w3.heap.size := World.block_lt_of_cell? _ _ cw3_2_0
  have gw3 : Gr W w3 := Gr.trans (by have gg := gw2; have gs := gg.size; go_grown) hw3
  clear hhw3 hw3 gw2 zw2_0 cw2_0_0 cw2_0_1 zw2_1 cw2_1_0 cw2_1_1 cw2_1_2 cw2_1_3 cw2_1_4 cw2_1_5
  try simp only [Act.put, List.setIfInBounds_toArray, List.set_cons_zero, List.set_cons_succ]
  repeat (first | (refine Od.wpO_skip (by simp only [List.getElem?_toArray, List.getElem?_cons_succ, List.getElem?_cons_zero] <;> rfl) rfl ?_; simp only [Act.put, List.setIfInBounds_toArray, List.set_cons_zero, List.set_cons_succ]) | (refine Od.wpO_pure (by simp only [List.getElem?_toArray, List.getElem?_cons_succ, List.getElem?_cons_zero] <;> rfl) rfl ?_; apply Exists.intro; refine ⟨?_, ?_⟩; (· intro wx gx; obtain ⟨mx, rfl⟩ := spread_of_gr gx; clear gx; all_goals (apply Od.pAt_of_quiet; intro K hK; go_big_quiet_op; first | exact hK _ rfl | (apply Exists.intro; refine ⟨fun _ => ?_, ?_⟩; (· fail); exact hK _ rfl))); try simp only [Act.put, List.setIfInBounds_toArray, List.set_cons_zero, List.set_cons_succ]))
  refine Od.wpO_call (by simp only [List.getElem?_toArray, List.getElem?_cons_succ, List.getElem?_cons_zero] <;> rfl) rfl ?_
  intro QS hQS
  go_wp2_with fail
  go_at_call 11
  (with_reducible refine ((H4.out _ _ cw3_2_0 cw3_2_1)).mono ?_)
  rintro e w4 ⟨rfl, hw4⟩
  go_wp2_with fail
  apply Exists.intro
  refine ⟨?_, hw4, ?_⟩
  · simp only [Act.put, List.setIfInBounds_toArray, List.set_cons_zero, List.set_cons_succ]; rfl
  have cw4_0_0 : w4.cell? ⟨W.heap.size, 0, none⟩ = some (.int .i64 4) := cell_gr hw4 (by go_simp)
  have cw4_0_1 : w4.cell? ⟨W.heap.size, 1, none⟩ = some (.slice ad n cap) := cell_gr hw4 (by go_simp)
  have zw4_0 : W.heap.size < w4.heap.size := World.block_lt_of_cell? _ _ cw4_0_0
  have cw4_1_0 : w4.cell? ⟨W.heap.size + 1, 0, none⟩ = some (.int .i64 3) := cell_gr hw4 (by go_simp)
  have cw4_1_1 : w4.cell? ⟨W.heap.size + 1, 1, none⟩ = some (.int .i64 px) := cell_gr hw4 (by go_simp)
  have cw4_1_2 : w4.cell? ⟨W.heap.size + 1, 2, none⟩ = some (.int .i64 py) := cell_gr hw4 (by go_simp)
  have cw4_1_3 : w4.cell? ⟨W.heap.size + 1, 3, none⟩ = some (.int .i64 hx) := cell_gr hw4 (by go_simp)
  have cw4_1_4 : w4.cell? ⟨W.heap.size + 1, 4, none⟩ = some (.int .i64 hy) := cell_gr hw4 (by go_simp)
  have cw4_1_5 : w4.cell? ⟨W.heap.size + 1, 5, none⟩ = some (.slice bd m bcap) := cell_gr hw4 (by go_simp)
  have zw4_1 : W.heap.size + 1 < w4.heap.size := World.block_lt_of_cell? _ _ cw4_1_0
  have cw4_2_0 : w4.cell? ⟨w2.heap.size, 0, none⟩ = some (.nilIface) := cell_gr hw4 (by go_simp)
  have cw4_2_1 : w4.cell? ⟨w2.heap.size, 1, none⟩ = some (.nilIface) := cell_gr hw4 (by go_simp)
  have zw4_2 : w2.heap.size < w4.heap.size := World.block_lt_of_cell? _ _ cw4_2_0
  have gw4 : Gr W w4 := Gr.trans (by have gg := gw3; have gs := gg.size; go_grown) hw4
  clear gw3 zw3_0 cw3_0_0 cw3_0_1 zw3_1 cw3_1_0 cw3_1_1 cw3_1_2 cw3_1_3 cw3_1_4 cw3_1_5 zw3_2 cw3_2_0 cw3_2_1
  clear hw4
  try simp only [Act.put, List.setIfInBounds_toArray, List.set_cons_zero, List.set_cons_succ]
  repeat (first | (refine Od.wpO_skip (by simp only [List.getElem?_toArray, List.getElem?_cons_succ, List.getElem?_cons_zero] <;> rfl) rfl ?_; simp only [Act.put, List.setIfInBounds_toArray, List.set_cons_zero, List.set_cons_succ]) | (refine Od.wpO_pure (by simp only [List.getElem?_toArray, List.getElem?_cons_succ, List.getElem?_cons_zero] <;> rfl) rfl ?_; apply Exists.intro; refine ⟨?_, ?_⟩; (· intro wx gx; obtain ⟨mx, rfl⟩ := spread_of_gr gx; clear gx; all_goals (apply Od.pAt_of_quiet; intro K hK; go_big_quiet_op; first | exact hK _ rfl | (apply Exists.intro; refine ⟨fun _ => ?_, ?_⟩; (· fail); exact hK _ rfl))); try simp only [Act.put, List.setIfInBounds_toArray, List.set_cons_zero, List.set_cons_succ]))
  refine Od.wpO_call (by simp only [List.getElem?_toArray, List.getElem?_cons_succ, List.getElem?_cons_zero] <;> rfl) rfl ?_
  intro QS hQS
  go_wp2_with fail
  go_at_call 13
  (with_reducible refine ((H3.out _ gw4)).mono ?_)
  rintro e w5 ⟨rfl, hw5⟩
  go_wp2_with fail
  apply Exists.intro
  refine ⟨?_, hw5, ?_⟩
  · simp only [Act.put, List.setIfInBounds_toArray, List.set_cons_zero, List.set_cons_succ]; rfl
  have cw5_0_0 : w5.cell? ⟨W.heap.size, 0, none⟩ = some (.int .i64 4) := cell_gr hw5 (by go_simp)
  have cw5_0_1 : w5.cell? ⟨W.heap.size, 1, none⟩ = some (.slice ad n cap) := cell_gr hw5 (by go_simp)
  have zw5_0 : W.heap.size < w5.heap.size := World.block_lt_of_cell? _ _ cw5_0_0
  have cw5_1_0 : w5.cell? ⟨W.heap.size + 1, 0, none⟩ = some (.int .i64 3) := cell_gr hw5 (by go_simp)
  have cw5_1_1 : w5.cell? ⟨W.heap.size + 1, 1, none⟩ = some (.int .i64 px) := cell_gr hw5 (by go_simp)
  have cw5_1_2 : w5.cell? ⟨W.heap.size + 1, 2, none⟩ = some (.int .i64 py) := cell_gr hw5 (by go_simp)
  have cw5_1_3 : w5.cell? ⟨W.heap.size + 1, 3, none⟩ = some (.int .i64 hx) := cell_gr hw5 (by go_simp)
  have cw5_1_4 : w5.cell? ⟨W.heap.size + 1, 4, none⟩ = some (.int .i64 hy) := cell_gr hw5 (by go_simp)
  have cw5_1_5 : w5.cell? ⟨W.heap.size + 1, 5, none⟩ = some (.slice bd m bcap) := cell_gr hw5 (by go_simp)
  have zw5_1 : W.heap.size + 1 < w5.heap.size := World.block_lt_of_cell? _ _ cw5_1_0
  have cw5_2_0 : w5.cell? ⟨w2.heap.size, 0, none⟩ = some (.nilIface) := cell_gr hw5 (by go_simp)
  have cw5_2_1 : w5.cell? ⟨w2.heap.size, 1, none⟩ = some (.nilIface) := cell_gr hw5 (by go_simp)
  have zw5_2 : w2.heap.size < w5.heap.size := World.block_lt_of_cell? _ _ cw5_2_0
  have gw5 : Gr W w5 := Gr.trans (by have gg := gw4; have gs := gg.size; go_grown) hw5
  clear gw4 zw4_0 cw4_0_0 cw4_0_1 zw4_1 cw4_1_0 cw4_1_1 cw4_1_2 cw4_1_3 cw4_1_4 cw4_1_5 zw4_2 cw4_2_0 cw4_2_1
  clear hw5
  try simp only [Act.put, List.setIfInBounds_toArray, List.set_cons_zero, List.set_cons_succ]
  repeat (first | (refine Od.wpO_skip (by simp only [List.getElem?_toArray, List.getElem?_cons_succ, List.getElem?_cons_zero] <;> rfl) rfl ?_; simp only [Act.put, List.setIfInBounds_toArray, List.set_cons_zero, List.set_cons_succ]) | (refine Od.wpO_pure (by simp only [List.getElem?_toArray, List.getElem?_cons_succ, List.getElem?_cons_zero] <;> rfl) rfl ?_; apply Exists.intro; refine ⟨?_, ?_⟩; (· intro wx gx; obtain ⟨mx, rfl⟩ := spread_of_gr gx; clear gx; all_goals (apply Od.pAt_of_quiet; intro K hK; go_big_quiet_op; first | exact hK _ rfl | (apply Exists.intro; refine ⟨fun _ => ?_, ?_⟩; (· fail); exact hK _ rfl))); try simp only [Act.put, List.setIfInBounds_toArray, List.set_cons_zero, List.set_cons_succ]))
  refine Od.wpO_nil (hKQ _ _ ?_)
  clear hKQ KQ
  go_wp2_with fail
  go_ret
  exact ⟨rfl, gw5⟩
end
/-- A triangle. -/
def awX : Nat → Int := fun i => if i = 1 then 4 else 0
def awY : Nat → Int := fun i => if i = 2 then 4 else 0
theorem aw_ring : Rg.ringC 3 awX awY = (0, 0) := by decide +kernel
theorem aw_arm : arM 3 awX awY 1 1 1 1 = true := by decide +kernel
theorem aw_has : rmbV 3 awX awY 1 1 1 1 = true := by decide +kernel
theorem aw_pts {w : World} {B : Nat} (h0 : w.cell? ⟨B, 0, none⟩ = some (.int .i64 0)) (h1 : w.cell? ⟨B, 1, none⟩ = some (.int .i64 0)) (h2 : w.cell? ⟨B, 2, none⟩ = some (.int .i64 4)) (h3 : w.cell? ⟨B, 3, none⟩ = some (.int .i64 0)) (h4 : w.cell? ⟨B, 4, none⟩ = some (.int .i64 0)) (h5 : w.cell? ⟨B, 5, none⟩ = some (.int .i64 4)) :
    Pts w (.slice (some ⟨B, 0, none⟩) 3 3) 3 awX awY :=
  ⟨some ⟨B, 0, none⟩, 3, B, 0, rfl, Nat.le_refl _, by decide, fun _ => rfl, fun k hk => by
    match k, hk with
    | 0, _ => exact ⟨h0, h1⟩
    | 1, _ => exact ⟨h2, h3⟩
    | 2, _ => exact ⟨h4, h5⟩⟩
theorem nil_pts (w : World) : Pts w (.slice none 0 0) 0 (fun _ => 0) (fun _ => 0) := ⟨none, 0, 0, 0, rfl, Nat.le_refl _, by decide, fun h => absurd h (by decide), fun k hk => absurd hk (Nat.not_lt_zero _)⟩
set_option maxHeartbeats 4000000 in
set_option maxRecDepth 100000 in
theorem p6_awake (W : World) (hE : ErrT W) : Calls Tryz.prog 4 #[] W fun e w' => e = .returned (.bool true) ∧ Gr W w' := by
  have A1 : ∀ w v, Pts w v 3 awX awY → Calls Tryz.prog 5 #[.agg #[.int .i64 4, v], qryV 3 1 1 0 0 (.slice none 0 0)] w fun e w' => e = .returned (.bool true) ∧ Gr w w' := fun w v h => by
    have C := c_Match_has (px := 1) (py := 1) 0 0 _ w (nil_pts w) h (by rw [aw_ring]) (by decide) aw_arm
    rw [aw_has] at C
    exact C
  have A2 : ∀ w v, Pts w v 3 awX awY → Calls Tryz.prog 9 #[.agg #[.int .i64 4, v]] w fun e w' => e = .returned .nilIface ∧ Gr w w' := fun w v h => (c_relCheck 4 w h).mono (by
    rintro e w' ⟨x, rfl, hx, g'⟩
    obtain rfl := werr_zero hx (by rw [objC_4, aw_ring])
    exact ⟨rfl, g'⟩)
  have A3 := fun w => c_relCheck 9 w (nil_pts w)
  rw [objC_x (by omega) (by omega) (by omega) (by omega)] at A3
  have H1 := Lib.hid A1
  have H2 := Lib.hid A2
  have H3 := Lib.hid A3
  clear A1 A2 A3
  go_enter Tryz.func4, Tryz.ntmps4
  go_wp2_with fail
  go_at_call 5
  refine (H1.out _ _ (aw_pts (by go_simp) (by go_simp) (by go_simp) (by go_simp) (by go_simp) (by go_simp))).mono ?_
  rintro e w1 ⟨rfl, g1⟩
  have P1 := Lib.hid (aw_pts (cell_gr g1 (p := ⟨W.heap.size, 0, none⟩) (by go_simp)) (cell_gr g1 (by go_simp)) (cell_gr g1 (by go_simp)) (cell_gr g1 (by go_simp)) (cell_gr g1 (by go_simp)) (cell_gr g1 (by go_simp)))
  have c0 : w1.cell? ⟨W.heap.size + 1, 0, none⟩ = some (.int .i64 4) := cell_gr g1 (by go_simp)
  have c1 : w1.cell? ⟨W.heap.size + 1, 1, none⟩ = some (.slice (some ⟨W.heap.size, 0, none⟩) 3 3) := cell_gr g1 (by go_simp)
  have c2 := World.block_lt_of_cell? _ _ c0
  have G1 : Gr W w1 := Gr.trans (by go_grown) g1
  clear g1
  go_wp2_with fail
  go_at_call 9
  refine (H2.out _ _ (pts_gr P1.out (by go_grown))).mono ?_
  rintro e w2 ⟨rfl, g2⟩
  have G2 : Gr W w2 := Gr.trans G1 (Gr.trans (by go_grown) g2)
  clear g2 P1
  go_wp2_with fail
  go_at_call 9
  refine (H3.out _).mono ?_
  rintro e w3 ⟨u3, rfl, hu, g3⟩
  have G3 : Gr W w3 := Gr.trans G2 (Gr.trans (by go_grown) g3)
  have HU := Lib.hid hu
  clear g3 hu
  go_wp2_with fail
  go_at_call 10
  refine (c_AlIs_werr _ (errT_gr hE (Gr.trans G3 (by go_grown))) (werr_gr HU.out (by go_grown))).mono ?_
  rintro e w4 ⟨rfl, g4⟩
  have G4 : Gr W w4 := Gr.trans G3 (Gr.trans (by go_grown) g4)
  clear g4
  go_wp2_with fail
  go_ret
  exact ⟨rfl, by go_grown⟩
end Go.Proofs.YtagbodamehejmaaGreatDoor
