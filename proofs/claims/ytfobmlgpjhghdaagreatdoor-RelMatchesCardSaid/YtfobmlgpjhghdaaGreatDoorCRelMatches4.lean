/- What RelMatches leans on: Uc Ui Uj Ue Uf Ug Uk Rb Ul Um Un Ea Id Ia Ib -/
import Derived.Test.YtfobmlgpjhghdaaGreatDoorCRelMatches3
import Derived.Laws.AppendOwn
import Derived.OwnWalk
import Derived.Laws.OwnMore
import Derived.Deep.RegionLaw
import Derived.Laws.Bits64b
import Derived.ArgAppend
import Derived.Deep.LoopGhost
import Derived.Maps.AppendAt
import Derived.Deep.RegionWith
namespace Go.Proofs.YtfobmlgpjhghdaaGreatDoor
set_option linter.unusedVariables false
set_option linter.unusedSimpArgs false
open Go.ChangeShapes Go.WideShapes Go.ChangeAt Go.RowKit
theorem c_As_nil (x : Value) (W : World) : Calls Tryz.prog 61 #[.nilIface, x] W fun e w' => e = .returned (.bool false) ∧ Gr W w' := by
  go_enter Tryz.func61, Tryz.ntmps61
  go_wp2_with fail
  go_ret
  exact ⟨rfl, by go_grown⟩
set_option maxHeartbeats 2000000 in
set_option maxRecDepth 100000 in
theorem c_allowed0 {D : Nat} (W : World) (p0 : W.cell? ⟨D, 0, none⟩ = some .nilIface) (p1 : W.cell? ⟨D, 1, none⟩ = some .nilIface) : Calls Tryz.prog 39 #[.slice (some ⟨D, 0, none⟩) 2 2] W fun e w' => e = .returned (.bool true) ∧ Gr W w' := by
  have hD := World.block_lt_of_cell? _ _ p0
  go_enter Tryz.func39, Tryz.ntmps39
  go_wp2_with fail
  go_loopg [8] 2 (fun k x wr => ((k = 2 ∧ x = .int .i64 0) ∨ (k = 1 ∧ x = .int .i64 1) ∨ (k = 0 ∧ x = .int .i64 2)) ∧ Gr W wr)
  case atStart => exact ⟨Or.inl ⟨rfl, rfl⟩, by go_grown⟩
  case round =>
    obtain ⟨hx, hg⟩ := hrel
    have r0 := cell_gr hg p0
    have r1 := cell_gr hg p1
    have hgs := hg.size
    rcases hx with ⟨rfl, rfl⟩ | ⟨rfl, rfl⟩ | ⟨rfl, rfl⟩
    · go_wp2_with fail
      go_at_call 61
      refine (c_As_nil _ _).mono ?_
      rintro e w1 ⟨rfl, g1⟩
      have G1 : Gr W w1 := Gr.trans (by go_grown) g1
      clear g1
      go_wp2_with fail
      go_roundg 1
      case measure => omega
      case rel => exact ⟨Or.inr (Or.inl ⟨rfl, rfl⟩), by have gs := G1.size; go_grown⟩
    · go_wp2_with fail
      go_at_call 61
      refine (c_As_nil _ _).mono ?_
      rintro e w1 ⟨rfl, g1⟩
      have G1 : Gr W w1 := Gr.trans (by go_grown) g1
      clear g1
      go_wp2_with fail
      go_roundg 0
      case measure => omega
      case rel => exact ⟨Or.inr (Or.inr ⟨rfl, rfl⟩), by have gs := G1.size; go_grown⟩
    · go_wp2_with fail
      go_ret
      exact ⟨rfl, by go_grown⟩
theorem werr_zero {op : ByteArray} {w : World} {v : Value} {id : Int} {k : Nat} (h : WErr op w v id k) (hk : k = 0) : v = .nilIface := by
  rcases h with ⟨h, -⟩ | ⟨B, u, d, -, h2, -⟩
  · exact h
  · omega
def rmbV (n : Nat) (X Y : Nat → Int) (lx ly hx hy : Int) : Bool := mbW n X Y lx ly hx hy (List.range n) || (nearB lx ly && Rg.hasN n X Y lx ly)
theorem c_rmb' {n : Nat} {X Y : Nat → Int} {v : Value} {lx ly hx hy : Int} (W : World) (h : Pts W v n X Y) (h0 : (Rg.ringC n X Y).1 = 0) (hm : arM n X Y lx ly hx hy = true) : Calls Tryz.prog 104 #[v, .agg #[.int .i64 lx, .int .i64 ly, .int .i64 hx, .int .i64 hy]] W fun e w' => e = .returned (.bool (rmbV n X Y lx ly hx hy)) ∧ Gr W w' := c_rmb W h h0 hm
section
variable {n : Nat} {X Y : Nat → Int} {v : Value} {px py : Int}
set_option maxRecDepth 100000 in
theorem c_meetsBox4 (lx ly hx hy : Int) (W : World) (h : Pts W v n X Y) (h0 : (Rg.ringC n X Y).1 = 0) (hm : arM n X Y lx ly hx hy = true) :
    Calls Tryz.prog 68 #[.agg #[.int .i64 4, v], .agg #[.int .i64 lx, .int .i64 ly, .int .i64 hx, .int .i64 hy]] W fun e w' => e = .returned (.bool (rmbV n X Y lx ly hx hy)) ∧ Gr W w' := by
  have A1 := fun w (g : Gr W w) => c_rmb' (lx := lx) (ly := ly) (hx := hx) (hy := hy) w (pts_gr h g) h0 hm
  generalize (rmbV n X Y lx ly hx hy) = z at A1 ⊢
  obtain ⟨ad, cap, B, off, rfl, _⟩ := h
  have H1 := Lib.hid A1
  clear A1
  go_enter Tryz.func68, Tryz.ntmps68
  go_wp2_with fail
  go_at_call 104
  refine ((H1.out _ (by go_grown))).mono ?_
  rintro e w1 ⟨rfl, hw1⟩
  have gw1 : Gr W w1 := Gr.trans (by go_grown) hw1
  clear hw1
  go_wp2_with fail
  go_ret
  exact ⟨rfl, gw1⟩
set_option maxRecDepth 100000 in
theorem c_Matches_has (hx hy : Int) (u : Value) (W : World) (hu : ∃ ad m c, u = .slice ad m c) (h : Pts W v n X Y) (h0 : (Rg.ringC n X Y).1 = 0) (hm : arM n X Y px py px py = true) :
    Calls Tryz.prog 41 #[.agg #[.int .i64 4, v], qryV 3 px py hx hy u] W fun e w' => e = .returned (.bool (rmbV n X Y px py px py)) ∧ Gr W w' := by
  have A1 := fun w (g : Gr W w) => c_meetsBox4 px py px py w (pts_gr h g) h0 hm
  generalize (rmbV n X Y px py px py) = z at A1 ⊢
  obtain ⟨ad, cap, B, off, rfl, _⟩ := h
  obtain ⟨bd, m, c, rfl⟩ := hu
  have H1 := Lib.hid A1
  clear A1
  go_enter Tryz.func41, Tryz.ntmps41
  go_wp2_with fail
  go_at_call 68
  refine ((H1.out _ (by go_grown))).mono ?_
  rintro e w1 ⟨rfl, hw1⟩
  have gw1 : Gr W w1 := Gr.trans (by go_grown) hw1
  clear hw1
  go_wp2_with fail
  go_ret
  exact ⟨rfl, gw1⟩
set_option maxHeartbeats 4000000 in
set_option maxRecDepth 100000 in
theorem c_Match_has {m : Nat} {P Q : Nat → Int} (hx hy : Int) (u : Value) (W : World) (hu : Pts W u m P Q) (h : Pts W v n X Y) (h0 : (Rg.ringC n X Y).1 = 0) (hp : nearB px py = true) (hm : arM n X Y px py px py = true) :
    Calls Tryz.prog 13 #[.agg #[.int .i64 4, v], qryV 3 px py hx hy u] W fun e w' => e = .returned (.bool (rmbV n X Y px py px py)) ∧ Gr W w' := by
  have A1 : ∀ w, Gr W w → Calls Tryz.prog 34 #[.agg #[.int .i64 4, v]] w fun e w' => e = .returned .nilIface ∧ Gr w w' := fun w g => (c_relCheck 4 w (pts_gr h g)).mono (by
    rintro e w' ⟨x, rfl, hx, g'⟩
    obtain rfl := werr_zero hx (by rw [objC_4]; exact h0)
    exact ⟨rfl, g'⟩)
  have A2 : ∀ w, Gr W w → Calls Tryz.prog 40 #[qryV 3 px py hx hy u] w fun e w' => e = .returned .nilIface ∧ Gr w w' := fun w g => (c_CheckQuery 3 px py hx hy w (pts_gr hu g)).mono (by
    rintro e w' ⟨x, rfl, hx, g'⟩
    obtain rfl := werr_zero hx (by unfold qC; rw [if_neg (by omega), if_pos rfl, if_pos hp])
    exact ⟨rfl, g'⟩)
  have hu2 : ∃ ad m c, u = .slice ad m c := by obtain ⟨ad, cap, _, _, rfl, _⟩ := hu; exact ⟨_, _, _, rfl⟩
  have A3 := fun w (g : Gr W w) => c_Matches_has (px := px) (py := py) hx hy u w hu2 (pts_gr h g) h0 hm
  have A4 := fun (D : Nat) w => c_allowed0 (D := D) w
  generalize (rmbV n X Y px py px py) = z at A3 ⊢
  obtain ⟨ad, cap, B, off, rfl, _⟩ := h
  obtain ⟨bd, bcap, C, oc, rfl, _⟩ := hu
  have H1 := Lib.hid A1
  have H2 := Lib.hid A2
  have H3 := Lib.hid A3
  have H4 := Lib.hid A4
  clear A1 A2 A3 A4
  clear hu2 hp hm h0
  go_enter Tryz.func13, Tryz.ntmps13
  go_wp2_with fail
  try simp only [List.append]
  refine Od.wp_region_ord [(0, false), (2, false), (1, true), (3, true), (4, true), (5, true), (6, false), (7, false), (8, false), (9, true), (10, false), (11, false)] (by kernel_rfl) (by kernel_rfl) ?_
  intro w0 hw0 KQ hKQ
  have cw0_0_0 := ci hw0 (W.heap.size) 0 4 (by go_simp)
  have cw0_0_1 := cg hw0 (W.heap.size) 1 (.slice ad n cap) (by go_simp)
  have cw0_1_0 := ci hw0 (W.heap.size + 1) 0 3 (by go_simp)
  have cw0_1_1 := ci hw0 (W.heap.size + 1) 1 px (by go_simp)
  have cw0_1_2 := ci hw0 (W.heap.size + 1) 2 py (by go_simp)
  have cw0_1_3 := ci hw0 (W.heap.size + 1) 3 hx (by go_simp)
  have cw0_1_4 := ci hw0 (W.heap.size + 1) 4 hy (by go_simp)
  have cw0_1_5 := cg hw0 (W.heap.size + 1) 5 (.slice bd m bcap) (by go_simp)
  have gw0 : Gr W w0 := Gr.trans (by go_grown) hw0
  skip
  clear hw0
  repeat (first | (refine Od.wpO_skip (by simp only [List.getElem?_toArray, List.getElem?_cons_succ, List.getElem?_cons_zero] <;> rfl) rfl ?_; simp only [Act.put, List.setIfInBounds_toArray, List.set_cons_zero, List.set_cons_succ]) | (refine Od.wpO_pure (by simp only [List.getElem?_toArray, List.getElem?_cons_succ, List.getElem?_cons_zero] <;> rfl) rfl ?_; apply Exists.intro; refine ⟨?_, ?_⟩; (· intro wx gx; obtain ⟨mx, rfl⟩ := spread_of_gr gx; clear gx; all_goals (apply Od.pAt_of_quiet; intro K hK; go_big_quiet_op; first | exact hK _ rfl | (apply Exists.intro; refine ⟨fun _ => ?_, ?_⟩; (· fail); exact hK _ rfl))); try simp only [Act.put, List.setIfInBounds_toArray, List.set_cons_zero, List.set_cons_succ]))
  refine Od.wpO_call (by simp only [List.getElem?_toArray, List.getElem?_cons_succ, List.getElem?_cons_zero] <;> rfl) rfl ?_
  intro QS hQS
  go_wp2_with fail
  go_at_call 34
  (with_reducible refine ((H1.out _ gw0)).mono ?_)
  rintro e w1 ⟨rfl, hw1⟩
  go_wp2_with fail
  apply Exists.intro
  refine ⟨?_, hw1, ?_⟩
  · simp only [Act.put, List.setIfInBounds_toArray, List.set_cons_zero, List.set_cons_succ]; rfl
  have cw1_0_0 := ci hw1 (W.heap.size) 0 4 (by go_simp)
  have cw1_0_1 := cg hw1 (W.heap.size) 1 (.slice ad n cap) (by go_simp)
  have cw1_1_0 := ci hw1 (W.heap.size + 1) 0 3 (by go_simp)
  have cw1_1_1 := ci hw1 (W.heap.size + 1) 1 px (by go_simp)
  have cw1_1_2 := ci hw1 (W.heap.size + 1) 2 py (by go_simp)
  have cw1_1_3 := ci hw1 (W.heap.size + 1) 3 hx (by go_simp)
  have cw1_1_4 := ci hw1 (W.heap.size + 1) 4 hy (by go_simp)
  have cw1_1_5 := cg hw1 (W.heap.size + 1) 5 (.slice bd m bcap) (by go_simp)
  have gw1 : Gr W w1 := Gr.trans (by have gg := gw0; have gs := gg.size; go_grown) hw1
  clear gw0 cw0_0_0 cw0_0_1 cw0_1_0 cw0_1_1 cw0_1_2 cw0_1_3 cw0_1_4 cw0_1_5
  clear hw1
  try simp only [Act.put, List.setIfInBounds_toArray, List.set_cons_zero, List.set_cons_succ]
  repeat (first | (refine Od.wpO_skip (by simp only [List.getElem?_toArray, List.getElem?_cons_succ, List.getElem?_cons_zero] <;> rfl) rfl ?_; simp only [Act.put, List.setIfInBounds_toArray, List.set_cons_zero, List.set_cons_succ]) | (refine Od.wpO_pure (by simp only [List.getElem?_toArray, List.getElem?_cons_succ, List.getElem?_cons_zero] <;> rfl) rfl ?_; apply Exists.intro; refine ⟨?_, ?_⟩; (· intro wx gx; obtain ⟨mx, rfl⟩ := spread_of_gr gx; clear gx; all_goals (apply Od.pAt_of_quiet; intro K hK; go_big_quiet_op; first | exact hK _ rfl | (apply Exists.intro; refine ⟨fun _ => ?_, ?_⟩; (· fail); exact hK _ rfl))); try simp only [Act.put, List.setIfInBounds_toArray, List.set_cons_zero, List.set_cons_succ]))
  refine Od.wpO_call (by simp only [List.getElem?_toArray, List.getElem?_cons_succ, List.getElem?_cons_zero] <;> rfl) rfl ?_
  intro QS hQS
  go_wp2_with fail
  go_at_call 40
  (with_reducible refine ((H2.out _ gw1)).mono ?_)
  rintro e w2 ⟨rfl, hw2⟩
  go_wp2_with fail
  apply Exists.intro
  refine ⟨?_, hw2, ?_⟩
  · simp only [Act.put, List.setIfInBounds_toArray, List.set_cons_zero, List.set_cons_succ]; rfl
  have cw2_0_0 := ci hw2 (W.heap.size) 0 4 (by go_simp)
  have cw2_0_1 := cg hw2 (W.heap.size) 1 (.slice ad n cap) (by go_simp)
  have zw2_0 := zb cw2_0_0
  have cw2_1_0 := ci hw2 (W.heap.size + 1) 0 3 (by go_simp)
  have cw2_1_1 := ci hw2 (W.heap.size + 1) 1 px (by go_simp)
  have cw2_1_2 := ci hw2 (W.heap.size + 1) 2 py (by go_simp)
  have cw2_1_3 := ci hw2 (W.heap.size + 1) 3 hx (by go_simp)
  have cw2_1_4 := ci hw2 (W.heap.size + 1) 4 hy (by go_simp)
  have cw2_1_5 := cg hw2 (W.heap.size + 1) 5 (.slice bd m bcap) (by go_simp)
  have zw2_1 := zb cw2_1_0
  have gw2 : Gr W w2 := Gr.trans (by have gg := gw1; have gs := gg.size; go_grown) hw2
  clear gw1 cw1_0_0 cw1_0_1 cw1_1_0 cw1_1_1 cw1_1_2 cw1_1_3 cw1_1_4 cw1_1_5
  clear hw2
  try simp only [Act.put, List.setIfInBounds_toArray, List.set_cons_zero, List.set_cons_succ]
  repeat (first | (refine Od.wpO_skip (by simp only [List.getElem?_toArray, List.getElem?_cons_succ, List.getElem?_cons_zero] <;> rfl) rfl ?_; simp only [Act.put, List.setIfInBounds_toArray, List.set_cons_zero, List.set_cons_succ]) | (refine Od.wpO_pure (by simp only [List.getElem?_toArray, List.getElem?_cons_succ, List.getElem?_cons_zero] <;> rfl) rfl ?_; apply Exists.intro; refine ⟨?_, ?_⟩; (· intro wx gx; obtain ⟨mx, rfl⟩ := spread_of_gr gx; clear gx; all_goals (apply Od.pAt_of_quiet; intro K hK; go_big_quiet_op; first | exact hK _ rfl | (apply Exists.intro; refine ⟨fun _ => ?_, ?_⟩; (· fail); exact hK _ rfl))); try simp only [Act.put, List.setIfInBounds_toArray, List.set_cons_zero, List.set_cons_succ]))
  refine Od.wpO_call (by simp only [List.getElem?_toArray, List.getElem?_cons_succ, List.getElem?_cons_zero] <;> rfl) rfl ?_
  intro QS hQS
  go_wp2_with fail
  first | (apply Exists.intro; refine ⟨?_, (by go_grown), ?_⟩; (· simp only [Act.put, List.setIfInBounds_toArray, List.set_cons_zero, List.set_cons_succ]; rfl)) | (refine ⟨(by go_grown), ?_⟩)
  generalize hhw3 : (w2.alloc (.cells #[.nilIface, .nilIface] 34)) = w3
  have hw3 : Gr w2 w3 := by subst hhw3; go_grown
  have cw3_0_0 : w3.cell? ⟨W.heap.size, 0, none⟩ = some (.int .i64 4) := by subst hhw3; go_simp
  have cw3_0_1 : w3.cell? ⟨W.heap.size, 1, none⟩ = some (.slice ad n cap) := by subst hhw3; go_simp
  have zw3_0 := zb cw3_0_0
  have cw3_1_0 : w3.cell? ⟨W.heap.size + 1, 0, none⟩ = some (.int .i64 3) := by subst hhw3; go_simp
  have cw3_1_1 : w3.cell? ⟨W.heap.size + 1, 1, none⟩ = some (.int .i64 px) := by subst hhw3; go_simp
  have cw3_1_2 : w3.cell? ⟨W.heap.size + 1, 2, none⟩ = some (.int .i64 py) := by subst hhw3; go_simp
  have cw3_1_3 : w3.cell? ⟨W.heap.size + 1, 3, none⟩ = some (.int .i64 hx) := by subst hhw3; go_simp
  have cw3_1_4 : w3.cell? ⟨W.heap.size + 1, 4, none⟩ = some (.int .i64 hy) := by subst hhw3; go_simp
  have cw3_1_5 : w3.cell? ⟨W.heap.size + 1, 5, none⟩ = some (.slice bd m bcap) := by subst hhw3; go_simp
  have zw3_1 := zb cw3_1_0
  have cw3_2_0 : w3.cell? ⟨w2.heap.size, 0, none⟩ = some (.nilIface) := by subst hhw3; go_simp
  have cw3_2_1 : w3.cell? ⟨w2.heap.size, 1, none⟩ = some (.nilIface) := by subst hhw3; go_simp
  have gw3 : Gr W w3 := Gr.trans (by have gg := gw2; have gs := gg.size; go_grown) hw3
  clear hhw3 hw3 gw2 zw2_0 cw2_0_0 cw2_0_1 zw2_1 cw2_1_0 cw2_1_1 cw2_1_2 cw2_1_3 cw2_1_4 cw2_1_5
  try simp only [Act.put, List.setIfInBounds_toArray, List.set_cons_zero, List.set_cons_succ]
  repeat (first | (refine Od.wpO_skip (by simp only [List.getElem?_toArray, List.getElem?_cons_succ, List.getElem?_cons_zero] <;> rfl) rfl ?_; simp only [Act.put, List.setIfInBounds_toArray, List.set_cons_zero, List.set_cons_succ]) | (refine Od.wpO_pure (by simp only [List.getElem?_toArray, List.getElem?_cons_succ, List.getElem?_cons_zero] <;> rfl) rfl ?_; apply Exists.intro; refine ⟨?_, ?_⟩; (· intro wx gx; obtain ⟨mx, rfl⟩ := spread_of_gr gx; clear gx; all_goals (apply Od.pAt_of_quiet; intro K hK; go_big_quiet_op; first | exact hK _ rfl | (apply Exists.intro; refine ⟨fun _ => ?_, ?_⟩; (· fail); exact hK _ rfl))); try simp only [Act.put, List.setIfInBounds_toArray, List.set_cons_zero, List.set_cons_succ]))
  refine Od.wpO_call (by simp only [List.getElem?_toArray, List.getElem?_cons_succ, List.getElem?_cons_zero] <;> rfl) rfl ?_
  intro QS hQS
  go_wp2_with fail
  go_at_call 39
  (with_reducible refine ((H4.out _ _ cw3_2_0 cw3_2_1)).mono ?_)
  rintro e w4 ⟨rfl, hw4⟩
  go_wp2_with fail
  apply Exists.intro
  refine ⟨?_, hw4, ?_⟩
  · simp only [Act.put, List.setIfInBounds_toArray, List.set_cons_zero, List.set_cons_succ]; rfl
  have cw4_0_0 := ci hw4 (W.heap.size) 0 4 (by go_simp)
  have cw4_0_1 := cg hw4 (W.heap.size) 1 (.slice ad n cap) (by go_simp)
  have cw4_1_0 := ci hw4 (W.heap.size + 1) 0 3 (by go_simp)
  have cw4_1_1 := ci hw4 (W.heap.size + 1) 1 px (by go_simp)
  have cw4_1_2 := ci hw4 (W.heap.size + 1) 2 py (by go_simp)
  have cw4_1_3 := ci hw4 (W.heap.size + 1) 3 hx (by go_simp)
  have cw4_1_4 := ci hw4 (W.heap.size + 1) 4 hy (by go_simp)
  have cw4_1_5 := cg hw4 (W.heap.size + 1) 5 (.slice bd m bcap) (by go_simp)
  have gw4 : Gr W w4 := Gr.trans (by have gg := gw3; have gs := gg.size; go_grown) hw4
  clear gw3 zw3_0 cw3_0_0 cw3_0_1 zw3_1 cw3_1_0 cw3_1_1 cw3_1_2 cw3_1_3 cw3_1_4 cw3_1_5 cw3_2_0 cw3_2_1
  clear hw4
  try simp only [Act.put, List.setIfInBounds_toArray, List.set_cons_zero, List.set_cons_succ]
  repeat (first | (refine Od.wpO_skip (by simp only [List.getElem?_toArray, List.getElem?_cons_succ, List.getElem?_cons_zero] <;> rfl) rfl ?_; simp only [Act.put, List.setIfInBounds_toArray, List.set_cons_zero, List.set_cons_succ]) | (refine Od.wpO_pure (by simp only [List.getElem?_toArray, List.getElem?_cons_succ, List.getElem?_cons_zero] <;> rfl) rfl ?_; apply Exists.intro; refine ⟨?_, ?_⟩; (· intro wx gx; obtain ⟨mx, rfl⟩ := spread_of_gr gx; clear gx; all_goals (apply Od.pAt_of_quiet; intro K hK; go_big_quiet_op; first | exact hK _ rfl | (apply Exists.intro; refine ⟨fun _ => ?_, ?_⟩; (· fail); exact hK _ rfl))); try simp only [Act.put, List.setIfInBounds_toArray, List.set_cons_zero, List.set_cons_succ]))
  refine Od.wpO_call (by simp only [List.getElem?_toArray, List.getElem?_cons_succ, List.getElem?_cons_zero] <;> rfl) rfl ?_
  intro QS hQS
  go_wp2_with fail
  go_at_call 41
  (with_reducible refine ((H3.out _ gw4)).mono ?_)
  rintro e w5 ⟨rfl, hw5⟩
  go_wp2_with fail
  apply Exists.intro
  refine ⟨?_, hw5, ?_⟩
  · simp only [Act.put, List.setIfInBounds_toArray, List.set_cons_zero, List.set_cons_succ]; rfl
  have gw5 : Gr W w5 := Gr.trans (by have gg := gw4; have gs := gg.size; go_grown) hw5
  clear gw4 cw4_0_0 cw4_0_1 cw4_1_0 cw4_1_1 cw4_1_2 cw4_1_3 cw4_1_4 cw4_1_5
  clear hw5
  try simp only [Act.put, List.setIfInBounds_toArray, List.set_cons_zero, List.set_cons_succ]
  repeat (first | (refine Od.wpO_skip (by simp only [List.getElem?_toArray, List.getElem?_cons_succ, List.getElem?_cons_zero] <;> rfl) rfl ?_; simp only [Act.put, List.setIfInBounds_toArray, List.set_cons_zero, List.set_cons_succ]) | (refine Od.wpO_pure (by simp only [List.getElem?_toArray, List.getElem?_cons_succ, List.getElem?_cons_zero] <;> rfl) rfl ?_; apply Exists.intro; refine ⟨?_, ?_⟩; (· intro wx gx; obtain ⟨mx, rfl⟩ := spread_of_gr gx; clear gx; all_goals (apply Od.pAt_of_quiet; intro K hK; go_big_quiet_op; first | exact hK _ rfl | (apply Exists.intro; refine ⟨fun _ => ?_, ?_⟩; (· fail); exact hK _ rfl))); try simp only [Act.put, List.setIfInBounds_toArray, List.set_cons_zero, List.set_cons_succ]))
  refine Od.wpO_nil (hKQ _ _ ?_)
  clear hKQ KQ
  go_wp2_with fail
  go_ret
  exact ⟨rfl, gw5⟩
end
def awX : Nat → Int := fun i => if i = 1 then 4 else 0
def awY : Nat → Int := fun i => if i = 2 then 4 else 0
theorem aw_ring : Rg.ringC 3 awX awY = (0, 0) := by decide +kernel
theorem aw_arm : arM 3 awX awY 1 1 1 1 = true := by decide +kernel
theorem aw_has : rmbV 3 awX awY 1 1 1 1 = true := by decide +kernel
theorem aw_pts {w : World} {B : Nat} (h0 : w.cell? ⟨B, 0, none⟩ = some (.int .i64 0)) (h1 : w.cell? ⟨B, 1, none⟩ = some (.int .i64 0)) (h2 : w.cell? ⟨B, 2, none⟩ = some (.int .i64 4)) (h3 : w.cell? ⟨B, 3, none⟩ = some (.int .i64 0)) (h4 : w.cell? ⟨B, 4, none⟩ = some (.int .i64 0)) (h5 : w.cell? ⟨B, 5, none⟩ = some (.int .i64 4)) :
    Pts w (.slice (some ⟨B, 0, none⟩) 3 3) 3 awX awY :=
  ⟨some ⟨B, 0, none⟩, 3, B, 0, rfl, Nat.le_refl _, by decide, fun _ => rfl, fun k hk => by
    match k, hk with
    | 0, _ => exact ⟨h0, h1⟩
    | 1, _ => exact ⟨h2, h3⟩
    | 2, _ => exact ⟨h4, h5⟩⟩
theorem nil_pts (w : World) : Pts w (.slice none 0 0) 0 (fun _ => 0) (fun _ => 0) := ⟨none, 0, 0, 0, rfl, Nat.le_refl _, by decide, fun h => absurd h (by decide), fun k hk => absurd hk (Nat.not_lt_zero _)⟩
set_option maxHeartbeats 4000000 in
set_option maxRecDepth 100000 in
theorem p6_awake (W : World) (hE : ErrT W) : Calls Tryz.prog 9 #[] W fun e w' => e = .returned (.bool true) ∧ Gr W w' := by
  have A1 : ∀ w v, Pts w v 3 awX awY → Calls Tryz.prog 13 #[.agg #[.int .i64 4, v], qryV 3 1 1 0 0 (.slice none 0 0)] w fun e w' => e = .returned (.bool true) ∧ Gr w w' := fun w v h => by
    have C := c_Match_has (px := 1) (py := 1) 0 0 _ w (nil_pts w) h (by rw [aw_ring]) (by decide) aw_arm
    rw [aw_has] at C
    exact C
  have A2 : ∀ w v, Pts w v 3 awX awY → Calls Tryz.prog 34 #[.agg #[.int .i64 4, v]] w fun e w' => e = .returned .nilIface ∧ Gr w w' := fun w v h => (c_relCheck 4 w h).mono (by
    rintro e w' ⟨x, rfl, hx, g'⟩
    obtain rfl := werr_zero hx (by rw [objC_4, aw_ring])
    exact ⟨rfl, g'⟩)
  have A3 := fun w => c_relCheck 9 w (nil_pts w)
  rw [objC_x (by omega) (by omega) (by omega) (by omega)] at A3
  have H1 := Lib.hid A1
  have H2 := Lib.hid A2
  have H3 := Lib.hid A3
  clear A1 A2 A3
  go_enter Tryz.func9, Tryz.ntmps9
  go_wp2_with fail
  go_at_call 13
  refine (H1.out _ _ (aw_pts (by go_simp) (by go_simp) (by go_simp) (by go_simp) (by go_simp) (by go_simp))).mono ?_
  rintro e w1 ⟨rfl, g1⟩
  have P1 := Lib.hid (aw_pts (cell_gr g1 (p := ⟨W.heap.size, 0, none⟩) (by go_simp)) (cell_gr g1 (by go_simp)) (cell_gr g1 (by go_simp)) (cell_gr g1 (by go_simp)) (cell_gr g1 (by go_simp)) (cell_gr g1 (by go_simp)))
  have c0 := ci g1 (W.heap.size + 1) 0 4 (by go_simp)
  have c1 := cg g1 (W.heap.size + 1) 1 (.slice (some ⟨W.heap.size, 0, none⟩) 3 3) (by go_simp)
  have c2 := World.block_lt_of_cell? _ _ c0
  have G1 : Gr W w1 := Gr.trans (by go_grown) g1
  clear g1
  go_wp2_with fail
  go_at_call 34
  refine (H2.out _ _ (pts_gr P1.out (by go_grown))).mono ?_
  rintro e w2 ⟨rfl, g2⟩
  have G2 : Gr W w2 := Gr.trans G1 (Gr.trans (by go_grown) g2)
  clear g2 P1
  go_wp2_with fail
  go_at_call 34
  refine (H3.out _).mono ?_
  rintro e w3 ⟨u3, rfl, hu, g3⟩
  have G3 : Gr W w3 := Gr.trans G2 (Gr.trans (by go_grown) g3)
  have HU := Lib.hid hu
  clear g3 hu
  go_wp2_with fail
  go_at_call 35
  refine (c_AlIs_werr _ (errT_gr hE (Gr.trans G3 (by go_grown))) (werr_gr HU.out (by go_grown))).mono ?_
  rintro e w4 ⟨rfl, g4⟩
  have G4 : Gr W w4 := Gr.trans G3 (Gr.trans (by go_grown) g4)
  clear g4
  go_wp2_with fail
  go_ret
  exact ⟨rfl, by go_grown⟩
end Go.Proofs.YtfobmlgpjhghdaaGreatDoor
namespace Go.Proofs.YtfobmlgpjhghdaaGreatDoor
set_option linter.unusedVariables false
open Go.ChangeShapes Go.WideShapes Go.ChangeAt Go.RowKit Go.Shelf
attribute [local go_sem] Oper.semAt_some
def emW (n : Nat) (X Y : Nat → Int) (px py qx qy : Int) (pre : List Nat) : Bool := pre.any fun k => meG px py qx qy (X k) (Y k) (X (Rg.nx1 n k)) (Y (Rg.nx1 n k))
theorem emW_snoc (n : Nat) (X Y : Nat → Int) (px py qx qy : Int) (pre : List Nat) (k : Nat) : emW n X Y px py qx qy (pre ++ [k]) = (emW n X Y px py qx qy pre || meG px py qx qy (X k) (Y k) (X (Rg.nx1 n k)) (Y (Rg.nx1 n k))) := by
  unfold emW; rw [List.any_append]; simp
theorem emW_mono {n : Nat} {X Y : Nat → Int} {px py qx qy : Int} {k : Nat} (hk : k ≤ n) (h : emW n X Y px py qx qy (List.range k) = true) : emW n X Y px py qx qy (List.range n) = true := by
  unfold emW at *
  rw [List.any_eq_true] at *
  obtain ⟨x, h1, h2⟩ := h
  exact ⟨x, List.mem_range.2 (by have := List.mem_range.1 h1; omega), h2⟩
set_option maxHeartbeats 4000000 in
set_option maxRecDepth 100000 in
theorem c_edgeMeets {n : Nat} {X Y : Nat → Int} {v : Value} {px py qx qy : Int} (w : World) (h : Pts w v n X Y) (h1 : 1 ≤ n) (hn : n ≤ 1000) :
    Calls Tryz.prog 89 #[.agg #[.int .i64 px, .int .i64 py], .agg #[.int .i64 qx, .int .i64 qy], v] w fun e w' => e = .returned (.bool (emW n X Y px py qx qy (List.range n))) ∧ Gr w w' := by
  obtain ⟨ad, cap, B, off, rfl, q1, q2, q3, q4⟩ := h
  obtain rfl := q3 (by omega)
  have hB : B < w.heap.size := World.block_lt_of_cell? _ _ (q4 0 (by omega)).1
  have HC := Lib.hid q4
  have hmx : Tryz.prog.follows .mixedOrders = true := by kernel_rfl
  clear q3 q4
  refine (callsIn_wide (n := 10)).1 ?_
  refine callsIn_of_wp_marks Tryz.func89 rfl trivial ?_ rfl
  simp only [Tryz.ntmps89, List.size_toArray, List.length_cons, List.length_nil, Nat.reduceAdd, Nat.reduceSub, Array.replicate_succ, Array.replicate_zero, List.push_toArray, List.append_toArray, List.nil_append, List.cons_append]
  have n0 : 0 < n := by omega
  gi_wp2_with (refine ⟨trivial, ?_⟩; gi_at_call 76; refine (callsIn_wide.2 (c_Edges _ _ _ _)).mono ?_; rintro e w' ⟨rfl, rfl⟩)
  have bP : Box2 (w.alloc (.cells #[.int .i64 px, .int .i64 py] 26)) w.heap.size px py := Box2.new w px py
  have bQ := Box2.new (w.alloc (.cells #[.int .i64 px, .int .i64 py] 26)) qx qy
  have bR := Boxed.new ((w.alloc (.cells #[.int .i64 px, .int .i64 py] 26)).alloc (.cells #[.int .i64 qx, .int .i64 qy] 26)) 4 (.bool false)
  have bE := Boxed.new (((w.alloc (.cells #[.int .i64 px, .int .i64 py] 26)).alloc (.cells #[.int .i64 qx, .int .i64 qy] 26)).alloc (.cells #[.bool false] 4)) 22 (.slice (some ⟨B, off, none⟩) n cap)
  have bP0 := ((bP.alloc (.cells #[.int .i64 qx, .int .i64 qy] 26)).alloc (.cells #[.bool false] 4)).alloc (.cells #[.slice (some ⟨B, off, none⟩) n cap] 22)
  have bQ0 := (bQ.alloc (.cells #[.bool false] 4)).alloc (.cells #[.slice (some ⟨B, off, none⟩) n cap] 22)
  have bR0 := bR.alloc (.cells #[.slice (some ⟨B, off, none⟩) n cap] 22)
  have hG0 : Gr w ((((w.alloc (.cells #[.int .i64 px, .int .i64 py] 26)).alloc (.cells #[.int .i64 qx, .int .i64 qy] 26)).alloc (.cells #[.bool false] 4)).alloc (.cells #[.slice (some ⟨B, off, none⟩) n cap] 22)) := by go_grown
  have hsz : ((((w.alloc (.cells #[.int .i64 px, .int .i64 py] 26)).alloc (.cells #[.int .i64 qx, .int .i64 qy] 26)).alloc (.cells #[.bool false] 4)).alloc (.cells #[.slice (some ⟨B, off, none⟩) n cap] 22)).heap.size = w.heap.size + 4 := by simp
  simp only [World.size_alloc] at bE bR0 bQ0
  obtain ⟨W0, hW0⟩ : ∃ W0, ((((w.alloc (.cells #[.int .i64 px, .int .i64 py] 26)).alloc (.cells #[.int .i64 qx, .int .i64 qy] 26)).alloc (.cells #[.bool false] 4)).alloc (.cells #[.slice (some ⟨B, off, none⟩) n cap] 22)) = W0 := ⟨_, rfl⟩
  rw [hW0] at bE bP0 bQ0 bR0 hG0 hsz ⊢
  clear hW0 bP bQ bR
  refine wpIn_rangeFunc_ownH rfl (by decide) (gf := 114) (lb := #[.pointer (some ⟨w.heap.size + 1 + 1 + 1, 0, none⟩)]) rfl trivial (enters_of Tryz.func114 (by kernel_rfl) rfl)
    (edges_stops (10 - 1) (by decide) (w.heap.size + 1 + 1 + 1) B off n cap X Y hn h1 W0 bE.cell q1 q2 (fun k hk => ⟨cell_gr hG0 (HC.out k hk).1, cell_gr hG0 (HC.out k hk).2⟩)) KK.trans (kk_put (by omega) (by omega)) (Below.refl _ _) (fun _ => rfl)
    (fun pre W => (Boxed W (w.heap.size + 1 + 1) 4 (.bool false)) ∧ (((Box2 W w.heap.size px py ∧ Box2 W (w.heap.size + 1) qx qy) ∧ emW n X Y px py qx qy pre = false) ∧ (w.heap.size + 4 ≤ W.heap.size ∧ Below w.heap.size w W)))
    (fun c pre W => (c = .ret ∧ emW n X Y px py qx qy pre = true) ∧ (Boxed W (w.heap.size + 1 + 1) 4 (.bool true) ∧ Below w.heap.size w W))
    (OwnFrom.and (Own.from (boxed_own _ _ _) _) (OwnFrom.and (OwnFrom.and (OwnFrom.and (Own.from (box2_own _ _ _) _) (Own.from (box2_own _ _ _) _)) (ownFrom_pure _ _)) (OwnFrom.and (fun _ P Q row hs hg hr => Nat.le_trans hs hg.size) (ownFrom_below (Nat.le_refl _) (by omega)))))
    (fun c => OwnFrom.and (ownFrom_pure _ _) (OwnFrom.and (Own.from (boxed_own _ _ _) _) (ownFrom_below (Nat.le_refl _) (by omega))))
    ⟨bR0, ⟨⟨bP0, bQ0⟩, rfl⟩, by omega, hG0⟩
    (fun x a' W => ∃ Ba Bb, w.heap.size + 4 ≤ Ba ∧ w.heap.size + 4 ≤ Bb ∧ Box2 W Ba (X x) (Y x) ∧ Box2 W Bb (X (Rg.nx1 n x)) (Y (Rg.nx1 n x)) ∧ a' = { tmps := #[.agg #[.int .i64 px, .int .i64 py], .agg #[.int .i64 qx, .int .i64 qy], .slice (some ⟨B, off, none⟩) n cap, .pointer (some ⟨w.heap.size, 0, none⟩), .pointer (some ⟨w.heap.size + 1, 0, none⟩), undef, .pointer (some ⟨w.heap.size + 1 + 1, 0, none⟩), .pointer (some ⟨Ba, 0, none⟩), .pointer (some ⟨Bb, 0, none⟩), .slice (some ⟨B, off, none⟩) n cap, .func (.func 114) #[] #[.pointer (some ⟨w.heap.size + 1 + 1 + 1, 0, none⟩)], .agg #[.int .i64 (X x), .int .i64 (Y x)], .agg #[.int .i64 (X (Rg.nx1 n x)), .int .i64 (Y (Rg.nx1 n x))], undef, undef, undef, undef, undef], defers := [] })
    (fun x a' _ P Q row hs hg hr => by obtain ⟨Ba, Bb, i1, i2, i3, i4, i5⟩ := hs; exact ⟨Ba, Bb, i1, i2, box2_notcells i3 hg (fun r e => (hr r e).2), box2_notcells i4 hg (fun r e => (hr r e).2), i5⟩)
    ?assign ?body ?done ?stop
  case assign =>
    rintro l pre x W K ⟨bR1, ⟨⟨bP1, bQ1⟩, hon⟩, hs3, hB1⟩ hK
    gi_wp2
    have gA : Gr W ((W.alloc (.cells #[.int .i64 (X x), .int .i64 (Y x)] 26)).alloc (.cells #[.int .i64 (X (Rg.nx1 n x)), .int .i64 (Y (Rg.nx1 n x))] 26)) := by go_grown
    exact hK _ _ ((gr_keeps gA).from _) ((KK.refl _ _ _).gr gA (by omega) (by omega)) ⟨(bR1.alloc _).alloc _, ⟨⟨(bP1.alloc _).alloc _, (bQ1.alloc _).alloc _⟩, hon⟩, Nat.le_trans hs3 gA.size, Gr.trans hB1 gA⟩
      ⟨W.heap.size, W.heap.size + 1, hs3, by omega, (Box2.new W (X x) (Y x)).alloc _, (by have := Box2.new (W.alloc (.cells #[.int .i64 (X x), .int .i64 (Y x)] 26)) (X (Rg.nx1 n x)) (Y (Rg.nx1 n x)); rwa [World.size_alloc] at this), rfl⟩
  case body =>
    rintro l pre x a' W hl ⟨r, hr⟩ ⟨bR1, ⟨⟨bP1, bQ1⟩, hon⟩, hs3, hB1⟩ ⟨Ba, Bb, hBa, hBb, bA, bB, rfl⟩ hlt
    obtain ⟨a0, a1⟩ := bA.cells
    obtain ⟨b0, b1⟩ := bB.cells
    obtain ⟨p0, p1⟩ := bP1.cells
    obtain ⟨s0, s1⟩ := bQ1.cells
    have cR := bR1.cell
    have fR := bR1.frozen
    have hso := emW_snoc n X Y px py qx qy pre x
    rw [hon, Bool.false_or] at hso
    have CO := c_gMeet px py qx qy (X x) (Y x) (X (Rg.nx1 n x)) (Y (Rg.nx1 n x))
    generalize meG px py qx qy (X x) (Y x) (X (Rg.nx1 n x)) (Y (Rg.nx1 n x)) = og at CO hso
    generalize X x = xa at a0 CO
    generalize Y x = ya at a1 CO
    generalize X (Rg.nx1 n x) = xb at b0 CO
    generalize Y (Rg.nx1 n x) = yb at b1 CO
    have HCO := Lib.hid CO
    have HSO := Lib.hid hso
    have HB := Lib.hid (And.intro bR1 (And.intro bP1 bQ1))
    clear CO hso hon bA bB bR1 bP1 bQ1
    cases og
    · gi_wp2_with (refine ⟨trivial, ?_⟩; gi_at_call 125; (refine (CallsIn.inRound l (callsIn_wide.2 (HCO.out _))).mono ?_); rintro e w2 ⟨rfl, g2⟩)
      obtain ⟨bR1, bP1, bQ1⟩ := HB.out
      have g2s := g2.size
      exact ⟨(gr_keeps g2).from _, (KK.refl B (w.heap.size + 1 + 1 + 1) W).gr g2 (by omega) (by omega), ⟨bR1.kept (gr_grown g2) (by simp), ⟨⟨bP1.kept (gr_grown g2) (by simp), bQ1.kept (gr_grown g2) (by simp)⟩, HSO.out⟩, by omega, Gr.trans hB1 g2⟩⟩
    · gi_wp2_with (refine ⟨trivial, ?_⟩; gi_at_call 125; (refine (CallsIn.inRound l (callsIn_wide.2 (HCO.out _))).mono ?_); rintro e w2 ⟨rfl, g2⟩; have dR := cell_gr g2 cR; have eR := frozen_gr g2 cR fR)
      obtain ⟨bR1, bP1, bQ1⟩ := HB.out
      exact ⟨((gr_keeps g2).trans (KeepsOthers.setCell _ _ _)).from _, ⟨rfl, HSO.out⟩, (bR1.kept (gr_grown g2) (by simp)).set _, (Gr.trans hB1 g2).setCell (p := ⟨w.heap.size + 1 + 1, 0, none⟩) (by show w.heap.size ≤ w.heap.size + 1 + 1; omega) _⟩
  case done =>
    rintro D ys W' hD rfl ⟨bR1, ⟨⟨bP1, bQ1⟩, hon⟩, hs3, hB1⟩ hK
    have cR := bR1.cell
    have fR := bR1.frozen
    gi_wp2
    rw [hon]
    have hK2 : (W'.setCell ⟨w.heap.size + 1 + 1, 0, none⟩ (.bool false)).heap[D]? = some (.deferred (some [])) := (KeepsOthers.setCell _ _ _).same D _ hK rfl
    have hc2 := cell_kept (bR1.set (.bool false)).cell (grownBy_putObj' _ D (.deferred none)) (fun r e => by cases e; exact ⟨_, hK2, rfl⟩)
    refine ⟨by simp, .inl ⟨_, _, rfl, run_takeDeferred hK2, ?_⟩⟩
    exact ⟨_, results_cell1 rfl rfl (Tryz.underlying4) rfl hc2, rfl, (hB1.setCell (p := ⟨w.heap.size + 1 + 1, 0, none⟩) (by show w.heap.size ≤ w.heap.size + 1 + 1; omega) _).trans (belowK_b (w := w) (Nat.le_refl _) _ D _ _ (by omega) hK2 rfl rfl)⟩
  case stop =>
    rintro D c pre W hD ⟨k, hk, rfl⟩ ⟨⟨rfl, hon⟩, bR1, hB1⟩ hK
    have cR := bR1.cell
    gi_wp2
    have hc2 := cell_kept cR (grownBy_putObj' _ D (.deferred none)) (fun r e => by cases e; exact ⟨_, hK, rfl⟩)
    rw [emW_mono hk hon]
    refine ⟨by simp, .inl ⟨_, _, rfl, run_takeDeferred hK, ?_⟩⟩
    exact ⟨_, results_cell1 rfl rfl (Tryz.underlying4) rfl hc2, rfl, hB1.trans (belowK_b (w := w) (Nat.le_refl _) _ D _ _ (by omega) hK rfl rfl)⟩
end Go.Proofs.YtfobmlgpjhghdaaGreatDoor
namespace Go.Proofs.YtfobmlgpjhghdaaGreatDoor
set_option linter.unusedVariables false
open Go.ChangeShapes Go.WideShapes Go.ChangeAt Go.RowKit Go.Shelf
attribute [local go_sem] Oper.semAt_some
def rmE (n : Nat) (X Y : Nat → Int) (m : Nat) (P Q : Nat → Int) (lx ly hx hy : Int) (k : Nat) : Bool := mbG (X k) (Y k) (X (Rg.nx1 n k)) (Y (Rg.nx1 n k)) lx ly hx hy && emW m P Q (X k) (Y k) (X (Rg.nx1 n k)) (Y (Rg.nx1 n k)) (List.range m)
def rmW (n : Nat) (X Y : Nat → Int) (m : Nat) (P Q : Nat → Int) (lx ly hx hy : Int) (pre : List Nat) : Bool := pre.any fun k => rmE n X Y m P Q lx ly hx hy k
theorem rmW_snoc (n : Nat) (X Y : Nat → Int) (m : Nat) (P Q : Nat → Int) (lx ly hx hy : Int) (pre : List Nat) (k : Nat) : rmW n X Y m P Q lx ly hx hy (pre ++ [k]) = (rmW n X Y m P Q lx ly hx hy pre || rmE n X Y m P Q lx ly hx hy k) := by
  unfold rmW; rw [List.any_append]; simp
theorem rmW_mono {n : Nat} {X Y : Nat → Int} {m : Nat} {P Q : Nat → Int} {lx ly hx hy : Int} {k : Nat} (hk : k ≤ n) (h : rmW n X Y m P Q lx ly hx hy (List.range k) = true) : rmW n X Y m P Q lx ly hx hy (List.range n) = true := by
  unfold rmW at *
  rw [List.any_eq_true] at *
  obtain ⟨x, h1, h2⟩ := h
  exact ⟨x, List.mem_range.2 (by have := List.mem_range.1 h1; omega), h2⟩
set_option maxHeartbeats 8000000 in
set_option maxRecDepth 100000 in
theorem c_rings {n m : Nat} {X Y P Q : Nat → Int} {v u : Value} {lx ly hx hy : Int} (w : World) (h : Pts w v n X Y) (hu : Pts w u m P Q) (h0 : (Rg.ringC n X Y).1 = 0) (h9 : (Rg.ringC m P Q).1 = 0) (e1 : mnN P m = lx) (e2 : mnN Q m = ly) (e3 : mxN P m = hx) (e4 : mxN Q m = hy) (hm : arM n X Y lx ly hx hy = true) :
    Calls Tryz.prog 53 #[v, u] w fun e w' => e = .returned (.bool (rmW n X Y m P Q lx ly hx hy (List.range n) || ((nearB (P 0) (Q 0) && Rg.hasN n X Y (P 0) (Q 0)) || (nearB (X 0) (Y 0) && Rg.hasN m P Q (X 0) (Y 0))))) ∧ Gr w w' := by
  have A1 := fun w' (g : Gr w w') => c_AroundN w' (pts_gr h g) (by have := (Rg.ringC_ok h0).1; omega)
  have A2 := fun w' => c_Meets (mnN X n) (mnN Y n) (mxN X n) (mxN Y n) lx ly hx hy w'
  have A3 := fun w' (g : Gr w w') => c_hs w h h0 (P 0) (Q 0) w' g
  have A4 := fun w' (g : Gr w w') => c_hs w hu h9 (X 0) (Y 0) w' g
  have A5 := fun w' (g : Gr w w') => c_AroundN w' (pts_gr hu g) (by have := (Rg.ringC_ok h9).1; omega)
  have A6 := fun (px py qx qy : Int) w' (g : Gr w w') => c_edgeMeets (px := px) (py := py) (qx := qx) (qy := qy) w' (pts_gr hu g) (by have := (Rg.ringC_ok h9).1; omega) (by have := (Rg.ringC_ok h9).1; omega)
  rw [e1, e2, e3, e4] at A5
  unfold arM at hm
  rw [hm] at A2
  have h1 : 1 ≤ n := by have := (Rg.ringC_ok h0).1; omega
  have hn : n ≤ 1000 := by have := (Rg.ringC_ok h0).1; omega
  have m1 : 1 ≤ m := by have := (Rg.ringC_ok h9).1; omega
  generalize hz : (nearB (P 0) (Q 0) && Rg.hasN n X Y (P 0) (Q 0)) = z1 at A3 ⊢
  generalize hz2 : (nearB (X 0) (Y 0) && Rg.hasN m P Q (X 0) (Y 0)) = z2 at A4 ⊢
  obtain ⟨ad, cap, B, off, rfl, q1, q2, q3, q4⟩ := h
  obtain rfl := q3 (by omega)
  obtain ⟨bd, bcap, C, oc, rfl, r1, r2, r3, r4⟩ := hu
  obtain rfl := r3 (by omega)
  have hB : B < w.heap.size := World.block_lt_of_cell? _ _ (q4 0 (by omega)).1
  have hC9 : C < w.heap.size := World.block_lt_of_cell? _ _ (r4 0 (by omega)).1
  have HC := Lib.hid q4
  have HD := Lib.hid (r4 0 (by omega))
  have hmx : Tryz.prog.follows .mixedOrders = true := by kernel_rfl
  have H1 := Lib.hid A1
  have H2 := Lib.hid A2
  have H3 := Lib.hid A3
  have H4 := Lib.hid A4
  have H5 := Lib.hid A5
  have H6 := Lib.hid A6
  clear A1 A2 A3 A4 A5 A6
  clear q3 q4 r3 r4 hm h0 h9 e1 e2 e3 e4 hz hz2
  refine (callsIn_wide (n := 10)).1 ?_
  refine callsIn_of_wp_marks Tryz.func53 rfl trivial ?_ rfl
  simp only [Tryz.ntmps53, List.size_toArray, List.length_cons, List.length_nil, Nat.reduceAdd, Nat.reduceSub, Array.replicate_succ, Array.replicate_zero, List.push_toArray, List.append_toArray, List.nil_append, List.cons_append]
  have n0 : 0 < n := by omega
  gi_wp2_with (refine ⟨trivial, ?_⟩; gi_at_call 62; refine (callsIn_wide.2 (H5.out _ (by go_grown))).mono ?_; rintro e w1 ⟨rfl, g1⟩)
  have g1s := g1.size
  simp only [World.size_alloc] at g1s
  have bS : Boxed w1 w.heap.size 22 (.slice (some ⟨C, oc, none⟩) m bcap) := ((Boxed.new w 22 (.slice (some ⟨C, oc, none⟩) m bcap)).alloc (.cells #[.bool false] 4)).kept (gr_grown g1) (by simp)
  have bR : Boxed w1 (w.heap.size + 1) 4 (.bool false) := by
    have h := Boxed.new (w.alloc (.cells #[(.slice (some ⟨C, oc, none⟩) m bcap)] 22)) 4 (.bool false)
    rw [World.size_alloc] at h
    exact h.kept (gr_grown g1) (by simp)
  have bP := Box4.new w1 lx ly hx hy
  have bS0 := bS.alloc (.cells #[.int .i64 lx, .int .i64 ly, .int .i64 hx, .int .i64 hy] 28)
  have bR0 := bR.alloc (.cells #[.int .i64 lx, .int .i64 ly, .int .i64 hx, .int .i64 hy] 28)
  have hG0 : Gr w (w1.alloc (.cells #[.int .i64 lx, .int .i64 ly, .int .i64 hx, .int .i64 hy] 28)) := Gr.trans (Gr.trans (by go_grown) g1) (by go_grown)
  have hsz : (w1.alloc (.cells #[.int .i64 lx, .int .i64 ly, .int .i64 hx, .int .i64 hy] 28)).heap.size = w1.heap.size + 1 := by simp
  obtain ⟨W1, hW1⟩ : ∃ W1, w1.alloc (.cells #[.int .i64 lx, .int .i64 ly, .int .i64 hx, .int .i64 hy] 28) = W1 := ⟨_, rfl⟩
  rw [hW1] at bS0 bR0 bP hG0 hsz ⊢
  obtain ⟨s, hs⟩ : ∃ s, w1.heap.size = s := ⟨_, rfl⟩
  rw [hs] at bP hsz g1s ⊢
  clear hW1 bS bR g1 hs
  obtain ⟨b0, b1, b2, b3⟩ := bP.cells
  refine wpIn_mono (Q := Exit.then (fun a' W2 => a' = { tmps := #[.slice (some ⟨B, off, none⟩) n cap, .slice (some ⟨C, oc, none⟩) m bcap, undef, .pointer (some ⟨w.heap.size, 0, none⟩), .pointer (some ⟨w.heap.size + 1, 0, none⟩), .pointer (some ⟨s, 0, none⟩), undef, undef, .slice (some ⟨C, oc, none⟩) m bcap, .agg #[.int .i64 lx, .int .i64 ly, .int .i64 hx, .int .i64 hy], .slice (some ⟨B, off, none⟩) n cap, .agg #[.int .i64 (mnN X n), .int .i64 (mnN Y n), .int .i64 (mxN X n), .int .i64 (mxN Y n)], .agg #[.int .i64 lx, .int .i64 ly, .int .i64 hx, .int .i64 hy], .bool true, .bool false, undef, undef, undef, undef, undef, undef, undef, undef, undef, undef, undef, undef, undef, undef, undef, undef, undef, undef, undef, undef, undef, undef, undef, undef, undef, undef], defers := [] } ∧ Gr W1 W2) (fun _ _ _ => False)) ?_ ?_
  · generalize mnN X n = x1 at H1 H2 ⊢
    generalize mnN Y n = x2 at H1 H2 ⊢
    generalize mxN X n = x3 at H1 H2 ⊢
    generalize mxN Y n = x4 at H1 H2 ⊢
    gi_region_with_o (first
      | (refine ⟨trivial, ?_⟩; gi_at_call 62; (refine (callsIn_wide.2 (H1.out _ (Gr.trans hG0 (by go_grown)))).mono ?_); rintro e w' ⟨rfl, gx⟩; (have gy : Gr W1 w' := Gr.trans (by go_grown) gx); (have d0 := cell_gr gy b0); (have d1 := cell_gr gy b1); (have d2 := cell_gr gy b2); (have d3 := cell_gr gy b3); clear gx)
      | (gi_at_call 62; (refine (callsIn_wide.2 (H1.out _ (Gr.trans hG0 (by go_grown)))).mono ?_); rintro e w' ⟨rfl, gx⟩; (have gy : Gr W1 w' := Gr.trans (by go_grown) gx); (have d0 := cell_gr gy b0); (have d1 := cell_gr gy b1); (have d2 := cell_gr gy b2); (have d3 := cell_gr gy b3); clear gx)
      | (refine ⟨trivial, ?_⟩; gi_at_call 87; (refine (callsIn_wide.2 (H2.out _)).mono ?_); rintro e w'' ⟨rfl, gx⟩; (have gz : Gr W1 w'' := Gr.trans gy (Gr.trans (by go_grown) gx)); clear gx)
      | (gi_at_call 87; (refine (callsIn_wide.2 (H2.out _)).mono ?_); rintro e w'' ⟨rfl, gx⟩; (have gz : Gr W1 w'' := Gr.trans gy (Gr.trans (by go_grown) gx)); clear gx))
    all_goals exact ⟨rfl, Gr.trans gz (by go_grown)⟩
  intro e a' W2 hh
  cases e
  all_goals try exact False.elim hh
  obtain ⟨rfl, g2⟩ := hh
  dsimp only [Exit.then]
  have g2s := g2.size
  have bP2 : Box4 W2 s lx ly hx hy := bP.kept (gr_grown g2) (by simp)
  have bS2 : Boxed W2 w.heap.size 22 (.slice (some ⟨C, oc, none⟩) m bcap) := bS0.kept (gr_grown g2) (by simp)
  have bR2 : Boxed W2 (w.heap.size + 1) 4 (.bool false) := bR0.kept (gr_grown g2) (by simp)
  have hG2 : Gr w W2 := Gr.trans hG0 g2
  clear b0 b1 b2 b3 bP bS0 bR0 hG0 g2
  gi_wp2_with (refine ⟨trivial, ?_⟩; gi_at_call 76; refine (callsIn_wide.2 (c_Edges _ _ _ _)).mono ?_; rintro e w' ⟨rfl, rfl⟩)
  have bE := Boxed.new W2 22 (.slice (some ⟨B, off, none⟩) n cap)
  have bP0 := bP2.alloc (.cells #[.slice (some ⟨B, off, none⟩) n cap] 22)
  have bS0 := bS2.alloc (.cells #[.slice (some ⟨B, off, none⟩) n cap] 22)
  have bR0 := bR2.alloc (.cells #[.slice (some ⟨B, off, none⟩) n cap] 22)
  have hG0 : Gr w (W2.alloc (.cells #[.slice (some ⟨B, off, none⟩) n cap] 22)) := Gr.trans hG2 (by go_grown)
  have hsz0 : (W2.alloc (.cells #[.slice (some ⟨B, off, none⟩) n cap] 22)).heap.size = W2.heap.size + 1 := by simp
  obtain ⟨W0, hW0⟩ : ∃ W0, W2.alloc (.cells #[.slice (some ⟨B, off, none⟩) n cap] 22) = W0 := ⟨_, rfl⟩
  rw [hW0] at bE bP0 bS0 bR0 hG0 hsz0 ⊢
  obtain ⟨q, hq⟩ : ∃ q, W2.heap.size = q := ⟨_, rfl⟩
  rw [hq] at bE hsz0 g2s ⊢
  clear hW0 bP2 bS2 bR2 hG2 hq H1 H2 H5
  have hsw : w.heap.size + 2 ≤ s := by omega
  refine wpIn_rangeFunc_ownH rfl (by decide) (gf := 114) (lb := #[.pointer (some ⟨q, 0, none⟩)]) rfl trivial (enters_of Tryz.func114 (by kernel_rfl) rfl)
    (edges_stops (10 - 1) (by decide) q B off n cap X Y hn h1 W0 bE.cell q1 q2 (fun k hk => ⟨cell_gr hG0 (HC.out k hk).1, cell_gr hG0 (HC.out k hk).2⟩)) KK.trans (kk_put (by omega) (by omega)) (Below.refl _ _) (fun _ => rfl)
    (fun pre W => (Boxed W (w.heap.size + 1) 4 (.bool false) ∧ Boxed W w.heap.size 22 (.slice (some ⟨C, oc, none⟩) m bcap)) ∧ ((Box4 W s lx ly hx hy ∧ rmW n X Y m P Q lx ly hx hy pre = false) ∧ (q + 1 ≤ W.heap.size ∧ Below w.heap.size w W)))
    (fun c pre W => (c = .ret ∧ rmW n X Y m P Q lx ly hx hy pre = true) ∧ (Boxed W (w.heap.size + 1) 4 (.bool true) ∧ Below w.heap.size w W))
    (OwnFrom.and (OwnFrom.and (Own.from (boxed_own _ _ _) _) (Own.from (boxed_own _ _ _) _)) (OwnFrom.and (OwnFrom.and (Own.from (box4_own _ _ _ _ _) _) (ownFrom_pure _ _)) (OwnFrom.and (fun _ P Q row hs hg hr => Nat.le_trans hs hg.size) (ownFrom_below (Nat.le_refl _) (by omega)))))
    (fun c => OwnFrom.and (ownFrom_pure _ _) (OwnFrom.and (Own.from (boxed_own _ _ _) _) (ownFrom_below (Nat.le_refl _) (by omega))))
    ⟨⟨bR0, bS0⟩, ⟨bP0, rfl⟩, by omega, hG0⟩
    (fun x a' W => ∃ Ba Bb, q + 1 ≤ Ba ∧ q + 1 ≤ Bb ∧ Box2 W Ba (X x) (Y x) ∧ Box2 W Bb (X (Rg.nx1 n x)) (Y (Rg.nx1 n x)) ∧ a' = { tmps := #[.slice (some ⟨B, off, none⟩) n cap, .slice (some ⟨C, oc, none⟩) m bcap, undef, .pointer (some ⟨w.heap.size, 0, none⟩), .pointer (some ⟨w.heap.size + 1, 0, none⟩), .pointer (some ⟨s, 0, none⟩), .pointer (some ⟨Ba, 0, none⟩), .pointer (some ⟨Bb, 0, none⟩), .slice (some ⟨C, oc, none⟩) m bcap, .agg #[.int .i64 lx, .int .i64 ly, .int .i64 hx, .int .i64 hy], .slice (some ⟨B, off, none⟩) n cap, .agg #[.int .i64 (mnN X n), .int .i64 (mnN Y n), .int .i64 (mxN X n), .int .i64 (mxN Y n)], .agg #[.int .i64 lx, .int .i64 ly, .int .i64 hx, .int .i64 hy], .bool true, .bool false, .slice (some ⟨B, off, none⟩) n cap, .func (.func 114) #[] #[.pointer (some ⟨q, 0, none⟩)], .agg #[.int .i64 (X x), .int .i64 (Y x)], .agg #[.int .i64 (X (Rg.nx1 n x)), .int .i64 (Y (Rg.nx1 n x))], undef, undef, undef, undef, undef, undef, undef, undef, undef, undef, undef, undef, undef, undef, undef, undef, undef, undef, undef, undef, undef, undef], defers := [] })
    (fun x a' _ P Q row hs hg hr => by obtain ⟨Ba, Bb, i1, i2, i3, i4, i5⟩ := hs; exact ⟨Ba, Bb, i1, i2, box2_notcells i3 hg (fun r e => (hr r e).2), box2_notcells i4 hg (fun r e => (hr r e).2), i5⟩)
    ?assign ?body ?done ?stop
  case assign =>
    rintro l pre x W K ⟨⟨bR1, bS1⟩, ⟨bP1, hon⟩, hs3, hB1⟩ hK
    gi_wp2
    have gA : Gr W ((W.alloc (.cells #[.int .i64 (X x), .int .i64 (Y x)] 26)).alloc (.cells #[.int .i64 (X (Rg.nx1 n x)), .int .i64 (Y (Rg.nx1 n x))] 26)) := by go_grown
    exact hK _ _ ((gr_keeps gA).from _) ((KK.refl _ _ _).gr gA (by omega) (by omega)) ⟨⟨(bR1.alloc _).alloc _, (bS1.alloc _).alloc _⟩, ⟨(bP1.alloc _).alloc _, hon⟩, Nat.le_trans hs3 gA.size, Gr.trans hB1 gA⟩
      ⟨W.heap.size, W.heap.size + 1, hs3, by omega, (Box2.new W (X x) (Y x)).alloc _, (by have := Box2.new (W.alloc (.cells #[.int .i64 (X x), .int .i64 (Y x)] 26)) (X (Rg.nx1 n x)) (Y (Rg.nx1 n x)); rwa [World.size_alloc] at this), rfl⟩
  case body =>
    rintro l pre x a' W hl ⟨r, hr⟩ ⟨⟨bR1, bS1⟩, ⟨bP1, hon⟩, hs3, hB1⟩ ⟨Ba, Bb, hBa, hBb, bA, bB, rfl⟩ hlt
    obtain ⟨a0, a1⟩ := bA.cells
    obtain ⟨b0, b1⟩ := bB.cells
    obtain ⟨p0, p1, p2, p3⟩ := bP1.cells
    have s0 := bS1.cell
    have cR := bR1.cell
    have fR := bR1.frozen
    have hso := rmW_snoc n X Y m P Q lx ly hx hy pre x
    rw [hon, Bool.false_or] at hso
    unfold rmE at hso
    have CO := c_gMeetsBox (X x) (Y x) (X (Rg.nx1 n x)) (Y (Rg.nx1 n x)) lx ly hx hy
    have CE := H6.out (X x) (Y x) (X (Rg.nx1 n x)) (Y (Rg.nx1 n x))
    generalize mbG (X x) (Y x) (X (Rg.nx1 n x)) (Y (Rg.nx1 n x)) lx ly hx hy = og at CO hso
    generalize emW m P Q (X x) (Y x) (X (Rg.nx1 n x)) (Y (Rg.nx1 n x)) (List.range m) = em at CE hso
    generalize X x = xa at a0 CO CE
    generalize Y x = ya at a1 CO CE
    generalize X (Rg.nx1 n x) = xb at b0 CO CE
    generalize Y (Rg.nx1 n x) = yb at b1 CO CE
    have HCO := Lib.hid CO
    have HEM := Lib.hid CE
    have HSO := Lib.hid hso
    have HB := Lib.hid (And.intro bR1 (And.intro bP1 bS1))
    clear CO CE hso hon bA bB bR1 bP1 bS1 H6 H3 H4
    have fin : ∀ w3, Gr W w3 → (og && em) = false → _ := fun w3 (g3 : Gr W w3) (hf : (og && em) = false) => (⟨(gr_keeps g3).from W0.heap.size, (KK.refl B q W).gr g3 (by omega) (by omega), ⟨⟨HB.out.1.kept (gr_grown g3) (by simp), HB.out.2.2.kept (gr_grown g3) (by simp)⟩, ⟨HB.out.2.1.kept (gr_grown g3) (by simp), HSO.out.trans hf⟩, by have := g3.size; omega, Gr.trans hB1 g3⟩⟩ : KeepsFrom W0.heap.size W w3 ∧ KK B q W w3 ∧ ((Boxed w3 (w.heap.size + 1) 4 (.bool false) ∧ Boxed w3 w.heap.size 22 (.slice (some ⟨C, oc, none⟩) m bcap)) ∧ ((Box4 w3 s lx ly hx hy ∧ rmW n X Y m P Q lx ly hx hy (pre ++ [x]) = false) ∧ (q + 1 ≤ w3.heap.size ∧ Below w.heap.size w w3))))
    cases og
    · gi_wp2_with (first | (refine ⟨trivial, ?_⟩; gi_at_call 88; (refine (CallsIn.inRound l (callsIn_wide.2 (HCO.out _))).mono ?_); rintro e w2 ⟨rfl, x2⟩; (have g2 : Gr W w2 := Gr.trans (by go_grown) x2); (have a0' := cell_gr g2 a0); (have a1' := cell_gr g2 a1); (have b0' := cell_gr g2 b0); (have b1' := cell_gr g2 b1); (have s0' := cell_gr g2 s0); clear x2) | (refine ⟨trivial, ?_⟩))
      exact fin w2 g2 rfl
    · cases em
      · gi_wp2_with (first | (refine ⟨trivial, ?_⟩; gi_at_call 88; (refine (CallsIn.inRound l (callsIn_wide.2 (HCO.out _))).mono ?_); rintro e w2 ⟨rfl, x2⟩; (have g2 : Gr W w2 := Gr.trans (by go_grown) x2); (have a0' := cell_gr g2 a0); (have a1' := cell_gr g2 a1); (have b0' := cell_gr g2 b0); (have b1' := cell_gr g2 b1); (have s0' := cell_gr g2 s0); clear x2) | (refine ⟨trivial, ?_⟩; gi_at_call 89; (refine (CallsIn.inRound l (callsIn_wide.2 (HEM.out _ (Gr.trans hB1 (Gr.trans g2 (by go_grown)))))).mono ?_); rintro e w3 ⟨rfl, x3⟩; (have g3 : Gr W w3 := Gr.trans g2 (Gr.trans (by go_grown) x3)); have dR := cell_gr g3 cR; have eR := frozen_gr g3 cR fR; clear x3))
        exact fin w3 g3 rfl
      · gi_wp2_with (first | (refine ⟨trivial, ?_⟩; gi_at_call 88; (refine (CallsIn.inRound l (callsIn_wide.2 (HCO.out _))).mono ?_); rintro e w2 ⟨rfl, x2⟩; (have g2 : Gr W w2 := Gr.trans (by go_grown) x2); (have a0' := cell_gr g2 a0); (have a1' := cell_gr g2 a1); (have b0' := cell_gr g2 b0); (have b1' := cell_gr g2 b1); (have s0' := cell_gr g2 s0); clear x2) | (refine ⟨trivial, ?_⟩; gi_at_call 89; (refine (CallsIn.inRound l (callsIn_wide.2 (HEM.out _ (Gr.trans hB1 (Gr.trans g2 (by go_grown)))))).mono ?_); rintro e w3 ⟨rfl, x3⟩; (have g3 : Gr W w3 := Gr.trans g2 (Gr.trans (by go_grown) x3)); have dR := cell_gr g3 cR; have eR := frozen_gr g3 cR fR; clear x3))
        obtain ⟨bR1, bP1, bS1⟩ := HB.out
        exact ⟨((gr_keeps g3).trans (KeepsOthers.setCell _ _ _)).from _, ⟨rfl, HSO.out⟩, (bR1.kept (gr_grown g3) (by simp)).set _, (Gr.trans hB1 g3).setCell (p := ⟨w.heap.size + 1, 0, none⟩) (by simp) _⟩
  case done =>
    rintro D ys W' hD rfl ⟨⟨bR1, bS1⟩, ⟨bP1, hon⟩, hs3, hB1⟩ hK
    have s0 := bS1.cell
    have cR := bR1.cell
    have fR := bR1.frozen
    have k0 := cell_gr hB1 HD.out.1
    have k1 := cell_gr hB1 HD.out.2
    have j0 := cell_gr hB1 (HC.out 0 n0).1
    have j1 := cell_gr hB1 (HC.out 0 n0).2
    rw [Nat.zero_mul, Nat.add_zero] at k0 k1 j0 j1
    generalize P 0 = pa at k0 H3
    generalize Q 0 = pb at k1 H3
    generalize X 0 = xa at j0 H4
    generalize Y 0 = xb at j1 H4
    have m0 : 0 < m := by omega
    have HBR := Lib.hid bR1
    clear bR1 bS1 bP1
    have zB := World.block_lt_of_cell? _ _ j0
    have zC := World.block_lt_of_cell? _ _ k0
    have zS := World.block_lt_of_cell? _ _ s0
    cases z1
    · gi_wp2
      refine wpIn_wide.2 ?_
      go_wp2_with fail
      try simp only [List.append]
      refine Od.wp_region_ordT 12 [(0, false), (1, false), (2, false), (3, false), (4, true), (5, false), (6, false), (7, false), (8, false), (9, false), (10, true), (11, false)] (by kernel_rfl) (by kernel_rfl) ?_
      intro v3 hv3 KQ hKQ
      have cv3_0_0 := cg hv3 (w.heap.size) 0 (.slice (some ⟨C, oc, none⟩) m bcap) (by go_simp)
      have cv3_1_0 := ci hv3 C oc pa (by go_simp)
      have cv3_1_1 := ci hv3 C (oc + 1) pb (by go_simp)
      have cv3_2_0 := ci hv3 B off xa (by go_simp)
      have cv3_2_1 := ci hv3 B (off + 1) xb (by go_simp)
      have cv3_3_0 := cg hv3 (w.heap.size + 1) 0 (.bool false) (by go_simp)
      have fv3_3_0 := fq hv3 (w.heap.size + 1) 0 (.bool false) (by go_simp) (by go_simp)
      have gv3 : Gr W' v3 := Gr.trans (by go_grown) hv3
      skip
      clear hv3
      repeat (first | (refine Od.wpO_skip (by simp only [List.getElem?_toArray, List.getElem?_cons_succ, List.getElem?_cons_zero] <;> rfl) rfl ?_; simp only [Act.put, List.setIfInBounds_toArray, List.set_cons_zero, List.set_cons_succ]) | (refine Od.wpO_pure (by simp only [List.getElem?_toArray, List.getElem?_cons_succ, List.getElem?_cons_zero] <;> rfl) rfl ?_; apply Exists.intro; refine ⟨?_, ?_⟩; (· intro wx gx; obtain ⟨mx, rfl⟩ := spread_of_gr gx; clear gx; all_goals (apply Od.pAt_of_quiet; intro K hK; go_big_quiet_op; first | exact hK _ rfl | (apply Exists.intro; refine ⟨fun _ => ?_, ?_⟩; (· fail); exact hK _ rfl))); try simp only [Act.put, List.setIfInBounds_toArray, List.set_cons_zero, List.set_cons_succ]))
      refine Od.wpO_call (by simp only [List.getElem?_toArray, List.getElem?_cons_succ, List.getElem?_cons_zero] <;> rfl) rfl ?_
      intro QS hQS
      go_wp2_with fail
      go_at_call 74
      (with_reducible refine ((H3.out _ (Gr.trans hB1 gv3))).mono ?_)
      rintro e v4 ⟨rfl, hv4⟩
      go_wp2_with fail
      apply Exists.intro
      refine ⟨?_, hv4, ?_⟩
      · simp only [Act.put, List.setIfInBounds_toArray, List.set_cons_zero, List.set_cons_succ]; rfl
      have cv4_0_0 := cg hv4 (w.heap.size) 0 (.slice (some ⟨C, oc, none⟩) m bcap) (by go_simp)
      have cv4_2_0 := ci hv4 B off xa (by go_simp)
      have cv4_2_1 := ci hv4 B (off + 1) xb (by go_simp)
      have cv4_3_0 := cg hv4 (w.heap.size + 1) 0 (.bool false) (by go_simp)
      have fv4_3_0 := fq hv4 (w.heap.size + 1) 0 (.bool false) (by go_simp) (by go_simp)
      have gv4 : Gr W' v4 := Gr.trans (by have gg := gv3; have gs := gg.size; go_grown) hv4
      clear gv3 cv3_0_0 cv3_1_0 cv3_1_1 cv3_2_0 cv3_2_1 cv3_3_0 fv3_3_0
      clear hv4
      try simp only [Act.put, List.setIfInBounds_toArray, List.set_cons_zero, List.set_cons_succ]
      repeat (first | (refine Od.wpO_skip (by simp only [List.getElem?_toArray, List.getElem?_cons_succ, List.getElem?_cons_zero] <;> rfl) rfl ?_; simp only [Act.put, List.setIfInBounds_toArray, List.set_cons_zero, List.set_cons_succ]) | (refine Od.wpO_pure (by simp only [List.getElem?_toArray, List.getElem?_cons_succ, List.getElem?_cons_zero] <;> rfl) rfl ?_; apply Exists.intro; refine ⟨?_, ?_⟩; (· intro wx gx; obtain ⟨mx, rfl⟩ := spread_of_gr gx; clear gx; all_goals (apply Od.pAt_of_quiet; intro K hK; go_big_quiet_op; first | exact hK _ rfl | (apply Exists.intro; refine ⟨fun _ => ?_, ?_⟩; (· fail); exact hK _ rfl))); try simp only [Act.put, List.setIfInBounds_toArray, List.set_cons_zero, List.set_cons_succ]))
      refine Od.wpO_call (by simp only [List.getElem?_toArray, List.getElem?_cons_succ, List.getElem?_cons_zero] <;> rfl) rfl ?_
      intro QS hQS
      go_wp2_with fail
      go_at_call 74
      (with_reducible refine ((H4.out _ (Gr.trans hB1 gv4))).mono ?_)
      rintro e v5 ⟨rfl, hv5⟩
      go_wp2_with fail
      apply Exists.intro
      refine ⟨?_, hv5, ?_⟩
      · simp only [Act.put, List.setIfInBounds_toArray, List.set_cons_zero, List.set_cons_succ]; rfl
      have cv5_3_0 := cg hv5 (w.heap.size + 1) 0 (.bool false) (by go_simp)
      have fv5_3_0 := fq hv5 (w.heap.size + 1) 0 (.bool false) (by go_simp) (by go_simp)
      have gv5 : Gr W' v5 := Gr.trans (by have gg := gv4; have gs := gg.size; go_grown) hv5
      clear gv4 cv4_0_0 cv4_2_0 cv4_2_1 cv4_3_0 fv4_3_0
      clear hv5
      try simp only [Act.put, List.setIfInBounds_toArray, List.set_cons_zero, List.set_cons_succ]
      repeat (first | (refine Od.wpO_skip (by simp only [List.getElem?_toArray, List.getElem?_cons_succ, List.getElem?_cons_zero] <;> rfl) rfl ?_; simp only [Act.put, List.setIfInBounds_toArray, List.set_cons_zero, List.set_cons_succ]) | (refine Od.wpO_pure (by simp only [List.getElem?_toArray, List.getElem?_cons_succ, List.getElem?_cons_zero] <;> rfl) rfl ?_; apply Exists.intro; refine ⟨?_, ?_⟩; (· intro wx gx; obtain ⟨mx, rfl⟩ := spread_of_gr gx; clear gx; all_goals (apply Od.pAt_of_quiet; intro K hK; go_big_quiet_op; first | exact hK _ rfl | (apply Exists.intro; refine ⟨fun _ => ?_, ?_⟩; (· fail); exact hK _ rfl))); try simp only [Act.put, List.setIfInBounds_toArray, List.set_cons_zero, List.set_cons_succ]))
      refine Od.wpO_nil (hKQ _ _ ?_)
      clear hKQ KQ
      go_wp2_with fail
      gi_wp2
      rw [hon, Bool.false_or, Bool.false_or]
      have bR2 : Boxed v5 (w.heap.size + 1) 4 (.bool false) := HBR.out.kept (gr_grown gv5) (by simp)
      have hK1 : v5.heap[D]? = some (.deferred (some [])) := (gr_keeps gv5).same D _ hK rfl
      have hK2 : (v5.setCell ⟨w.heap.size + 1, 0, none⟩ (.bool z2)).heap[D]? = some (.deferred (some [])) := (KeepsOthers.setCell _ _ _).same D _ hK1 rfl
      have hc2 := cell_kept (bR2.set (.bool z2)).cell (grownBy_putObj' _ D (.deferred none)) (fun r e => by cases e; exact ⟨_, hK2, rfl⟩)
      refine ⟨by simp, .inl ⟨_, _, rfl, run_takeDeferred hK2, ?_⟩⟩
      exact ⟨_, results_cell1 rfl rfl (Tryz.underlying4) rfl hc2, rfl, ((Gr.trans hB1 gv5).setCell (p := ⟨w.heap.size + 1, 0, none⟩) (by simp) _).trans (belowK_b (w := w) (Nat.le_refl _) _ D _ _ (by omega) hK2 rfl rfl)⟩
    · gi_wp2
      refine wpIn_wide.2 ?_
      go_wp2_with fail
      try simp only [List.append]
      refine Od.wp_region_ordT 12 [(0, false), (1, false), (2, false), (3, false), (4, true), (5, false), (6, false), (7, false), (8, false), (9, false), (10, true), (11, false)] (by kernel_rfl) (by kernel_rfl) ?_
      intro v3 hv3 KQ hKQ
      have cv3_0_0 := cg hv3 (w.heap.size) 0 (.slice (some ⟨C, oc, none⟩) m bcap) (by go_simp)
      have cv3_1_0 := ci hv3 C oc pa (by go_simp)
      have cv3_1_1 := ci hv3 C (oc + 1) pb (by go_simp)
      have cv3_2_0 := ci hv3 B off xa (by go_simp)
      have cv3_2_1 := ci hv3 B (off + 1) xb (by go_simp)
      have cv3_3_0 := cg hv3 (w.heap.size + 1) 0 (.bool false) (by go_simp)
      have fv3_3_0 := fq hv3 (w.heap.size + 1) 0 (.bool false) (by go_simp) (by go_simp)
      have gv3 : Gr W' v3 := Gr.trans (by go_grown) hv3
      skip
      clear hv3
      repeat (first | (refine Od.wpO_skip (by simp only [List.getElem?_toArray, List.getElem?_cons_succ, List.getElem?_cons_zero] <;> rfl) rfl ?_; simp only [Act.put, List.setIfInBounds_toArray, List.set_cons_zero, List.set_cons_succ]) | (refine Od.wpO_pure (by simp only [List.getElem?_toArray, List.getElem?_cons_succ, List.getElem?_cons_zero] <;> rfl) rfl ?_; apply Exists.intro; refine ⟨?_, ?_⟩; (· intro wx gx; obtain ⟨mx, rfl⟩ := spread_of_gr gx; clear gx; all_goals (apply Od.pAt_of_quiet; intro K hK; go_big_quiet_op; first | exact hK _ rfl | (apply Exists.intro; refine ⟨fun _ => ?_, ?_⟩; (· fail); exact hK _ rfl))); try simp only [Act.put, List.setIfInBounds_toArray, List.set_cons_zero, List.set_cons_succ]))
      refine Od.wpO_call (by simp only [List.getElem?_toArray, List.getElem?_cons_succ, List.getElem?_cons_zero] <;> rfl) rfl ?_
      intro QS hQS
      go_wp2_with fail
      go_at_call 74
      (with_reducible refine ((H3.out _ (Gr.trans hB1 gv3))).mono ?_)
      rintro e v4 ⟨rfl, hv4⟩
      go_wp2_with fail
      apply Exists.intro
      refine ⟨?_, hv4, ?_⟩
      · simp only [Act.put, List.setIfInBounds_toArray, List.set_cons_zero, List.set_cons_succ]; rfl
      have cv4_0_0 := cg hv4 (w.heap.size) 0 (.slice (some ⟨C, oc, none⟩) m bcap) (by go_simp)
      have cv4_2_0 := ci hv4 B off xa (by go_simp)
      have cv4_2_1 := ci hv4 B (off + 1) xb (by go_simp)
      have cv4_3_0 := cg hv4 (w.heap.size + 1) 0 (.bool false) (by go_simp)
      have fv4_3_0 := fq hv4 (w.heap.size + 1) 0 (.bool false) (by go_simp) (by go_simp)
      have gv4 : Gr W' v4 := Gr.trans (by have gg := gv3; have gs := gg.size; go_grown) hv4
      clear gv3 cv3_0_0 cv3_1_0 cv3_1_1 cv3_2_0 cv3_2_1 cv3_3_0 fv3_3_0
      clear hv4
      try simp only [Act.put, List.setIfInBounds_toArray, List.set_cons_zero, List.set_cons_succ]
      repeat (first | (refine Od.wpO_skip (by simp only [List.getElem?_toArray, List.getElem?_cons_succ, List.getElem?_cons_zero] <;> rfl) rfl ?_; simp only [Act.put, List.setIfInBounds_toArray, List.set_cons_zero, List.set_cons_succ]) | (refine Od.wpO_pure (by simp only [List.getElem?_toArray, List.getElem?_cons_succ, List.getElem?_cons_zero] <;> rfl) rfl ?_; apply Exists.intro; refine ⟨?_, ?_⟩; (· intro wx gx; obtain ⟨mx, rfl⟩ := spread_of_gr gx; clear gx; all_goals (apply Od.pAt_of_quiet; intro K hK; go_big_quiet_op; first | exact hK _ rfl | (apply Exists.intro; refine ⟨fun _ => ?_, ?_⟩; (· fail); exact hK _ rfl))); try simp only [Act.put, List.setIfInBounds_toArray, List.set_cons_zero, List.set_cons_succ]))
      refine Od.wpO_nil (hKQ _ _ ?_)
      clear hKQ KQ
      go_wp2_with fail
      gi_wp2
      rw [hon, Bool.false_or, Bool.true_or]
      have bR2 : Boxed v4 (w.heap.size + 1) 4 (.bool false) := HBR.out.kept (gr_grown gv4) (by simp)
      have hK1 : v4.heap[D]? = some (.deferred (some [])) := (gr_keeps gv4).same D _ hK rfl
      have hK2 : (v4.setCell ⟨w.heap.size + 1, 0, none⟩ (.bool true)).heap[D]? = some (.deferred (some [])) := (KeepsOthers.setCell _ _ _).same D _ hK1 rfl
      have hc2 := cell_kept (bR2.set (.bool true)).cell (grownBy_putObj' _ D (.deferred none)) (fun r e => by cases e; exact ⟨_, hK2, rfl⟩)
      refine ⟨by simp, .inl ⟨_, _, rfl, run_takeDeferred hK2, ?_⟩⟩
      exact ⟨_, results_cell1 rfl rfl (Tryz.underlying4) rfl hc2, rfl, ((Gr.trans hB1 gv4).setCell (p := ⟨w.heap.size + 1, 0, none⟩) (by simp) _).trans (belowK_b (w := w) (Nat.le_refl _) _ D _ _ (by omega) hK2 rfl rfl)⟩
  case stop =>
    rintro D c pre W hD ⟨k, hk, rfl⟩ ⟨⟨rfl, hon⟩, bR1, hB1⟩ hK
    have cR := bR1.cell
    gi_wp2
    have hc2 := cell_kept cR (grownBy_putObj' _ D (.deferred none)) (fun r e => by cases e; exact ⟨_, hK, rfl⟩)
    rw [rmW_mono hk hon, Bool.true_or]
    refine ⟨by simp, .inl ⟨_, _, rfl, run_takeDeferred hK, ?_⟩⟩
    exact ⟨_, results_cell1 rfl rfl (Tryz.underlying4) rfl hc2, rfl, hB1.trans (belowK_b (w := w) (Nat.le_refl _) _ D _ _ (by omega) hK rfl rfl)⟩
end Go.Proofs.YtfobmlgpjhghdaaGreatDoor
namespace Go.Proofs.YtfobmlgpjhghdaaGreatDoor
set_option linter.unusedVariables false
set_option linter.unusedSimpArgs false
open Go.ChangeShapes Go.WideShapes Go.ChangeAt Go.RowKit
def NF (v : Value) : Prop := v = .nilIface ∨ ∃ B, v = .iface 84 (.pointer (some ⟨B, 0, none⟩))
theorem nf_nil : NF .nilIface := Or.inl rfl
theorem nf_f (B : Nat) : NF (.iface 84 (.pointer (some ⟨B, 0, none⟩))) := Or.inr ⟨B, rfl⟩
theorem werr_nf {op : ByteArray} {w : World} {v : Value} {id : Int} {k : Nat} (h : WErr op w v id k) : NF v ∧ (v = .nilIface ↔ k = 0) := by
  rcases h with ⟨rfl, rfl⟩ | ⟨B, u, d, rfl, h2, -⟩
  · exact ⟨Or.inl rfl, by simp⟩
  · exact ⟨Or.inr ⟨B, rfl⟩, by constructor; intro h; cases h; intro h; omega⟩
set_option maxHeartbeats 4000000 in
set_option maxRecDepth 100000 in
theorem c_allowed {D n cap : Nat} {e : Nat → Value} (W : World) (hE : ErrT W) (hn : n ≤ 2) (hp : ∀ k, k < n → W.cell? ⟨D, k, none⟩ = some (e k)) (he : ∀ k, k < n → NF (e k)) (hD : D < W.heap.size) (hc : n ≤ cap) (z : Bool) (hz : z = true ↔ ∀ k, k < n → e k = .nilIface) :
    Calls Tryz.prog 39 #[.slice (some ⟨D, 0, none⟩) n cap] W fun e w' => e = .returned (.bool z) ∧ Gr W w' := by
  have hn9 : (n : Int) ≤ 2 := by omega
  have HP := Lib.hid hp
  have HE := Lib.hid he
  have HZ := Lib.hid hz
  have HT := Lib.hid hE
  clear hp he hz hE
  go_enter Tryz.func39, Tryz.ntmps39
  go_wp2_with fail
  go_loopg [8] n (fun k x wr => ∃ i : Nat, x = .int .i64 i ∧ i ≤ n ∧ k = n - i ∧ (∀ j, j < i → e j = .nilIface) ∧ Gr W wr)
  case atStart => exact ⟨0, rfl, Nat.zero_le _, by omega, fun j hj => absurd hj (by omega), by go_grown⟩
  case round =>
    obtain ⟨i, rfl, hi, hk, hN, hg⟩ := hrel
    have hgs := hg.size
    have HN := Lib.hid hN
    clear hN
    by_cases hin : i < n
    · have ti : decide ((i : Int) < (n : Int)) = true := decide_eq_true (by omega)
      have ti2 : decide (i < n) = true := decide_eq_true hin
      have ti3 : (i : Int) < (n : Int) := by omega
      have hmm : n - (i + 1) < gk := by omega
      have r0 := cell_gr hg (HP.out i hin)
      have hnf := HE.out i hin
      obtain ⟨x, hx⟩ : ∃ x, x = e i := ⟨_, rfl⟩
      have HX := Lib.hid hx
      rw [← hx] at r0 hnf
      have hDw : D < wr.heap.size := by omega
      clear hk hx
      rcases hnf with rfl | ⟨C, rfl⟩
      · go_wp2_with fail
        go_at_call 61
        refine (c_As_nil _ _).mono ?_
        rintro e w1 ⟨rfl, g1⟩
        have G1 : Gr W w1 := Gr.trans (by go_grown) g1
        clear g1
        go_wp2_with fail
        go_roundg (n - (i + 1))
        case measure => exact hmm
        case rel => exact ⟨i + 1, by go_num, by omega, rfl, fun j hj => (by rcases Nat.lt_succ_iff_lt_or_eq.1 hj with h | rfl; exact HN.out j h; exact HX.out.symm), by have gs := G1.size; go_grown⟩
      · have A := as_hit ⟨C, 0, none⟩ ⟨wr.heap.size, 0, none⟩ (.pointer none) (wr.alloc (.cells #[.pointer none] 84)) (errT_gr HT.out (by go_grown)) (by go_simp) (by go_simp)
        have H2 := Lib.hid A
        clear A
        go_wp2_with fail
        go_at_call 61
        refine H2.out.mono ?_
        rintro e w2 ⟨rfl, wx, gx, rfl⟩
        have gWx : Gr W wx := Gr.trans (by go_grown) gx
        have hzf : z = false := by
          cases hzz : z
          · rfl
          · have := (HZ.out.1 hzz) i hin
            rw [← HX.out] at this
            cases this
        subst hzf
        go_wp2_with fail
        go_ret
        exact ⟨rfl, by have gg := gWx; have gs := gg.size; go_grown⟩
    · obtain rfl : i = n := by omega
      have ti : decide ((i : Int) < (i : Int)) = false := decide_eq_false (by omega)
      have ti2 : decide (i < i) = false := decide_eq_false (by omega)
      have hzt : z = true := HZ.out.2 HN.out
      subst hzt
      go_wp2_with fail
      go_ret
      exact ⟨rfl, by go_grown⟩
set_option maxHeartbeats 4000000 in
set_option maxRecDepth 100000 in
theorem c_rmb_no {n : Nat} {X Y : Nat → Int} {v : Value} (lx ly hx hy : Int) (W : World) (h : Pts W v n X Y) (hn : n ≤ 64) (hm : arM n X Y lx ly hx hy = false) :
    Calls Tryz.prog 104 #[v, .agg #[.int .i64 lx, .int .i64 ly, .int .i64 hx, .int .i64 hy]] W fun e w' => e = .returned (.bool false) ∧ Gr W w' := by
  have A1 := fun w' (g : Gr W w') => c_AroundN w' (pts_gr h g) (by omega)
  have A2 := fun w' => c_Meets (mnN X n) (mnN Y n) (mxN X n) (mxN Y n) lx ly hx hy w'
  unfold arM at hm
  rw [hm] at A2
  generalize mnN X n = m1 at A1 A2
  generalize mnN Y n = m2 at A1 A2
  generalize mxN X n = m3 at A1 A2
  generalize mxN Y n = m4 at A1 A2
  obtain ⟨ad, cap, B, off, rfl, -⟩ := h
  have H1 := Lib.hid A1
  have H2 := Lib.hid A2
  clear A1 A2
  clear hm
  go_enter Tryz.func104, Tryz.ntmps104
  go_wp2_with fail
  go_wp2_with fail
  refine wp_region_spread (by kernel_rfl) (by kernel_rfl) ?_
  try simp only [List.append]
  repeat (first | go_big_quiet_skip | (go_big_quiet_want; go_big_quiet_op; (first | go_big_quiet_on | (apply Exists.intro; refine ⟨fun _ => ?_, ?_⟩; (· (first | (go_at_call 62; first | ((with_reducible refine ((H1.out _ (Gr.trans (by go_grown) (gr_spread _ _)))).mono ?_); rintro e w' ⟨rfl, hg⟩; exact ⟨rfl, spread_gr hg⟩)) | (go_at_call 87; first | ((with_reducible refine ((H2.out _)).mono ?_); rintro e w' ⟨rfl, hg⟩; exact ⟨rfl, spread_gr hg⟩)))); go_big_quiet_on))))
  refine wpQuiet_nil ?_
  intro w1 hhw1
  have hw1 := Hd.gr_of_spread hhw1
  have cw1_1_0 := cg hw1 (W.heap.size + 1) 0 (.bool false) (by go_simp)
  have fw1_1_0 := fq hw1 (W.heap.size + 1) 0 (.bool false) (by go_simp) (by go_simp)
  have gw1 : Gr W w1 := Gr.trans (by go_grown) hw1
  clear hw1 hhw1
  go_wp2_with fail
  go_wp2_with fail
  refine bodyPost_ret (v := .bool false) (by simp [results, Tryz.results104, go_sem, *]) rfl ⟨rfl, by go_grown⟩
end Go.Proofs.YtfobmlgpjhghdaaGreatDoor
namespace Go.Proofs.YtfobmlgpjhghdaaGreatDoor
set_option linter.unusedVariables false
set_option linter.unusedSimpArgs false
open Go.ChangeShapes Go.WideShapes Go.ChangeAt Go.RowKit
def meV (lx ly hx hy mx my nx ny : Int) : Bool := boxB lx ly hx hy && boxB mx my nx ny && decide (lx ≤ nx) && decide (mx ≤ hx) && decide (ly ≤ ny) && decide (my ≤ hy)
def inV (lx ly hx hy mx my nx ny : Int) : Bool := boxB lx ly hx hy && boxB mx my nx ny && inB mx my nx ny lx ly && inB mx my nx ny hx hy
def rmV (n : Nat) (X Y : Nat → Int) (lx ly hx hy : Int) : Bool := arM n X Y lx ly hx hy && rmbV n X Y lx ly hx hy
theorem c_rmbA {n : Nat} {X Y : Nat → Int} {v : Value} (lx ly hx hy : Int) (W : World) (h : Pts W v n X Y) (h0 : (Rg.ringC n X Y).1 = 0) : Calls Tryz.prog 104 #[v, .agg #[.int .i64 lx, .int .i64 ly, .int .i64 hx, .int .i64 hy]] W fun e w' => e = .returned (.bool (rmV n X Y lx ly hx hy)) ∧ Gr W w' := by
  unfold rmV
  cases hm : arM n X Y lx ly hx hy
  · exact c_rmb_no lx ly hx hy W h (by have := (Rg.ringC_ok h0).1; omega) hm
  · rw [Bool.true_and]; exact c_rmb' W h h0 hm
def FrTo (W : World) (k : Int) (v : Value) (lx ly hx hy : Int) : Prop := (k = 1 ∨ k = 2 ∨ k = 3) ∧ (∃ ad n cap, v = .slice ad n cap) ∧ ∀ w, Gr W w → Calls Tryz.prog 36 #[.agg #[.int .i64 k, v]] w fun e w' => e = .returned (.agg #[.int .i64 lx, .int .i64 ly, .int .i64 hx, .int .i64 hy]) ∧ Gr w w'
theorem frTo_gr {a b : World} {k : Int} {v : Value} {lx ly hx hy : Int} (h : FrTo a k v lx ly hx hy) (g : Gr a b) : FrTo b k v lx ly hx hy := ⟨h.1, h.2.1, fun w g' => h.2.2 w (Gr.trans g g')⟩
section
variable {k : Int} {v : Value} {lx ly hx hy : Int}
set_option maxHeartbeats 2000000 in
set_option maxRecDepth 100000 in
theorem c_meetsBoxB (mx my nx ny : Int) (W : World) (h : FrTo W k v lx ly hx hy) : Calls Tryz.prog 68 #[.agg #[.int .i64 k, v], .agg #[.int .i64 mx, .int .i64 my, .int .i64 nx, .int .i64 ny]] W fun e w' => e = .returned (.bool (meV lx ly hx hy mx my nx ny)) ∧ Gr W w' := by
  have A1 := fun w => c_Meets lx ly hx hy mx my nx ny w
  unfold meV
  generalize (boxB lx ly hx hy && boxB mx my nx ny && decide (lx ≤ nx) && decide (mx ≤ hx) && decide (ly ≤ ny) && decide (my ≤ hy)) = z at A1 ⊢
  obtain ⟨hk, ⟨ad, n, cap, rfl⟩, A2⟩ := h
  have k4 : (k == 4) = false := by simp; omega
  have H1 := Lib.hid A1
  have H2 := Lib.hid A2
  clear A1 A2
  clear hk
  go_enter Tryz.func68, Tryz.ntmps68
  go_wp2_with fail
  go_wp2_with fail
  refine wp_region_spread (by kernel_rfl) (by kernel_rfl) ?_
  try simp only [List.append]
  repeat (first | go_big_quiet_skip | (go_big_quiet_want; go_big_quiet_op; (first | go_big_quiet_on | (apply Exists.intro; refine ⟨fun _ => ?_, ?_⟩; (· (first | (go_at_call 36; first | ((with_reducible refine ((H2.out _ (Gr.trans (by go_grown) (gr_spread _ _)))).mono ?_); rintro e w' ⟨rfl, hg⟩; exact ⟨rfl, spread_gr hg⟩)) | (go_at_call 87; first | ((with_reducible refine ((H1.out _)).mono ?_); rintro e w' ⟨rfl, hg⟩; exact ⟨rfl, spread_gr hg⟩)))); go_big_quiet_on))))
  refine wpQuiet_nil ?_
  intro w1 hhw1
  have hw1 := Hd.gr_of_spread hhw1
  have gw1 : Gr W w1 := Gr.trans (by go_grown) hw1
  clear hw1 hhw1
  go_wp2_with fail
  go_ret
  exact ⟨rfl, by have gg := gw1; have gs := gg.size; go_grown⟩
set_option maxHeartbeats 2000000 in
set_option maxRecDepth 100000 in
theorem c_meetsRingB {m : Nat} {P Q : Nat → Int} {u : Value} (W : World) (h : FrTo W k v lx ly hx hy) (hu : Pts W u m P Q) (h0 : (Rg.ringC m P Q).1 = 0) : Calls Tryz.prog 69 #[.agg #[.int .i64 k, v], u] W fun e w' => e = .returned (.bool (rmV m P Q lx ly hx hy)) ∧ Gr W w' := by
  have A1 := fun w (g : Gr W w) => c_rmbA lx ly hx hy w (pts_gr hu g) h0
  generalize rmV m P Q lx ly hx hy = z at A1 ⊢
  obtain ⟨hk, ⟨ad, n, cap, rfl⟩, A2⟩ := h
  obtain ⟨bd, bcap, _, _, rfl, -⟩ := hu
  have k4 : (k == 4) = false := by simp; omega
  have H1 := Lib.hid A1
  have H2 := Lib.hid A2
  clear A1 A2
  clear hk
  go_enter Tryz.func69, Tryz.ntmps69
  go_wp2_with fail
  go_at_call 36
  refine ((H2.out _ (by go_grown))).mono ?_
  rintro e w1 ⟨rfl, hw1⟩
  have gw1 : Gr W w1 := Gr.trans (by go_grown) hw1
  clear hw1
  go_wp2_with fail
  go_at_call 104
  refine ((H1.out _ (by have gg := gw1; have gs := gg.size; go_grown))).mono ?_
  rintro e w2 ⟨rfl, hw2⟩
  have gw2 : Gr W w2 := Gr.trans (by have gg := gw1; have gs := gg.size; go_grown) hw2
  clear hw2 gw1
  go_wp2_with fail
  go_ret
  exact ⟨rfl, gw2⟩
def msV (lx ly hx hy kq qlx qly qhx qhy : Int) (m : Nat) (P Q : Nat → Int) : Bool :=
  if kq = 2 then inV lx ly hx hy qlx qly qhx qhy else if kq = 3 then meV lx ly hx hy qlx qly qlx qly else if kq = 4 then rmV m P Q lx ly hx hy else meV lx ly hx hy qlx qly qhx qhy
set_option maxHeartbeats 4000000 in
set_option maxRecDepth 100000 in
theorem c_MatchesB {m : Nat} {P Q : Nat → Int} {u : Value} (kq qlx qly qhx qhy : Int) (W : World) (h : FrTo W k v lx ly hx hy) (hu : Pts W u m P Q) (h0 : kq = 4 → (Rg.ringC m P Q).1 = 0) :
    Calls Tryz.prog 41 #[.agg #[.int .i64 k, v], qryV kq qlx qly qhx qhy u] W fun e w' => e = .returned (.bool (msV lx ly hx hy kq qlx qly qhx qhy m P Q)) ∧ Gr W w' := by
  unfold msV
  by_cases k2 : kq = 2
  · rw [if_pos k2]
    subst k2
    have A1 := fun w => c_Inside lx ly hx hy qlx qly qhx qhy w
    unfold inV
    generalize (boxB lx ly hx hy && boxB qlx qly qhx qhy && inB qlx qly qhx qhy lx ly && inB qlx qly qhx qhy hx hy) = z at A1 ⊢
    obtain ⟨hk, ⟨ad, n, cap, rfl⟩, A2⟩ := h
    obtain ⟨bd, bcap, _, _, rfl, -⟩ := hu
    have H1 := Lib.hid A1
    have H2 := Lib.hid A2
    clear A1 A2
    clear hk h0
    go_enter Tryz.func41, Tryz.ntmps41
    go_wp2_with fail
    go_wp2_with fail
    refine wp_region_spread (by kernel_rfl) (by kernel_rfl) ?_
    try simp only [List.append]
    repeat (first | go_big_quiet_skip | (go_big_quiet_want; go_big_quiet_op; (first | go_big_quiet_on | (apply Exists.intro; refine ⟨fun _ => ?_, ?_⟩; (· (first | (go_at_call 36; first | ((with_reducible refine ((H2.out _ (Gr.trans (by go_grown) (gr_spread _ _)))).mono ?_); rintro e w' ⟨rfl, hg⟩; exact ⟨rfl, spread_gr hg⟩)) | (go_at_call 67; first | ((with_reducible refine ((H1.out _)).mono ?_); rintro e w' ⟨rfl, hg⟩; exact ⟨rfl, spread_gr hg⟩)))); go_big_quiet_on))))
    refine wpQuiet_nil ?_
    intro w1 hhw1
    have hw1 := Hd.gr_of_spread hhw1
    have gw1 : Gr W w1 := Gr.trans (by go_grown) hw1
    clear hw1 hhw1
    go_wp2_with fail
    go_ret
    exact ⟨rfl, by have gg := gw1; have gs := gg.size; go_grown⟩
  rw [if_neg k2]
  have b2 : (kq == 2) = false := by simp; omega
  by_cases k3 : kq = 3
  · rw [if_pos k3]
    subst k3
    have A1 := fun w (g : Gr W w) => c_meetsBoxB qlx qly qlx qly w (frTo_gr h g)
    generalize meV lx ly hx hy qlx qly qlx qly = z at A1 ⊢
    obtain ⟨hk, ⟨ad, n, cap, rfl⟩, A2⟩ := h
    obtain ⟨bd, bcap, _, _, rfl, -⟩ := hu
    have H1 := Lib.hid A1
    have H2 := Lib.hid A2
    clear A1 A2
    clear hk h0
    go_enter Tryz.func41, Tryz.ntmps41
    go_wp2_with fail
    go_at_call 68
    refine ((H1.out _ (by go_grown))).mono ?_
    rintro e w1 ⟨rfl, hw1⟩
    have gw1 : Gr W w1 := Gr.trans (by go_grown) hw1
    clear hw1
    go_wp2_with fail
    go_ret
    exact ⟨rfl, gw1⟩
  rw [if_neg k3]
  have b3 : (kq == 3) = false := by simp; omega
  by_cases k4 : kq = 4
  · rw [if_pos k4]
    have A1 := fun w (g : Gr W w) => c_meetsRingB w (frTo_gr h g) (pts_gr hu g) (h0 k4)
    subst k4
    generalize rmV m P Q lx ly hx hy = z at A1 ⊢
    obtain ⟨hk, ⟨ad, n, cap, rfl⟩, A2⟩ := h
    obtain ⟨bd, bcap, _, _, rfl, -⟩ := hu
    have H1 := Lib.hid A1
    have H2 := Lib.hid A2
    clear A1 A2
    clear hk h0
    go_enter Tryz.func41, Tryz.ntmps41
    go_wp2_with fail
    go_at_call 69
    refine ((H1.out _ (by go_grown))).mono ?_
    rintro e w1 ⟨rfl, hw1⟩
    have gw1 : Gr W w1 := Gr.trans (by go_grown) hw1
    clear hw1
    go_wp2_with fail
    go_ret
    exact ⟨rfl, gw1⟩
  rw [if_neg k4]
  have b4 : (kq == 4) = false := by simp; omega
  have A1 := fun w (g : Gr W w) => c_meetsBoxB qlx qly qhx qhy w (frTo_gr h g)
  generalize meV lx ly hx hy qlx qly qhx qhy = z at A1 ⊢
  obtain ⟨hk, ⟨ad, n, cap, rfl⟩, A2⟩ := h
  obtain ⟨bd, bcap, _, _, rfl, -⟩ := hu
  have H1 := Lib.hid A1
  have H2 := Lib.hid A2
  clear A1 A2
  clear hk h0
  go_enter Tryz.func41, Tryz.ntmps41
  go_wp2_with fail
  go_at_call 68
  refine ((H1.out _ (by go_grown))).mono ?_
  rintro e w1 ⟨rfl, hw1⟩
  have gw1 : Gr W w1 := Gr.trans (by go_grown) hw1
  clear hw1
  go_wp2_with fail
  go_ret
  exact ⟨rfl, gw1⟩
set_option maxHeartbeats 4000000 in
set_option maxRecDepth 100000 in
theorem match_core (kq qlx qly qhx qhy : Int) (ad bd : Option Addr) (n cap m bcap c d : Nat) (z : Bool) (W : World) (hE : ErrT W)
    (A1 : ∀ w, Gr W w → Calls Tryz.prog 34 #[.agg #[.int .i64 k, .slice ad n cap]] w fun e w' => ∃ x, e = .returned x ∧ WErr objectS w' x k c ∧ Gr w w')
    (A2 : ∀ w, Gr W w → Calls Tryz.prog 40 #[qryV kq qlx qly qhx qhy (.slice bd m bcap)] w fun e w' => ∃ x, e = .returned x ∧ WErr queryS w' x kq d ∧ Gr w w')
    (A3 : c = 0 → d = 0 → ∀ w, Gr W w → Calls Tryz.prog 41 #[.agg #[.int .i64 k, .slice ad n cap], qryV kq qlx qly qhx qhy (.slice bd m bcap)] w fun e w' => e = .returned (.bool z) ∧ Gr w w') :
    Calls Tryz.prog 13 #[.agg #[.int .i64 k, .slice ad n cap], qryV kq qlx qly qhx qhy (.slice bd m bcap)] W fun e w' => e = .returned (.bool (decide (c = 0) && decide (d = 0) && z)) ∧ Gr W w' := by
  have B1 : ∀ w, Gr W w → Calls Tryz.prog 34 #[.agg #[.int .i64 k, .slice ad n cap]] w fun e w' => ∃ x, e = .returned x ∧ (NF x ∧ (x = .nilIface ↔ c = 0)) ∧ Gr w w' := fun w g => (A1 w g).mono (by
    rintro e w' ⟨x, rfl, hx, g'⟩
    exact ⟨x, rfl, werr_nf hx, g'⟩)
  have B2 : ∀ w, Gr W w → Calls Tryz.prog 40 #[qryV kq qlx qly qhx qhy (.slice bd m bcap)] w fun e w' => ∃ x, e = .returned x ∧ (NF x ∧ (x = .nilIface ↔ d = 0)) ∧ Gr w w' := fun w g => (A2 w g).mono (by
    rintro e w' ⟨x, rfl, hx, g'⟩
    exact ⟨x, rfl, werr_nf hx, g'⟩)
  have B4 : ∀ (w : World) (D : Nat) (x y : Value) (q : Bool), Gr W w → w.cell? ⟨D, 0, none⟩ = some x → w.cell? ⟨D, 1, none⟩ = some y → NF x → NF y → (q = true ↔ x = .nilIface ∧ y = .nilIface) → Calls Tryz.prog 39 #[.slice (some ⟨D, 0, none⟩) 2 2] w fun e w' => e = .returned (.bool q) ∧ Gr w w' := fun w D x y q g h0 h1 n0 n1 hq =>
    c_allowed (D := D) (n := 2) (cap := 2) (e := fun k => if k = 0 then x else y) w (errT_gr hE g) (by omega) (fun k hk => by match k, hk with | 0, _ => exact h0 | 1, _ => exact h1) (fun k hk => by match k, hk with | 0, _ => exact n0 | 1, _ => exact n1) (World.block_lt_of_cell? _ _ h0) (Nat.le_refl _) q (by
      rw [hq]
      constructor
      · rintro ⟨a, b⟩ k hk
        match k, hk with
        | 0, _ => exact a
        | 1, _ => exact b
      · intro h
        exact ⟨h 0 (by omega), h 1 (by omega)⟩)
  clear A1 A2 hE
  by_cases hc : c = 0
  · rw [decide_eq_true hc, Bool.true_and]
    by_cases hd : d = 0
    · rw [decide_eq_true hd, Bool.true_and]
      have C3 := A3 hc hd
      have C1 : ∀ w, Gr W w → Calls Tryz.prog 34 #[.agg #[.int .i64 k, .slice ad n cap]] w fun e w' => e = .returned .nilIface ∧ Gr w w' := fun w g => (B1 w g).mono (by
        rintro e w' ⟨x, rfl, ⟨-, hx⟩, g'⟩
        obtain rfl := hx.2 hc
        exact ⟨rfl, g'⟩)
      have C2 : ∀ w, Gr W w → Calls Tryz.prog 40 #[qryV kq qlx qly qhx qhy (.slice bd m bcap)] w fun e w' => e = .returned .nilIface ∧ Gr w w' := fun w g => (B2 w g).mono (by
        rintro e w' ⟨x, rfl, ⟨-, hx⟩, g'⟩
        obtain rfl := hx.2 hd
        exact ⟨rfl, g'⟩)
      have H1 := Lib.hid C1
      have H2 := Lib.hid C2
      have H3 := Lib.hid C3
      have H4 := Lib.hid B4
      clear C1 C2 C3 B4
      clear A3 B1 B2
      go_enter Tryz.func13, Tryz.ntmps13
      go_wp2_with fail
      try simp only [List.append]
      refine Od.wp_region_ord [(0, false), (2, false), (1, true), (3, true), (4, true), (5, true), (6, false), (7, false), (8, false), (9, true), (10, false), (11, false)] (by kernel_rfl) (by kernel_rfl) ?_
      intro w0 hw0 KQ hKQ
      have cw0_0_0 := ci hw0 (W.heap.size) 0 k (by go_simp)
      have cw0_0_1 := cg hw0 (W.heap.size) 1 (.slice ad n cap) (by go_simp)
      have cw0_1_0 := ci hw0 (W.heap.size + 1) 0 kq (by go_simp)
      have cw0_1_1 := ci hw0 (W.heap.size + 1) 1 qlx (by go_simp)
      have cw0_1_2 := ci hw0 (W.heap.size + 1) 2 qly (by go_simp)
      have cw0_1_3 := ci hw0 (W.heap.size + 1) 3 qhx (by go_simp)
      have cw0_1_4 := ci hw0 (W.heap.size + 1) 4 qhy (by go_simp)
      have cw0_1_5 := cg hw0 (W.heap.size + 1) 5 (.slice bd m bcap) (by go_simp)
      have gw0 : Gr W w0 := Gr.trans (by go_grown) hw0
      skip
      clear hw0
      repeat (first | (refine Od.wpO_skip (by simp only [List.getElem?_toArray, List.getElem?_cons_succ, List.getElem?_cons_zero] <;> rfl) rfl ?_; simp only [Act.put, List.setIfInBounds_toArray, List.set_cons_zero, List.set_cons_succ]) | (refine Od.wpO_pure (by simp only [List.getElem?_toArray, List.getElem?_cons_succ, List.getElem?_cons_zero] <;> rfl) rfl ?_; apply Exists.intro; refine ⟨?_, ?_⟩; (· intro wx gx; obtain ⟨mx, rfl⟩ := spread_of_gr gx; clear gx; all_goals (apply Od.pAt_of_quiet; intro K hK; go_big_quiet_op; first | exact hK _ rfl | (apply Exists.intro; refine ⟨fun _ => ?_, ?_⟩; (· fail); exact hK _ rfl))); try simp only [Act.put, List.setIfInBounds_toArray, List.set_cons_zero, List.set_cons_succ]))
      refine Od.wpO_call (by simp only [List.getElem?_toArray, List.getElem?_cons_succ, List.getElem?_cons_zero] <;> rfl) rfl ?_
      intro QS hQS
      go_wp2_with fail
      go_at_call 34
      (with_reducible refine ((H1.out _ gw0)).mono ?_)
      rintro e w1 ⟨rfl, hw1⟩
      go_wp2_with fail
      apply Exists.intro
      refine ⟨?_, hw1, ?_⟩
      · simp only [Act.put, List.setIfInBounds_toArray, List.set_cons_zero, List.set_cons_succ]; rfl
      have cw1_0_0 := ci hw1 (W.heap.size) 0 k (by go_simp)
      have cw1_0_1 := cg hw1 (W.heap.size) 1 (.slice ad n cap) (by go_simp)
      have cw1_1_0 := ci hw1 (W.heap.size + 1) 0 kq (by go_simp)
      have cw1_1_1 := ci hw1 (W.heap.size + 1) 1 qlx (by go_simp)
      have cw1_1_2 := ci hw1 (W.heap.size + 1) 2 qly (by go_simp)
      have cw1_1_3 := ci hw1 (W.heap.size + 1) 3 qhx (by go_simp)
      have cw1_1_4 := ci hw1 (W.heap.size + 1) 4 qhy (by go_simp)
      have cw1_1_5 := cg hw1 (W.heap.size + 1) 5 (.slice bd m bcap) (by go_simp)
      have gw1 : Gr W w1 := Gr.trans (by have gg := gw0; have gs := gg.size; go_grown) hw1
      clear gw0 cw0_0_0 cw0_0_1 cw0_1_0 cw0_1_1 cw0_1_2 cw0_1_3 cw0_1_4 cw0_1_5
      clear hw1
      try simp only [Act.put, List.setIfInBounds_toArray, List.set_cons_zero, List.set_cons_succ]
      repeat (first | (refine Od.wpO_skip (by simp only [List.getElem?_toArray, List.getElem?_cons_succ, List.getElem?_cons_zero] <;> rfl) rfl ?_; simp only [Act.put, List.setIfInBounds_toArray, List.set_cons_zero, List.set_cons_succ]) | (refine Od.wpO_pure (by simp only [List.getElem?_toArray, List.getElem?_cons_succ, List.getElem?_cons_zero] <;> rfl) rfl ?_; apply Exists.intro; refine ⟨?_, ?_⟩; (· intro wx gx; obtain ⟨mx, rfl⟩ := spread_of_gr gx; clear gx; all_goals (apply Od.pAt_of_quiet; intro K hK; go_big_quiet_op; first | exact hK _ rfl | (apply Exists.intro; refine ⟨fun _ => ?_, ?_⟩; (· fail); exact hK _ rfl))); try simp only [Act.put, List.setIfInBounds_toArray, List.set_cons_zero, List.set_cons_succ]))
      refine Od.wpO_call (by simp only [List.getElem?_toArray, List.getElem?_cons_succ, List.getElem?_cons_zero] <;> rfl) rfl ?_
      intro QS hQS
      go_wp2_with fail
      go_at_call 40
      (with_reducible refine ((H2.out _ gw1)).mono ?_)
      rintro e w2 ⟨rfl, hw2⟩
      go_wp2_with fail
      apply Exists.intro
      refine ⟨?_, hw2, ?_⟩
      · simp only [Act.put, List.setIfInBounds_toArray, List.set_cons_zero, List.set_cons_succ]; rfl
      have cw2_0_0 := ci hw2 (W.heap.size) 0 k (by go_simp)
      have cw2_0_1 := cg hw2 (W.heap.size) 1 (.slice ad n cap) (by go_simp)
      have zw2_0 := zb cw2_0_0
      have cw2_1_0 := ci hw2 (W.heap.size + 1) 0 kq (by go_simp)
      have cw2_1_1 := ci hw2 (W.heap.size + 1) 1 qlx (by go_simp)
      have cw2_1_2 := ci hw2 (W.heap.size + 1) 2 qly (by go_simp)
      have cw2_1_3 := ci hw2 (W.heap.size + 1) 3 qhx (by go_simp)
      have cw2_1_4 := ci hw2 (W.heap.size + 1) 4 qhy (by go_simp)
      have cw2_1_5 := cg hw2 (W.heap.size + 1) 5 (.slice bd m bcap) (by go_simp)
      have zw2_1 := zb cw2_1_0
      have gw2 : Gr W w2 := Gr.trans (by have gg := gw1; have gs := gg.size; go_grown) hw2
      clear gw1 cw1_0_0 cw1_0_1 cw1_1_0 cw1_1_1 cw1_1_2 cw1_1_3 cw1_1_4 cw1_1_5
      clear hw2
      try simp only [Act.put, List.setIfInBounds_toArray, List.set_cons_zero, List.set_cons_succ]
      repeat (first | (refine Od.wpO_skip (by simp only [List.getElem?_toArray, List.getElem?_cons_succ, List.getElem?_cons_zero] <;> rfl) rfl ?_; simp only [Act.put, List.setIfInBounds_toArray, List.set_cons_zero, List.set_cons_succ]) | (refine Od.wpO_pure (by simp only [List.getElem?_toArray, List.getElem?_cons_succ, List.getElem?_cons_zero] <;> rfl) rfl ?_; apply Exists.intro; refine ⟨?_, ?_⟩; (· intro wx gx; obtain ⟨mx, rfl⟩ := spread_of_gr gx; clear gx; all_goals (apply Od.pAt_of_quiet; intro K hK; go_big_quiet_op; first | exact hK _ rfl | (apply Exists.intro; refine ⟨fun _ => ?_, ?_⟩; (· fail); exact hK _ rfl))); try simp only [Act.put, List.setIfInBounds_toArray, List.set_cons_zero, List.set_cons_succ]))
      refine Od.wpO_call (by simp only [List.getElem?_toArray, List.getElem?_cons_succ, List.getElem?_cons_zero] <;> rfl) rfl ?_
      intro QS hQS
      go_wp2_with fail
      first | (apply Exists.intro; refine ⟨?_, (by go_grown), ?_⟩; (· simp only [Act.put, List.setIfInBounds_toArray, List.set_cons_zero, List.set_cons_succ]; rfl)) | (refine ⟨(by go_grown), ?_⟩)
      generalize hhw3 : (w2.alloc (.cells #[.nilIface, .nilIface] 34)) = w3
      have hw3 : Gr w2 w3 := by subst hhw3; go_grown
      have cw3_0_0 : w3.cell? ⟨W.heap.size, 0, none⟩ = some (.int .i64 k) := by subst hhw3; go_simp
      have cw3_0_1 : w3.cell? ⟨W.heap.size, 1, none⟩ = some (.slice ad n cap) := by subst hhw3; go_simp
      have zw3_0 := zb cw3_0_0
      have cw3_1_0 : w3.cell? ⟨W.heap.size + 1, 0, none⟩ = some (.int .i64 kq) := by subst hhw3; go_simp
      have cw3_1_1 : w3.cell? ⟨W.heap.size + 1, 1, none⟩ = some (.int .i64 qlx) := by subst hhw3; go_simp
      have cw3_1_2 : w3.cell? ⟨W.heap.size + 1, 2, none⟩ = some (.int .i64 qly) := by subst hhw3; go_simp
      have cw3_1_3 : w3.cell? ⟨W.heap.size + 1, 3, none⟩ = some (.int .i64 qhx) := by subst hhw3; go_simp
      have cw3_1_4 : w3.cell? ⟨W.heap.size + 1, 4, none⟩ = some (.int .i64 qhy) := by subst hhw3; go_simp
      have cw3_1_5 : w3.cell? ⟨W.heap.size + 1, 5, none⟩ = some (.slice bd m bcap) := by subst hhw3; go_simp
      have zw3_1 := zb cw3_1_0
      have cw3_2_0 : w3.cell? ⟨w2.heap.size, 0, none⟩ = some (.nilIface) := by subst hhw3; go_simp
      have cw3_2_1 : w3.cell? ⟨w2.heap.size, 1, none⟩ = some (.nilIface) := by subst hhw3; go_simp
      have gw3 : Gr W w3 := Gr.trans (by have gg := gw2; have gs := gg.size; go_grown) hw3
      clear hhw3 hw3 gw2 zw2_0 cw2_0_0 cw2_0_1 zw2_1 cw2_1_0 cw2_1_1 cw2_1_2 cw2_1_3 cw2_1_4 cw2_1_5
      try simp only [Act.put, List.setIfInBounds_toArray, List.set_cons_zero, List.set_cons_succ]
      repeat (first | (refine Od.wpO_skip (by simp only [List.getElem?_toArray, List.getElem?_cons_succ, List.getElem?_cons_zero] <;> rfl) rfl ?_; simp only [Act.put, List.setIfInBounds_toArray, List.set_cons_zero, List.set_cons_succ]) | (refine Od.wpO_pure (by simp only [List.getElem?_toArray, List.getElem?_cons_succ, List.getElem?_cons_zero] <;> rfl) rfl ?_; apply Exists.intro; refine ⟨?_, ?_⟩; (· intro wx gx; obtain ⟨mx, rfl⟩ := spread_of_gr gx; clear gx; all_goals (apply Od.pAt_of_quiet; intro K hK; go_big_quiet_op; first | exact hK _ rfl | (apply Exists.intro; refine ⟨fun _ => ?_, ?_⟩; (· fail); exact hK _ rfl))); try simp only [Act.put, List.setIfInBounds_toArray, List.set_cons_zero, List.set_cons_succ]))
      refine Od.wpO_call (by simp only [List.getElem?_toArray, List.getElem?_cons_succ, List.getElem?_cons_zero] <;> rfl) rfl ?_
      intro QS hQS
      go_wp2_with fail
      go_at_call 39
      (with_reducible refine ((H4.out _ _ _ _ true gw3 cw3_2_0 cw3_2_1 nf_nil nf_nil (by simp))).mono ?_)
      rintro e w4 ⟨rfl, hw4⟩
      go_wp2_with fail
      apply Exists.intro
      refine ⟨?_, hw4, ?_⟩
      · simp only [Act.put, List.setIfInBounds_toArray, List.set_cons_zero, List.set_cons_succ]; rfl
      have cw4_0_0 := ci hw4 (W.heap.size) 0 k (by go_simp)
      have cw4_0_1 := cg hw4 (W.heap.size) 1 (.slice ad n cap) (by go_simp)
      have cw4_1_0 := ci hw4 (W.heap.size + 1) 0 kq (by go_simp)
      have cw4_1_1 := ci hw4 (W.heap.size + 1) 1 qlx (by go_simp)
      have cw4_1_2 := ci hw4 (W.heap.size + 1) 2 qly (by go_simp)
      have cw4_1_3 := ci hw4 (W.heap.size + 1) 3 qhx (by go_simp)
      have cw4_1_4 := ci hw4 (W.heap.size + 1) 4 qhy (by go_simp)
      have cw4_1_5 := cg hw4 (W.heap.size + 1) 5 (.slice bd m bcap) (by go_simp)
      have gw4 : Gr W w4 := Gr.trans (by have gg := gw3; have gs := gg.size; go_grown) hw4
      clear gw3 zw3_0 cw3_0_0 cw3_0_1 zw3_1 cw3_1_0 cw3_1_1 cw3_1_2 cw3_1_3 cw3_1_4 cw3_1_5 cw3_2_0 cw3_2_1
      clear hw4
      try simp only [Act.put, List.setIfInBounds_toArray, List.set_cons_zero, List.set_cons_succ]
      repeat (first | (refine Od.wpO_skip (by simp only [List.getElem?_toArray, List.getElem?_cons_succ, List.getElem?_cons_zero] <;> rfl) rfl ?_; simp only [Act.put, List.setIfInBounds_toArray, List.set_cons_zero, List.set_cons_succ]) | (refine Od.wpO_pure (by simp only [List.getElem?_toArray, List.getElem?_cons_succ, List.getElem?_cons_zero] <;> rfl) rfl ?_; apply Exists.intro; refine ⟨?_, ?_⟩; (· intro wx gx; obtain ⟨mx, rfl⟩ := spread_of_gr gx; clear gx; all_goals (apply Od.pAt_of_quiet; intro K hK; go_big_quiet_op; first | exact hK _ rfl | (apply Exists.intro; refine ⟨fun _ => ?_, ?_⟩; (· fail); exact hK _ rfl))); try simp only [Act.put, List.setIfInBounds_toArray, List.set_cons_zero, List.set_cons_succ]))
      refine Od.wpO_call (by simp only [List.getElem?_toArray, List.getElem?_cons_succ, List.getElem?_cons_zero] <;> rfl) rfl ?_
      intro QS hQS
      go_wp2_with fail
      go_at_call 41
      (with_reducible refine ((H3.out _ gw4)).mono ?_)
      rintro e w5 ⟨rfl, hw5⟩
      go_wp2_with fail
      apply Exists.intro
      refine ⟨?_, hw5, ?_⟩
      · simp only [Act.put, List.setIfInBounds_toArray, List.set_cons_zero, List.set_cons_succ]; rfl
      have gw5 : Gr W w5 := Gr.trans (by have gg := gw4; have gs := gg.size; go_grown) hw5
      clear gw4 cw4_0_0 cw4_0_1 cw4_1_0 cw4_1_1 cw4_1_2 cw4_1_3 cw4_1_4 cw4_1_5
      clear hw5
      try simp only [Act.put, List.setIfInBounds_toArray, List.set_cons_zero, List.set_cons_succ]
      repeat (first | (refine Od.wpO_skip (by simp only [List.getElem?_toArray, List.getElem?_cons_succ, List.getElem?_cons_zero] <;> rfl) rfl ?_; simp only [Act.put, List.setIfInBounds_toArray, List.set_cons_zero, List.set_cons_succ]) | (refine Od.wpO_pure (by simp only [List.getElem?_toArray, List.getElem?_cons_succ, List.getElem?_cons_zero] <;> rfl) rfl ?_; apply Exists.intro; refine ⟨?_, ?_⟩; (· intro wx gx; obtain ⟨mx, rfl⟩ := spread_of_gr gx; clear gx; all_goals (apply Od.pAt_of_quiet; intro K hK; go_big_quiet_op; first | exact hK _ rfl | (apply Exists.intro; refine ⟨fun _ => ?_, ?_⟩; (· fail); exact hK _ rfl))); try simp only [Act.put, List.setIfInBounds_toArray, List.set_cons_zero, List.set_cons_succ]))
      refine Od.wpO_nil (hKQ _ _ ?_)
      clear hKQ KQ
      go_wp2_with fail
      go_ret
      exact ⟨rfl, gw5⟩
    · rw [decide_eq_false hd, Bool.false_and]
      have C1 : ∀ w, Gr W w → Calls Tryz.prog 34 #[.agg #[.int .i64 k, .slice ad n cap]] w fun e w' => e = .returned .nilIface ∧ Gr w w' := fun w g => (B1 w g).mono (by
        rintro e w' ⟨x, rfl, ⟨-, hx⟩, g'⟩
        obtain rfl := hx.2 hc
        exact ⟨rfl, g'⟩)
      have C2 : ∀ w, Gr W w → Calls Tryz.prog 40 #[qryV kq qlx qly qhx qhy (.slice bd m bcap)] w fun e w' => ∃ B, e = .returned (.iface 84 (.pointer (some ⟨B, 0, none⟩))) ∧ Gr w w' := fun w g => (B2 w g).mono (by
        rintro e w' ⟨x, rfl, ⟨hn, hx⟩, g'⟩
        rcases hn with rfl | ⟨B, rfl⟩
        · exact absurd (hx.1 rfl) hd
        · exact ⟨B, rfl, g'⟩)
      have H1 := Lib.hid C1
      have H2 := Lib.hid C2
      have H4 := Lib.hid B4
      clear C1 C2 B4
      clear A3 B1 B2
      go_enter Tryz.func13, Tryz.ntmps13
      go_wp2_with fail
      try simp only [List.append]
      refine Od.wp_region_ord [(0, false), (2, false), (1, true), (3, true), (4, true), (5, true), (6, false), (7, false), (8, false), (9, true), (10, false), (11, false)] (by kernel_rfl) (by kernel_rfl) ?_
      intro w0 hw0 KQ hKQ
      have cw0_0_0 := ci hw0 (W.heap.size) 0 k (by go_simp)
      have cw0_0_1 := cg hw0 (W.heap.size) 1 (.slice ad n cap) (by go_simp)
      have cw0_1_0 := ci hw0 (W.heap.size + 1) 0 kq (by go_simp)
      have cw0_1_1 := ci hw0 (W.heap.size + 1) 1 qlx (by go_simp)
      have cw0_1_2 := ci hw0 (W.heap.size + 1) 2 qly (by go_simp)
      have cw0_1_3 := ci hw0 (W.heap.size + 1) 3 qhx (by go_simp)
      have cw0_1_4 := ci hw0 (W.heap.size + 1) 4 qhy (by go_simp)
      have cw0_1_5 := cg hw0 (W.heap.size + 1) 5 (.slice bd m bcap) (by go_simp)
      have gw0 : Gr W w0 := Gr.trans (by go_grown) hw0
      skip
      clear hw0
      repeat (first | (refine Od.wpO_skip (by simp only [List.getElem?_toArray, List.getElem?_cons_succ, List.getElem?_cons_zero] <;> rfl) rfl ?_; simp only [Act.put, List.setIfInBounds_toArray, List.set_cons_zero, List.set_cons_succ]) | (refine Od.wpO_pure (by simp only [List.getElem?_toArray, List.getElem?_cons_succ, List.getElem?_cons_zero] <;> rfl) rfl ?_; apply Exists.intro; refine ⟨?_, ?_⟩; (· intro wx gx; obtain ⟨mx, rfl⟩ := spread_of_gr gx; clear gx; all_goals (apply Od.pAt_of_quiet; intro K hK; go_big_quiet_op; first | exact hK _ rfl | (apply Exists.intro; refine ⟨fun _ => ?_, ?_⟩; (· fail); exact hK _ rfl))); try simp only [Act.put, List.setIfInBounds_toArray, List.set_cons_zero, List.set_cons_succ]))
      refine Od.wpO_call (by simp only [List.getElem?_toArray, List.getElem?_cons_succ, List.getElem?_cons_zero] <;> rfl) rfl ?_
      intro QS hQS
      go_wp2_with fail
      go_at_call 34
      (with_reducible refine ((H1.out _ gw0)).mono ?_)
      rintro e w1 ⟨rfl, hw1⟩
      go_wp2_with fail
      apply Exists.intro
      refine ⟨?_, hw1, ?_⟩
      · simp only [Act.put, List.setIfInBounds_toArray, List.set_cons_zero, List.set_cons_succ]; rfl
      have cw1_0_0 := ci hw1 (W.heap.size) 0 k (by go_simp)
      have cw1_0_1 := cg hw1 (W.heap.size) 1 (.slice ad n cap) (by go_simp)
      have cw1_1_0 := ci hw1 (W.heap.size + 1) 0 kq (by go_simp)
      have cw1_1_1 := ci hw1 (W.heap.size + 1) 1 qlx (by go_simp)
      have cw1_1_2 := ci hw1 (W.heap.size + 1) 2 qly (by go_simp)
      have cw1_1_3 := ci hw1 (W.heap.size + 1) 3 qhx (by go_simp)
      have cw1_1_4 := ci hw1 (W.heap.size + 1) 4 qhy (by go_simp)
      have cw1_1_5 := cg hw1 (W.heap.size + 1) 5 (.slice bd m bcap) (by go_simp)
      have gw1 : Gr W w1 := Gr.trans (by have gg := gw0; have gs := gg.size; go_grown) hw1
      clear gw0 cw0_0_0 cw0_0_1 cw0_1_0 cw0_1_1 cw0_1_2 cw0_1_3 cw0_1_4 cw0_1_5
      clear hw1
      try simp only [Act.put, List.setIfInBounds_toArray, List.set_cons_zero, List.set_cons_succ]
      repeat (first | (refine Od.wpO_skip (by simp only [List.getElem?_toArray, List.getElem?_cons_succ, List.getElem?_cons_zero] <;> rfl) rfl ?_; simp only [Act.put, List.setIfInBounds_toArray, List.set_cons_zero, List.set_cons_succ]) | (refine Od.wpO_pure (by simp only [List.getElem?_toArray, List.getElem?_cons_succ, List.getElem?_cons_zero] <;> rfl) rfl ?_; apply Exists.intro; refine ⟨?_, ?_⟩; (· intro wx gx; obtain ⟨mx, rfl⟩ := spread_of_gr gx; clear gx; all_goals (apply Od.pAt_of_quiet; intro K hK; go_big_quiet_op; first | exact hK _ rfl | (apply Exists.intro; refine ⟨fun _ => ?_, ?_⟩; (· fail); exact hK _ rfl))); try simp only [Act.put, List.setIfInBounds_toArray, List.set_cons_zero, List.set_cons_succ]))
      refine Od.wpO_call (by simp only [List.getElem?_toArray, List.getElem?_cons_succ, List.getElem?_cons_zero] <;> rfl) rfl ?_
      intro QS hQS
      go_wp2_with fail
      go_at_call 40
      (with_reducible refine ((H2.out _ gw1)).mono ?_)
      rintro e w2 ⟨B2, rfl, hw2⟩
      go_wp2_with fail
      apply Exists.intro
      refine ⟨?_, hw2, ?_⟩
      · simp only [Act.put, List.setIfInBounds_toArray, List.set_cons_zero, List.set_cons_succ]; rfl
      have cw2_0_0 := ci hw2 (W.heap.size) 0 k (by go_simp)
      have cw2_0_1 := cg hw2 (W.heap.size) 1 (.slice ad n cap) (by go_simp)
      have zw2_0 := zb cw2_0_0
      have cw2_1_0 := ci hw2 (W.heap.size + 1) 0 kq (by go_simp)
      have cw2_1_1 := ci hw2 (W.heap.size + 1) 1 qlx (by go_simp)
      have cw2_1_2 := ci hw2 (W.heap.size + 1) 2 qly (by go_simp)
      have cw2_1_3 := ci hw2 (W.heap.size + 1) 3 qhx (by go_simp)
      have cw2_1_4 := ci hw2 (W.heap.size + 1) 4 qhy (by go_simp)
      have cw2_1_5 := cg hw2 (W.heap.size + 1) 5 (.slice bd m bcap) (by go_simp)
      have zw2_1 := zb cw2_1_0
      have gw2 : Gr W w2 := Gr.trans (by have gg := gw1; have gs := gg.size; go_grown) hw2
      clear gw1 cw1_0_0 cw1_0_1 cw1_1_0 cw1_1_1 cw1_1_2 cw1_1_3 cw1_1_4 cw1_1_5
      clear hw2
      try simp only [Act.put, List.setIfInBounds_toArray, List.set_cons_zero, List.set_cons_succ]
      repeat (first | (refine Od.wpO_skip (by simp only [List.getElem?_toArray, List.getElem?_cons_succ, List.getElem?_cons_zero] <;> rfl) rfl ?_; simp only [Act.put, List.setIfInBounds_toArray, List.set_cons_zero, List.set_cons_succ]) | (refine Od.wpO_pure (by simp only [List.getElem?_toArray, List.getElem?_cons_succ, List.getElem?_cons_zero] <;> rfl) rfl ?_; apply Exists.intro; refine ⟨?_, ?_⟩; (· intro wx gx; obtain ⟨mx, rfl⟩ := spread_of_gr gx; clear gx; all_goals (apply Od.pAt_of_quiet; intro K hK; go_big_quiet_op; first | exact hK _ rfl | (apply Exists.intro; refine ⟨fun _ => ?_, ?_⟩; (· fail); exact hK _ rfl))); try simp only [Act.put, List.setIfInBounds_toArray, List.set_cons_zero, List.set_cons_succ]))
      refine Od.wpO_call (by simp only [List.getElem?_toArray, List.getElem?_cons_succ, List.getElem?_cons_zero] <;> rfl) rfl ?_
      intro QS hQS
      go_wp2_with fail
      first | (apply Exists.intro; refine ⟨?_, (by go_grown), ?_⟩; (· simp only [Act.put, List.setIfInBounds_toArray, List.set_cons_zero, List.set_cons_succ]; rfl)) | (refine ⟨(by go_grown), ?_⟩)
      generalize hhw3 : (w2.alloc (.cells #[.nilIface, .iface 84 (.pointer (some ⟨B2, 0, none⟩))] 34)) = w3
      have hw3 : Gr w2 w3 := by subst hhw3; go_grown
      have cw3_0_0 : w3.cell? ⟨W.heap.size, 0, none⟩ = some (.int .i64 k) := by subst hhw3; go_simp
      have cw3_0_1 : w3.cell? ⟨W.heap.size, 1, none⟩ = some (.slice ad n cap) := by subst hhw3; go_simp
      have zw3_0 := zb cw3_0_0
      have cw3_1_0 : w3.cell? ⟨W.heap.size + 1, 0, none⟩ = some (.int .i64 kq) := by subst hhw3; go_simp
      have cw3_1_1 : w3.cell? ⟨W.heap.size + 1, 1, none⟩ = some (.int .i64 qlx) := by subst hhw3; go_simp
      have cw3_1_2 : w3.cell? ⟨W.heap.size + 1, 2, none⟩ = some (.int .i64 qly) := by subst hhw3; go_simp
      have cw3_1_3 : w3.cell? ⟨W.heap.size + 1, 3, none⟩ = some (.int .i64 qhx) := by subst hhw3; go_simp
      have cw3_1_4 : w3.cell? ⟨W.heap.size + 1, 4, none⟩ = some (.int .i64 qhy) := by subst hhw3; go_simp
      have cw3_1_5 : w3.cell? ⟨W.heap.size + 1, 5, none⟩ = some (.slice bd m bcap) := by subst hhw3; go_simp
      have zw3_1 := zb cw3_1_0
      have cw3_2_0 : w3.cell? ⟨w2.heap.size, 0, none⟩ = some (.nilIface) := by subst hhw3; go_simp
      have cw3_2_1 : w3.cell? ⟨w2.heap.size, 1, none⟩ = some (.iface 84 (.pointer (some ⟨B2, 0, none⟩))) := by subst hhw3; go_simp
      have gw3 : Gr W w3 := Gr.trans (by have gg := gw2; have gs := gg.size; go_grown) hw3
      clear hhw3 hw3 gw2 zw2_0 cw2_0_0 cw2_0_1 zw2_1 cw2_1_0 cw2_1_1 cw2_1_2 cw2_1_3 cw2_1_4 cw2_1_5
      try simp only [Act.put, List.setIfInBounds_toArray, List.set_cons_zero, List.set_cons_succ]
      repeat (first | (refine Od.wpO_skip (by simp only [List.getElem?_toArray, List.getElem?_cons_succ, List.getElem?_cons_zero] <;> rfl) rfl ?_; simp only [Act.put, List.setIfInBounds_toArray, List.set_cons_zero, List.set_cons_succ]) | (refine Od.wpO_pure (by simp only [List.getElem?_toArray, List.getElem?_cons_succ, List.getElem?_cons_zero] <;> rfl) rfl ?_; apply Exists.intro; refine ⟨?_, ?_⟩; (· intro wx gx; obtain ⟨mx, rfl⟩ := spread_of_gr gx; clear gx; all_goals (apply Od.pAt_of_quiet; intro K hK; go_big_quiet_op; first | exact hK _ rfl | (apply Exists.intro; refine ⟨fun _ => ?_, ?_⟩; (· fail); exact hK _ rfl))); try simp only [Act.put, List.setIfInBounds_toArray, List.set_cons_zero, List.set_cons_succ]))
      refine Od.wpO_call (by simp only [List.getElem?_toArray, List.getElem?_cons_succ, List.getElem?_cons_zero] <;> rfl) rfl ?_
      intro QS hQS
      go_wp2_with fail
      go_at_call 39
      (with_reducible refine ((H4.out _ _ _ _ false gw3 cw3_2_0 cw3_2_1 nf_nil (nf_f _) (by simp))).mono ?_)
      rintro e w4 ⟨rfl, hw4⟩
      go_wp2_with fail
      apply Exists.intro
      refine ⟨?_, hw4, ?_⟩
      · simp only [Act.put, List.setIfInBounds_toArray, List.set_cons_zero, List.set_cons_succ]; rfl
      have cw4_0_0 := ci hw4 (W.heap.size) 0 k (by go_simp)
      have cw4_0_1 := cg hw4 (W.heap.size) 1 (.slice ad n cap) (by go_simp)
      have cw4_1_0 := ci hw4 (W.heap.size + 1) 0 kq (by go_simp)
      have cw4_1_1 := ci hw4 (W.heap.size + 1) 1 qlx (by go_simp)
      have cw4_1_2 := ci hw4 (W.heap.size + 1) 2 qly (by go_simp)
      have cw4_1_3 := ci hw4 (W.heap.size + 1) 3 qhx (by go_simp)
      have cw4_1_4 := ci hw4 (W.heap.size + 1) 4 qhy (by go_simp)
      have cw4_1_5 := cg hw4 (W.heap.size + 1) 5 (.slice bd m bcap) (by go_simp)
      have gw4 : Gr W w4 := Gr.trans (by have gg := gw3; have gs := gg.size; go_grown) hw4
      clear gw3 zw3_0 cw3_0_0 cw3_0_1 zw3_1 cw3_1_0 cw3_1_1 cw3_1_2 cw3_1_3 cw3_1_4 cw3_1_5 cw3_2_0 cw3_2_1
      clear hw4
      try simp only [Act.put, List.setIfInBounds_toArray, List.set_cons_zero, List.set_cons_succ]
      repeat (first | (refine Od.wpO_skip (by simp only [List.getElem?_toArray, List.getElem?_cons_succ, List.getElem?_cons_zero] <;> rfl) rfl ?_; simp only [Act.put, List.setIfInBounds_toArray, List.set_cons_zero, List.set_cons_succ]) | (refine Od.wpO_pure (by simp only [List.getElem?_toArray, List.getElem?_cons_succ, List.getElem?_cons_zero] <;> rfl) rfl ?_; apply Exists.intro; refine ⟨?_, ?_⟩; (· intro wx gx; obtain ⟨mx, rfl⟩ := spread_of_gr gx; clear gx; all_goals (apply Od.pAt_of_quiet; intro K hK; go_big_quiet_op; first | exact hK _ rfl | (apply Exists.intro; refine ⟨fun _ => ?_, ?_⟩; (· fail); exact hK _ rfl))); try simp only [Act.put, List.setIfInBounds_toArray, List.set_cons_zero, List.set_cons_succ]))
      refine Od.wpO_nil (hKQ _ _ ?_)
      clear hKQ KQ
      go_wp2_with fail
      go_ret
      exact ⟨rfl, gw4⟩
  · rw [decide_eq_false hc, Bool.false_and, Bool.false_and]
    by_cases hd : d = 0
    · skip
      have C1 : ∀ w, Gr W w → Calls Tryz.prog 34 #[.agg #[.int .i64 k, .slice ad n cap]] w fun e w' => ∃ B, e = .returned (.iface 84 (.pointer (some ⟨B, 0, none⟩))) ∧ Gr w w' := fun w g => (B1 w g).mono (by
        rintro e w' ⟨x, rfl, ⟨hn, hx⟩, g'⟩
        rcases hn with rfl | ⟨B, rfl⟩
        · exact absurd (hx.1 rfl) hc
        · exact ⟨B, rfl, g'⟩)
      have C2 : ∀ w, Gr W w → Calls Tryz.prog 40 #[qryV kq qlx qly qhx qhy (.slice bd m bcap)] w fun e w' => e = .returned .nilIface ∧ Gr w w' := fun w g => (B2 w g).mono (by
        rintro e w' ⟨x, rfl, ⟨-, hx⟩, g'⟩
        obtain rfl := hx.2 hd
        exact ⟨rfl, g'⟩)
      have H1 := Lib.hid C1
      have H2 := Lib.hid C2
      have H4 := Lib.hid B4
      clear C1 C2 B4
      clear A3 B1 B2
      go_enter Tryz.func13, Tryz.ntmps13
      go_wp2_with fail
      try simp only [List.append]
      refine Od.wp_region_ord [(0, false), (2, false), (1, true), (3, true), (4, true), (5, true), (6, false), (7, false), (8, false), (9, true), (10, false), (11, false)] (by kernel_rfl) (by kernel_rfl) ?_
      intro w0 hw0 KQ hKQ
      have cw0_0_0 := ci hw0 (W.heap.size) 0 k (by go_simp)
      have cw0_0_1 := cg hw0 (W.heap.size) 1 (.slice ad n cap) (by go_simp)
      have cw0_1_0 := ci hw0 (W.heap.size + 1) 0 kq (by go_simp)
      have cw0_1_1 := ci hw0 (W.heap.size + 1) 1 qlx (by go_simp)
      have cw0_1_2 := ci hw0 (W.heap.size + 1) 2 qly (by go_simp)
      have cw0_1_3 := ci hw0 (W.heap.size + 1) 3 qhx (by go_simp)
      have cw0_1_4 := ci hw0 (W.heap.size + 1) 4 qhy (by go_simp)
      have cw0_1_5 := cg hw0 (W.heap.size + 1) 5 (.slice bd m bcap) (by go_simp)
      have gw0 : Gr W w0 := Gr.trans (by go_grown) hw0
      skip
      clear hw0
      repeat (first | (refine Od.wpO_skip (by simp only [List.getElem?_toArray, List.getElem?_cons_succ, List.getElem?_cons_zero] <;> rfl) rfl ?_; simp only [Act.put, List.setIfInBounds_toArray, List.set_cons_zero, List.set_cons_succ]) | (refine Od.wpO_pure (by simp only [List.getElem?_toArray, List.getElem?_cons_succ, List.getElem?_cons_zero] <;> rfl) rfl ?_; apply Exists.intro; refine ⟨?_, ?_⟩; (· intro wx gx; obtain ⟨mx, rfl⟩ := spread_of_gr gx; clear gx; all_goals (apply Od.pAt_of_quiet; intro K hK; go_big_quiet_op; first | exact hK _ rfl | (apply Exists.intro; refine ⟨fun _ => ?_, ?_⟩; (· fail); exact hK _ rfl))); try simp only [Act.put, List.setIfInBounds_toArray, List.set_cons_zero, List.set_cons_succ]))
      refine Od.wpO_call (by simp only [List.getElem?_toArray, List.getElem?_cons_succ, List.getElem?_cons_zero] <;> rfl) rfl ?_
      intro QS hQS
      go_wp2_with fail
      go_at_call 34
      (with_reducible refine ((H1.out _ gw0)).mono ?_)
      rintro e w1 ⟨B1, rfl, hw1⟩
      go_wp2_with fail
      apply Exists.intro
      refine ⟨?_, hw1, ?_⟩
      · simp only [Act.put, List.setIfInBounds_toArray, List.set_cons_zero, List.set_cons_succ]; rfl
      have cw1_0_0 := ci hw1 (W.heap.size) 0 k (by go_simp)
      have cw1_0_1 := cg hw1 (W.heap.size) 1 (.slice ad n cap) (by go_simp)
      have cw1_1_0 := ci hw1 (W.heap.size + 1) 0 kq (by go_simp)
      have cw1_1_1 := ci hw1 (W.heap.size + 1) 1 qlx (by go_simp)
      have cw1_1_2 := ci hw1 (W.heap.size + 1) 2 qly (by go_simp)
      have cw1_1_3 := ci hw1 (W.heap.size + 1) 3 qhx (by go_simp)
      have cw1_1_4 := ci hw1 (W.heap.size + 1) 4 qhy (by go_simp)
      have cw1_1_5 := cg hw1 (W.heap.size + 1) 5 (.slice bd m bcap) (by go_simp)
      have gw1 : Gr W w1 := Gr.trans (by have gg := gw0; have gs := gg.size; go_grown) hw1
      clear gw0 cw0_0_0 cw0_0_1 cw0_1_0 cw0_1_1 cw0_1_2 cw0_1_3 cw0_1_4 cw0_1_5
      clear hw1
      try simp only [Act.put, List.setIfInBounds_toArray, List.set_cons_zero, List.set_cons_succ]
      repeat (first | (refine Od.wpO_skip (by simp only [List.getElem?_toArray, List.getElem?_cons_succ, List.getElem?_cons_zero] <;> rfl) rfl ?_; simp only [Act.put, List.setIfInBounds_toArray, List.set_cons_zero, List.set_cons_succ]) | (refine Od.wpO_pure (by simp only [List.getElem?_toArray, List.getElem?_cons_succ, List.getElem?_cons_zero] <;> rfl) rfl ?_; apply Exists.intro; refine ⟨?_, ?_⟩; (· intro wx gx; obtain ⟨mx, rfl⟩ := spread_of_gr gx; clear gx; all_goals (apply Od.pAt_of_quiet; intro K hK; go_big_quiet_op; first | exact hK _ rfl | (apply Exists.intro; refine ⟨fun _ => ?_, ?_⟩; (· fail); exact hK _ rfl))); try simp only [Act.put, List.setIfInBounds_toArray, List.set_cons_zero, List.set_cons_succ]))
      refine Od.wpO_call (by simp only [List.getElem?_toArray, List.getElem?_cons_succ, List.getElem?_cons_zero] <;> rfl) rfl ?_
      intro QS hQS
      go_wp2_with fail
      go_at_call 40
      (with_reducible refine ((H2.out _ gw1)).mono ?_)
      rintro e w2 ⟨rfl, hw2⟩
      go_wp2_with fail
      apply Exists.intro
      refine ⟨?_, hw2, ?_⟩
      · simp only [Act.put, List.setIfInBounds_toArray, List.set_cons_zero, List.set_cons_succ]; rfl
      have cw2_0_0 := ci hw2 (W.heap.size) 0 k (by go_simp)
      have cw2_0_1 := cg hw2 (W.heap.size) 1 (.slice ad n cap) (by go_simp)
      have zw2_0 := zb cw2_0_0
      have cw2_1_0 := ci hw2 (W.heap.size + 1) 0 kq (by go_simp)
      have cw2_1_1 := ci hw2 (W.heap.size + 1) 1 qlx (by go_simp)
      have cw2_1_2 := ci hw2 (W.heap.size + 1) 2 qly (by go_simp)
      have cw2_1_3 := ci hw2 (W.heap.size + 1) 3 qhx (by go_simp)
      have cw2_1_4 := ci hw2 (W.heap.size + 1) 4 qhy (by go_simp)
      have cw2_1_5 := cg hw2 (W.heap.size + 1) 5 (.slice bd m bcap) (by go_simp)
      have zw2_1 := zb cw2_1_0
      have gw2 : Gr W w2 := Gr.trans (by have gg := gw1; have gs := gg.size; go_grown) hw2
      clear gw1 cw1_0_0 cw1_0_1 cw1_1_0 cw1_1_1 cw1_1_2 cw1_1_3 cw1_1_4 cw1_1_5
      clear hw2
      try simp only [Act.put, List.setIfInBounds_toArray, List.set_cons_zero, List.set_cons_succ]
      repeat (first | (refine Od.wpO_skip (by simp only [List.getElem?_toArray, List.getElem?_cons_succ, List.getElem?_cons_zero] <;> rfl) rfl ?_; simp only [Act.put, List.setIfInBounds_toArray, List.set_cons_zero, List.set_cons_succ]) | (refine Od.wpO_pure (by simp only [List.getElem?_toArray, List.getElem?_cons_succ, List.getElem?_cons_zero] <;> rfl) rfl ?_; apply Exists.intro; refine ⟨?_, ?_⟩; (· intro wx gx; obtain ⟨mx, rfl⟩ := spread_of_gr gx; clear gx; all_goals (apply Od.pAt_of_quiet; intro K hK; go_big_quiet_op; first | exact hK _ rfl | (apply Exists.intro; refine ⟨fun _ => ?_, ?_⟩; (· fail); exact hK _ rfl))); try simp only [Act.put, List.setIfInBounds_toArray, List.set_cons_zero, List.set_cons_succ]))
      refine Od.wpO_call (by simp only [List.getElem?_toArray, List.getElem?_cons_succ, List.getElem?_cons_zero] <;> rfl) rfl ?_
      intro QS hQS
      go_wp2_with fail
      first | (apply Exists.intro; refine ⟨?_, (by go_grown), ?_⟩; (· simp only [Act.put, List.setIfInBounds_toArray, List.set_cons_zero, List.set_cons_succ]; rfl)) | (refine ⟨(by go_grown), ?_⟩)
      generalize hhw3 : (w2.alloc (.cells #[.iface 84 (.pointer (some ⟨B1, 0, none⟩)), .nilIface] 34)) = w3
      have hw3 : Gr w2 w3 := by subst hhw3; go_grown
      have cw3_0_0 : w3.cell? ⟨W.heap.size, 0, none⟩ = some (.int .i64 k) := by subst hhw3; go_simp
      have cw3_0_1 : w3.cell? ⟨W.heap.size, 1, none⟩ = some (.slice ad n cap) := by subst hhw3; go_simp
      have zw3_0 := zb cw3_0_0
      have cw3_1_0 : w3.cell? ⟨W.heap.size + 1, 0, none⟩ = some (.int .i64 kq) := by subst hhw3; go_simp
      have cw3_1_1 : w3.cell? ⟨W.heap.size + 1, 1, none⟩ = some (.int .i64 qlx) := by subst hhw3; go_simp
      have cw3_1_2 : w3.cell? ⟨W.heap.size + 1, 2, none⟩ = some (.int .i64 qly) := by subst hhw3; go_simp
      have cw3_1_3 : w3.cell? ⟨W.heap.size + 1, 3, none⟩ = some (.int .i64 qhx) := by subst hhw3; go_simp
      have cw3_1_4 : w3.cell? ⟨W.heap.size + 1, 4, none⟩ = some (.int .i64 qhy) := by subst hhw3; go_simp
      have cw3_1_5 : w3.cell? ⟨W.heap.size + 1, 5, none⟩ = some (.slice bd m bcap) := by subst hhw3; go_simp
      have zw3_1 := zb cw3_1_0
      have cw3_2_0 : w3.cell? ⟨w2.heap.size, 0, none⟩ = some (.iface 84 (.pointer (some ⟨B1, 0, none⟩))) := by subst hhw3; go_simp
      have cw3_2_1 : w3.cell? ⟨w2.heap.size, 1, none⟩ = some (.nilIface) := by subst hhw3; go_simp
      have gw3 : Gr W w3 := Gr.trans (by have gg := gw2; have gs := gg.size; go_grown) hw3
      clear hhw3 hw3 gw2 zw2_0 cw2_0_0 cw2_0_1 zw2_1 cw2_1_0 cw2_1_1 cw2_1_2 cw2_1_3 cw2_1_4 cw2_1_5
      try simp only [Act.put, List.setIfInBounds_toArray, List.set_cons_zero, List.set_cons_succ]
      repeat (first | (refine Od.wpO_skip (by simp only [List.getElem?_toArray, List.getElem?_cons_succ, List.getElem?_cons_zero] <;> rfl) rfl ?_; simp only [Act.put, List.setIfInBounds_toArray, List.set_cons_zero, List.set_cons_succ]) | (refine Od.wpO_pure (by simp only [List.getElem?_toArray, List.getElem?_cons_succ, List.getElem?_cons_zero] <;> rfl) rfl ?_; apply Exists.intro; refine ⟨?_, ?_⟩; (· intro wx gx; obtain ⟨mx, rfl⟩ := spread_of_gr gx; clear gx; all_goals (apply Od.pAt_of_quiet; intro K hK; go_big_quiet_op; first | exact hK _ rfl | (apply Exists.intro; refine ⟨fun _ => ?_, ?_⟩; (· fail); exact hK _ rfl))); try simp only [Act.put, List.setIfInBounds_toArray, List.set_cons_zero, List.set_cons_succ]))
      refine Od.wpO_call (by simp only [List.getElem?_toArray, List.getElem?_cons_succ, List.getElem?_cons_zero] <;> rfl) rfl ?_
      intro QS hQS
      go_wp2_with fail
      go_at_call 39
      (with_reducible refine ((H4.out _ _ _ _ false gw3 cw3_2_0 cw3_2_1 (nf_f _) nf_nil (by simp))).mono ?_)
      rintro e w4 ⟨rfl, hw4⟩
      go_wp2_with fail
      apply Exists.intro
      refine ⟨?_, hw4, ?_⟩
      · simp only [Act.put, List.setIfInBounds_toArray, List.set_cons_zero, List.set_cons_succ]; rfl
      have cw4_0_0 := ci hw4 (W.heap.size) 0 k (by go_simp)
      have cw4_0_1 := cg hw4 (W.heap.size) 1 (.slice ad n cap) (by go_simp)
      have cw4_1_0 := ci hw4 (W.heap.size + 1) 0 kq (by go_simp)
      have cw4_1_1 := ci hw4 (W.heap.size + 1) 1 qlx (by go_simp)
      have cw4_1_2 := ci hw4 (W.heap.size + 1) 2 qly (by go_simp)
      have cw4_1_3 := ci hw4 (W.heap.size + 1) 3 qhx (by go_simp)
      have cw4_1_4 := ci hw4 (W.heap.size + 1) 4 qhy (by go_simp)
      have cw4_1_5 := cg hw4 (W.heap.size + 1) 5 (.slice bd m bcap) (by go_simp)
      have gw4 : Gr W w4 := Gr.trans (by have gg := gw3; have gs := gg.size; go_grown) hw4
      clear gw3 zw3_0 cw3_0_0 cw3_0_1 zw3_1 cw3_1_0 cw3_1_1 cw3_1_2 cw3_1_3 cw3_1_4 cw3_1_5 cw3_2_0 cw3_2_1
      clear hw4
      try simp only [Act.put, List.setIfInBounds_toArray, List.set_cons_zero, List.set_cons_succ]
      repeat (first | (refine Od.wpO_skip (by simp only [List.getElem?_toArray, List.getElem?_cons_succ, List.getElem?_cons_zero] <;> rfl) rfl ?_; simp only [Act.put, List.setIfInBounds_toArray, List.set_cons_zero, List.set_cons_succ]) | (refine Od.wpO_pure (by simp only [List.getElem?_toArray, List.getElem?_cons_succ, List.getElem?_cons_zero] <;> rfl) rfl ?_; apply Exists.intro; refine ⟨?_, ?_⟩; (· intro wx gx; obtain ⟨mx, rfl⟩ := spread_of_gr gx; clear gx; all_goals (apply Od.pAt_of_quiet; intro K hK; go_big_quiet_op; first | exact hK _ rfl | (apply Exists.intro; refine ⟨fun _ => ?_, ?_⟩; (· fail); exact hK _ rfl))); try simp only [Act.put, List.setIfInBounds_toArray, List.set_cons_zero, List.set_cons_succ]))
      refine Od.wpO_nil (hKQ _ _ ?_)
      clear hKQ KQ
      go_wp2_with fail
      go_ret
      exact ⟨rfl, gw4⟩
    · skip
      have C1 : ∀ w, Gr W w → Calls Tryz.prog 34 #[.agg #[.int .i64 k, .slice ad n cap]] w fun e w' => ∃ B, e = .returned (.iface 84 (.pointer (some ⟨B, 0, none⟩))) ∧ Gr w w' := fun w g => (B1 w g).mono (by
        rintro e w' ⟨x, rfl, ⟨hn, hx⟩, g'⟩
        rcases hn with rfl | ⟨B, rfl⟩
        · exact absurd (hx.1 rfl) hc
        · exact ⟨B, rfl, g'⟩)
      have C2 : ∀ w, Gr W w → Calls Tryz.prog 40 #[qryV kq qlx qly qhx qhy (.slice bd m bcap)] w fun e w' => ∃ B, e = .returned (.iface 84 (.pointer (some ⟨B, 0, none⟩))) ∧ Gr w w' := fun w g => (B2 w g).mono (by
        rintro e w' ⟨x, rfl, ⟨hn, hx⟩, g'⟩
        rcases hn with rfl | ⟨B, rfl⟩
        · exact absurd (hx.1 rfl) hd
        · exact ⟨B, rfl, g'⟩)
      have H1 := Lib.hid C1
      have H2 := Lib.hid C2
      have H4 := Lib.hid B4
      clear C1 C2 B4
      clear A3 B1 B2
      go_enter Tryz.func13, Tryz.ntmps13
      go_wp2_with fail
      try simp only [List.append]
      refine Od.wp_region_ord [(0, false), (2, false), (1, true), (3, true), (4, true), (5, true), (6, false), (7, false), (8, false), (9, true), (10, false), (11, false)] (by kernel_rfl) (by kernel_rfl) ?_
      intro w0 hw0 KQ hKQ
      have cw0_0_0 := ci hw0 (W.heap.size) 0 k (by go_simp)
      have cw0_0_1 := cg hw0 (W.heap.size) 1 (.slice ad n cap) (by go_simp)
      have cw0_1_0 := ci hw0 (W.heap.size + 1) 0 kq (by go_simp)
      have cw0_1_1 := ci hw0 (W.heap.size + 1) 1 qlx (by go_simp)
      have cw0_1_2 := ci hw0 (W.heap.size + 1) 2 qly (by go_simp)
      have cw0_1_3 := ci hw0 (W.heap.size + 1) 3 qhx (by go_simp)
      have cw0_1_4 := ci hw0 (W.heap.size + 1) 4 qhy (by go_simp)
      have cw0_1_5 := cg hw0 (W.heap.size + 1) 5 (.slice bd m bcap) (by go_simp)
      have gw0 : Gr W w0 := Gr.trans (by go_grown) hw0
      skip
      clear hw0
      repeat (first | (refine Od.wpO_skip (by simp only [List.getElem?_toArray, List.getElem?_cons_succ, List.getElem?_cons_zero] <;> rfl) rfl ?_; simp only [Act.put, List.setIfInBounds_toArray, List.set_cons_zero, List.set_cons_succ]) | (refine Od.wpO_pure (by simp only [List.getElem?_toArray, List.getElem?_cons_succ, List.getElem?_cons_zero] <;> rfl) rfl ?_; apply Exists.intro; refine ⟨?_, ?_⟩; (· intro wx gx; obtain ⟨mx, rfl⟩ := spread_of_gr gx; clear gx; all_goals (apply Od.pAt_of_quiet; intro K hK; go_big_quiet_op; first | exact hK _ rfl | (apply Exists.intro; refine ⟨fun _ => ?_, ?_⟩; (· fail); exact hK _ rfl))); try simp only [Act.put, List.setIfInBounds_toArray, List.set_cons_zero, List.set_cons_succ]))
      refine Od.wpO_call (by simp only [List.getElem?_toArray, List.getElem?_cons_succ, List.getElem?_cons_zero] <;> rfl) rfl ?_
      intro QS hQS
      go_wp2_with fail
      go_at_call 34
      (with_reducible refine ((H1.out _ gw0)).mono ?_)
      rintro e w1 ⟨B1, rfl, hw1⟩
      go_wp2_with fail
      apply Exists.intro
      refine ⟨?_, hw1, ?_⟩
      · simp only [Act.put, List.setIfInBounds_toArray, List.set_cons_zero, List.set_cons_succ]; rfl
      have cw1_0_0 := ci hw1 (W.heap.size) 0 k (by go_simp)
      have cw1_0_1 := cg hw1 (W.heap.size) 1 (.slice ad n cap) (by go_simp)
      have cw1_1_0 := ci hw1 (W.heap.size + 1) 0 kq (by go_simp)
      have cw1_1_1 := ci hw1 (W.heap.size + 1) 1 qlx (by go_simp)
      have cw1_1_2 := ci hw1 (W.heap.size + 1) 2 qly (by go_simp)
      have cw1_1_3 := ci hw1 (W.heap.size + 1) 3 qhx (by go_simp)
      have cw1_1_4 := ci hw1 (W.heap.size + 1) 4 qhy (by go_simp)
      have cw1_1_5 := cg hw1 (W.heap.size + 1) 5 (.slice bd m bcap) (by go_simp)
      have gw1 : Gr W w1 := Gr.trans (by have gg := gw0; have gs := gg.size; go_grown) hw1
      clear gw0 cw0_0_0 cw0_0_1 cw0_1_0 cw0_1_1 cw0_1_2 cw0_1_3 cw0_1_4 cw0_1_5
      clear hw1
      try simp only [Act.put, List.setIfInBounds_toArray, List.set_cons_zero, List.set_cons_succ]
      repeat (first | (refine Od.wpO_skip (by simp only [List.getElem?_toArray, List.getElem?_cons_succ, List.getElem?_cons_zero] <;> rfl) rfl ?_; simp only [Act.put, List.setIfInBounds_toArray, List.set_cons_zero, List.set_cons_succ]) | (refine Od.wpO_pure (by simp only [List.getElem?_toArray, List.getElem?_cons_succ, List.getElem?_cons_zero] <;> rfl) rfl ?_; apply Exists.intro; refine ⟨?_, ?_⟩; (· intro wx gx; obtain ⟨mx, rfl⟩ := spread_of_gr gx; clear gx; all_goals (apply Od.pAt_of_quiet; intro K hK; go_big_quiet_op; first | exact hK _ rfl | (apply Exists.intro; refine ⟨fun _ => ?_, ?_⟩; (· fail); exact hK _ rfl))); try simp only [Act.put, List.setIfInBounds_toArray, List.set_cons_zero, List.set_cons_succ]))
      refine Od.wpO_call (by simp only [List.getElem?_toArray, List.getElem?_cons_succ, List.getElem?_cons_zero] <;> rfl) rfl ?_
      intro QS hQS
      go_wp2_with fail
      go_at_call 40
      (with_reducible refine ((H2.out _ gw1)).mono ?_)
      rintro e w2 ⟨B2, rfl, hw2⟩
      go_wp2_with fail
      apply Exists.intro
      refine ⟨?_, hw2, ?_⟩
      · simp only [Act.put, List.setIfInBounds_toArray, List.set_cons_zero, List.set_cons_succ]; rfl
      have cw2_0_0 := ci hw2 (W.heap.size) 0 k (by go_simp)
      have cw2_0_1 := cg hw2 (W.heap.size) 1 (.slice ad n cap) (by go_simp)
      have zw2_0 := zb cw2_0_0
      have cw2_1_0 := ci hw2 (W.heap.size + 1) 0 kq (by go_simp)
      have cw2_1_1 := ci hw2 (W.heap.size + 1) 1 qlx (by go_simp)
      have cw2_1_2 := ci hw2 (W.heap.size + 1) 2 qly (by go_simp)
      have cw2_1_3 := ci hw2 (W.heap.size + 1) 3 qhx (by go_simp)
      have cw2_1_4 := ci hw2 (W.heap.size + 1) 4 qhy (by go_simp)
      have cw2_1_5 := cg hw2 (W.heap.size + 1) 5 (.slice bd m bcap) (by go_simp)
      have zw2_1 := zb cw2_1_0
      have gw2 : Gr W w2 := Gr.trans (by have gg := gw1; have gs := gg.size; go_grown) hw2
      clear gw1 cw1_0_0 cw1_0_1 cw1_1_0 cw1_1_1 cw1_1_2 cw1_1_3 cw1_1_4 cw1_1_5
      clear hw2
      try simp only [Act.put, List.setIfInBounds_toArray, List.set_cons_zero, List.set_cons_succ]
      repeat (first | (refine Od.wpO_skip (by simp only [List.getElem?_toArray, List.getElem?_cons_succ, List.getElem?_cons_zero] <;> rfl) rfl ?_; simp only [Act.put, List.setIfInBounds_toArray, List.set_cons_zero, List.set_cons_succ]) | (refine Od.wpO_pure (by simp only [List.getElem?_toArray, List.getElem?_cons_succ, List.getElem?_cons_zero] <;> rfl) rfl ?_; apply Exists.intro; refine ⟨?_, ?_⟩; (· intro wx gx; obtain ⟨mx, rfl⟩ := spread_of_gr gx; clear gx; all_goals (apply Od.pAt_of_quiet; intro K hK; go_big_quiet_op; first | exact hK _ rfl | (apply Exists.intro; refine ⟨fun _ => ?_, ?_⟩; (· fail); exact hK _ rfl))); try simp only [Act.put, List.setIfInBounds_toArray, List.set_cons_zero, List.set_cons_succ]))
      refine Od.wpO_call (by simp only [List.getElem?_toArray, List.getElem?_cons_succ, List.getElem?_cons_zero] <;> rfl) rfl ?_
      intro QS hQS
      go_wp2_with fail
      first | (apply Exists.intro; refine ⟨?_, (by go_grown), ?_⟩; (· simp only [Act.put, List.setIfInBounds_toArray, List.set_cons_zero, List.set_cons_succ]; rfl)) | (refine ⟨(by go_grown), ?_⟩)
      generalize hhw3 : (w2.alloc (.cells #[.iface 84 (.pointer (some ⟨B1, 0, none⟩)), .iface 84 (.pointer (some ⟨B2, 0, none⟩))] 34)) = w3
      have hw3 : Gr w2 w3 := by subst hhw3; go_grown
      have cw3_0_0 : w3.cell? ⟨W.heap.size, 0, none⟩ = some (.int .i64 k) := by subst hhw3; go_simp
      have cw3_0_1 : w3.cell? ⟨W.heap.size, 1, none⟩ = some (.slice ad n cap) := by subst hhw3; go_simp
      have zw3_0 := zb cw3_0_0
      have cw3_1_0 : w3.cell? ⟨W.heap.size + 1, 0, none⟩ = some (.int .i64 kq) := by subst hhw3; go_simp
      have cw3_1_1 : w3.cell? ⟨W.heap.size + 1, 1, none⟩ = some (.int .i64 qlx) := by subst hhw3; go_simp
      have cw3_1_2 : w3.cell? ⟨W.heap.size + 1, 2, none⟩ = some (.int .i64 qly) := by subst hhw3; go_simp
      have cw3_1_3 : w3.cell? ⟨W.heap.size + 1, 3, none⟩ = some (.int .i64 qhx) := by subst hhw3; go_simp
      have cw3_1_4 : w3.cell? ⟨W.heap.size + 1, 4, none⟩ = some (.int .i64 qhy) := by subst hhw3; go_simp
      have cw3_1_5 : w3.cell? ⟨W.heap.size + 1, 5, none⟩ = some (.slice bd m bcap) := by subst hhw3; go_simp
      have zw3_1 := zb cw3_1_0
      have cw3_2_0 : w3.cell? ⟨w2.heap.size, 0, none⟩ = some (.iface 84 (.pointer (some ⟨B1, 0, none⟩))) := by subst hhw3; go_simp
      have cw3_2_1 : w3.cell? ⟨w2.heap.size, 1, none⟩ = some (.iface 84 (.pointer (some ⟨B2, 0, none⟩))) := by subst hhw3; go_simp
      have gw3 : Gr W w3 := Gr.trans (by have gg := gw2; have gs := gg.size; go_grown) hw3
      clear hhw3 hw3 gw2 zw2_0 cw2_0_0 cw2_0_1 zw2_1 cw2_1_0 cw2_1_1 cw2_1_2 cw2_1_3 cw2_1_4 cw2_1_5
      try simp only [Act.put, List.setIfInBounds_toArray, List.set_cons_zero, List.set_cons_succ]
      repeat (first | (refine Od.wpO_skip (by simp only [List.getElem?_toArray, List.getElem?_cons_succ, List.getElem?_cons_zero] <;> rfl) rfl ?_; simp only [Act.put, List.setIfInBounds_toArray, List.set_cons_zero, List.set_cons_succ]) | (refine Od.wpO_pure (by simp only [List.getElem?_toArray, List.getElem?_cons_succ, List.getElem?_cons_zero] <;> rfl) rfl ?_; apply Exists.intro; refine ⟨?_, ?_⟩; (· intro wx gx; obtain ⟨mx, rfl⟩ := spread_of_gr gx; clear gx; all_goals (apply Od.pAt_of_quiet; intro K hK; go_big_quiet_op; first | exact hK _ rfl | (apply Exists.intro; refine ⟨fun _ => ?_, ?_⟩; (· fail); exact hK _ rfl))); try simp only [Act.put, List.setIfInBounds_toArray, List.set_cons_zero, List.set_cons_succ]))
      refine Od.wpO_call (by simp only [List.getElem?_toArray, List.getElem?_cons_succ, List.getElem?_cons_zero] <;> rfl) rfl ?_
      intro QS hQS
      go_wp2_with fail
      go_at_call 39
      (with_reducible refine ((H4.out _ _ _ _ false gw3 cw3_2_0 cw3_2_1 (nf_f _) (nf_f _) (by simp))).mono ?_)
      rintro e w4 ⟨rfl, hw4⟩
      go_wp2_with fail
      apply Exists.intro
      refine ⟨?_, hw4, ?_⟩
      · simp only [Act.put, List.setIfInBounds_toArray, List.set_cons_zero, List.set_cons_succ]; rfl
      have cw4_0_0 := ci hw4 (W.heap.size) 0 k (by go_simp)
      have cw4_0_1 := cg hw4 (W.heap.size) 1 (.slice ad n cap) (by go_simp)
      have cw4_1_0 := ci hw4 (W.heap.size + 1) 0 kq (by go_simp)
      have cw4_1_1 := ci hw4 (W.heap.size + 1) 1 qlx (by go_simp)
      have cw4_1_2 := ci hw4 (W.heap.size + 1) 2 qly (by go_simp)
      have cw4_1_3 := ci hw4 (W.heap.size + 1) 3 qhx (by go_simp)
      have cw4_1_4 := ci hw4 (W.heap.size + 1) 4 qhy (by go_simp)
      have cw4_1_5 := cg hw4 (W.heap.size + 1) 5 (.slice bd m bcap) (by go_simp)
      have gw4 : Gr W w4 := Gr.trans (by have gg := gw3; have gs := gg.size; go_grown) hw4
      clear gw3 zw3_0 cw3_0_0 cw3_0_1 zw3_1 cw3_1_0 cw3_1_1 cw3_1_2 cw3_1_3 cw3_1_4 cw3_1_5 cw3_2_0 cw3_2_1
      clear hw4
      try simp only [Act.put, List.setIfInBounds_toArray, List.set_cons_zero, List.set_cons_succ]
      repeat (first | (refine Od.wpO_skip (by simp only [List.getElem?_toArray, List.getElem?_cons_succ, List.getElem?_cons_zero] <;> rfl) rfl ?_; simp only [Act.put, List.setIfInBounds_toArray, List.set_cons_zero, List.set_cons_succ]) | (refine Od.wpO_pure (by simp only [List.getElem?_toArray, List.getElem?_cons_succ, List.getElem?_cons_zero] <;> rfl) rfl ?_; apply Exists.intro; refine ⟨?_, ?_⟩; (· intro wx gx; obtain ⟨mx, rfl⟩ := spread_of_gr gx; clear gx; all_goals (apply Od.pAt_of_quiet; intro K hK; go_big_quiet_op; first | exact hK _ rfl | (apply Exists.intro; refine ⟨fun _ => ?_, ?_⟩; (· fail); exact hK _ rfl))); try simp only [Act.put, List.setIfInBounds_toArray, List.set_cons_zero, List.set_cons_succ]))
      refine Od.wpO_nil (hKQ _ _ ?_)
      clear hKQ KQ
      go_wp2_with fail
      go_ret
      exact ⟨rfl, gw4⟩
end
end Go.Proofs.YtfobmlgpjhghdaaGreatDoor
namespace Go.Proofs.YtfobmlgpjhghdaaGreatDoor
set_option linter.unusedVariables false
set_option linter.unusedSimpArgs false
open Go.ChangeShapes Go.WideShapes Go.ChangeAt Go.RowKit
theorem boxN_0 {lx ly hx hy : Int} : boxN lx ly hx hy = 0 ↔ boxB lx ly hx hy = true := by
  unfold boxN boxB
  cases nearB lx ly <;> cases nearB hx hy <;> cases decide (lx ≤ hx) <;> cases decide (ly ≤ hy) <;> simp
section
variable {k : Int} {v : Value} {lx ly hx hy px py : Int}
set_option maxHeartbeats 2000000 in
set_option maxRecDepth 100000 in
theorem c_FarB (W : World) (h : FrTo W k v lx ly hx hy) (hb : boxB lx ly hx hy = true) (hp : nearB px py = true) :
    Calls Tryz.prog 46 #[.agg #[.int .i64 k, v], .agg #[.int .i64 px, .int .i64 py]] W fun e w' => e = .returned (.agg #[.int .u64 0, .int .u64 (distZ lx ly hx hy px py), .int .u64 1]) ∧ Gr W w' := by
  have A1 := fun w => c_Dist lx ly hx hy px py w ⟨hb, hp⟩
  generalize distZ lx ly hx hy px py = z at A1 ⊢
  obtain ⟨hk, ⟨ad, n, cap, rfl⟩, A2⟩ := h
  have k4 : (k != 4) = true := by simp; omega
  have H1 := Lib.hid A1
  have H2 := Lib.hid A2
  clear A1 A2
  clear hk hb hp
  go_enter Tryz.func46, Tryz.ntmps46
  go_wp2_with fail
  generalize hhw0 : ((W.alloc (.cells #[.int .i64 k, .slice ad n cap] 24)).alloc (.cells #[.int .i64 px, .int .i64 py] 26)).alloc (.cells #[.int .u64 0, .int .u64 0, .int .u64 0] 42) = w0
  have cw0_0_0 : w0.cell? ⟨W.heap.size, 0, none⟩ = some (.int .i64 k) := by subst hhw0; go_simp
  have cw0_0_1 : w0.cell? ⟨W.heap.size, 1, none⟩ = some (.slice ad n cap) := by subst hhw0; go_simp
  have zw0_0 := zb cw0_0_0
  have cw0_1_0 : w0.cell? ⟨W.heap.size + 1, 0, none⟩ = some (.int .i64 px) := by subst hhw0; go_simp
  have cw0_1_1 : w0.cell? ⟨W.heap.size + 1, 1, none⟩ = some (.int .i64 py) := by subst hhw0; go_simp
  have zw0_1 := zb cw0_1_0
  have cw0_2_0 : w0.cell? ⟨W.heap.size + 1 + 1, 0, none⟩ = some (.int .u64 0) := by subst hhw0; go_simp
  have fw0_2_0 : w0.frozen? ⟨W.heap.size + 1 + 1, 0, none⟩ = false := by subst hhw0; go_simp
  have cw0_2_1 : w0.cell? ⟨W.heap.size + 1 + 1, 1, none⟩ = some (.int .u64 0) := by subst hhw0; go_simp
  have fw0_2_1 : w0.frozen? ⟨W.heap.size + 1 + 1, 1, none⟩ = false := by subst hhw0; go_simp
  have cw0_2_2 : w0.cell? ⟨W.heap.size + 1 + 1, 2, none⟩ = some (.int .u64 0) := by subst hhw0; go_simp
  have fw0_2_2 : w0.frozen? ⟨W.heap.size + 1 + 1, 2, none⟩ = false := by subst hhw0; go_simp
  have zw0_2 := zb cw0_2_0
  have gw0 : Gr W w0 := by subst hhw0; go_grown
  clear hhw0
  go_wp2_with fail
  refine Hd.wp_region_tail 4 (by kernel_rfl) (by kernel_rfl) ?_
  intro KQ hKQ
  repeat (first | (refine Hd.wpG_skip (by decide) rfl ?_; simp only [Act.put, List.setIfInBounds_toArray, List.set_cons_zero, List.set_cons_succ]) | (refine Hd.wpG_want (by decide) rfl ?_; apply Exists.intro; refine ⟨?_, ?_⟩; (· intro wx gx; (obtain ⟨mx, rfl⟩ := gx); all_goals (apply Hd.gAt_of_quiet; intro K hK; go_big_quiet_op; first | exact hK _ rfl | (apply Exists.intro; refine ⟨fun _ => ?_, ?_⟩; (· (first | (go_at_call 36; first | ((with_reducible refine ((H2.out _ (Gr.trans (Gr.trans gw0 (gr_spread _ _)) (gr_spread _ _)))).mono ?_); rintro e w' ⟨rfl, hg⟩; exact ⟨rfl, spread_gr hg⟩)) | (go_at_call 73; first | ((with_reducible refine ((H1.out _)).mono ?_); rintro e w' ⟨rfl, hg⟩; exact ⟨rfl, spread_gr hg⟩)))); exact hK _ rfl))); try simp only [Act.put, List.setIfInBounds_toArray, List.set_cons_zero, List.set_cons_succ]))
  refine Hd.wpG_nil (hKQ _ ?_)
  clear hKQ KQ
  intro w1 hhw1
  have hw1 := Hd.gr_of_spread hhw1
  have cw1_2_0 := cu hw1 (W.heap.size + 1 + 1) 0 0 (by go_simp)
  have fw1_2_0 := fq hw1 (W.heap.size + 1 + 1) 0 (.int .u64 0) (by go_simp) (by go_simp)
  have cw1_2_1 := cu hw1 (W.heap.size + 1 + 1) 1 0 (by go_simp)
  have fw1_2_1 := fq hw1 (W.heap.size + 1 + 1) 1 (.int .u64 0) (by go_simp) (by go_simp)
  have cw1_2_2 := cu hw1 (W.heap.size + 1 + 1) 2 0 (by go_simp)
  have fw1_2_2 := fq hw1 (W.heap.size + 1 + 1) 2 (.int .u64 0) (by go_simp) (by go_simp)
  have gw1 : Gr W w1 := Gr.trans (by have gg := gw0; have gs := gg.size; go_grown) hw1
  clear hw1 hhw1 gw0 zw0_0 cw0_0_0 cw0_0_1 zw0_1 cw0_1_0 cw0_1_1 zw0_2 cw0_2_0 fw0_2_0 cw0_2_1 fw0_2_1 cw0_2_2 fw0_2_2
  go_wp2_with fail
  refine bodyPost_ret (v := .agg #[.int .u64 0, .int .u64 z, .int .u64 1]) (by simp [results, Tryz.results46, go_sem, *]) rfl ⟨rfl, by go_grown⟩
end
def BL (W : World) (k : Int) (v : Value) (lx ly hx hy : Int) : Prop := FrTo W k v lx ly hx hy ∧ ∃ n X Y, Pts W v n X Y ∧ objC k n X Y = boxN lx ly hx hy
theorem bl_gr {a b : World} {k : Int} {v : Value} {lx ly hx hy : Int} (h : BL a k v lx ly hx hy) (g : Gr a b) : BL b k v lx ly hx hy := by
  obtain ⟨h1, n, X, Y, h2, h3⟩ := h
  exact ⟨frTo_gr h1 g, n, X, Y, pts_gr h2 g, h3⟩
end Go.Proofs.YtfobmlgpjhghdaaGreatDoor
namespace Go.Proofs.YtfobmlgpjhghdaaGreatDoor
set_option linter.unusedVariables false
set_option linter.unusedSimpArgs false
open Go.ChangeShapes Go.WideShapes Go.ChangeAt Go.RowKit
set_option maxHeartbeats 4000000 in
set_option maxRecDepth 100000 in
theorem c_rings_no {n m : Nat} {X Y P Q : Nat → Int} {v u : Value} (W : World) (h : Pts W v n X Y) (hu : Pts W u m P Q) (hn : n ≤ 64) (hm9 : m ≤ 64) (hm : arM n X Y (mnN P m) (mnN Q m) (mxN P m) (mxN Q m) = false) :
    Calls Tryz.prog 53 #[v, u] W fun e w' => e = .returned (.bool false) ∧ Gr W w' := by
  have A1 := fun w' (g : Gr W w') => c_AroundN w' (pts_gr h g) (by omega)
  have A2 := fun w' (g : Gr W w') => c_AroundN w' (pts_gr hu g) (by omega)
  have A3 := fun w' => c_Meets (mnN X n) (mnN Y n) (mxN X n) (mxN Y n) (mnN P m) (mnN Q m) (mxN P m) (mxN Q m) w'
  unfold arM at hm
  rw [hm] at A3
  generalize mnN X n = m1 at A1 A3
  generalize mnN Y n = m2 at A1 A3
  generalize mxN X n = m3 at A1 A3
  generalize mxN Y n = m4 at A1 A3
  generalize mnN P m = k1 at A2 A3
  generalize mnN Q m = k2 at A2 A3
  generalize mxN P m = k3 at A2 A3
  generalize mxN Q m = k4 at A2 A3
  obtain ⟨ad, cap, B, off, rfl, -⟩ := h
  obtain ⟨bd, bcap, C, oc, rfl, -⟩ := hu
  have H1 := Lib.hid A1
  have H2 := Lib.hid A2
  have H3 := Lib.hid A3
  clear A1 A2 A3
  clear hm
  go_enter Tryz.func53, Tryz.ntmps53
  go_wp2_with fail
  go_at_call 62
  refine ((H2.out _ (by go_grown))).mono ?_
  rintro e w1 ⟨rfl, hw1⟩
  have cw1_1_0 := cg hw1 (W.heap.size + 1) 0 (.bool false) (by go_simp)
  have fw1_1_0 := fq hw1 (W.heap.size + 1) 0 (.bool false) (by go_simp) (by go_simp)
  have zw1_1 := zb cw1_1_0
  have gw1 : Gr W w1 := Gr.trans (by go_grown) hw1
  clear hw1
  go_wp2_with fail
  go_wp2_with fail
  refine wp_region_spread (by kernel_rfl) (by kernel_rfl) ?_
  try simp only [List.append]
  repeat (first | go_big_quiet_skip | (go_big_quiet_want; go_big_quiet_op; (first | go_big_quiet_on | (apply Exists.intro; refine ⟨fun _ => ?_, ?_⟩; (· (first | (go_at_call 62; first | ((with_reducible refine ((H1.out _ (Gr.trans (by have gg := gw1; have gs := gg.size; go_grown) (gr_spread _ _)))).mono ?_); rintro e w' ⟨rfl, hg⟩; exact ⟨rfl, spread_gr hg⟩)) | (go_at_call 87; first | ((with_reducible refine ((H3.out _)).mono ?_); rintro e w' ⟨rfl, hg⟩; exact ⟨rfl, spread_gr hg⟩)))); go_big_quiet_on))))
  refine wpQuiet_nil ?_
  intro w2 hhw2
  have hw2 := Hd.gr_of_spread hhw2
  have cw2_1_0 := cg hw2 (W.heap.size + 1) 0 (.bool false) (by go_simp)
  have fw2_1_0 := fq hw2 (W.heap.size + 1) 0 (.bool false) (by go_simp) (by go_simp)
  have gw2 : Gr W w2 := Gr.trans (by have gg := gw1; have gs := gg.size; go_grown) hw2
  clear hw2 hhw2 gw1 zw1_1 cw1_1_0 fw1_1_0
  go_wp2_with fail
  refine bodyPost_ret (v := .bool false) (by simp [results, Tryz.results53, go_sem, *]) rfl ⟨rfl, by go_grown⟩
def rgV (n : Nat) (X Y : Nat → Int) (m : Nat) (P Q : Nat → Int) : Bool :=
  arM n X Y (mnN P m) (mnN Q m) (mxN P m) (mxN Q m) && (rmW n X Y m P Q (mnN P m) (mnN Q m) (mxN P m) (mxN Q m) (List.range n) || ((nearB (P 0) (Q 0) && Rg.hasN n X Y (P 0) (Q 0)) || (nearB (X 0) (Y 0) && Rg.hasN m P Q (X 0) (Y 0))))
theorem c_ringsA {n m : Nat} {X Y P Q : Nat → Int} {v u : Value} (W : World) (h : Pts W v n X Y) (hu : Pts W u m P Q) (h0 : (Rg.ringC n X Y).1 = 0) (h9 : (Rg.ringC m P Q).1 = 0) : Calls Tryz.prog 53 #[v, u] W fun e w' => e = .returned (.bool (rgV n X Y m P Q)) ∧ Gr W w' := by
  unfold rgV
  cases hm : arM n X Y (mnN P m) (mnN Q m) (mxN P m) (mxN Q m)
  · exact c_rings_no W h hu (by have := (Rg.ringC_ok h0).1; omega) (by have := (Rg.ringC_ok h9).1; omega) hm
  · rw [Bool.true_and]; exact c_rings W h hu h0 h9 rfl rfl rfl rfl hm
section
variable {n : Nat} {X Y : Nat → Int} {v : Value}
set_option maxHeartbeats 2000000 in
set_option maxRecDepth 100000 in
theorem c_frame_4 (W : World) (h : Pts W v n X Y) (hn : n ≤ 1000000) : Calls Tryz.prog 36 #[.agg #[.int .i64 4, v]] W fun e w' => e = .returned (.agg #[.int .i64 (mnN X n), .int .i64 (mnN Y n), .int .i64 (mxN X n), .int .i64 (mxN Y n)]) ∧ Gr W w' := by
  have A1 := fun w (g : Gr W w) => c_AroundN w (pts_gr h g) hn
  generalize mnN X n = m1 at A1 ⊢
  generalize mnN Y n = m2 at A1 ⊢
  generalize mxN X n = m3 at A1 ⊢
  generalize mxN Y n = m4 at A1 ⊢
  obtain ⟨ad, cap, B, off, rfl, -⟩ := h
  have H1 := Lib.hid A1
  clear A1
  go_enter Tryz.func36, Tryz.ntmps36
  go_wp2_with fail
  go_at_call 62
  refine ((H1.out _ (by go_grown))).mono ?_
  rintro e w1 ⟨rfl, hw1⟩
  have cw1_1_0 := ci hw1 (W.heap.size + 1) 0 0 (by go_simp)
  have fw1_1_0 := fq hw1 (W.heap.size + 1) 0 (.int .i64 0) (by go_simp) (by go_simp)
  have cw1_1_1 := ci hw1 (W.heap.size + 1) 1 0 (by go_simp)
  have fw1_1_1 := fq hw1 (W.heap.size + 1) 1 (.int .i64 0) (by go_simp) (by go_simp)
  have cw1_1_2 := ci hw1 (W.heap.size + 1) 2 0 (by go_simp)
  have fw1_1_2 := fq hw1 (W.heap.size + 1) 2 (.int .i64 0) (by go_simp) (by go_simp)
  have cw1_1_3 := ci hw1 (W.heap.size + 1) 3 0 (by go_simp)
  have fw1_1_3 := fq hw1 (W.heap.size + 1) 3 (.int .i64 0) (by go_simp) (by go_simp)
  have gw1 : Gr W w1 := Gr.trans (by go_grown) hw1
  clear hw1
  go_wp2_with fail
  refine bodyPost_ret (v := .agg #[.int .i64 m1, .int .i64 m2, .int .i64 m3, .int .i64 m4]) (by simp [results, Tryz.results36, go_sem, *]) rfl ⟨rfl, by go_grown⟩
set_option maxRecDepth 100000 in
theorem c_meetsBoxA (lx ly hx hy : Int) (W : World) (h : Pts W v n X Y) (h0 : (Rg.ringC n X Y).1 = 0) :
    Calls Tryz.prog 68 #[.agg #[.int .i64 4, v], .agg #[.int .i64 lx, .int .i64 ly, .int .i64 hx, .int .i64 hy]] W fun e w' => e = .returned (.bool (rmV n X Y lx ly hx hy)) ∧ Gr W w' := by
  have A1 := fun w (g : Gr W w) => c_rmbA lx ly hx hy w (pts_gr h g) h0
  generalize rmV n X Y lx ly hx hy = z at A1 ⊢
  obtain ⟨ad, cap, B, off, rfl, _⟩ := h
  have H1 := Lib.hid A1
  clear A1
  go_enter Tryz.func68, Tryz.ntmps68
  go_wp2_with fail
  go_at_call 104
  refine ((H1.out _ (by go_grown))).mono ?_
  rintro e w1 ⟨rfl, hw1⟩
  have gw1 : Gr W w1 := Gr.trans (by go_grown) hw1
  clear hw1
  go_wp2_with fail
  go_ret
  exact ⟨rfl, gw1⟩
set_option maxRecDepth 100000 in
theorem c_meetsRingA {m : Nat} {P Q : Nat → Int} {u : Value} (W : World) (h : Pts W v n X Y) (h0 : (Rg.ringC n X Y).1 = 0) (hu : Pts W u m P Q) (h9 : (Rg.ringC m P Q).1 = 0) :
    Calls Tryz.prog 69 #[.agg #[.int .i64 4, v], u] W fun e w' => e = .returned (.bool (rgV n X Y m P Q)) ∧ Gr W w' := by
  have A1 := fun w (g : Gr W w) => c_ringsA w (pts_gr h g) (pts_gr hu g) h0 h9
  generalize rgV n X Y m P Q = z at A1 ⊢
  obtain ⟨ad, cap, B, off, rfl, _⟩ := h
  obtain ⟨bd, bcap, C, oc, rfl, _⟩ := hu
  have H1 := Lib.hid A1
  clear A1
  go_enter Tryz.func69, Tryz.ntmps69
  go_wp2_with fail
  go_at_call 53
  refine ((H1.out _ (by go_grown))).mono ?_
  rintro e w1 ⟨rfl, hw1⟩
  have gw1 : Gr W w1 := Gr.trans (by go_grown) hw1
  clear hw1
  go_wp2_with fail
  go_ret
  exact ⟨rfl, gw1⟩
def mpV (n : Nat) (X Y : Nat → Int) (kq qlx qly qhx qhy : Int) (m : Nat) (P Q : Nat → Int) : Bool :=
  if kq = 2 then inV (mnN X n) (mnN Y n) (mxN X n) (mxN Y n) qlx qly qhx qhy else if kq = 3 then rmV n X Y qlx qly qlx qly else if kq = 4 then rgV n X Y m P Q else rmV n X Y qlx qly qhx qhy
set_option maxHeartbeats 4000000 in
set_option maxRecDepth 100000 in
theorem c_MatchesP {m : Nat} {P Q : Nat → Int} {u : Value} (kq qlx qly qhx qhy : Int) (W : World) (h : Pts W v n X Y) (h9 : (Rg.ringC n X Y).1 = 0) (hu : Pts W u m P Q) (h0 : kq = 4 → (Rg.ringC m P Q).1 = 0) :
    Calls Tryz.prog 41 #[.agg #[.int .i64 4, v], qryV kq qlx qly qhx qhy u] W fun e w' => e = .returned (.bool (mpV n X Y kq qlx qly qhx qhy m P Q)) ∧ Gr W w' := by
  unfold mpV
  by_cases k2 : kq = 2
  · rw [if_pos k2]
    subst k2
    have A1 := fun w => c_Inside (mnN X n) (mnN Y n) (mxN X n) (mxN Y n) qlx qly qhx qhy w
    have A2 := fun w (g : Gr W w) => c_frame_4 w (pts_gr h g) (by have := (Rg.ringC_ok h9).1; omega)
    unfold inV
    generalize (boxB (mnN X n) (mnN Y n) (mxN X n) (mxN Y n) && boxB qlx qly qhx qhy && inB qlx qly qhx qhy (mnN X n) (mnN Y n) && inB qlx qly qhx qhy (mxN X n) (mxN Y n)) = z at A1 ⊢
    generalize mnN X n = m1 at A1 A2
    generalize mnN Y n = m2 at A1 A2
    generalize mxN X n = m3 at A1 A2
    generalize mxN Y n = m4 at A1 A2
    obtain ⟨ad, cap, _, _, rfl, -⟩ := h
    obtain ⟨bd, bcap, _, _, rfl, -⟩ := hu
    have H1 := Lib.hid A1
    have H2 := Lib.hid A2
    clear A1 A2
    clear h0 h9
    go_enter Tryz.func41, Tryz.ntmps41
    go_wp2_with fail
    go_wp2_with fail
    refine wp_region_spread (by kernel_rfl) (by kernel_rfl) ?_
    try simp only [List.append]
    repeat (first | go_big_quiet_skip | (go_big_quiet_want; go_big_quiet_op; (first | go_big_quiet_on | (apply Exists.intro; refine ⟨fun _ => ?_, ?_⟩; (· (first | (go_at_call 36; first | ((with_reducible refine ((H2.out _ (Gr.trans (by go_grown) (gr_spread _ _)))).mono ?_); rintro e w' ⟨rfl, hg⟩; exact ⟨rfl, spread_gr hg⟩)) | (go_at_call 67; first | ((with_reducible refine ((H1.out _)).mono ?_); rintro e w' ⟨rfl, hg⟩; exact ⟨rfl, spread_gr hg⟩)))); go_big_quiet_on))))
    refine wpQuiet_nil ?_
    intro w1 hhw1
    have hw1 := Hd.gr_of_spread hhw1
    have gw1 : Gr W w1 := Gr.trans (by go_grown) hw1
    clear hw1 hhw1
    go_wp2_with fail
    go_ret
    exact ⟨rfl, by have gg := gw1; have gs := gg.size; go_grown⟩
  rw [if_neg k2]
  have b2 : (kq == 2) = false := by simp; omega
  by_cases k3 : kq = 3
  · rw [if_pos k3]
    subst k3
    have A1 := fun w (g : Gr W w) => c_meetsBoxA qlx qly qlx qly w (pts_gr h g) h9
    generalize rmV n X Y qlx qly qlx qly = z at A1 ⊢
    obtain ⟨ad, cap, _, _, rfl, -⟩ := h
    obtain ⟨bd, bcap, _, _, rfl, -⟩ := hu
    have H1 := Lib.hid A1
    clear A1
    clear h0 h9
    go_enter Tryz.func41, Tryz.ntmps41
    go_wp2_with fail
    go_at_call 68
    refine ((H1.out _ (by go_grown))).mono ?_
    rintro e w1 ⟨rfl, hw1⟩
    have gw1 : Gr W w1 := Gr.trans (by go_grown) hw1
    clear hw1
    go_wp2_with fail
    go_ret
    exact ⟨rfl, gw1⟩
  rw [if_neg k3]
  have b3 : (kq == 3) = false := by simp; omega
  by_cases k4 : kq = 4
  · rw [if_pos k4]
    have A1 := fun w (g : Gr W w) => c_meetsRingA w (pts_gr h g) h9 (pts_gr hu g) (h0 k4)
    subst k4
    generalize rgV n X Y m P Q = z at A1 ⊢
    obtain ⟨ad, cap, _, _, rfl, -⟩ := h
    obtain ⟨bd, bcap, _, _, rfl, -⟩ := hu
    have H1 := Lib.hid A1
    clear A1
    clear h0 h9
    go_enter Tryz.func41, Tryz.ntmps41
    go_wp2_with fail
    go_at_call 69
    refine ((H1.out _ (by go_grown))).mono ?_
    rintro e w1 ⟨rfl, hw1⟩
    have gw1 : Gr W w1 := Gr.trans (by go_grown) hw1
    clear hw1
    go_wp2_with fail
    go_ret
    exact ⟨rfl, gw1⟩
  rw [if_neg k4]
  have b4 : (kq == 4) = false := by simp; omega
  have A1 := fun w (g : Gr W w) => c_meetsBoxA qlx qly qhx qhy w (pts_gr h g) h9
  generalize rmV n X Y qlx qly qhx qhy = z at A1 ⊢
  obtain ⟨ad, cap, _, _, rfl, -⟩ := h
  obtain ⟨bd, bcap, _, _, rfl, -⟩ := hu
  have H1 := Lib.hid A1
  clear A1
  clear h0 h9
  go_enter Tryz.func41, Tryz.ntmps41
  go_wp2_with fail
  go_at_call 68
  refine ((H1.out _ (by go_grown))).mono ?_
  rintro e w1 ⟨rfl, hw1⟩
  have gw1 : Gr W w1 := Gr.trans (by go_grown) hw1
  clear hw1
  go_wp2_with fail
  go_ret
  exact ⟨rfl, gw1⟩
end
end Go.Proofs.YtfobmlgpjhghdaaGreatDoor
namespace Go.Proofs.YtfobmlgpjhghdaaGreatDoor
set_option linter.unusedVariables false
open Go.ChangeShapes Go.WideShapes Go.ChangeAt Go.RowKit
def cmpD (va da vb db : Nat) : Int := if da = 0 then (if db = 0 then 0 else 1) else (if db = 0 then -1 else cmpN (va * db) (vb * da))
set_option maxHeartbeats 1000000 in
set_option maxRecDepth 100000 in
theorem c_rtCompare (ah al ad bh bl bd : Nat) (h1 : Wd ah) (h2 : Wd al) (h3 : Wd ad) (h4 : Wd bh) (h5 : Wd bl) (h6 : Wd bd) (W : World) :
    Calls Tryz.prog 79 #[.agg #[.int .u64 ah, .int .u64 al, .int .u64 ad], .agg #[.int .u64 bh, .int .u64 bl, .int .u64 bd]] W fun e w' => e = .returned (.int .i64 (cmpD (val ah al) ad (val bh bl) bd)) ∧ Gr W w' := by
  obtain ⟨k, hk⟩ : ∃ k, k = cmpD (val ah al) ad (val bh bl) bd := ⟨_, rfl⟩
  obtain ⟨s1, e1⟩ : ∃ s, s = decide (ad ≠ 0) := ⟨_, rfl⟩
  obtain ⟨s2, e2⟩ : ∃ s, s = decide (bd ≠ 0) := ⟨_, rfl⟩
  have A1 := c_Sound ah al ad
  have A2 := c_Sound bh bl bd
  have A3 := c_CompareProducts ah al bd bh bl ad h1 h2 h6 h4 h5 h3
  rw [← hk]
  rw [← e1] at A1
  rw [← e2] at A2
  unfold cmpD at hk
  have H1 := Lib.hid A1
  have H2 := Lib.hid A2
  clear A1 A2
  by_cases d1 : ad = 0
  · obtain rfl : s1 = false := by rw [e1]; simp [d1]
    rw [if_pos d1] at hk
    by_cases d2 : bd = 0
    · obtain rfl : s2 = false := by rw [e2]; simp [d2]
      rw [if_pos d2] at hk
      subst hk
      clear e1 e2 A3 d1 d2
      go_enter Tryz.func79, Tryz.ntmps79
      go_wp2_with fail
      go_at_call 78
      refine ((H1.out _)).mono ?_
      rintro e w1 ⟨rfl, hw1⟩
      have cw1_0_0 := cu hw1 (W.heap.size) 0 ah (by go_simp)
      have cw1_0_1 := cu hw1 (W.heap.size) 1 al (by go_simp)
      have cw1_0_2 := cu hw1 (W.heap.size) 2 ad (by go_simp)
      have cw1_1_0 := cu hw1 (W.heap.size + 1) 0 bh (by go_simp)
      have cw1_1_1 := cu hw1 (W.heap.size + 1) 1 bl (by go_simp)
      have cw1_1_2 := cu hw1 (W.heap.size + 1) 2 bd (by go_simp)
      have gw1 : Gr W w1 := Gr.trans (by go_grown) hw1
      clear hw1
      go_wp2_with fail
      go_at_call 78
      refine ((H1.out _)).mono ?_
      rintro e w2 ⟨rfl, hw2⟩
      have cw2_0_0 := cu hw2 (W.heap.size) 0 ah (by go_simp)
      have cw2_0_1 := cu hw2 (W.heap.size) 1 al (by go_simp)
      have cw2_0_2 := cu hw2 (W.heap.size) 2 ad (by go_simp)
      have cw2_1_0 := cu hw2 (W.heap.size + 1) 0 bh (by go_simp)
      have cw2_1_1 := cu hw2 (W.heap.size + 1) 1 bl (by go_simp)
      have cw2_1_2 := cu hw2 (W.heap.size + 1) 2 bd (by go_simp)
      have gw2 : Gr W w2 := Gr.trans (by have gg := gw1; have gs := gg.size; go_grown) hw2
      clear hw2 gw1 cw1_0_0 cw1_0_1 cw1_0_2 cw1_1_0 cw1_1_1 cw1_1_2
      go_wp2_with fail
      go_at_call 78
      refine ((H2.out _)).mono ?_
      rintro e w3 ⟨rfl, hw3⟩
      have gw3 : Gr W w3 := Gr.trans (by have gg := gw2; have gs := gg.size; go_grown) hw3
      clear hw3 gw2 cw2_0_0 cw2_0_1 cw2_0_2 cw2_1_0 cw2_1_1 cw2_1_2
      go_wp2_with fail
      go_ret
      exact ⟨rfl, by go_grown⟩
    · obtain rfl : s2 = true := by rw [e2]; simp [d2]
      rw [if_neg d2] at hk
      subst hk
      clear e1 e2 A3 d1 d2
      go_enter Tryz.func79, Tryz.ntmps79
      go_wp2_with fail
      go_at_call 78
      refine ((H1.out _)).mono ?_
      rintro e w1 ⟨rfl, hw1⟩
      have cw1_0_0 := cu hw1 (W.heap.size) 0 ah (by go_simp)
      have cw1_0_1 := cu hw1 (W.heap.size) 1 al (by go_simp)
      have cw1_0_2 := cu hw1 (W.heap.size) 2 ad (by go_simp)
      have cw1_1_0 := cu hw1 (W.heap.size + 1) 0 bh (by go_simp)
      have cw1_1_1 := cu hw1 (W.heap.size + 1) 1 bl (by go_simp)
      have cw1_1_2 := cu hw1 (W.heap.size + 1) 2 bd (by go_simp)
      have gw1 : Gr W w1 := Gr.trans (by go_grown) hw1
      clear hw1
      go_wp2_with fail
      go_at_call 78
      refine ((H1.out _)).mono ?_
      rintro e w2 ⟨rfl, hw2⟩
      have cw2_0_0 := cu hw2 (W.heap.size) 0 ah (by go_simp)
      have cw2_0_1 := cu hw2 (W.heap.size) 1 al (by go_simp)
      have cw2_0_2 := cu hw2 (W.heap.size) 2 ad (by go_simp)
      have cw2_1_0 := cu hw2 (W.heap.size + 1) 0 bh (by go_simp)
      have cw2_1_1 := cu hw2 (W.heap.size + 1) 1 bl (by go_simp)
      have cw2_1_2 := cu hw2 (W.heap.size + 1) 2 bd (by go_simp)
      have gw2 : Gr W w2 := Gr.trans (by have gg := gw1; have gs := gg.size; go_grown) hw2
      clear hw2 gw1 cw1_0_0 cw1_0_1 cw1_0_2 cw1_1_0 cw1_1_1 cw1_1_2
      go_wp2_with fail
      go_at_call 78
      refine ((H2.out _)).mono ?_
      rintro e w3 ⟨rfl, hw3⟩
      have gw3 : Gr W w3 := Gr.trans (by have gg := gw2; have gs := gg.size; go_grown) hw3
      clear hw3 gw2 cw2_0_0 cw2_0_1 cw2_0_2 cw2_1_0 cw2_1_1 cw2_1_2
      go_wp2_with fail
      go_ret
      exact ⟨rfl, by go_grown⟩
  · obtain rfl : s1 = true := by rw [e1]; simp [d1]
    rw [if_neg d1] at hk
    by_cases d2 : bd = 0
    · obtain rfl : s2 = false := by rw [e2]; simp [d2]
      rw [if_pos d2] at hk
      subst hk
      clear e1 e2 A3 d1 d2
      go_enter Tryz.func79, Tryz.ntmps79
      go_wp2_with fail
      go_at_call 78
      refine ((H1.out _)).mono ?_
      rintro e w1 ⟨rfl, hw1⟩
      have cw1_0_0 := cu hw1 (W.heap.size) 0 ah (by go_simp)
      have cw1_0_1 := cu hw1 (W.heap.size) 1 al (by go_simp)
      have cw1_0_2 := cu hw1 (W.heap.size) 2 ad (by go_simp)
      have cw1_1_0 := cu hw1 (W.heap.size + 1) 0 bh (by go_simp)
      have cw1_1_1 := cu hw1 (W.heap.size + 1) 1 bl (by go_simp)
      have cw1_1_2 := cu hw1 (W.heap.size + 1) 2 bd (by go_simp)
      have gw1 : Gr W w1 := Gr.trans (by go_grown) hw1
      clear hw1
      go_wp2_with fail
      go_at_call 78
      refine ((H2.out _)).mono ?_
      rintro e w2 ⟨rfl, hw2⟩
      have cw2_0_0 := cu hw2 (W.heap.size) 0 ah (by go_simp)
      have cw2_0_1 := cu hw2 (W.heap.size) 1 al (by go_simp)
      have cw2_0_2 := cu hw2 (W.heap.size) 2 ad (by go_simp)
      have cw2_1_0 := cu hw2 (W.heap.size + 1) 0 bh (by go_simp)
      have cw2_1_1 := cu hw2 (W.heap.size + 1) 1 bl (by go_simp)
      have cw2_1_2 := cu hw2 (W.heap.size + 1) 2 bd (by go_simp)
      have gw2 : Gr W w2 := Gr.trans (by have gg := gw1; have gs := gg.size; go_grown) hw2
      clear hw2 gw1 cw1_0_0 cw1_0_1 cw1_0_2 cw1_1_0 cw1_1_1 cw1_1_2
      go_wp2_with fail
      go_at_call 78
      refine ((H1.out _)).mono ?_
      rintro e w3 ⟨rfl, hw3⟩
      have gw3 : Gr W w3 := Gr.trans (by have gg := gw2; have gs := gg.size; go_grown) hw3
      clear hw3 gw2 cw2_0_0 cw2_0_1 cw2_0_2 cw2_1_0 cw2_1_1 cw2_1_2
      go_wp2_with fail
      go_ret
      exact ⟨rfl, by go_grown⟩
    · obtain rfl : s2 = true := by rw [e2]; simp [d2]
      rw [if_neg d2] at hk
      rw [← hk] at A3
      have H3 := Lib.hid A3
      clear e1 e2 A3 d1 d2 hk
      go_enter Tryz.func79, Tryz.ntmps79
      go_wp2_with fail
      go_at_call 78
      refine ((H1.out _)).mono ?_
      rintro e w1 ⟨rfl, hw1⟩
      have cw1_0_0 := cu hw1 (W.heap.size) 0 ah (by go_simp)
      have cw1_0_1 := cu hw1 (W.heap.size) 1 al (by go_simp)
      have cw1_0_2 := cu hw1 (W.heap.size) 2 ad (by go_simp)
      have cw1_1_0 := cu hw1 (W.heap.size + 1) 0 bh (by go_simp)
      have cw1_1_1 := cu hw1 (W.heap.size + 1) 1 bl (by go_simp)
      have cw1_1_2 := cu hw1 (W.heap.size + 1) 2 bd (by go_simp)
      have gw1 : Gr W w1 := Gr.trans (by go_grown) hw1
      clear hw1
      go_wp2_with fail
      go_at_call 78
      refine ((H2.out _)).mono ?_
      rintro e w2 ⟨rfl, hw2⟩
      have cw2_0_0 := cu hw2 (W.heap.size) 0 ah (by go_simp)
      have cw2_0_1 := cu hw2 (W.heap.size) 1 al (by go_simp)
      have cw2_0_2 := cu hw2 (W.heap.size) 2 ad (by go_simp)
      have cw2_1_0 := cu hw2 (W.heap.size + 1) 0 bh (by go_simp)
      have cw2_1_1 := cu hw2 (W.heap.size + 1) 1 bl (by go_simp)
      have cw2_1_2 := cu hw2 (W.heap.size + 1) 2 bd (by go_simp)
      have gw2 : Gr W w2 := Gr.trans (by have gg := gw1; have gs := gg.size; go_grown) hw2
      clear hw2 gw1 cw1_0_0 cw1_0_1 cw1_0_2 cw1_1_0 cw1_1_1 cw1_1_2
      go_wp2_with fail
      go_wp2_with fail
      refine Hd.wp_region_tail 9 (by kernel_rfl) (by kernel_rfl) ?_
      intro KQ hKQ
      repeat (first | (refine Hd.wpG_skip (by decide) rfl ?_; simp only [Act.put, List.setIfInBounds_toArray, List.set_cons_zero, List.set_cons_succ]) | (refine Hd.wpG_want (by decide) rfl ?_; apply Exists.intro; refine ⟨?_, ?_⟩; (· intro wx gx; (obtain ⟨mx, rfl⟩ := gx); all_goals (apply Hd.gAt_of_quiet; intro K hK; go_big_quiet_op; first | exact hK _ rfl | (apply Exists.intro; refine ⟨fun _ => ?_, ?_⟩; (· (first | (go_at_call 121; first | ((with_reducible refine ((c_numerator _ _ _ _)).mono ?_); rintro e w' ⟨rfl, hg⟩; exact ⟨rfl, spread_gr hg⟩)) | (go_at_call 120; first | ((with_reducible refine ((H3.out _)).mono ?_); rintro e w' ⟨rfl, hg⟩; exact ⟨rfl, spread_gr hg⟩)))); exact hK _ rfl))); try simp only [Act.put, List.setIfInBounds_toArray, List.set_cons_zero, List.set_cons_succ]))
      refine Hd.wpG_nil (hKQ _ ?_)
      clear hKQ KQ
      intro w3 hhw3
      have hw3 := Hd.gr_of_spread hhw3
      have gw3 : Gr W w3 := Gr.trans (by have gg := gw2; have gs := gg.size; go_grown) hw3
      clear hw3 hhw3 gw2 cw2_0_0 cw2_0_1 cw2_0_2 cw2_1_0 cw2_1_1 cw2_1_2
      go_wp2_with fail
      go_ret
      exact ⟨rfl, by go_grown⟩
end Go.Proofs.YtfobmlgpjhghdaaGreatDoor
namespace Go.Proofs.YtfobmlgpjhghdaaGreatDoor
set_option linter.unusedVariables false
set_option linter.unusedSimpArgs false
open Go.ChangeShapes Go.WideShapes Go.ChangeAt Go.RowKit Go.Shelf
attribute [local go_sem] Oper.semAt_some
def dV (s : Nat × Nat) : Value := .agg #[.int .u64 (s.1 / 18446744073709551616 : Nat), .int .u64 (s.1 % 18446744073709551616 : Nat), .int .u64 s.2]
def Bx3 (W : World) (B : Nat) (s : Nat × Nat) : Prop := W.heap[B]? = some (.cells #[.int .u64 (s.1 / 18446744073709551616 : Nat), .int .u64 (s.1 % 18446744073709551616 : Nat), .int .u64 s.2] 42 (0, 0))
theorem Bx3.lt {W : World} {B : Nat} {s : Nat × Nat} (h : Bx3 W B s) : B < W.heap.size := (Array.getElem?_eq_some_iff.1 h).1
theorem Bx3.cells {W : World} {B : Nat} {s : Nat × Nat} (h : Bx3 W B s) : W.cell? ⟨B, 0, none⟩ = some (.int .u64 (s.1 / 18446744073709551616 : Nat)) ∧ W.cell? ⟨B, 1, none⟩ = some (.int .u64 (s.1 % 18446744073709551616 : Nat)) ∧ W.cell? ⟨B, 2, none⟩ = some (.int .u64 s.2) := by
  refine ⟨?_, ?_, ?_⟩ <;> simp [World.cell?, show W.heap[B]? = _ from h]
theorem Bx3.frozen {W : World} {B : Nat} {s : Nat × Nat} (h : Bx3 W B s) : W.frozen? ⟨B, 0, none⟩ = false ∧ W.frozen? ⟨B, 1, none⟩ = false ∧ W.frozen? ⟨B, 2, none⟩ = false :=
  by
  refine ⟨?_, ?_, ?_⟩ <;> simp [World.frozen?, show W.heap[B]? = _ from h]
theorem Bx3.kept {W W' : World} {row : Option Nat} {B : Nat} {s : Nat × Nat} (h : Bx3 W B s) (hg : W.grownBy W' row) (hne : some B ≠ row) : Bx3 W' B s := (hg.block B h.lt hne).trans h
theorem Bx3.alloc {W : World} {B : Nat} {s : Nat × Nat} (h : Bx3 W B s) (o : Obj) : Bx3 (W.alloc o) B s := h.kept (World.grownBy_alloc W o none) (by simp)
theorem Bx3.new (W : World) (s : Nat × Nat) : Bx3 (W.alloc (.cells #[.int .u64 (s.1 / 18446744073709551616 : Nat), .int .u64 (s.1 % 18446744073709551616 : Nat), .int .u64 s.2] 42)) W.heap.size s := World.alloc_heap_new W _
theorem bx3_notcells {W W' : World} {row : Option Nat} {B : Nat} {s : Nat × Nat} (h : Bx3 W B s) (hg : W.grownBy W' row) (hr : ∀ r, row = some r → ∃ o : Obj, W.heap[r]? = some o ∧ o.isCells = false) : Bx3 W' B s := by
  refine h.kept hg fun e => ?_
  obtain ⟨o, h1, h2⟩ := hr B e.symm
  rw [show W.heap[B]? = _ from h] at h1
  cases h1
  cases h2
theorem bx3_own {β : Type} (B : Nat) (f : β → Nat × Nat) : Own (fun (x : β) W => Bx3 W B (f x)) := fun s X Y row hs hg hrow => bx3_notcells hs hg hrow
theorem hp_set {w : World} {b i : Nat} {zs : Array Value} {T : TypeId} {v : Value} (h : w.heap[b]? = some (.cells zs T (0, 0))) : (w.setCell ⟨b, i, none⟩ v).heap[b]? = some (.cells (zs.setIfInBounds i v) T (0, 0)) := by
  simp only [World.setCell, Array.getElem?_modify, h, Option.map]
  simp
abbrev set3 (W : World) (B : Nat) (s : Nat × Nat) : World := ((W.setCell ⟨B, 0, none⟩ (.int .u64 (s.1 / 18446744073709551616 : Nat))).setCell ⟨B, 1, none⟩ (.int .u64 (s.1 % 18446744073709551616 : Nat))).setCell ⟨B, 2, none⟩ (.int .u64 s.2)
theorem Bx3.set {W : World} {B : Nat} {s : Nat × Nat} (h : Bx3 W B s) (s' : Nat × Nat) : Bx3 (set3 W B s') B s' := by
  have h1 := hp_set (i := 0) (v := .int .u64 (s'.1 / 18446744073709551616 : Nat)) h
  have h2 := hp_set (i := 1) (v := .int .u64 (s'.1 % 18446744073709551616 : Nat)) h1
  have h3 := hp_set (i := 2) (v := .int .u64 s'.2) h2
  exact h3
theorem set3_heap (W : World) (B : Nat) (s : Nat × Nat) (C : Nat) (h : C ≠ B) : (set3 W B s).heap[C]? = W.heap[C]? :=
  ((Below.heap_setCell _ _ _ _ (by simpa using h)).trans (Below.heap_setCell _ _ _ _ (by simpa using h))).trans (Below.heap_setCell _ _ _ _ (by simpa using h))
theorem set3_size (W : World) (B : Nat) (s : Nat × Nat) : (set3 W B s).heap.size = W.heap.size := by simp
theorem set3_keeps (W : World) (B : Nat) (s : Nat × Nat) : KeepsOthers W (set3 W B s) := ((KeepsOthers.setCell _ _ _).trans (KeepsOthers.setCell _ _ _)).trans (KeepsOthers.setCell _ _ _)
theorem below_set3 {k : Nat} {w W : World} (h : Below k w W) {B : Nat} (hB : k ≤ B) (s : Nat × Nat) : Below k w (set3 W B s) := ((h.setCell (p := ⟨B, 0, none⟩) hB _).setCell (p := ⟨B, 1, none⟩) hB _).setCell (p := ⟨B, 2, none⟩) hB _
def faS (s d : Nat × Nat) : Nat × Nat := if s.2 = 0 ∨ cmpD d.1 d.2 s.1 s.2 < 0 then d else s
def sdG (ax ay bx by' px py : Int) : Nat × Nat := if (nearB ax ay && nearB bx by' && nearB px py) = true then (sdN ax ay bx by' px py, sdD ax ay bx by' px py) else (0, 0)
def faD (n : Nat) (X Y : Nat → Int) (px py : Int) (k : Nat) : Nat × Nat := sdG (X k) (Y k) (X (Rg.nx1 n k)) (Y (Rg.nx1 n k)) px py
def faW (n : Nat) (X Y : Nat → Int) (px py : Int) (pre : List Nat) : Nat × Nat := pre.foldl (fun s k => faS s (faD n X Y px py k)) (0, 0)
theorem faW_snoc (n : Nat) (X Y : Nat → Int) (px py : Int) (pre : List Nat) (k : Nat) : faW n X Y px py (pre ++ [k]) = faS (faW n X Y px py pre) (faD n X Y px py k) := by
  unfold faW; rw [List.foldl_append]; rfl
theorem sd_bnd {ax ay bx by' px py : Int} (h : (nearB ax ay && nearB bx by' && nearB px py) = true) : sdN ax ay bx by' px py < 340282366920938463463374607431768211456 ∧ sdD ax ay bx by' px py < 18446744073709551616 ∧ 0 < sdD ax ay bx by' px py := by
  have hn : (nearB ax ay = true ∧ nearB bx by' = true) ∧ nearB px py = true := by simpa using h
  have b0 := sqZ_bound hn.1.1 hn.1.2
  have b1 := sqZ_bound hn.1.1 hn.2
  have b2 := sqZ_bound hn.1.2 hn.2
  obtain ⟨-, cb⟩ := cr_bound h
  have cc : (cr ax ay bx by' px py).natAbs * (cr ax ay bx by' px py).natAbs ≤ 9223372019674906632 * 9223372019674906632 := Nat.mul_le_mul (by omega) (by omega)
  unfold sdN sdD
  by_cases h1 : alZ ax ay bx by' px py ≤ 0
  · rw [if_pos h1, if_pos h1]; omega
  · rw [if_neg h1, if_neg h1]
    by_cases h2 : sqZ ax ay bx by' ≤ alZ ax ay bx by' px py
    · rw [if_pos h2, if_pos h2]; omega
    · rw [if_neg h2, if_neg h2]
      have hd : 0 < (sqZ ax ay bx by').toNat := by omega
      have e1 : lowN ((cr ax ay bx by' px py).natAbs * (cr ax ay bx by' px py).natAbs) (sqZ ax ay bx by').toNat ≤ (cr ax ay bx by' px py).natAbs * (cr ax ay bx by' px py).natAbs := Nat.div_le_self _ _
      have e2 : lowD ((cr ax ay bx by' px py).natAbs * (cr ax ay bx by' px py).natAbs) (sqZ ax ay bx by').toNat ≤ (sqZ ax ay bx by').toNat := Nat.div_le_self _ _
      have e3 := (mid_parts ((cr ax ay bx by' px py).natAbs * (cr ax ay bx by' px py).natAbs) _ hd).2.2.2
      omega
def Fit3 (s : Nat × Nat) : Prop := s.1 < 340282366920938463463374607431768211456 ∧ s.2 < 18446744073709551616
theorem faS_fit {s d : Nat × Nat} (h : Fit3 s) (k : Fit3 d) : Fit3 (faS s d) := by unfold faS; split <;> assumption
theorem sdG_fit (ax ay bx by' px py : Int) : Fit3 (sdG ax ay bx by' px py) := by
  unfold sdG
  split
  · rename_i h; exact ⟨(sd_bnd h).1, (sd_bnd h).2.1⟩
  · exact ⟨by decide, by decide⟩
theorem c_sdG (ax ay bx by' px py : Int) (W : World) : Calls Tryz.prog 77 #[.agg #[.int .i64 ax, .int .i64 ay], .agg #[.int .i64 bx, .int .i64 by'], .agg #[.int .i64 px, .int .i64 py]] W fun e w' => e = .returned (dV (sdG ax ay bx by' px py)) ∧ Gr W w' := by
  unfold sdG
  by_cases h : (nearB ax ay && nearB bx by' && nearB px py) = true
  · rw [if_pos h]; exact c_gDist ax ay bx by' px py h W
  · rw [if_neg h]; exact c_gDist_no ax ay bx by' px py (by simpa using h) W
theorem c_cmpP (s d : Nat × Nat) (h : Fit3 s) (k : Fit3 d) (w : World) : Calls Tryz.prog 79 #[dV d, dV s] w fun e w' => e = .returned (.int .i64 (cmpD d.1 d.2 s.1 s.2)) ∧ Gr w w' := by
  have hs := val_split s.1 h.1
  have hd := val_split d.1 k.1
  have C := c_rtCompare (d.1 / 18446744073709551616) (d.1 % 18446744073709551616) d.2 (s.1 / 18446744073709551616) (s.1 % 18446744073709551616) s.2 hd.2.1 hd.2.2 k.2 hs.2.1 hs.2.2 h.2 w
  rw [hs.1, hd.1] at C
  exact C
set_option maxHeartbeats 1000000 in
set_option maxRecDepth 100000 in
theorem c_Of0 (w : World) : Calls Tryz.prog 75 #[.int .i64 0] w fun e w' => e = .returned (.agg #[.int .u64 0, .int .u64 0, .int .u64 1]) ∧ Gr w w' := by
  have A1 := c_Square 0 (by omega)
  have H1 := Lib.hid A1
  clear A1
  go_enter Tryz.func75, Tryz.ntmps75
  go_wp2_with fail
  go_at_call 113
  refine ((H1.out _)).mono ?_
  rintro e w1 ⟨rfl, hw1⟩
  have cw1_0_0 := cu hw1 (w.heap.size) 0 0 (by go_simp)
  have fw1_0_0 := fq hw1 (w.heap.size) 0 (.int .u64 0) (by go_simp) (by go_simp)
  have cw1_0_1 := cu hw1 (w.heap.size) 1 0 (by go_simp)
  have fw1_0_1 := fq hw1 (w.heap.size) 1 (.int .u64 0) (by go_simp) (by go_simp)
  have cw1_0_2 := cu hw1 (w.heap.size) 2 0 (by go_simp)
  have fw1_0_2 := fq hw1 (w.heap.size) 2 (.int .u64 0) (by go_simp) (by go_simp)
  have gw1 : Gr w w1 := Gr.trans (by go_grown) hw1
  clear hw1
  go_wp2_with fail
  go_at_call 112
  refine ((c_over _ _ _ _)).mono ?_
  rintro e w2 ⟨rfl, hw2⟩
  have cw2_0_0 := cu hw2 (w.heap.size) 0 0 (by go_simp)
  have fw2_0_0 := fq hw2 (w.heap.size) 0 (.int .u64 0) (by go_simp) (by go_simp)
  have cw2_0_1 := cu hw2 (w.heap.size) 1 0 (by go_simp)
  have fw2_0_1 := fq hw2 (w.heap.size) 1 (.int .u64 0) (by go_simp) (by go_simp)
  have cw2_0_2 := cu hw2 (w.heap.size) 2 0 (by go_simp)
  have fw2_0_2 := fq hw2 (w.heap.size) 2 (.int .u64 0) (by go_simp) (by go_simp)
  have gw2 : Gr w w2 := Gr.trans (by have gg := gw1; have gs := gg.size; go_grown) hw2
  clear hw2 gw1 cw1_0_0 fw1_0_0 cw1_0_1 fw1_0_1 cw1_0_2 fw1_0_2
  go_wp2_with fail
  refine bodyPost_ret (v := .agg #[.int .u64 0, .int .u64 0, .int .u64 1]) (by simp [results, Tryz.results75, go_sem, *]) rfl ⟨rfl, by go_grown⟩
theorem far_results {fn : Func} (h : fn.results = #[.cell 4 42]) {tmps : Array Value} {w : World} {b : Nat} {x y z : Value} (hp : tmps.getD 4 undef = .pointer (some ⟨b, 0, none⟩)) (c0 : w.cell? ⟨b, 0, none⟩ = some x) (c1 : w.cell? ⟨b, 1, none⟩ = some y) (c2 : w.cell? ⟨b, 2, none⟩ = some z) :
    (results fn tmps).run Tryz.prog w = .ok (.agg #[x, y, z]) w := by
  have hp' : tmps[4]?.getD undef = .pointer (some ⟨b, 0, none⟩) := by simpa using hp
  simp [results, h, hp', go_sem, *]
section
variable {n : Nat} {X Y : Nat → Int} {v : Value} {px py : Int}
set_option maxHeartbeats 2000000 in
set_option maxRecDepth 100000 in
theorem c_Far_in (W : World) (h : Pts W v n X Y) (h0 : (Rg.ringC n X Y).1 = 0) (hp : nearB px py = true) (hh : Rg.hasN n X Y px py = true) :
    Calls Tryz.prog 46 #[.agg #[.int .i64 4, v], .agg #[.int .i64 px, .int .i64 py]] W fun e w' => e = .returned (.agg #[.int .u64 0, .int .u64 0, .int .u64 1]) ∧ Gr W w' := by
  have A1 := fun w' (g : Gr W w') => c_hs W h h0 px py w' g
  rw [hp, hh, Bool.and_self] at A1
  obtain ⟨ad, cap, _, _, rfl, -⟩ := h
  have H1 := Lib.hid A1
  clear A1
  clear h0 hp hh
  go_enter Tryz.func46, Tryz.ntmps46
  go_wp2_with fail
  go_at_call 74
  refine ((H1.out _ (by go_grown))).mono ?_
  rintro e w1 ⟨rfl, hw1⟩
  have cw1_2_0 := cu hw1 (W.heap.size + 1 + 1) 0 0 (by go_simp)
  have fw1_2_0 := fq hw1 (W.heap.size + 1 + 1) 0 (.int .u64 0) (by go_simp) (by go_simp)
  have cw1_2_1 := cu hw1 (W.heap.size + 1 + 1) 1 0 (by go_simp)
  have fw1_2_1 := fq hw1 (W.heap.size + 1 + 1) 1 (.int .u64 0) (by go_simp) (by go_simp)
  have cw1_2_2 := cu hw1 (W.heap.size + 1 + 1) 2 0 (by go_simp)
  have fw1_2_2 := fq hw1 (W.heap.size + 1 + 1) 2 (.int .u64 0) (by go_simp) (by go_simp)
  have gw1 : Gr W w1 := Gr.trans (by go_grown) hw1
  clear hw1
  go_wp2_with fail
  go_at_call 75
  refine ((c_Of0 _)).mono ?_
  rintro e w2 ⟨rfl, hw2⟩
  have cw2_2_0 := cu hw2 (W.heap.size + 1 + 1) 0 0 (by go_simp)
  have fw2_2_0 := fq hw2 (W.heap.size + 1 + 1) 0 (.int .u64 0) (by go_simp) (by go_simp)
  have cw2_2_1 := cu hw2 (W.heap.size + 1 + 1) 1 0 (by go_simp)
  have fw2_2_1 := fq hw2 (W.heap.size + 1 + 1) 1 (.int .u64 0) (by go_simp) (by go_simp)
  have cw2_2_2 := cu hw2 (W.heap.size + 1 + 1) 2 0 (by go_simp)
  have fw2_2_2 := fq hw2 (W.heap.size + 1 + 1) 2 (.int .u64 0) (by go_simp) (by go_simp)
  have gw2 : Gr W w2 := Gr.trans (by have gg := gw1; have gs := gg.size; go_grown) hw2
  clear hw2 gw1 cw1_2_0 fw1_2_0 cw1_2_1 fw1_2_1 cw1_2_2 fw1_2_2
  go_wp2_with fail
  refine bodyPost_ret (v := .agg #[.int .u64 0, .int .u64 0, .int .u64 1]) (by simp [results, Tryz.results46, go_sem, *]) rfl ⟨rfl, by go_grown⟩
set_option maxHeartbeats 8000000 in
set_option maxRecDepth 100000 in
theorem c_Far_out (w : World) (h : Pts w v n X Y) (h0 : (Rg.ringC n X Y).1 = 0) (hp : nearB px py = true) (hh : Rg.hasN n X Y px py = false) :
    Calls Tryz.prog 46 #[.agg #[.int .i64 4, v], .agg #[.int .i64 px, .int .i64 py]] w fun e w' => e = .returned (dV (faW n X Y px py (List.range n))) ∧ Gr w w' := by
  have A1 := fun w' (g : Gr w w') => c_hs w h h0 px py w' g
  rw [hp, hh, Bool.and_false] at A1
  obtain ⟨r1, r2, -, -⟩ := Rg.ringC_ok h0
  have h1 : 1 ≤ n := by omega
  have hn : n ≤ 1000 := by omega
  have n0 : 0 < n := by omega
  obtain ⟨ad, cap, B, off, rfl, q1, q2, q3, q4⟩ := h
  obtain rfl := q3 (by omega)
  have hB : B < w.heap.size := World.block_lt_of_cell? _ _ (q4 0 (by omega)).1
  have HC := Lib.hid q4
  have hmx : Tryz.prog.follows .mixedOrders = true := by kernel_rfl
  have H1 := Lib.hid A1
  clear A1
  clear q3 q4 h0 hp hh r1 r2
  refine (callsIn_wide (n := 10)).1 ?_
  refine callsIn_of_wp_marks Tryz.func46 rfl trivial ?_ rfl
  simp only [Tryz.ntmps46, List.size_toArray, List.length_cons, List.length_nil, Nat.reduceAdd, Nat.reduceSub, Array.replicate_succ, Array.replicate_zero, List.push_toArray, List.append_toArray, List.nil_append, List.cons_append]
  gi_wp2_with (first
    | (refine ⟨trivial, ?_⟩; gi_at_call 74; refine (callsIn_wide.2 (H1.out _ (by go_grown))).mono ?_; rintro e w1 ⟨rfl, g1⟩; (have g1s := g1.size; simp only [World.size_alloc] at g1s); (have hne1 : w.heap.size ≠ w1.heap.size := by omega); (have hne2 : w1.heap.size ≠ w.heap.size := by omega); have z1 : w1.cell? ⟨w.heap.size, 1, none⟩ = some (.slice (some ⟨B, off, none⟩) n cap)   := cell_gr g1 (by go_simp); have z2 : (w1.alloc (.cells #[.int .u64 0, .int .u64 0, .int .u64 0] 42)).cell? ⟨w.heap.size, 1, none⟩ = some (.slice (some ⟨B, off, none⟩) n cap) := cell_gr (by go_grown) z1)
    | (refine ⟨trivial, ?_⟩; gi_at_call 76; refine (callsIn_wide.2 (c_Edges _ _ _ _)).mono ?_; rintro e w' ⟨rfl, rfl⟩))
  clear z2
  have bP : Box2 w1 (w.heap.size + 1) px py := by
    have h := (Box2.new (w.alloc (.cells #[.int .i64 4, .slice (some ⟨B, off, none⟩) n cap] 24)) px py).alloc (.cells #[.int .u64 0, .int .u64 0, .int .u64 0] 42)
    rw [World.size_alloc] at h
    exact h.kept (gr_grown g1) (by simp)
  have bR : Bx3 w1 (w.heap.size + 1 + 1) (0, 0) := by
    have h := Bx3.new ((w.alloc (.cells #[.int .i64 4, .slice (some ⟨B, off, none⟩) n cap] 24)).alloc (.cells #[.int .i64 px, .int .i64 py] 26)) (0, 0)
    simp only [World.size_alloc] at h
    exact Bx3.kept h (gr_grown g1) (by simp)
  have bO : Bx3 ((w1.alloc (.cells #[.int .u64 0, .int .u64 0, .int .u64 0] 42)).alloc (.cells #[.slice (some ⟨B, off, none⟩) n cap] 22)) w1.heap.size (0, 0) := (Bx3.new w1 (0, 0)).alloc (.cells #[.slice (some ⟨B, off, none⟩) n cap] 22)
  have bE := Boxed.new (w1.alloc (.cells #[.int .u64 0, .int .u64 0, .int .u64 0] 42)) 22 (.slice (some ⟨B, off, none⟩) n cap)
  have bP0 := (bP.alloc (.cells #[.int .u64 0, .int .u64 0, .int .u64 0] 42)).alloc (.cells #[.slice (some ⟨B, off, none⟩) n cap] 22)
  have bR0 := (bR.alloc (.cells #[.int .u64 0, .int .u64 0, .int .u64 0] 42)).alloc (.cells #[.slice (some ⟨B, off, none⟩) n cap] 22)
  have gw1 : Gr w w1 := Gr.trans (by go_grown) g1
  have hG0 : Gr w ((w1.alloc (.cells #[.int .u64 0, .int .u64 0, .int .u64 0] 42)).alloc (.cells #[.slice (some ⟨B, off, none⟩) n cap] 22)) := Gr.trans gw1 (by go_grown)
  have hsz : ((w1.alloc (.cells #[.int .u64 0, .int .u64 0, .int .u64 0] 42)).alloc (.cells #[.slice (some ⟨B, off, none⟩) n cap] 22)).heap.size = w1.heap.size + 2 := by simp
  simp only [World.size_alloc] at bE
  obtain ⟨W0, hW0⟩ : ∃ W0, (w1.alloc (.cells #[.int .u64 0, .int .u64 0, .int .u64 0] 42)).alloc (.cells #[.slice (some ⟨B, off, none⟩) n cap] 22) = W0 := ⟨_, rfl⟩
  rw [hW0] at bO bE bP0 bR0 hG0 hsz ⊢
  obtain ⟨q, hq⟩ : ∃ q, w1.heap.size = q := ⟨_, rfl⟩
  rw [hq] at bO bE hsz g1s ⊢
  clear hW0 bP bR gw1 g1 H1 hq z1 hne1 hne2
  refine wpIn_rangeFunc_ownH rfl (by decide) (gf := 114) (lb := #[.pointer (some ⟨q + 1, 0, none⟩)]) rfl trivial (enters_of Tryz.func114 (by kernel_rfl) rfl)
    (edges_stops (10 - 1) (by decide) (q + 1) B off n cap X Y hn h1 W0 bE.cell q1 q2 (fun k hk => ⟨cell_gr hG0 (HC.out k hk).1, cell_gr hG0 (HC.out k hk).2⟩)) KK.trans (kk_put (by omega) (by omega)) (Below.refl _ _) (fun _ => rfl)
    (fun pre W => (Bx3 W q (faW n X Y px py pre) ∧ Bx3 W (w.heap.size + 1 + 1) (0, 0)) ∧ ((Box2 W (w.heap.size + 1) px py ∧ Fit3 (faW n X Y px py pre)) ∧ (q + 2 ≤ W.heap.size ∧ Below w.heap.size w W)))
    (fun c pre W => False)
    (OwnFrom.and (OwnFrom.and (Own.from (bx3_own _ _) _) (Own.from (bx3_own _ _) _)) (OwnFrom.and (OwnFrom.and (Own.from (box2_own _ _ _) _) (ownFrom_pure _ _)) (OwnFrom.and (fun _ P Q row hs hg hr => Nat.le_trans hs hg.size) (ownFrom_below (Nat.le_refl _) (by omega)))))
    (fun _ _ _ _ _ hs _ _ => hs)
    ⟨⟨bO, bR0⟩, ⟨bP0, by unfold faW Fit3; simp⟩, by omega, hG0⟩
    (fun x a' W => ∃ Ba Bb, q + 2 ≤ Ba ∧ q + 2 ≤ Bb ∧ Box2 W Ba (X x) (Y x) ∧ Box2 W Bb (X (Rg.nx1 n x)) (Y (Rg.nx1 n x)) ∧ a' = { tmps := #[.agg #[.int .i64 4, .slice (some ⟨B, off, none⟩) n cap], .agg #[.int .i64 px, .int .i64 py], .pointer (some ⟨w.heap.size, 0, none⟩), .pointer (some ⟨w.heap.size + 1, 0, none⟩), .pointer (some ⟨w.heap.size + 1 + 1, 0, none⟩), .pointer (some ⟨q, 0, none⟩), .pointer (some ⟨Ba, 0, none⟩), .pointer (some ⟨Bb, 0, none⟩), undef, .pointer (some ⟨w.heap.size, 0, none⟩), .int .i64 4, .bool false, undef, undef, undef, undef, .pointer (some ⟨w.heap.size, 1, none⟩), .slice (some ⟨B, off, none⟩) n cap, .agg #[.int .i64 px, .int .i64 py], .bool false, undef, .agg #[.int .u64 0, .int .u64 0, .int .u64 0], .pointer (some ⟨w.heap.size, 1, none⟩), .slice (some ⟨B, off, none⟩) n cap, .func (.func 114) #[] #[.pointer (some ⟨q + 1, 0, none⟩)], .agg #[.int .i64 (X x), .int .i64 (Y x)], .agg #[.int .i64 (X (Rg.nx1 n x)), .int .i64 (Y (Rg.nx1 n x))], undef, undef, undef, undef, undef, undef, undef, undef, undef, undef, undef, undef, undef, undef, undef], defers := [] })
    (fun x a' _ P Q row hs hg hr => by obtain ⟨Ba, Bb, i1, i2, i3, i4, i5⟩ := hs; exact ⟨Ba, Bb, i1, i2, box2_notcells i3 hg (fun r e => (hr r e).2), box2_notcells i4 hg (fun r e => (hr r e).2), i5⟩)
    ?assign ?body ?done ?stop
  case assign =>
    rintro l pre x W K ⟨⟨bO1, bR1⟩, ⟨bP1, hon⟩, hs3, hB1⟩ hK
    gi_wp2
    have gA : Gr W ((W.alloc (.cells #[.int .i64 (X x), .int .i64 (Y x)] 26)).alloc (.cells #[.int .i64 (X (Rg.nx1 n x)), .int .i64 (Y (Rg.nx1 n x))] 26)) := by go_grown
    exact hK _ _ ((gr_keeps gA).from _) ((KK.refl _ _ _).gr gA (by omega) (by omega)) ⟨⟨(bO1.alloc _).alloc _, (bR1.alloc _).alloc _⟩, ⟨(bP1.alloc _).alloc _, hon⟩, Nat.le_trans hs3 gA.size, Gr.trans hB1 gA⟩
      ⟨W.heap.size, W.heap.size + 1, hs3, by omega, (Box2.new W (X x) (Y x)).alloc _, (by have := Box2.new (W.alloc (.cells #[.int .i64 (X x), .int .i64 (Y x)] 26)) (X (Rg.nx1 n x)) (Y (Rg.nx1 n x)); rwa [World.size_alloc] at this), rfl⟩
  case body =>
    rintro l pre x a' W hl ⟨r, hr⟩ ⟨⟨bO1, bR1⟩, ⟨bP1, hon⟩, hs3, hB1⟩ ⟨Ba, Bb, hBa, hBb, bA, bB, rfl⟩ hlt
    obtain ⟨a0, a1⟩ := bA.cells
    obtain ⟨b0, b1⟩ := bB.cells
    obtain ⟨p0, p1⟩ := bP1.cells
    obtain ⟨s0, s1, s2⟩ := bO1.cells
    obtain ⟨f0, f1, f2⟩ := bO1.frozen
    have hsn := faW_snoc n X Y px py pre x
    unfold faD at hsn
    have hfd := sdG_fit (X x) (Y x) (X (Rg.nx1 n x)) (Y (Rg.nx1 n x)) px py
    have CD := c_sdG (X x) (Y x) (X (Rg.nx1 n x)) (Y (Rg.nx1 n x)) px py
    generalize sdG (X x) (Y x) (X (Rg.nx1 n x)) (Y (Rg.nx1 n x)) px py = d at CD hsn hfd
    generalize faW n X Y px py pre = s at bO1 hon s0 s1 s2 hsn
    generalize X x = xa at a0 CD
    generalize Y x = ya at a1 CD
    generalize X (Rg.nx1 n x) = xb at b0 CD
    generalize Y (Rg.nx1 n x) = yb at b1 CD
    have CC := c_cmpP s d hon hfd
    have CS := fun w => c_Sound (s.1 / 18446744073709551616 : Nat) (s.1 % 18446744073709551616 : Nat) s.2 w
    have hst : faS s d = if s.2 = 0 ∨ cmpD d.1 d.2 s.1 s.2 < 0 then d else s := rfl
    rw [hst] at hsn
    generalize cmpD d.1 d.2 s.1 s.2 = cz at CC hsn
    have HB := Lib.hid (And.intro bO1 (And.intro bR1 bP1))
    have HF := Lib.hid (And.intro hon hfd)
    have fin : ∀ w3, Gr W w3 → ∀ s', s' = faW n X Y px py (pre ++ [x]) → Fit3 s' → ∀ w4, w4 = set3 w3 q s' → (KeepsFrom W0.heap.size W w4 ∧ KK B (q + 1) W w4 ∧ ((Bx3 w4 q (faW n X Y px py (pre ++ [x])) ∧ Bx3 w4 (w.heap.size + 1 + 1) (0, 0)) ∧ ((Box2 w4 (w.heap.size + 1) px py ∧ Fit3 (faW n X Y px py (pre ++ [x]))) ∧ (q + 2 ≤ w4.heap.size ∧ Below w.heap.size w w4)))) := fun w3 g s' e f w4 e4 => by
      subst e4
      rw [← e]
      have gs := g.size
      obtain ⟨bO1, bR1, bP1⟩ := HB.out
      refine ⟨((gr_keeps g).trans (set3_keeps _ _ _)).from _, ((KK.refl B (q + 1) W).gr g (by omega) (by omega)).trans ⟨by rw [set3_size]; exact Nat.le_refl _, set3_heap _ _ _ _ (by omega), set3_heap _ _ _ _ (by omega)⟩, ⟨⟨(bO1.kept (gr_grown g) (by simp)).set s', ?_⟩, ⟨?_, f⟩, by rw [set3_size]; omega, below_set3 (Gr.trans hB1 g) (by omega) _⟩⟩
      · exact (set3_heap _ _ _ _ (by omega)).trans (bR1.kept (gr_grown g) (by simp))
      · exact (set3_heap _ _ _ _ (by omega)).trans (bP1.kept (gr_grown g) (by simp))
    have fin2 : ∀ w3, Gr W w3 → s = faW n X Y px py (pre ++ [x]) → (KeepsFrom W0.heap.size W w3 ∧ KK B (q + 1) W w3 ∧ ((Bx3 w3 q (faW n X Y px py (pre ++ [x])) ∧ Bx3 w3 (w.heap.size + 1 + 1) (0, 0)) ∧ ((Box2 w3 (w.heap.size + 1) px py ∧ Fit3 (faW n X Y px py (pre ++ [x]))) ∧ (q + 2 ≤ w3.heap.size ∧ Below w.heap.size w w3)))) := fun w3 g e => by
      rw [← e]
      have gs := g.size
      obtain ⟨bO1, bR1, bP1⟩ := HB.out
      exact ⟨(gr_keeps g).from _, (KK.refl B (q + 1) W).gr g (by omega) (by omega), ⟨⟨bO1.kept (gr_grown g) (by simp), bR1.kept (gr_grown g) (by simp)⟩, ⟨bP1.kept (gr_grown g) (by simp), HF.out.1⟩, by omega, Gr.trans hB1 g⟩⟩
    obtain ⟨⟨sn, sd⟩, rfl⟩ : ∃ t, t = s := ⟨_, rfl⟩
    obtain ⟨⟨dn, dd⟩, rfl⟩ : ∃ t, t = d := ⟨_, rfl⟩
    have hFIN := Lib.hid fin
    have hFIN2 := Lib.hid fin2
    have HSN := Lib.hid hsn
    clear fin fin2 hst bO1 bR1 bP1 bA bB hfd hon
    unfold dV at CD CC
    dsimp only at CD CC CS s0 s1 s2
    obtain ⟨sh, esh⟩ : ∃ z : Nat, sn / 18446744073709551616 = z := ⟨_, rfl⟩
    obtain ⟨sl, esl⟩ : ∃ z : Nat, sn % 18446744073709551616 = z := ⟨_, rfl⟩
    obtain ⟨dh, edh⟩ : ∃ z : Nat, dn / 18446744073709551616 = z := ⟨_, rfl⟩
    obtain ⟨dl, edl⟩ : ∃ z : Nat, dn % 18446744073709551616 = z := ⟨_, rfl⟩
    rw [esh] at s0 CS CC
    rw [esl] at s1 CS CC
    rw [edh, edl] at CD CC
    have HCD := Lib.hid CD
    have HCS := Lib.hid CS
    have HCC := Lib.hid CC
    clear CD CS CC hsn
    by_cases hz : sd = 0
    · subst hz
      have esn : (decide ((0 : Nat) ≠ 0)) = false := by decide
      rw [esn] at HCS
      gi_wp2_with (first
        | (refine ⟨trivial, ?_⟩; gi_at_call 77; (refine (CallsIn.inRound l (callsIn_wide.2 (HCD.out _))).mono ?_); rintro e w2 ⟨rfl, g2⟩; (have gA : Gr w2 (w2.alloc (.cells #[.int .u64 dh, .int .u64 dl, .int .u64 dd] 42)) := by go_grown); (have t0 := cell_gr (Gr.trans g2 gA) s0); (have t1 := cell_gr (Gr.trans g2 gA) s1); (have t2 := cell_gr (Gr.trans g2 gA) s2); clear gA)
        | (refine ⟨trivial, ?_⟩; gi_at_call 78; (refine (CallsIn.inRound l (callsIn_wide.2 (HCS.out _))).mono ?_); rintro e w3 ⟨rfl, x3⟩; (have g3 : Gr W w3 := Gr.trans g2 (Gr.trans (by go_grown) x3)); (have d0 : w3.cell? ⟨w2.heap.size, 0, none⟩ = some (.int .u64 dh) := cell_gr x3 (by go_simp)); (have d1 : w3.cell? ⟨w2.heap.size, 1, none⟩ = some (.int .u64 dl) := cell_gr x3 (by go_simp)); (have d2 : w3.cell? ⟨w2.heap.size, 2, none⟩ = some (.int .u64 dd) := cell_gr x3 (by go_simp)); (have t0 := cell_gr g3 s0); (have t1 := cell_gr g3 s1); (have t2 := cell_gr g3 s2); (have k0 := frozen_gr g3 s0 f0); (have k1 := frozen_gr g3 s1 f1); (have k2 := frozen_gr g3 s2 f2))
        | (refine ⟨trivial, ?_⟩))
      have hsn : faW n X Y px py (pre ++ [x]) = (dn, dd) := by rw [HSN.out]; simp
      refine hFIN.out w3 g3 (dn, dd) hsn.symm HF.out.2 _ ?_
      subst edh edl; rfl
    · have esn : (decide (sd ≠ 0)) = true := decide_eq_true hz
      rw [esn] at HCS
      by_cases hc : cz < 0
      · gi_wp2_with (first
          | (refine ⟨trivial, ?_⟩; gi_at_call 77; (refine (CallsIn.inRound l (callsIn_wide.2 (HCD.out _))).mono ?_); rintro e w2 ⟨rfl, g2⟩; (have gA : Gr w2 (w2.alloc (.cells #[.int .u64 dh, .int .u64 dl, .int .u64 dd] 42)) := by go_grown); (have t0 := cell_gr (Gr.trans g2 gA) s0); (have t1 := cell_gr (Gr.trans g2 gA) s1); (have t2 := cell_gr (Gr.trans g2 gA) s2); clear gA)
          | (refine ⟨trivial, ?_⟩; gi_at_call 78; (refine (CallsIn.inRound l (callsIn_wide.2 (HCS.out _))).mono ?_); rintro e w3 ⟨rfl, x3⟩; (have g3 : Gr W w3 := Gr.trans g2 (Gr.trans (by go_grown) x3)); (have d0 : w3.cell? ⟨w2.heap.size, 0, none⟩ = some (.int .u64 dh) := cell_gr x3 (by go_simp)); (have d1 : w3.cell? ⟨w2.heap.size, 1, none⟩ = some (.int .u64 dl) := cell_gr x3 (by go_simp)); (have d2 : w3.cell? ⟨w2.heap.size, 2, none⟩ = some (.int .u64 dd) := cell_gr x3 (by go_simp)); (have t0 := cell_gr g3 s0); (have t1 := cell_gr g3 s1); (have t2 := cell_gr g3 s2); (have k0 := frozen_gr g3 s0 f0); (have k1 := frozen_gr g3 s1 f1); (have k2 := frozen_gr g3 s2 f2))
          | (refine ⟨trivial, ?_⟩; gi_at_call 79; (refine (CallsIn.inRound l (callsIn_wide.2 (HCC.out _))).mono ?_); rintro e w4 ⟨rfl, x4⟩; (have g4 : Gr W w4 := Gr.trans g3 (Gr.trans (by go_grown) x4)); (have u0 := cell_gr x4 d0); (have u1 := cell_gr x4 d1); (have u2 := cell_gr x4 d2); (have v0 := cell_gr g4 s0); (have v1 := cell_gr g4 s1); (have v2 := cell_gr g4 s2); (have m0 := frozen_gr g4 s0 f0); (have m1 := frozen_gr g4 s1 f1); (have m2 := frozen_gr g4 s2 f2))
          | (refine ⟨trivial, ?_⟩))
        have hsn : faW n X Y px py (pre ++ [x]) = (dn, dd) := by rw [HSN.out]; exact if_pos (Or.inr hc)
        refine hFIN.out w4 g4 (dn, dd) hsn.symm HF.out.2 _ ?_
        subst edh edl; rfl
      · gi_wp2_with (first
          | (refine ⟨trivial, ?_⟩; gi_at_call 77; (refine (CallsIn.inRound l (callsIn_wide.2 (HCD.out _))).mono ?_); rintro e w2 ⟨rfl, g2⟩; (have gA : Gr w2 (w2.alloc (.cells #[.int .u64 dh, .int .u64 dl, .int .u64 dd] 42)) := by go_grown); (have t0 := cell_gr (Gr.trans g2 gA) s0); (have t1 := cell_gr (Gr.trans g2 gA) s1); (have t2 := cell_gr (Gr.trans g2 gA) s2); clear gA)
          | (refine ⟨trivial, ?_⟩; gi_at_call 78; (refine (CallsIn.inRound l (callsIn_wide.2 (HCS.out _))).mono ?_); rintro e w3 ⟨rfl, x3⟩; (have g3 : Gr W w3 := Gr.trans g2 (Gr.trans (by go_grown) x3)); (have d0 : w3.cell? ⟨w2.heap.size, 0, none⟩ = some (.int .u64 dh) := cell_gr x3 (by go_simp)); (have d1 : w3.cell? ⟨w2.heap.size, 1, none⟩ = some (.int .u64 dl) := cell_gr x3 (by go_simp)); (have d2 : w3.cell? ⟨w2.heap.size, 2, none⟩ = some (.int .u64 dd) := cell_gr x3 (by go_simp)); (have t0 := cell_gr g3 s0); (have t1 := cell_gr g3 s1); (have t2 := cell_gr g3 s2); (have k0 := frozen_gr g3 s0 f0); (have k1 := frozen_gr g3 s1 f1); (have k2 := frozen_gr g3 s2 f2))
          | (refine ⟨trivial, ?_⟩; gi_at_call 79; (refine (CallsIn.inRound l (callsIn_wide.2 (HCC.out _))).mono ?_); rintro e w4 ⟨rfl, x4⟩; (have g4 : Gr W w4 := Gr.trans g3 (Gr.trans (by go_grown) x4)); (have u0 := cell_gr x4 d0); (have u1 := cell_gr x4 d1); (have u2 := cell_gr x4 d2); (have v0 := cell_gr g4 s0); (have v1 := cell_gr g4 s1); (have v2 := cell_gr g4 s2); (have m0 := frozen_gr g4 s0 f0); (have m1 := frozen_gr g4 s1 f1); (have m2 := frozen_gr g4 s2 f2))
          | (refine ⟨trivial, ?_⟩))
        have hsn : faW n X Y px py (pre ++ [x]) = (sn, sd) := by rw [HSN.out]; exact if_neg (fun h => h.elim hz (by omega))
        exact hFIN2.out w4 g4 hsn.symm
  case done =>
    rintro D ys W' hD rfl ⟨⟨bO1, bR1⟩, ⟨bP1, hon⟩, hs3, hB1⟩ hK
    obtain ⟨c0, c1, c2⟩ := bO1.cells
    obtain ⟨e0, e1, e2⟩ := bR1.cells
    obtain ⟨f0, f1, f2⟩ := bR1.frozen
    generalize hS : faW n X Y px py (List.range n) = S at c0 c1 c2 hon bO1
    obtain ⟨sh, esh⟩ : ∃ z : Nat, S.1 / 18446744073709551616 = z := ⟨_, rfl⟩
    obtain ⟨sl, esl⟩ : ∃ z : Nat, S.1 % 18446744073709551616 = z := ⟨_, rfl⟩
    obtain ⟨sd, esd⟩ : ∃ z : Nat, S.2 = z := ⟨_, rfl⟩
    rw [esh] at c0
    rw [esl] at c1
    rw [esd] at c2
    have HBR := Lib.hid bR1
    clear bO1 bR1 bP1
    gi_wp2
    have hw : set3 W' (w.heap.size + 1 + 1) S = ((W'.setCell ⟨w.heap.size + 1 + 1, 0, none⟩ (.int .u64 sh)).setCell ⟨w.heap.size + 1 + 1, 1, none⟩ (.int .u64 sl)).setCell ⟨w.heap.size + 1 + 1, 2, none⟩ (.int .u64 sd) := by
      subst esh esl esd; rfl
    rw [← hw]
    have hK2 : (set3 W' (w.heap.size + 1 + 1) S).heap[D]? = some (.deferred (some [])) := (set3_keeps _ _ _).same D _ hK rfl
    obtain ⟨g0, g1, g2⟩ := (HBR.out.set S).cells
    have hc0 := cell_kept g0 (grownBy_putObj' _ D (.deferred none)) (fun r e => by cases e; exact ⟨_, hK2, rfl⟩)
    have hc1 := cell_kept g1 (grownBy_putObj' _ D (.deferred none)) (fun r e => by cases e; exact ⟨_, hK2, rfl⟩)
    have hc2 := cell_kept g2 (grownBy_putObj' _ D (.deferred none)) (fun r e => by cases e; exact ⟨_, hK2, rfl⟩)
    refine ⟨by simp, .inl ⟨_, _, rfl, run_takeDeferred hK2, ?_⟩⟩
    subst hS
    exact ⟨_, far_results rfl rfl hc0 hc1 hc2, rfl, (below_set3 hB1 (by omega) _).trans (belowK_b (w := w) (Nat.le_refl _) _ D _ _ (by omega) hK2 rfl rfl)⟩
  case stop =>
    rintro D c pre W hD _ hF hK
    exact hF.elim
def faP (n : Nat) (X Y : Nat → Int) (px py : Int) : Nat × Nat := if Rg.hasN n X Y px py then (0, 1) else faW n X Y px py (List.range n)
theorem c_FarA (w : World) (h : Pts w v n X Y) (h0 : (Rg.ringC n X Y).1 = 0) (hp : nearB px py = true) :
    Calls Tryz.prog 46 #[.agg #[.int .i64 4, v], .agg #[.int .i64 px, .int .i64 py]] w fun e w' => e = .returned (dV (faP n X Y px py)) ∧ Gr w w' := by
  unfold faP
  cases hh : Rg.hasN n X Y px py
  · rw [if_neg (by decide)]; exact c_Far_out w h h0 hp hh
  · rw [if_pos rfl]; exact c_Far_in w h h0 hp hh
end
end Go.Proofs.YtfobmlgpjhghdaaGreatDoor
namespace Go.Proofs.YtfobmlgpjhghdaaGreatDoor
set_option linter.unusedVariables false
set_option linter.unusedSimpArgs false
open Go.ChangeShapes Go.WideShapes Go.ChangeAt Go.RowKit
section
variable {x y : Int}
theorem nx_lt {n k : Nat} (hk : k < n) : Rg.nx1 n k < n := by unfold Rg.nx1; split <;> omega
end
theorem near_box {n : Nat} {X Y : Nat → Int} (h : ∀ k, k < n → nearB (X k) (Y k) = true) (hn : 1 ≤ n) : boxB (mnN X n) (mnN Y n) (mxN X n) (mxN Y n) = true := by
  have key : ∀ m, 1 ≤ m → m ≤ n → ((-1073741823 ≤ mnN X m ∧ mnN X m ≤ mxN X m) ∧ mxN X m ≤ 1073741823) ∧ ((-1073741823 ≤ mnN Y m ∧ mnN Y m ≤ mxN Y m) ∧ mxN Y m ≤ 1073741823) := by
    intro m
    induction m with
    | zero => intro h; omega
    | succ m ih =>
      intro _ hm
      have b := Rg.nearB_iff'.1 (h m (by omega))
      by_cases h0 : m = 0
      · rw [mnN_0 _ h0, mnN_0 _ h0, mxN_0 _ h0, mxN_0 _ h0]; omega
      · have i := ih (by omega) (by omega)
        rw [mnN_s _ h0, mnN_s _ h0, mxN_s _ h0, mxN_s _ h0]
        unfold minZ maxZ
        refine ⟨⟨⟨?_, ?_⟩, ?_⟩, ⟨⟨?_, ?_⟩, ?_⟩⟩ <;> (repeat split) <;> omega
  have k := key n hn (Nat.le_refl _)
  exact boxB_iff.2 ⟨⟨Rg.nearB_iff'.2 (by omega), Rg.nearB_iff'.2 (by omega)⟩, by omega, by omega⟩
end Go.Proofs.YtfobmlgpjhghdaaGreatDoor
namespace Go.Proofs.YtfobmlgpjhghdaaGreatDoor
set_option linter.unusedVariables false
set_option linter.unusedSimpArgs false
open Go.ChangeShapes Go.WideShapes Go.ChangeAt Go.RowKit
def oLy (k : Int) (Y : Nat → Int) : Int := if k = 2 then 0 else Y 0
def oHx (k : Int) (X Y : Nat → Int) : Int := if k = 3 then X 1 else if k = 2 then Y 0 else X 0
def oHy (k : Int) (Y : Nat → Int) : Int := if k = 3 then Y 1 else if k = 2 then 0 else Y 0
def maA (k : Int) (n : Nat) (X Y : Nat → Int) (kq qlx qly qhx qhy : Int) (m : Nat) (P Q : Nat → Int) : Bool := if k = 4 then mpV n X Y kq qlx qly qhx qhy m P Q else msV (X 0) (oLy k Y) (oHx k X Y) (oHy k Y) kq qlx qly qhx qhy m P Q
def diA (k : Int) (n : Nat) (X Y : Nat → Int) (px py : Int) : Nat × Nat := if k = 4 then faP n X Y px py else ((distZ (X 0) (oLy k Y) (oHx k X Y) (oHy k Y) px py).toNat, 1)
theorem obj_box {k : Int} {n : Nat} {X Y : Nat → Int} (h : objC k n X Y = 0) (h4 : k ≠ 4) : (k = 1 ∧ n = 1 ∨ k = 2 ∧ n = 1 ∨ k = 3 ∧ n = 2) ∧ objC k n X Y = boxN (X 0) (oLy k Y) (oHx k X Y) (oHy k Y) ∧ boxN (X 0) (oLy k Y) (oHx k X Y) (oHy k Y) = 0 := by
  have e : objC k n X Y = 0 := h
  unfold objC at e
  rw [if_neg h4] at e
  by_cases k3 : k = 3
  · subst k3
    rw [if_pos rfl] at e
    by_cases hn : n = 2
    · subst hn
      rw [if_pos rfl] at e
      exact ⟨Or.inr (Or.inr ⟨rfl, rfl⟩), by rw [objC_3, if_pos rfl]; rfl, e⟩
    · rw [if_neg hn] at e; cases e
  rw [if_neg k3] at e
  by_cases k1 : k = 1
  · subst k1
    rw [if_pos rfl] at e
    by_cases hn : n = 1
    · subst hn
      rw [if_pos rfl] at e
      exact ⟨Or.inl ⟨rfl, rfl⟩, by rw [objC_1, if_pos rfl]; rfl, e⟩
    · rw [if_neg hn] at e; cases e
  rw [if_neg k1] at e
  by_cases k2 : k = 2
  · subst k2
    rw [if_pos rfl] at e
    by_cases hn : n = 1
    · subst hn
      rw [if_pos rfl] at e
      exact ⟨Or.inr (Or.inl ⟨rfl, rfl⟩), by rw [objC_2, if_pos rfl]; rfl, e⟩
    · rw [if_neg hn] at e; cases e
  rw [if_neg k2] at e
  cases e
theorem bl_of {W : World} {k : Int} {n : Nat} {X Y : Nat → Int} {v : Value} (hp : Pts W v n X Y) (h : objC k n X Y = 0) (h4 : k ≠ 4) : BL W k v (X 0) (oLy k Y) (oHx k X Y) (oHy k Y) := by
  obtain ⟨hk, he, -⟩ := obj_box h h4
  have hp0 := hp
  obtain ⟨ad, cap, B, off, rfl, q1, q2, q3, q4⟩ := hp
  rcases hk with ⟨rfl, rfl⟩ | ⟨rfl, rfl⟩ | ⟨rfl, rfl⟩
  · obtain rfl := q3 (by omega)
    obtain ⟨c0, c1⟩ := q4 0 (by omega)
    rw [Nat.zero_mul, Nat.add_zero] at c0 c1
    exact ⟨⟨Or.inl rfl, ⟨_, _, _, rfl⟩, fun w' g => c_frame_1 (X 0) (Y 0) B off cap w' (cell_gr g c0) (cell_gr g c1) (World.block_lt_of_cell? _ _ (cell_gr g c0))⟩, 1, X, Y, hp0, he⟩
  · obtain rfl := q3 (by omega)
    obtain ⟨c0, c1⟩ := q4 0 (by omega)
    rw [Nat.zero_mul, Nat.add_zero] at c0 c1
    exact ⟨⟨Or.inr (Or.inl rfl), ⟨_, _, _, rfl⟩, fun w' g => c_frame_2 (X 0) (Y 0) B off cap w' (cell_gr g c0) (cell_gr g c1) (World.block_lt_of_cell? _ _ (cell_gr g c0))⟩, 1, X, Y, hp0, he⟩
  · obtain rfl := q3 (by omega)
    obtain ⟨c0, c1⟩ := q4 0 (by omega)
    obtain ⟨c2, c3⟩ := q4 1 (by omega)
    rw [Nat.zero_mul, Nat.add_zero] at c0 c1
    rw [Nat.one_mul] at c2 c3
    exact ⟨⟨Or.inr (Or.inr rfl), ⟨_, _, _, rfl⟩, fun w' g => c_frame_3 (X 0) (Y 0) (X 1) (Y 1) B off cap w' (cell_gr g c0) (cell_gr g c1) (cell_gr g c2) (cell_gr g c3) (World.block_lt_of_cell? _ _ (cell_gr g c0))⟩, 2, X, Y, hp0, he⟩
set_option maxHeartbeats 4000000 in
set_option maxRecDepth 100000 in
theorem dist_ok {k : Int} {n : Nat} {X Y : Nat → Int} {v : Value} (px py : Int) (dh dl dd : Nat) (W : World) (hE : ErrT W) (h : Pts W v n X Y) (hc : objC k n X Y = 0) (hp : nearB px py = true)
    (C3 : ∀ w, Gr W w → Calls Tryz.prog 46 #[.agg #[.int .i64 k, v], .agg #[.int .i64 px, .int .i64 py]] w fun e w' => e = .returned (.agg #[.int .u64 dh, .int .u64 dl, .int .u64 dd]) ∧ Gr w w') :
    Calls Tryz.prog 15 #[.agg #[.int .i64 k, v], .agg #[.int .i64 px, .int .i64 py]] W fun e w' => e = .returned (.agg #[.int .u64 dh, .int .u64 dl, .int .u64 dd]) ∧ Gr W w' := by
  have B2 := c_CheckPoint px py
  rw [hp, if_pos rfl] at B2
  have B4 : ∀ (w : World) (D : Nat) (x : Value) (q : Bool), Gr W w → w.cell? ⟨D, 0, none⟩ = some x → NF x → (q = true ↔ x = .nilIface) → Calls Tryz.prog 39 #[.slice (some ⟨D, 0, none⟩) 1 1] w fun e w' => e = .returned (.bool q) ∧ Gr w w' := fun w D x q g h0 n0 hq =>
    c_allowed (D := D) (n := 1) (cap := 1) (e := fun _ => x) w (errT_gr hE g) (by omega) (fun k hk => by match k, hk with | 0, _ => exact h0) (fun k hk => n0) (World.block_lt_of_cell? _ _ h0) (Nat.le_refl _) q (by
      rw [hq]
      exact ⟨fun a k _ => a, fun h => h 0 (by omega)⟩)
  have C1 : ∀ w, Gr W w → Calls Tryz.prog 34 #[.agg #[.int .i64 k, v]] w fun e w' => e = .returned .nilIface ∧ Gr w w' := fun w g => (c_relCheck k w (pts_gr h g)).mono (by
    rintro e w' ⟨x, rfl, hx, g'⟩
    rw [hc] at hx
    obtain rfl := (werr_nf hx).2.2 rfl
    exact ⟨rfl, g'⟩)
  obtain ⟨ad, cap, _, _, rfl, -⟩ := h
  have H1 := Lib.hid C1
  have H2 := Lib.hid B2
  have H3 := Lib.hid C3
  have H4 := Lib.hid B4
  clear C1 B2 C3 B4
  clear hp hc hE
  go_enter Tryz.func15, Tryz.ntmps15
  go_wp2_with fail
  go_at_call 34
  refine ((H1.out _ (by go_grown))).mono ?_
  rintro e w1 ⟨rfl, hw1⟩
  have cw1_0_0 := ci hw1 (W.heap.size) 0 k (by go_simp)
  have cw1_0_1 := cg hw1 (W.heap.size) 1 (.slice ad n cap) (by go_simp)
  have zw1_0 := zb cw1_0_0
  have cw1_1_0 := ci hw1 (W.heap.size + 1) 0 px (by go_simp)
  have cw1_1_1 := ci hw1 (W.heap.size + 1) 1 py (by go_simp)
  have zw1_1 := zb cw1_1_0
  have cw1_2_0 := cu hw1 (W.heap.size + 1 + 1) 0 0 (by go_simp)
  have fw1_2_0 := fq hw1 (W.heap.size + 1 + 1) 0 (.int .u64 0) (by go_simp) (by go_simp)
  have cw1_2_1 := cu hw1 (W.heap.size + 1 + 1) 1 0 (by go_simp)
  have fw1_2_1 := fq hw1 (W.heap.size + 1 + 1) 1 (.int .u64 0) (by go_simp) (by go_simp)
  have cw1_2_2 := cu hw1 (W.heap.size + 1 + 1) 2 0 (by go_simp)
  have fw1_2_2 := fq hw1 (W.heap.size + 1 + 1) 2 (.int .u64 0) (by go_simp) (by go_simp)
  have zw1_2 := zb cw1_2_0
  have gw1 : Gr W w1 := Gr.trans (by go_grown) hw1
  clear hw1
  go_wp2_with fail
  go_at_call 39
  refine ((H4.out _ _ _ true (by have gg := gw1; have gs := gg.size; go_grown) (by go_simp) nf_nil (by simp))).mono ?_
  rintro e w2 ⟨rfl, hw2⟩
  have cw2_0_0 := ci hw2 (W.heap.size) 0 k (by go_simp)
  have cw2_0_1 := cg hw2 (W.heap.size) 1 (.slice ad n cap) (by go_simp)
  have cw2_1_0 := ci hw2 (W.heap.size + 1) 0 px (by go_simp)
  have cw2_1_1 := ci hw2 (W.heap.size + 1) 1 py (by go_simp)
  have cw2_2_0 := cu hw2 (W.heap.size + 1 + 1) 0 0 (by go_simp)
  have fw2_2_0 := fq hw2 (W.heap.size + 1 + 1) 0 (.int .u64 0) (by go_simp) (by go_simp)
  have cw2_2_1 := cu hw2 (W.heap.size + 1 + 1) 1 0 (by go_simp)
  have fw2_2_1 := fq hw2 (W.heap.size + 1 + 1) 1 (.int .u64 0) (by go_simp) (by go_simp)
  have cw2_2_2 := cu hw2 (W.heap.size + 1 + 1) 2 0 (by go_simp)
  have fw2_2_2 := fq hw2 (W.heap.size + 1 + 1) 2 (.int .u64 0) (by go_simp) (by go_simp)
  have gw2 : Gr W w2 := Gr.trans (by have gg := gw1; have gs := gg.size; go_grown) hw2
  clear hw2 gw1 zw1_0 cw1_0_0 cw1_0_1 zw1_1 cw1_1_0 cw1_1_1 zw1_2 cw1_2_0 fw1_2_0 cw1_2_1 fw1_2_1 cw1_2_2 fw1_2_2
  go_wp2_with fail
  go_at_call 45
  refine ((H2.out _)).mono ?_
  rintro e w3 ⟨rfl, hw3⟩
  have cw3_0_0 := ci hw3 (W.heap.size) 0 k (by go_simp)
  have cw3_0_1 := cg hw3 (W.heap.size) 1 (.slice ad n cap) (by go_simp)
  have cw3_1_0 := ci hw3 (W.heap.size + 1) 0 px (by go_simp)
  have cw3_1_1 := ci hw3 (W.heap.size + 1) 1 py (by go_simp)
  have cw3_2_0 := cu hw3 (W.heap.size + 1 + 1) 0 0 (by go_simp)
  have fw3_2_0 := fq hw3 (W.heap.size + 1 + 1) 0 (.int .u64 0) (by go_simp) (by go_simp)
  have cw3_2_1 := cu hw3 (W.heap.size + 1 + 1) 1 0 (by go_simp)
  have fw3_2_1 := fq hw3 (W.heap.size + 1 + 1) 1 (.int .u64 0) (by go_simp) (by go_simp)
  have cw3_2_2 := cu hw3 (W.heap.size + 1 + 1) 2 0 (by go_simp)
  have fw3_2_2 := fq hw3 (W.heap.size + 1 + 1) 2 (.int .u64 0) (by go_simp) (by go_simp)
  have gw3 : Gr W w3 := Gr.trans (by have gg := gw2; have gs := gg.size; go_grown) hw3
  clear hw3 gw2 cw2_0_0 cw2_0_1 cw2_1_0 cw2_1_1 cw2_2_0 fw2_2_0 cw2_2_1 fw2_2_1 cw2_2_2 fw2_2_2
  go_wp2_with fail
  go_at_call 46
  refine ((H3.out _ (by have gg := gw3; have gs := gg.size; go_grown))).mono ?_
  rintro e w4 ⟨rfl, hw4⟩
  have cw4_2_0 := cu hw4 (W.heap.size + 1 + 1) 0 0 (by go_simp)
  have fw4_2_0 := fq hw4 (W.heap.size + 1 + 1) 0 (.int .u64 0) (by go_simp) (by go_simp)
  have cw4_2_1 := cu hw4 (W.heap.size + 1 + 1) 1 0 (by go_simp)
  have fw4_2_1 := fq hw4 (W.heap.size + 1 + 1) 1 (.int .u64 0) (by go_simp) (by go_simp)
  have cw4_2_2 := cu hw4 (W.heap.size + 1 + 1) 2 0 (by go_simp)
  have fw4_2_2 := fq hw4 (W.heap.size + 1 + 1) 2 (.int .u64 0) (by go_simp) (by go_simp)
  have gw4 : Gr W w4 := Gr.trans (by have gg := gw3; have gs := gg.size; go_grown) hw4
  clear hw4 gw3 cw3_0_0 cw3_0_1 cw3_1_0 cw3_1_1 cw3_2_0 fw3_2_0 cw3_2_1 fw3_2_1 cw3_2_2 fw3_2_2
  go_wp2_with fail
  refine bodyPost_ret (v := .agg #[.int .u64 dh, .int .u64 dl, .int .u64 dd]) (by simp [results, Tryz.results15, go_sem, *]) rfl ⟨rfl, by go_grown⟩
theorem distZ_lt {lx ly hx hy px py : Int} (hb : boxB lx ly hx hy = true) (hp : nearB px py = true) : 0 ≤ distZ lx ly hx hy px py ∧ distZ lx ly hx hy px py < 18446744073709551616 := by
  obtain ⟨⟨a, b⟩, c, d⟩ := boxB_iff.1 hb
  have a := Rg.nearB_iff'.1 a
  have b := Rg.nearB_iff'.1 b
  have p := Rg.nearB_iff'.1 hp
  have e : ∀ lo hi v : Int, lo ≤ hi → -1073741823 ≤ lo → hi ≤ 1073741823 → -1073741823 ≤ v → v ≤ 1073741823 → 0 ≤ beyZ lo hi v * beyZ lo hi v ∧ beyZ lo hi v * beyZ lo hi v ≤ 2147483646 * 2147483646 := fun lo hi v h1 h2 h3 h4 h5 => by
    have hb : 0 ≤ beyZ lo hi v ∧ beyZ lo hi v ≤ 2147483646 := by unfold beyZ; split <;> (try split) <;> omega
    exact ⟨Int.mul_nonneg hb.1 hb.1, Int.mul_le_mul hb.2 hb.2 hb.1 (by omega)⟩
  have e1 := e lx hx px c (by omega) (by omega) (by omega) (by omega)
  have e2 := e ly hy py d (by omega) (by omega) (by omega) (by omega)
  unfold distZ
  omega
theorem c_DistAny {k : Int} {n : Nat} {X Y : Nat → Int} {v : Value} (px py : Int) (W : World) (hE : ErrT W) (h : Pts W v n X Y) (hc : objC k n X Y = 0) (hp : nearB px py = true) :
    Calls Tryz.prog 15 #[.agg #[.int .i64 k, v], .agg #[.int .i64 px, .int .i64 py]] W fun e w' => e = .returned (dV (diA k n X Y px py)) ∧ Gr W w' := by
  refine dist_ok px py _ _ _ W hE h hc hp fun w g => ?_
  unfold diA
  by_cases h4 : k = 4
  · subst h4
    rw [if_pos rfl]
    rw [objC_4] at hc
    exact c_FarA w (pts_gr h g) hc hp
  · rw [if_neg h4]
    obtain ⟨-, -, e⟩ := obj_box hc h4
    have hb := boxN_0.1 e
    obtain ⟨d0, d1⟩ := distZ_lt hb hp
    have C := c_FarB w (bl_gr (bl_of h hc h4) g).1 hb hp
    generalize distZ (X 0) (oLy k Y) (oHx k X Y) (oHy k Y) px py = z at C d0 d1 ⊢
    obtain ⟨m, rfl⟩ := Int.eq_ofNat_of_zero_le d0
    have e1 : m / 18446744073709551616 = 0 := by omega
    have e2 : m % 18446744073709551616 = m := by omega
    show Calls _ _ _ _ _
    simp only [Int.toNat_natCast, e1, e2]
    exact C
end Go.Proofs.YtfobmlgpjhghdaaGreatDoor
namespace Go.Proofs.YtfobmlgpjhghdaaGreatDoor
set_option linter.unusedVariables false
open Go.ChangeShapes Go.WideShapes Go.ChangeAt Go.RowKit
theorem gr_of_grown {w a b : World} {r : Option Nat} (h : Gr w a) (g : a.grownBy b r) (hr : ∀ k, r = some k → w.heap.size ≤ k) : Gr w b :=
  ⟨g.os.trans h.os, g.tape.trans h.tape, g.output.trans h.output, Nat.le_trans h.size g.size, fun k hk => (g.block k (Nat.lt_of_lt_of_le hk h.size) (fun e => by have := hr k e.symm; omega)).trans (h.block k hk)⟩
def Grown (w w' : World) (v v' : Value) : Prop := w.grownBy w' v.ownBlock ∧ ∀ k, v'.ownBlock = some k → v.ownBlock = some k ∨ w.heap.size ≤ k
theorem Grown.gr {a b w0 : World} {u v : Value} (h : Grown a b u v) (g : Gr w0 a) (hr : ∀ k, u.ownBlock = some k → w0.heap.size ≤ k) : Gr w0 b := gr_of_grown g h.1 hr
theorem row_form {w : World} {base n size : Nat} {e : TypeId} {v : Value} {xs : List Value} (h : w.ownsRow base e size v n xs) (h0 : 0 < n) : ∃ g cap, v = .slice (some ⟨g, 0, none⟩) n cap ∧ base ≤ g ∧ g < w.heap.size ∧ n ≤ cap ∧ (cap : Int) ≤ 9223372036854775807 := by
  rcases h.2 with ⟨-, h0'⟩ | ⟨g, cap, cur, rfl, hb, hg, hn, hc, hs, ht⟩
  · omega
  · exact ⟨g, cap, rfl, hb, (Array.getElem?_eq_some_iff.1 hg).1, hn, by unfold maxLen at hc; omega⟩
theorem Grown.cell {a b : World} {u v : Value} (h : Grown a b u v) {p : Addr} {x : Value} (hc : a.cell? p = some x) (hn : ∀ k, u.ownBlock = some k → k ≠ p.block) : b.cell? p = some x :=
  h.1.cell hc (fun e => by cases hu : u.ownBlock with
    | none => rw [hu] at e; cases e
    | some k => rw [hu] at e; exact hn k hu (Option.some.inj e).symm)
section
variable {P : Program} (w : World)
theorem append_place (base : Nat) (t ty e : TypeId) (i : TypeInfo) (z : Value) (size bytes : Nat) (ht : P.underlying t = some (.slice e)) (hi : P.info? e = some i) (hz : i.zero = some z)
    (hsize : i.size = size) (hby : i.bytes = bytes) (v : Value) (n : Nat) (xs : List Value) (hown : w.ownsRow base e size v n xs)
    (a : Addr) (m c : Nat) (news : List Value) (hl : news.length = m * size) (hnews : ∀ j u, news[j]? = some u → w.cell? (a.add j) = some u) (h1 : ∀ u ∈ news, u.oneCell' = true)
    (h63 : n + m ≤ maxLen) (hbytes : (n + m) * bytes ≤ 140737488355328) {v' : Value} {w' : World} (hr : (Builtin.append_ #[t, t] ty #[v, .slice (some a) m c]).run P w = .ok v' w') :
    ∀ k, v'.ownBlock = some k → v.ownBlock = some k ∨ w.heap.size ≤ k := by
  subst hsize hby
  have hsmall : n + m ≤ 9223372036854775807 := by simp only [maxLen] at h63; omega
  rcases hown.2 with ⟨rfl, rfl⟩ | ⟨g, cap, cur, rfl, hbg, hg, hnc, hcm, hcs, htake⟩
  · by_cases hm : m = 0
    · subst hm
      have hn : news = [] := List.eq_nil_of_length_eq_zero (by simpa using hl)
      subst hn
      have e0 : (Builtin.append_ #[t, t] ty #[.slice none 0 0, .slice (some a) 0 c]).run P w = .ok (.slice none 0 0) w := by
        simp [Builtin.append_, run_underlying ht, sizeOf, typeInfo, hi, Builtin.lenOf, Builtin.firstCells, loadCells, loadCellsFrom]
      rw [e0] at hr
      cases hr
      intro k hk
      cases hk
    · rw [run_append_nil (P := P) w t ty e i z ht hi hz a m c news hl hnews (by omega) (by omega) (by have hb := hbytes; simp only [Nat.zero_add] at hb; omega)] at hr
      cases hr
      intro k hk
      simp [Value.ownBlock] at hk
      omega
  · by_cases hroom : n + m ≤ cap
    · have hfit : n * i.size + news.length ≤ cur.size := by rw [hl, hcs, ← Nat.add_mul]; exact Nat.mul_le_mul_right _ hroom
      rw [run_append_room (P := P) w t ty e i ht hi g n cap cur hg a m c news hl hnews h1 hroom hfit] at hr
      cases hr
      intro k hk
      exact Or.inl hk
    · rw [run_append_grow (P := P) w t ty e i z ht hi hz ⟨g, 0, none⟩ n cap xs hown.1 (hown.cells (g := g) rfl) a m c news hl hnews (by omega) (by omega) (growslice_fits (by omega) hbytes)] at hr
      cases hr
      intro k hk
      simp [Value.ownBlock] at hk
      omega
theorem wpList_append_own2 {ops : Array Oper} {rest : List Oper} {o : Oper} {a : Act} {Q : Exit → Act → World → Prop} (hgd : o.guard = none) (s x : Operand) (t : TypeId)
    (ho : o.op = .call { callee := .builtin .append, args := #[s, x], argTypes := #[t, t] })
    (base : Nat) (e : TypeId) (i : TypeInfo) (z : Value) (size bytes : Nat) (ht : P.underlying t = some (.slice e)) (hi : P.info? e = some i) (hz : i.zero = some z)
    (hsize : i.size = size) (hby : i.bytes = bytes) (hzs : z.cells.size = size) (hsz : 0 < size)
    (v : Value) (n : Nat) (xs : List Value) (hs : a.eval s = v) (hown : w.ownsRow base e size v n xs)
    (ad : Addr) (m c : Nat) (news : List Value) (hx : a.eval x = .slice (some ad) m c) (hl : news.length = m * size) (hnews : ∀ j u, news[j]? = some u → w.cell? (ad.add j) = some u) (h1 : ∀ u ∈ news, u.oneCell' = true)
    (h63 : n + m ≤ maxLen) (hbytes : (n + m) * bytes ≤ 140737488355328) (hbase : base ≤ w.heap.size)
    (h : ∀ v' w', w'.ownsRow base e size v' (n + m) (xs ++ news) → Grown w w' v v' → wpList P ops Q rest (a.put o.dst v') w') : wpList P ops Q (o :: rest) a w := by
  refine wpList_plain hgd fun K hK => ?_
  obtain ⟨v', w', hr, h2, h3, h4⟩ := run_append_own (P := P) w base t o.type e i z size bytes ht hi hz hsize hby hzs hsz v n xs hown ad m c news hl hnews h1 h63 hbytes hbase
  have h5 := append_place (P := P) w base t o.type e i z size bytes ht hi hz hsize hby v n xs hown ad m c news hl hnews h1 h63 hbytes hr
  unfold Oper.wp execOp
  simp only [ho, resolve, invoke, builtin, Sem.run_bind, Sem.run_pure, Result.andThen_ok, List.map_toArray, List.map_cons, List.map_nil, hs, hx, hr]
  exact hK _ _ (h v' w' h2 ⟨h3, h5⟩)
end
theorem rowOwn_gr {a b : World} {base e size n : Nat} {v : Value} {xs : List Value} (h : a.ownsRow base e size v n xs) (g : Gr a b) : b.ownsRow base e size v n xs :=
  h.kept (row := none) ⟨g.os, g.tape, g.output, g.size, fun k hk _ => g.block k hk⟩ (by
    rcases hh : v.ownBlock with _ | k
    · exact Or.inl rfl
    · exact Or.inr (by simp))
end Go.Proofs.YtfobmlgpjhghdaaGreatDoor
namespace Go.Proofs.YtfobmlgpjhghdaaGreatDoor
set_option linter.unusedVariables false
open Go.ChangeShapes Go.WideShapes Go.ChangeAt Go.RowKit
end Go.Proofs.YtfobmlgpjhghdaaGreatDoor
namespace Go.Proofs.YtfobmlgpjhghdaaGreatDoor
set_option linter.unusedVariables false
set_option linter.unusedSimpArgs false
open Go.ChangeShapes Go.WideShapes Go.ChangeAt Go.RowKit
theorem c_MatchG {k : Int} {n : Nat} {X Y : Nat → Int} {v : Value} {m : Nat} {P Q : Nat → Int} {u : Value} (kq qlx qly qhx qhy : Int) (W : World) (hE : ErrT W) (h : Pts W v n X Y) (hu : Pts W u m P Q) :
    Calls Tryz.prog 13 #[.agg #[.int .i64 k, v], qryV kq qlx qly qhx qhy u] W fun e w' => e = .returned (.bool (decide (objC k n X Y = 0) && decide (qC kq qlx qly qhx qhy m P Q = 0) && maA k n X Y kq qlx qly qhx qhy m P Q)) ∧ Gr W w' := by
  have A1 : ∀ w, Gr W w → Calls Tryz.prog 34 #[.agg #[.int .i64 k, v]] w fun e w' => ∃ x, e = .returned x ∧ WErr objectS w' x k (objC k n X Y) ∧ Gr w w' := fun w g => c_relCheck k w (pts_gr h g)
  have A2 : ∀ w, Gr W w → Calls Tryz.prog 40 #[qryV kq qlx qly qhx qhy u] w fun e w' => ∃ x, e = .returned x ∧ WErr queryS w' x kq (qC kq qlx qly qhx qhy m P Q) ∧ Gr w w' := fun w g => c_CheckQuery kq qlx qly qhx qhy w (pts_gr hu g)
  have A3 : objC k n X Y = 0 → qC kq qlx qly qhx qhy m P Q = 0 → ∀ w, Gr W w → Calls Tryz.prog 41 #[.agg #[.int .i64 k, v], qryV kq qlx qly qhx qhy u] w fun e w' => e = .returned (.bool (maA k n X Y kq qlx qly qhx qhy m P Q)) ∧ Gr w w' := fun hc hd w g => by
    have h4 : kq = 4 → (Rg.ringC m P Q).1 = 0 := fun h4 => by unfold qC at hd; rw [if_neg (by omega), if_neg (by omega), if_pos h4] at hd; exact hd
    unfold maA
    by_cases k4 : k = 4
    · subst k4
      rw [if_pos rfl]
      rw [objC_4] at hc
      exact c_MatchesP kq qlx qly qhx qhy w (pts_gr h g) hc (pts_gr hu g) h4
    · rw [if_neg k4]
      exact c_MatchesB kq qlx qly qhx qhy w (bl_of (pts_gr h g) hc k4).1 (pts_gr hu g) h4
  obtain ⟨ad, cap, _, _, rfl, -⟩ := h
  obtain ⟨bd, bcap, _, _, rfl, -⟩ := hu
  exact match_core kq qlx qly qhx qhy ad bd n cap m bcap _ _ _ W hE A1 A2 A3
theorem setCell_id {w : World} {b i : Nat} {v : Value} (h : w.cell? ⟨b, i, none⟩ = some v) : w.setCell ⟨b, i, none⟩ v = w := by
  have e : w.heap.modify b (fun
      | .cells c elem frozen => .cells (if (none : Option Nat).isSome then c else c.setIfInBounds i v) elem frozen
      | o => o) = w.heap := by
    apply Array.ext_getElem?
    intro j
    rw [Array.getElem?_modify]
    split
    · rename_i ej
      subst ej
      unfold World.cell? at h
      cases hb : w.heap[b]? with
      | none => rfl
      | some x =>
        rw [hb] at h
        cases x with
        | cells c elem frozen =>
          have hc : c[i]? = some v := h
          have : c.setIfInBounds i v = c := by
            apply Array.ext_getElem?
            intro k
            rw [Array.getElem?_setIfInBounds]
            split
            · rename_i ek
              subst ek
              split
              · exact hc.symm
              · rename_i hk
                rw [Array.getElem?_eq_none (by omega)] at hc
                cases hc
            · rfl
          show some (Obj.cells (c.setIfInBounds i v) elem frozen) = some (Obj.cells c elem frozen)
          rw [this]
        | _ => rfl
    · rfl
  exact congrArg (fun h => { w with heap := h }) e
def dG (ok : Bool) (s : Nat × Nat) : Value := if ok then dV s else .agg #[.int .u64 0, .int .u64 0, .int .u64 0]
section
variable {k : Int} {n : Nat} {X Y : Nat → Int} {v : Value}
set_option maxHeartbeats 4000000 in
set_option maxRecDepth 100000 in
theorem dist_no1 (ad : Option Addr) (cap : Nat) (px py : Int) (W : World)
    (C1 : ∀ w, Gr W w → Calls Tryz.prog 34 #[.agg #[.int .i64 k, .slice ad n cap]] w fun e w' => ∃ B, e = .returned (.iface 84 (.pointer (some ⟨B, 0, none⟩))) ∧ Gr w w')
    (B4 : ∀ (w : World) (D : Nat) (x : Value) (q : Bool), Gr W w → w.cell? ⟨D, 0, none⟩ = some x → NF x → (q = true ↔ x = .nilIface) → Calls Tryz.prog 39 #[.slice (some ⟨D, 0, none⟩) 1 1] w fun e w' => e = .returned (.bool q) ∧ Gr w w') :
    Calls Tryz.prog 15 #[.agg #[.int .i64 k, .slice ad n cap], .agg #[.int .i64 px, .int .i64 py]] W fun e w' => e = .returned (.agg #[.int .u64 0, .int .u64 0, .int .u64 0]) ∧ Gr W w' := by
  have H1 := Lib.hid C1
  have H4 := Lib.hid B4
  clear C1 B4
  go_enter Tryz.func15, Tryz.ntmps15
  go_wp2_with fail
  go_at_call 34
  refine (H1.out _ (by go_grown)).mono ?_
  rintro e w1 ⟨B5, rfl, g1⟩
  have c20 := cu g1 (W.heap.size + 1 + 1) 0 0 (by go_simp)
  have c21 := cu g1 (W.heap.size + 1 + 1) 1 0 (by go_simp)
  have c22 := cu g1 (W.heap.size + 1 + 1) 2 0 (by go_simp)
  have f20 := fq g1 (W.heap.size + 1 + 1) 0 (.int .u64 0) (by go_simp) (by go_simp)
  have f21 := fq g1 (W.heap.size + 1 + 1) 1 (.int .u64 0) (by go_simp) (by go_simp)
  have f22 := fq g1 (W.heap.size + 1 + 1) 2 (.int .u64 0) (by go_simp) (by go_simp)
  have z2 := World.block_lt_of_cell? _ _ c20
  have gw1 : Gr W w1 := Gr.trans (by go_grown) g1
  clear g1
  go_wp2_with fail
  go_at_call 39
  refine ((H4.out _ _ _ false (by have gg := gw1; have gs := gg.size; go_grown) (by go_simp) (nf_f B5) (by simp))).mono ?_
  rintro e w2 ⟨rfl, hw2⟩
  have cw2_0_0 := cu hw2 (W.heap.size + 1 + 1) 0 0 (by go_simp)
  have fw2_0_0 := fq hw2 (W.heap.size + 1 + 1) 0 (.int .u64 0) (by go_simp) (by go_simp)
  have cw2_0_1 := cu hw2 (W.heap.size + 1 + 1) 1 0 (by go_simp)
  have fw2_0_1 := fq hw2 (W.heap.size + 1 + 1) 1 (.int .u64 0) (by go_simp) (by go_simp)
  have cw2_0_2 := cu hw2 (W.heap.size + 1 + 1) 2 0 (by go_simp)
  have fw2_0_2 := fq hw2 (W.heap.size + 1 + 1) 2 (.int .u64 0) (by go_simp) (by go_simp)
  have gw2 : Gr W w2 := Gr.trans (by have gg := gw1; have gs := gg.size; go_grown) hw2
  clear hw2 gw1
  go_wp2_with fail
  refine bodyPost_ret (v := .agg #[.int .u64 0, .int .u64 0, .int .u64 0]) (by simp [results, Tryz.results15, go_sem, *]) rfl ⟨rfl, by go_grown⟩
set_option maxHeartbeats 4000000 in
set_option maxRecDepth 100000 in
theorem dist_no2 (ad : Option Addr) (cap : Nat) (px py : Int) (W : World)
    (C1 : ∀ w, Gr W w → Calls Tryz.prog 34 #[.agg #[.int .i64 k, .slice ad n cap]] w fun e w' => e = .returned .nilIface ∧ Gr w w')
    (B2 : ∀ w, Calls Tryz.prog 45 #[.agg #[.int .i64 px, .int .i64 py]] w fun e w' => e = .returned (.iface 66 (.int .i64 2)) ∧ Gr w w')
    (B4 : ∀ (w : World) (D : Nat) (x : Value) (q : Bool), Gr W w → w.cell? ⟨D, 0, none⟩ = some x → NF x → (q = true ↔ x = .nilIface) → Calls Tryz.prog 39 #[.slice (some ⟨D, 0, none⟩) 1 1] w fun e w' => e = .returned (.bool q) ∧ Gr w w') :
    Calls Tryz.prog 15 #[.agg #[.int .i64 k, .slice ad n cap], .agg #[.int .i64 px, .int .i64 py]] W fun e w' => e = .returned (.agg #[.int .u64 0, .int .u64 0, .int .u64 0]) ∧ Gr W w' := by
  have H1 := Lib.hid C1
  have H2 := Lib.hid B2
  have H4 := Lib.hid B4
  clear C1 B2 B4
  go_enter Tryz.func15, Tryz.ntmps15
  go_wp2_with fail
  go_at_call 34
  refine ((H1.out _ (by go_grown))).mono ?_
  rintro e w1 ⟨rfl, hw1⟩
  have cw1_1_0 := ci hw1 (W.heap.size + 1) 0 px (by go_simp)
  have cw1_1_1 := ci hw1 (W.heap.size + 1) 1 py (by go_simp)
  have zw1_1 := zb cw1_1_0
  have cw1_2_0 := cu hw1 (W.heap.size + 1 + 1) 0 0 (by go_simp)
  have fw1_2_0 := fq hw1 (W.heap.size + 1 + 1) 0 (.int .u64 0) (by go_simp) (by go_simp)
  have cw1_2_1 := cu hw1 (W.heap.size + 1 + 1) 1 0 (by go_simp)
  have fw1_2_1 := fq hw1 (W.heap.size + 1 + 1) 1 (.int .u64 0) (by go_simp) (by go_simp)
  have cw1_2_2 := cu hw1 (W.heap.size + 1 + 1) 2 0 (by go_simp)
  have fw1_2_2 := fq hw1 (W.heap.size + 1 + 1) 2 (.int .u64 0) (by go_simp) (by go_simp)
  have zw1_2 := zb cw1_2_0
  have gw1 : Gr W w1 := Gr.trans (by go_grown) hw1
  clear hw1
  go_wp2_with fail
  go_at_call 39
  refine ((H4.out _ _ _ true (by have gg := gw1; have gs := gg.size; go_grown) (by go_simp) nf_nil (by simp))).mono ?_
  rintro e w2 ⟨rfl, hw2⟩
  have cw2_1_0 := ci hw2 (W.heap.size + 1) 0 px (by go_simp)
  have cw2_1_1 := ci hw2 (W.heap.size + 1) 1 py (by go_simp)
  have cw2_2_0 := cu hw2 (W.heap.size + 1 + 1) 0 0 (by go_simp)
  have fw2_2_0 := fq hw2 (W.heap.size + 1 + 1) 0 (.int .u64 0) (by go_simp) (by go_simp)
  have cw2_2_1 := cu hw2 (W.heap.size + 1 + 1) 1 0 (by go_simp)
  have fw2_2_1 := fq hw2 (W.heap.size + 1 + 1) 1 (.int .u64 0) (by go_simp) (by go_simp)
  have cw2_2_2 := cu hw2 (W.heap.size + 1 + 1) 2 0 (by go_simp)
  have fw2_2_2 := fq hw2 (W.heap.size + 1 + 1) 2 (.int .u64 0) (by go_simp) (by go_simp)
  have gw2 : Gr W w2 := Gr.trans (by have gg := gw1; have gs := gg.size; go_grown) hw2
  clear hw2 gw1 zw1_1 cw1_1_0 cw1_1_1 zw1_2 cw1_2_0 fw1_2_0 cw1_2_1 fw1_2_1 cw1_2_2 fw1_2_2
  go_wp2_with fail
  go_at_call 45
  refine ((H2.out _)).mono ?_
  rintro e w3 ⟨rfl, hw3⟩
  have cw3_2_0 := cu hw3 (W.heap.size + 1 + 1) 0 0 (by go_simp)
  have fw3_2_0 := fq hw3 (W.heap.size + 1 + 1) 0 (.int .u64 0) (by go_simp) (by go_simp)
  have cw3_2_1 := cu hw3 (W.heap.size + 1 + 1) 1 0 (by go_simp)
  have fw3_2_1 := fq hw3 (W.heap.size + 1 + 1) 1 (.int .u64 0) (by go_simp) (by go_simp)
  have cw3_2_2 := cu hw3 (W.heap.size + 1 + 1) 2 0 (by go_simp)
  have fw3_2_2 := fq hw3 (W.heap.size + 1 + 1) 2 (.int .u64 0) (by go_simp) (by go_simp)
  have gw3 : Gr W w3 := Gr.trans (by have gg := gw2; have gs := gg.size; go_grown) hw3
  clear hw3 gw2 cw2_1_0 cw2_1_1 cw2_2_0 fw2_2_0 cw2_2_1 fw2_2_1 cw2_2_2 fw2_2_2
  go_wp2_with fail
  refine bodyPost_ret (v := .agg #[.int .u64 0, .int .u64 0, .int .u64 0]) (by simp [results, Tryz.results15, go_sem, *]) rfl ⟨rfl, by go_grown⟩
theorem c_DistG (px py : Int) (W : World) (hE : ErrT W) (h : Pts W v n X Y) :
    Calls Tryz.prog 15 #[.agg #[.int .i64 k, v], .agg #[.int .i64 px, .int .i64 py]] W fun e w' => e = .returned (dG (decide (objC k n X Y = 0) && nearB px py) (diA k n X Y px py)) ∧ Gr W w' := by
  have B1 : ∀ w, Gr W w → Calls Tryz.prog 34 #[.agg #[.int .i64 k, v]] w fun e w' => ∃ x, e = .returned x ∧ (NF x ∧ (x = .nilIface ↔ objC k n X Y = 0)) ∧ Gr w w' := fun w g => (c_relCheck k w (pts_gr h g)).mono (by
    rintro e w' ⟨x, rfl, hx, g'⟩
    exact ⟨x, rfl, werr_nf hx, g'⟩)
  have B4 : ∀ (w : World) (D : Nat) (x : Value) (q : Bool), Gr W w → w.cell? ⟨D, 0, none⟩ = some x → NF x → (q = true ↔ x = .nilIface) → Calls Tryz.prog 39 #[.slice (some ⟨D, 0, none⟩) 1 1] w fun e w' => e = .returned (.bool q) ∧ Gr w w' := fun w D x q g h0 n0 hq =>
    c_allowed (D := D) (n := 1) (cap := 1) (e := fun _ => x) w (errT_gr hE g) (by omega) (fun k hk => by match k, hk with | 0, _ => exact h0) (fun k hk => n0) (World.block_lt_of_cell? _ _ h0) (Nat.le_refl _) q (by
      rw [hq]
      exact ⟨fun a k _ => a, fun h => h 0 (by omega)⟩)
  by_cases hc : objC k n X Y = 0
  · rw [decide_eq_true hc, Bool.true_and]
    cases hp : nearB px py
    · have B2 := c_CheckPoint px py
      rw [hp, if_neg (by decide)] at B2
      obtain ⟨ad, cap, _, _, rfl, -⟩ := h
      exact dist_no2 ad cap px py W (fun w g => (B1 w g).mono (by
        rintro e w' ⟨x, rfl, ⟨-, hx⟩, g'⟩
        obtain rfl := hx.2 hc
        exact ⟨rfl, g'⟩)) B2 B4
    · exact c_DistAny px py W hE h hc hp
  · rw [decide_eq_false hc, Bool.false_and]
    obtain ⟨ad, cap, _, _, rfl, -⟩ := h
    exact dist_no1 ad cap px py W (fun w g => (B1 w g).mono (by
      rintro e w' ⟨x, rfl, ⟨hn, hx⟩, g'⟩
      rcases hn with rfl | ⟨B, rfl⟩
      · exact absurd (hx.1 rfl) hc
      · exact ⟨B, rfl, g'⟩)) B4
def bLx (k : Int) (n : Nat) (X : Nat → Int) : Int := if k = 4 then mnN X n else X 0
def bLy (k : Int) (n : Nat) (Y : Nat → Int) : Int := if k = 4 then mnN Y n else oLy k Y
def bHx (k : Int) (n : Nat) (X Y : Nat → Int) : Int := if k = 4 then mxN X n else oHx k X Y
def bHy (k : Int) (n : Nat) (Y : Nat → Int) : Int := if k = 4 then mxN Y n else oHy k Y
theorem c_frameAny (W : World) (h : Pts W v n X Y) (hc : objC k n X Y = 0) : Calls Tryz.prog 36 #[.agg #[.int .i64 k, v]] W fun e w' => e = .returned (.agg #[.int .i64 (bLx k n X), .int .i64 (bLy k n Y), .int .i64 (bHx k n X Y), .int .i64 (bHy k n Y)]) ∧ Gr W w' := by
  unfold bLx bLy bHx bHy
  by_cases k4 : k = 4
  · rw [if_pos k4, if_pos k4, if_pos k4, if_pos k4]
    subst k4
    rw [objC_4] at hc
    exact c_frame_4 W h (by have := (Rg.ringC_ok hc).1; omega)
  · rw [if_neg k4, if_neg k4, if_neg k4, if_neg k4]
    exact (bl_of h hc k4).1.2.2 W (Below.refl _ _)
set_option maxHeartbeats 4000000 in
set_option maxRecDepth 100000 in
theorem c_BoundsOk (W : World) (h : Pts W v n X Y) (hc : objC k n X Y = 0) : Calls Tryz.prog 10 #[.agg #[.int .i64 k, v]] W fun e w' => e = .returned (.tuple #[.agg #[.int .i64 (bLx k n X), .int .i64 (bLy k n Y), .int .i64 (bHx k n X Y), .int .i64 (bHy k n Y)], .nilIface]) ∧ Gr W w' := by
  have A1 : ∀ w, Gr W w → Calls Tryz.prog 34 #[.agg #[.int .i64 k, v]] w fun e w' => e = .returned .nilIface ∧ Gr w w' := fun w g => (c_relCheck k w (pts_gr h g)).mono (by
    rintro e w' ⟨x, rfl, hx, g'⟩
    rw [hc] at hx
    obtain rfl := (werr_nf hx).2.2 rfl
    exact ⟨rfl, g'⟩)
  have A2 := fun w (g : Gr W w) => c_frameAny w (pts_gr h g) hc
  generalize bLx k n X = m1 at A2 ⊢
  generalize bLy k n Y = m2 at A2 ⊢
  generalize bHx k n X Y = m3 at A2 ⊢
  generalize bHy k n Y = m4 at A2 ⊢
  obtain ⟨ad, cap, _, _, rfl, -⟩ := h
  have H1 := Lib.hid A1
  have H2 := Lib.hid A2
  clear A1 A2
  clear hc
  go_enter Tryz.func10, Tryz.ntmps10
  go_wp2_with fail
  go_at_call 34
  refine ((H1.out _ (by go_grown))).mono ?_
  rintro e w1 ⟨rfl, hw1⟩
  have cw1_0_0 := ci hw1 (W.heap.size) 0 k (by go_simp)
  have cw1_0_1 := cg hw1 (W.heap.size) 1 (.slice ad n cap) (by go_simp)
  have cw1_1_0 := ci hw1 (W.heap.size + 1) 0 0 (by go_simp)
  have fw1_1_0 := fq hw1 (W.heap.size + 1) 0 (.int .i64 0) (by go_simp) (by go_simp)
  have cw1_1_1 := ci hw1 (W.heap.size + 1) 1 0 (by go_simp)
  have fw1_1_1 := fq hw1 (W.heap.size + 1) 1 (.int .i64 0) (by go_simp) (by go_simp)
  have cw1_1_2 := ci hw1 (W.heap.size + 1) 2 0 (by go_simp)
  have fw1_1_2 := fq hw1 (W.heap.size + 1) 2 (.int .i64 0) (by go_simp) (by go_simp)
  have cw1_1_3 := ci hw1 (W.heap.size + 1) 3 0 (by go_simp)
  have fw1_1_3 := fq hw1 (W.heap.size + 1) 3 (.int .i64 0) (by go_simp) (by go_simp)
  have gw1 : Gr W w1 := Gr.trans (by go_grown) hw1
  clear hw1
  go_wp2_with fail
  go_at_call 36
  refine ((H2.out _ (by have gg := gw1; have gs := gg.size; go_grown))).mono ?_
  rintro e w2 ⟨rfl, hw2⟩
  have cw2_1_0 := ci hw2 (W.heap.size + 1) 0 0 (by go_simp)
  have fw2_1_0 := fq hw2 (W.heap.size + 1) 0 (.int .i64 0) (by go_simp) (by go_simp)
  have cw2_1_1 := ci hw2 (W.heap.size + 1) 1 0 (by go_simp)
  have fw2_1_1 := fq hw2 (W.heap.size + 1) 1 (.int .i64 0) (by go_simp) (by go_simp)
  have cw2_1_2 := ci hw2 (W.heap.size + 1) 2 0 (by go_simp)
  have fw2_1_2 := fq hw2 (W.heap.size + 1) 2 (.int .i64 0) (by go_simp) (by go_simp)
  have cw2_1_3 := ci hw2 (W.heap.size + 1) 3 0 (by go_simp)
  have fw2_1_3 := fq hw2 (W.heap.size + 1) 3 (.int .i64 0) (by go_simp) (by go_simp)
  have gw2 : Gr W w2 := Gr.trans (by have gg := gw1; have gs := gg.size; go_grown) hw2
  clear hw2 gw1 cw1_0_0 cw1_0_1 cw1_1_0 fw1_1_0 cw1_1_1 fw1_1_1 cw1_1_2 fw1_1_2 cw1_1_3 fw1_1_3
  have GS := gw2.size
  go_wp2_with fail
  refine bodyPost_ret (v := .tuple #[.agg #[.int .i64 m1, .int .i64 m2, .int .i64 m3, .int .i64 m4], .nilIface]) (by simp [results, Tryz.results10, go_sem, *]) rfl ⟨rfl, by go_grown⟩
def BdNo (W : World) (k : Int) (c : Nat) (e : Ending) (w' : World) : Prop := ∃ x, e = .returned (.tuple #[.agg #[.int .i64 0, .int .i64 0, .int .i64 0, .int .i64 0], x]) ∧ WErr objectS w' x k c ∧ Gr W w'
set_option maxHeartbeats 4000000 in
set_option maxRecDepth 100000 in
theorem c_BoundsNo (W : World) (h : Pts W v n X Y) (hc : objC k n X Y ≠ 0) : Calls Tryz.prog 10 #[.agg #[.int .i64 k, v]] W (BdNo W k (objC k n X Y)) := by
  have A1 : ∀ w, Gr W w → Calls Tryz.prog 34 #[.agg #[.int .i64 k, v]] w fun e w' => ∃ B, e = .returned (.iface 84 (.pointer (some ⟨B, 0, none⟩))) ∧ WErr objectS w' (.iface 84 (.pointer (some ⟨B, 0, none⟩))) k (objC k n X Y) ∧ Gr w w' := fun w g => (c_relCheck k w (pts_gr h g)).mono (by
    rintro e w' ⟨x, rfl, hx, g'⟩
    obtain ⟨hn, h0⟩ := werr_nf hx
    rcases hn with rfl | ⟨B, rfl⟩
    · exact absurd (h0.1 rfl) hc
    · exact ⟨B, rfl, hx, g'⟩)
  generalize objC k n X Y = c at A1 ⊢
  obtain ⟨ad, cap, _, _, rfl, -⟩ := h
  have H1 := Lib.hid A1
  clear A1
  clear hc
  go_enter Tryz.func10, Tryz.ntmps10
  go_wp2_with fail
  go_at_call 34
  refine (H1.out _ (by go_grown)).mono ?_
  rintro e w1 ⟨B5, rfl, hx, g1⟩
  have HX := Lib.hid hx
  have c20 := ci g1 (W.heap.size + 1) 0 0 (by go_simp)
  have c21 := ci g1 (W.heap.size + 1) 1 0 (by go_simp)
  have c22 := ci g1 (W.heap.size + 1) 2 0 (by go_simp)
  have c23 := ci g1 (W.heap.size + 1) 3 0 (by go_simp)
  have f20 := fq g1 (W.heap.size + 1) 0 (.int .i64 0) (by go_simp) (by go_simp)
  have f21 := fq g1 (W.heap.size + 1) 1 (.int .i64 0) (by go_simp) (by go_simp)
  have f22 := fq g1 (W.heap.size + 1) 2 (.int .i64 0) (by go_simp) (by go_simp)
  have f23 := fq g1 (W.heap.size + 1) 3 (.int .i64 0) (by go_simp) (by go_simp)
  have z2 := World.block_lt_of_cell? _ _ c20
  have gw1 : Gr W w1 := Gr.trans (by go_grown) g1
  have GS := gw1.size
  clear g1 hx
  go_wp2_with fail
  refine bodyPost_ret (v := .tuple #[.agg #[.int .i64 0, .int .i64 0, .int .i64 0, .int .i64 0], .iface 84 (.pointer (some ⟨B5, 0, none⟩))]) (by simp [results, Tryz.results10, go_sem, *]) rfl ⟨_, rfl, ?_, by go_grown⟩
  rw [setCell_id c20, setCell_id c21, setCell_id c22, setCell_id c23]
  exact HX.out
end
end Go.Proofs.YtfobmlgpjhghdaaGreatDoor
namespace Go.Proofs.YtfobmlgpjhghdaaGreatDoor
set_option linter.unusedVariables false
set_option linter.unusedSimpArgs false
section
variable {lx ly hx hy ax ay bx by' px py qx qy : Int}
theorem corner_lo (h : inP lx ly hx hy px py) : ∃ cx cy, (cx = lx ∨ cx = hx) ∧ (cy = ly ∨ cy = hy) ∧ cr ax ay bx by' cx cy ≤ cr ax ay bx by' px py := by
  have e : ∀ cx cy, cr ax ay bx by' cx cy = cr ax ay bx by' px py + (bx - ax) * (cy - py) - (by' - ay) * (cx - px) := fun cx cy => by unfold cr; grind
  unfold inP at h
  have h1 : ∃ cy, (cy = ly ∨ cy = hy) ∧ (bx - ax) * (cy - py) ≤ 0 := by
    by_cases g : 0 ≤ bx - ax
    · exact ⟨ly, Or.inl rfl, Int.mul_nonpos_of_nonneg_of_nonpos g (by omega)⟩
    · exact ⟨hy, Or.inr rfl, Int.mul_nonpos_of_nonpos_of_nonneg (by omega) (by omega)⟩
  have h2 : ∃ cx, (cx = lx ∨ cx = hx) ∧ 0 ≤ (by' - ay) * (cx - px) := by
    by_cases g : 0 ≤ by' - ay
    · exact ⟨hx, Or.inr rfl, Int.mul_nonneg g (by omega)⟩
    · exact ⟨lx, Or.inl rfl, Int.mul_nonneg_of_nonpos_of_nonpos (by omega) (by omega)⟩
  obtain ⟨cy, k1, k2⟩ := h1
  obtain ⟨cx, k3, k4⟩ := h2
  exact ⟨cx, cy, k3, k1, by rw [e]; omega⟩
theorem corner_hi (h : inP lx ly hx hy px py) : ∃ cx cy, (cx = lx ∨ cx = hx) ∧ (cy = ly ∨ cy = hy) ∧ cr ax ay bx by' px py ≤ cr ax ay bx by' cx cy := by
  obtain ⟨cx, cy, e1, e2, e3⟩ := corner_lo (ax := bx) (ay := by') (bx := ax) (by' := ay) h
  rw [cr_flip, cr_flip ax ay bx by' px py] at e3
  exact ⟨cx, cy, e1, e2, by omega⟩
def stP (lx ly hx hy ax ay bx by' : Int) : Prop := ovP lx ly hx hy ax ay bx by' ∧ ∃ px py qx qy, inP lx ly hx hy px py ∧ inP lx ly hx hy qx qy ∧ cr ax ay bx by' px py ≤ 0 ∧ 0 ≤ cr ax ay bx by' qx qy
theorem stP_flip (h : stP lx ly hx hy ax ay bx by') : stP lx ly hx hy bx by' ax ay := by
  obtain ⟨ho, p, q, r, s, h1, h2, h3, h4⟩ := h
  exact ⟨ovP_flip ho, r, s, p, q, h2, h1, by rw [cr_flip]; omega, by rw [cr_flip]; omega⟩
theorem cr_a (ax ay bx by' : Int) : cr ax ay bx by' ax ay = 0 := by unfold cr; grind
theorem stP_a (h : inP lx ly hx hy ax ay) : stP lx ly hx hy ax ay bx by' :=
  ⟨by unfold inP at h; unfold ovP; omega, ax, ay, ax, ay, h, h, by rw [cr_a]; omega, by rw [cr_a]; omega⟩
theorem stP_b (h : inP lx ly hx hy bx by') : stP lx ly hx hy ax ay bx by' := stP_flip (stP_a h)
theorem me_on1 (h : onF ax ay bx by' px py = true) : meF ax ay bx by' px py qx qy = true := by unfold meF enF; simp [h]
theorem me_on2 (h : onF ax ay bx by' qx qy = true) : meF ax ay bx by' px py qx qy = true := by unfold meF enF; simp [h]
theorem st_di (hb : lx ≤ hx ∧ ly ≤ hy) (h : stP lx ly hx hy ax ay bx by') (na : ¬ inP lx ly hx hy ax ay) (nb : ¬ inP lx ly hx hy bx by') : diF lx ly hx hy ax ay bx by' = true := by
  obtain ⟨ho, p, q, r, s, h1, h2, h3, h4⟩ := h
  obtain ⟨c1, c2, e1, e2, e3⟩ := corner_lo (ax := ax) (ay := ay) (bx := bx) (by' := by') h1
  obtain ⟨d1, d2, f1, f2, f3⟩ := corner_hi (ax := ax) (ay := ay) (bx := bx) (by' := by') h2
  have i0 : inP lx ly hx hy lx ly := by unfold inP; omega
  have i1 : inP lx ly hx hy hx ly := by unfold inP; omega
  have i2 : inP lx ly hx hy hx hy := by unfold inP; omega
  have i3 : inP lx ly hx hy lx hy := by unfold inP; omega
  have sum : cr ax ay bx by' lx ly + cr ax ay bx by' hx hy = cr ax ay bx by' hx ly + cr ax ay bx by' lx hy := by unfold cr; grind
  unfold diF
  rw [Bool.or_eq_true]
  by_cases A0 : cr ax ay bx by' lx ly = 0
  · exact Or.inl (me_on1 (on_line i0 ho na nb A0))
  by_cases C0 : cr ax ay bx by' hx hy = 0
  · exact Or.inl (me_on2 (on_line i2 ho na nb C0))
  by_cases D0 : cr ax ay bx by' lx hy = 0
  · exact Or.inr (me_on1 (on_line i3 ho na nb D0))
  by_cases B0 : cr ax ay bx by' hx ly = 0
  · exact Or.inr (me_on2 (on_line i1 ho na nb B0))
  by_cases s1 : (cr ax ay bx by' lx ly ≤ 0 ∧ 0 ≤ cr ax ay bx by' hx hy) ∨ (cr ax ay bx by' hx hy ≤ 0 ∧ 0 ≤ cr ax ay bx by' lx ly)
  · exact Or.inl (line_parts2 i0 i2 ho na nb s1 (by omega))
  · refine Or.inr (line_parts2 i3 i1 ho na nb ?_ ?_)
    · rcases e1 with rfl | rfl <;> rcases e2 with rfl | rfl <;> rcases f1 with rfl | rfl <;> rcases f2 with rfl | rfl <;> omega
    · rcases e1 with rfl | rfl <;> rcases e2 with rfl | rfl <;> rcases f1 with rfl | rfl <;> rcases f2 with rfl | rfl <;> omega
theorem me_parts (h : meF ax ay bx by' px py qx qy = true) (h1 : inP lx ly hx hy px py) (h2 : inP lx ly hx hy qx qy) : stP lx ly hx hy ax ay bx by' := by
  have o := me_opp h
  refine ⟨me_ov h h1 h2, ?_⟩
  by_cases c : cr ax ay bx by' px py ≤ 0 ∧ 0 ≤ cr ax ay bx by' qx qy
  · exact ⟨px, py, qx, qy, h1, h2, c.1, c.2⟩
  · exact ⟨qx, qy, px, py, h2, h1, by omega, by omega⟩
theorem mb_st (hb : lx ≤ hx ∧ ly ≤ hy) : mbF ax ay bx by' lx ly hx hy = true ↔ stP lx ly hx hy ax ay bx by' := by
  unfold mbF
  rw [Bool.and_eq_true, Bool.or_eq_true, Bool.or_eq_true, ovB_iff, inB_P, inB_P]
  constructor
  · rintro ⟨ho, (h | h) | h⟩
    · exact stP_a h
    · exact stP_b h
    · unfold diF at h
      rw [Bool.or_eq_true] at h
      rcases h with h | h
      · exact me_parts h (by unfold inP; omega) (by unfold inP; omega)
      · exact me_parts h (by unfold inP; omega) (by unfold inP; omega)
  · intro h
    refine ⟨h.1, ?_⟩
    by_cases na : inP lx ly hx hy ax ay
    · exact Or.inl (Or.inl na)
    by_cases nb : inP lx ly hx hy bx by'
    · exact Or.inl (Or.inr nb)
    exact Or.inr (st_di hb h na nb)
theorem up_l (h : ay < by') (h1 : ay ≤ py) (h2 : py ≤ by') (ha : px < ax) (hb : px < bx) : 0 < cr ax ay bx by' px py := by
  have e : cr ax ay bx by' px py = (bx - px) * (py - ay) + (ax - px) * (by' - py) := by unfold cr; grind
  rw [e]
  have k1 : 0 ≤ (bx - px) * (py - ay) := Int.mul_nonneg (by omega) (by omega)
  have k2 : 0 ≤ (ax - px) * (by' - py) := Int.mul_nonneg (by omega) (by omega)
  rcases (by omega : ay < py ∨ py < by') with g | g
  · have : 0 < (bx - px) * (py - ay) := Int.mul_pos (by omega) (by omega); omega
  · have : 0 < (ax - px) * (by' - py) := Int.mul_pos (by omega) (by omega); omega
theorem up_r (h : ay < by') (h1 : ay ≤ py) (h2 : py ≤ by') (ha : ax < px) (hb : bx < px) : cr ax ay bx by' px py < 0 := by
  have e : cr ax ay bx by' px py = -((px - bx) * (py - ay) + (px - ax) * (by' - py)) := by unfold cr; grind
  rw [e]
  have k1 : 0 ≤ (px - bx) * (py - ay) := Int.mul_nonneg (by omega) (by omega)
  have k2 : 0 ≤ (px - ax) * (by' - py) := Int.mul_nonneg (by omega) (by omega)
  rcases (by omega : ay < py ∨ py < by') with g | g
  · have : 0 < (px - bx) * (py - ay) := Int.mul_pos (by omega) (by omega); omega
  · have : 0 < (px - ax) * (by' - py) := Int.mul_pos (by omega) (by omega); omega
theorem ovR_up (h : ay ≤ by') : Rg.ovR ax ay bx by' px py = (decide (ay ≤ py ∧ py < by') && decide (0 < cr ax ay bx by' px py)) := by
  unfold Rg.ovR
  rw [if_neg (by omega)]
  by_cases c : ay ≤ py ∧ py < by'
  · rw [if_pos c, decide_eq_true c, Bool.true_and]
  · rw [if_neg c, decide_eq_false c, Bool.false_and]
theorem ovR_swap : Rg.ovR bx by' ax ay px py = Rg.ovR ax ay bx by' px py := by
  unfold Rg.ovR
  by_cases c : by' ≤ py ∧ py < ay
  · rw [if_neg (by omega), if_pos c, if_pos c]
  · rw [if_neg c]
    by_cases d : ay ≤ py ∧ py < by'
    · rw [if_pos d, if_neg c]
    · rw [if_neg d, if_neg c]
theorem bool_iff {a b : Bool} (h : a = true ↔ b = true) : a = b := by cases a <;> cases b <;> simp_all
end
def xorN (f : Nat → Bool) : Nat → Bool
  | 0 => false
  | k + 1 => xorN f k != f k
theorem xor_tel {n : Nat} {f g : Nat → Bool} (hn : 1 ≤ n) (h : ∀ i, i < n → f i = (g i != g (Rg.nx1 n i))) : xorN f n = false := by
  have part : ∀ k, k < n → xorN f k = (g 0 != g k) := by
    intro k
    induction k with
    | zero => intro _; simp [xorN]
    | succ k ih =>
      intro hk
      simp only [xorN]
      rw [ih (by omega), h k (by omega), show Rg.nx1 n k = k + 1 by unfold Rg.nx1; rw [if_neg (by omega)]]
      cases g 0 <;> cases g k <;> cases g (k + 1) <;> rfl
  obtain ⟨k, rfl⟩ : ∃ k, n = k + 1 := ⟨n - 1, by omega⟩
  simp only [xorN]
  rw [part k (by omega), h k (by omega), show Rg.nx1 (k + 1) k = 0 by unfold Rg.nx1; rw [if_pos rfl]]
  cases g 0 <;> cases g k <;> rfl
theorem od_xor (n : Nat) (X Y : Nat → Int) (px py : Int) : ∀ k, Rg.odN n X Y px py k = xorN (fun i => Rg.ovR (X i) (Y i) (X (Rg.nx1 n i)) (Y (Rg.nx1 n i)) px py) k := by
  intro k
  induction k with
  | zero => rfl
  | succ k ih => simp only [Rg.odN, xorN]; rw [ih]
section
variable {n : Nat} {X Y : Nat → Int} {lx ly hx hy px py qx qy : Int}
theorem mn_le (F : Nat → Int) : ∀ n k, k < n → mnN F n ≤ F k := by
  intro n
  induction n with
  | zero => intro k hk; omega
  | succ n ih =>
    intro k hk
    by_cases h : n = 0
    · rw [mnN_0 F h]; obtain rfl : k = n := by omega
      exact Int.le_refl _
    · rw [mnN_s F h]
      rcases (by omega : k < n ∨ k = n) with g | rfl
      · exact min_le'.2 (Or.inl (ih k g))
      · exact min_le'.2 (Or.inr (Int.le_refl _))
theorem le_mx (F : Nat → Int) : ∀ n k, k < n → F k ≤ mxN F n := by
  intro n
  induction n with
  | zero => intro k hk; omega
  | succ n ih =>
    intro k hk
    by_cases h : n = 0
    · rw [mxN_0 F h]; obtain rfl : k = n := by omega
      exact Int.le_refl _
    · rw [mxN_s F h]
      rcases (by omega : k < n ∨ k = n) with g | rfl
      · exact le_max.2 (Or.inl (ih k g))
      · exact le_max.2 (Or.inr (Int.le_refl _))
theorem nxl_of (hn : 1 ≤ n) {i : Nat} (hi : i < n) : Rg.nx1 n i < n := by unfold Rg.nx1; split <;> omega
theorem has_box (hn : 1 ≤ n) (h : Rg.hasN n X Y px py = true) : inP (mnN X n) (mnN Y n) (mxN X n) (mxN Y n) px py := by
  have bd : ∀ i, i < n → mnN X n ≤ X i ∧ X i ≤ mxN X n ∧ mnN Y n ≤ Y i ∧ Y i ≤ mxN Y n := fun i hi => ⟨mn_le X n i hi, le_mx X n i hi, mn_le Y n i hi, le_mx Y n i hi⟩
  unfold Rg.hasN at h
  rw [Bool.or_eq_true] at h
  unfold inP
  rcases h with h | h
  · obtain ⟨i, hi, h⟩ := (Rg.onN_iff n).1 h
    unfold onG at h
    rw [Bool.and_eq_true] at h
    have b := btw_iff.1 (onF_iff.1 h.2).1
    have b1 := bd i hi
    have b2 := bd _ (nxl_of hn hi)
    omega
  ·
    have some_edge : ∀ k, k ≤ n → Rg.odN n X Y px py k = true → ∃ i, i < n ∧ Rg.ovR (X i) (Y i) (X (Rg.nx1 n i)) (Y (Rg.nx1 n i)) px py = true := by
      intro k
      induction k with
      | zero => intro _ h; cases h
      | succ k ih =>
        intro hk h
        simp only [Rg.odN] at h
        cases e : Rg.ovR (X k) (Y k) (X (Rg.nx1 n k)) (Y (Rg.nx1 n k)) px py
        · rw [e] at h
          exact ih (by omega) (by simpa using h)
        · exact ⟨k, hk, e⟩
    obtain ⟨i, hi, hv⟩ := some_edge n (Nat.le_refl _) h
    have b1 := bd i hi
    have b2 := bd _ (nxl_of hn hi)
    have hl : mnN X n ≤ px := by
      rcases Int.lt_or_le px (mnN X n) with g | g
      · exfalso
        have : Rg.odN n X Y px py n = false := by
          rw [od_xor]
          refine xor_tel (g := fun i => decide (Y i ≤ py)) hn fun i hi => ?_
          have c1 := bd i hi
          have c2 := bd _ (nxl_of hn hi)
          have up : ∀ ax ay bx by' : Int, px < ax → px < bx → ay ≤ by' → Rg.ovR ax ay bx by' px py = (decide (ay ≤ py) != decide (by' ≤ py)) := fun ax ay bx by' h1 h2 h3 => by
            rw [ovR_up h3]
            by_cases c : ay ≤ py ∧ py < by'
            · rw [decide_eq_true c, decide_eq_true (up_l (by omega) c.1 (by omega) h1 h2), decide_eq_true c.1, decide_eq_false (p := by' ≤ py) (by omega)]; rfl
            · rw [decide_eq_false c]
              by_cases d : ay ≤ py
              · rw [decide_eq_true d, decide_eq_true (p := by' ≤ py) (by omega)]; rfl
              · rw [decide_eq_false d, decide_eq_false (p := by' ≤ py) (by omega)]; rfl
          by_cases hu : Y i ≤ Y (Rg.nx1 n i)
          · exact up _ _ _ _ (by omega) (by omega) hu
          · show Rg.ovR (X i) (Y i) (X (Rg.nx1 n i)) (Y (Rg.nx1 n i)) px py = _
            rw [← ovR_swap, up _ _ _ _ (by omega) (by omega) (by omega)]
            cases decide (Y i ≤ py) <;> cases decide (Y (Rg.nx1 n i) ≤ py) <;> rfl
        rw [this] at h; cases h
      · exact g
    have up : ∀ ax ay bx by' : Int, ay ≤ by' → Rg.ovR ax ay bx by' px py = true → ay ≤ py ∧ py < by' ∧ (px ≤ ax ∨ px ≤ bx) := fun ax ay bx by' h3 h => by
      rw [ovR_up h3, Bool.and_eq_true, decide_eq_true_eq, decide_eq_true_eq] at h
      refine ⟨h.1.1, h.1.2, ?_⟩
      rcases (by omega : (px ≤ ax ∨ px ≤ bx) ∨ (ax < px ∧ bx < px)) with g | g
      · exact g
      · have := up_r (px := px) (py := py) (by omega : ay < by') h.1.1 (by omega) g.1 g.2
        omega
    by_cases hu : Y i ≤ Y (Rg.nx1 n i)
    · have := up _ _ _ _ hu hv
      omega
    · rw [← ovR_swap] at hv
      have := up _ _ _ _ (by omega) hv
      omega
end
end Go.Proofs.YtfobmlgpjhghdaaGreatDoor
namespace Go.Proofs.YtfobmlgpjhghdaaGreatDoor
set_option linter.unusedVariables false
set_option linter.unusedSimpArgs false
theorem mbG_st {ax ay bx by' lx ly hx hy : Int} (ha : nearB ax ay = true) (hb' : nearB bx by' = true) (hb : boxB lx ly hx hy = true) : mbG ax ay bx by' lx ly hx hy = true ↔ stP lx ly hx hy ax ay bx by' := by
  unfold mbG
  rw [ha, hb', hb]
  simp only [Bool.true_and]
  exact mb_st (boxB_iff.1 hb).2
section
variable {n : Nat} {X Y : Nat → Int} {lx ly hx hy : Int}
theorem mbW_iff : mbW n X Y lx ly hx hy (List.range n) = true ↔ ∃ i, i < n ∧ mbG (X i) (Y i) (X (Rg.nx1 n i)) (Y (Rg.nx1 n i)) lx ly hx hy = true := by
  unfold mbW
  rw [List.any_eq_true]
  constructor
  · rintro ⟨i, hi, h⟩; exact ⟨i, List.mem_range.1 hi, h⟩
  · rintro ⟨i, hi, h⟩; exact ⟨i, List.mem_range.2 hi, h⟩
def rmD (n : Nat) (X Y : Nat → Int) (lx ly hx hy : Int) : Bool := Rg.hasN n X Y lx ly || mbW n X Y lx ly hx hy (List.range n)
theorem rmD_iff (h0 : (Rg.ringC n X Y).1 = 0) (hb : boxB lx ly hx hy = true) : rmD n X Y lx ly hx hy = true ↔ Rg.hasN n X Y lx ly = true ∨ ∃ i, i < n ∧ stP lx ly hx hy (X i) (Y i) (X (Rg.nx1 n i)) (Y (Rg.nx1 n i)) := by
  obtain ⟨h1, h2, -⟩ := Rg.ringC_ok h0
  unfold rmD
  rw [Bool.or_eq_true, mbW_iff]
  constructor
  · rintro (h | ⟨i, hi, h⟩)
    · exact Or.inl h
    · exact Or.inr ⟨i, hi, (mbG_st (h2 i hi) (h2 _ (nxl_of (by omega) hi)) hb).1 h⟩
  · rintro (h | ⟨i, hi, h⟩)
    · exact Or.inl h
    · exact Or.inr ⟨i, hi, (mbG_st (h2 i hi) (h2 _ (nxl_of (by omega) hi)) hb).2 h⟩
theorem bd_mm (n : Nat) (X Y : Nat → Int) (i : Nat) (hi : i < n) : mnN X n ≤ X i ∧ X i ≤ mxN X n ∧ mnN Y n ≤ Y i ∧ Y i ≤ mxN Y n := ⟨mn_le X n i hi, le_mx X n i hi, mn_le Y n i hi, le_mx Y n i hi⟩
theorem rmD_ov (h0 : (Rg.ringC n X Y).1 = 0) (hb : boxB lx ly hx hy = true) (h : rmD n X Y lx ly hx hy = true) : mnN X n ≤ hx ∧ lx ≤ mxN X n ∧ mnN Y n ≤ hy ∧ ly ≤ mxN Y n := by
  obtain ⟨h1, h2, -⟩ := Rg.ringC_ok h0
  have hl := (boxB_iff.1 hb).2
  rcases (rmD_iff h0 hb).1 h with g | ⟨i, hi, g⟩
  · have := has_box (by omega) g
    unfold inP at this
    omega
  · have b1 := bd_mm n X Y i hi
    have b2 := bd_mm n X Y _ (nxl_of (by omega) hi)
    have := g.1
    unfold ovP at this
    omega
theorem ring_box (h0 : (Rg.ringC n X Y).1 = 0) : boxB (mnN X n) (mnN Y n) (mxN X n) (mxN Y n) = true := by
  obtain ⟨h1, h2, -⟩ := Rg.ringC_ok h0
  exact near_box h2 (by omega)
theorem rm_doc (h0 : (Rg.ringC n X Y).1 = 0) (hb : boxB lx ly hx hy = true) : rmV n X Y lx ly hx hy = rmD n X Y lx ly hx hy := by
  have hn := (boxB_iff.1 hb).1.1
  have ov := rmD_ov h0 hb
  have rb := ring_box h0
  unfold rmV arM rmbV
  rw [rb, hb, hn]
  by_cases c : mnN X n ≤ hx ∧ lx ≤ mxN X n ∧ mnN Y n ≤ hy ∧ ly ≤ mxN Y n
  · rw [decide_eq_true c.1, decide_eq_true c.2.1, decide_eq_true c.2.2.1, decide_eq_true c.2.2.2]
    simp only [Bool.true_and]
    unfold rmD
    exact Bool.or_comm _ _
  · have e : rmD n X Y lx ly hx hy = false := by
      cases h : rmD n X Y lx ly hx hy
      · rfl
      · exact absurd (ov h) c
    rw [e]
    have : (decide (mnN X n ≤ hx) && decide (lx ≤ mxN X n) && decide (mnN Y n ≤ hy) && decide (ly ≤ mxN Y n)) = false := by
      rw [← Bool.not_eq_true]
      simp only [Bool.and_eq_true, decide_eq_true_eq, and_assoc]
      exact c
    simp only [Bool.true_and]
    rw [this]
    rfl
end
theorem emW_iff {n : Nat} {X Y : Nat → Int} {px py qx qy : Int} : emW n X Y px py qx qy (List.range n) = true ↔ ∃ i, i < n ∧ meG px py qx qy (X i) (Y i) (X (Rg.nx1 n i)) (Y (Rg.nx1 n i)) = true := by
  unfold emW
  rw [List.any_eq_true]
  constructor
  · rintro ⟨i, hi, h⟩; exact ⟨i, List.mem_range.1 hi, h⟩
  · rintro ⟨i, hi, h⟩; exact ⟨i, List.mem_range.2 hi, h⟩
def rgD (n : Nat) (X Y : Nat → Int) (m : Nat) (P Q : Nat → Int) : Bool :=
  Rg.hasN n X Y (P 0) (Q 0) || Rg.hasN m P Q (X 0) (Y 0) || (List.range n).any fun i => emW m P Q (X i) (Y i) (X (Rg.nx1 n i)) (Y (Rg.nx1 n i)) (List.range m)
section
variable {n m : Nat} {X Y P Q : Nat → Int}
theorem rgD_iff : rgD n X Y m P Q = true ↔ Rg.hasN n X Y (P 0) (Q 0) = true ∨ Rg.hasN m P Q (X 0) (Y 0) = true ∨ ∃ i k, i < n ∧ k < m ∧ meG (X i) (Y i) (X (Rg.nx1 n i)) (Y (Rg.nx1 n i)) (P k) (Q k) (P (Rg.nx1 m k)) (Q (Rg.nx1 m k)) = true := by
  unfold rgD
  rw [Bool.or_eq_true, Bool.or_eq_true, List.any_eq_true, or_assoc]
  constructor
  · rintro (h | h | ⟨i, hi, h⟩)
    · exact Or.inl h
    · exact Or.inr (Or.inl h)
    · obtain ⟨k, hk, h⟩ := emW_iff.1 h
      exact Or.inr (Or.inr ⟨i, k, List.mem_range.1 hi, hk, h⟩)
  · rintro (h | h | ⟨i, k, hi, hk, h⟩)
    · exact Or.inl h
    · exact Or.inr (Or.inl h)
    · exact Or.inr (Or.inr ⟨i, List.mem_range.2 hi, emW_iff.2 ⟨k, hk, h⟩⟩)
theorem meG_F {ax ay bx by' cx cy dx dy : Int} (h : meG ax ay bx by' cx cy dx dy = true) : meF ax ay bx by' cx cy dx dy = true := by
  unfold meG at h
  rw [Bool.and_eq_true] at h
  exact h.2
theorem rg_doc (h0 : (Rg.ringC n X Y).1 = 0) (h9 : (Rg.ringC m P Q).1 = 0) : rgV n X Y m P Q = rgD n X Y m P Q := by
  obtain ⟨h1, h2, -⟩ := Rg.ringC_ok h0
  obtain ⟨k1, k2, -⟩ := Rg.ringC_ok h9
  have rb := ring_box h0
  have rc := ring_box h9
  have hbb := (boxB_iff.1 rc).2
  have edge : ∀ i k, i < n → k < m → meG (X i) (Y i) (X (Rg.nx1 n i)) (Y (Rg.nx1 n i)) (P k) (Q k) (P (Rg.nx1 m k)) (Q (Rg.nx1 m k)) = true → mbG (X i) (Y i) (X (Rg.nx1 n i)) (Y (Rg.nx1 n i)) (mnN P m) (mnN Q m) (mxN P m) (mxN Q m) = true := fun i k hi hk h => by
    rw [mbG_st (h2 i hi) (h2 _ (nxl_of (by omega) hi)) rc]
    have c1 := bd_mm m P Q k hk
    have c2 := bd_mm m P Q _ (nxl_of (by omega) hk)
    exact me_parts (meG_F h) (by unfold inP; omega) (by unfold inP; omega)
  have e1 : rmW n X Y m P Q (mnN P m) (mnN Q m) (mxN P m) (mxN Q m) (List.range n) = (List.range n).any fun i => emW m P Q (X i) (Y i) (X (Rg.nx1 n i)) (Y (Rg.nx1 n i)) (List.range m) := by
    unfold rmW rmE
    refine bool_iff ?_
    rw [List.any_eq_true, List.any_eq_true]
    constructor
    · rintro ⟨i, hi, h⟩
      rw [Bool.and_eq_true] at h
      exact ⟨i, hi, h.2⟩
    · rintro ⟨i, hi, h⟩
      obtain ⟨k, hk, g⟩ := emW_iff.1 h
      exact ⟨i, hi, by rw [Bool.and_eq_true]; exact ⟨edge i k (List.mem_range.1 hi) hk g, h⟩⟩
  unfold rgV
  rw [e1, h2 0 (by omega), k2 0 (by omega)]
  simp only [Bool.true_and]
  have e2 : ((List.range n).any (fun i => emW m P Q (X i) (Y i) (X (Rg.nx1 n i)) (Y (Rg.nx1 n i)) (List.range m)) || (Rg.hasN n X Y (P 0) (Q 0) || Rg.hasN m P Q (X 0) (Y 0))) = rgD n X Y m P Q := by
    unfold rgD
    rw [Bool.or_comm]
  rw [e2]
  unfold arM
  rw [rb, rc]
  by_cases c : mnN X n ≤ mxN P m ∧ mnN P m ≤ mxN X n ∧ mnN Y n ≤ mxN Q m ∧ mnN Q m ≤ mxN Y n
  · rw [decide_eq_true c.1, decide_eq_true c.2.1, decide_eq_true c.2.2.1, decide_eq_true c.2.2.2]
    rfl
  · have e : rgD n X Y m P Q = false := by
      cases h : rgD n X Y m P Q
      · rfl
      · exfalso
        have p0 := bd_mm m P Q 0 (by omega)
        have x0 := bd_mm n X Y 0 (by omega)
        rcases rgD_iff.1 h with g | g | ⟨i, k, hi, hk, g⟩
        · have := has_box (by omega) g
          unfold inP at this
          omega
        · have := has_box (by omega) g
          unfold inP at this
          omega
        · have := me_ap (meG_F g)
          unfold apF at this
          simp only [Bool.or_eq_false_iff, decide_eq_false_iff_not, max_lt, lt_min] at this
          have c1 := bd_mm m P Q k hk
          have c2 := bd_mm m P Q _ (nxl_of (by omega) hk)
          have d1 := bd_mm n X Y i hi
          have d2 := bd_mm n X Y _ (nxl_of (by omega) hi)
          omega
    rw [e, Bool.and_false]
end
end Go.Proofs.YtfobmlgpjhghdaaGreatDoor
