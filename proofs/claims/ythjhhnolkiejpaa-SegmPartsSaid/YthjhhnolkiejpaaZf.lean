/- what the document fixes of segments; SegmEven -/
import Derived.Test.YthjhhnolkiejpaaZe
import Derived.Test.YthjhhnolkiejpaaZb
namespace Go.Proofs.Ythjhhnolkiejpaa
set_option linter.unusedVariables false
open Go.ChangeShapes Go.WideShapes Go.ChangeAt Go.RowKit

theorem s4_Meet (w : World) : Calls Try.prog 24 #[.agg #[.int .i64 0, .int .i64 0], .agg #[.int .i64 2, .int .i64 2], .agg #[.int .i64 0, .int .i64 2], .agg #[.int .i64 2, .int .i64 0]] w fun e w' => e = .returned (.bool true) ∧ Gr w w' := c_gMeet 0 0 2 2 0 2 2 0 w
theorem s4_Dist (w : World) : Calls Try.prog 30 #[.agg #[.int .i64 0, .int .i64 0], .agg #[.int .i64 1, .int .i64 1], .agg #[.int .i64 0, .int .i64 1]] w fun e w' => e = .returned (.agg #[.int .u64 0, .int .u64 1, .int .u64 2]) ∧ Gr w w' := c_gDist 0 0 1 1 0 1 rfl w
theorem s4_On (w : World) : Calls Try.prog 22 #[.agg #[.int .i64 0, .int .i64 0], .agg #[.int .i64 4, .int .i64 0], .agg #[.int .i64 3, .int .i64 0]] w fun e w' => e = .returned (.bool true) ∧ Gr w w' := c_gOn 0 0 4 0 3 0 w
set_option maxHeartbeats 1000000 in
theorem s4_awake (W : World) : Calls Try.prog 32 #[] W fun e w' => e = .returned (.bool true) ∧ Gr W w' := by
  have H1 := Lib.hid s4_Meet
  have H2 := Lib.hid s4_Dist
  have H3 := Lib.hid s4_On
  go_enter Try.func32, Try.ntmps32
  go_wp2_with fail
  go_at_call 24
  refine ((H1.out _)).mono ?_
  rintro e w1 ⟨rfl, hw1⟩
  have cw1_0_0 : w1.cell? ⟨W.heap.size, 0, none⟩ = some (.int .i64 0) := cell_gr hw1 (by go_simp)
  have cw1_0_1 : w1.cell? ⟨W.heap.size, 1, none⟩ = some (.int .i64 0) := cell_gr hw1 (by go_simp)
  have zw1_0 : W.heap.size < w1.heap.size := World.block_lt_of_cell? _ _ cw1_0_0
  have gw1 : Gr W w1 := Gr.trans (by go_grown) hw1
  clear hw1
  go_wp2_with fail
  go_at_call 30
  refine ((H2.out _)).mono ?_
  rintro e w2 ⟨rfl, hw2⟩
  have cw2_0_0 : w2.cell? ⟨W.heap.size, 0, none⟩ = some (.int .i64 0) := cell_gr hw2 (by go_simp)
  have cw2_0_1 : w2.cell? ⟨W.heap.size, 1, none⟩ = some (.int .i64 0) := cell_gr hw2 (by go_simp)
  have zw2_0 : W.heap.size < w2.heap.size := World.block_lt_of_cell? _ _ cw2_0_0
  have gw2 : Gr W w2 := Gr.trans (by have gg := gw1; have gs := gg.size; go_grown) hw2
  clear hw2 gw1 zw1_0 cw1_0_0 cw1_0_1
  go_wp2_with fail
  go_at_call 22
  refine ((H3.out _)).mono ?_
  rintro e w3 ⟨rfl, hw3⟩
  have cw3_0_0 : w3.cell? ⟨W.heap.size, 0, none⟩ = some (.int .i64 0) := cell_gr hw3 (by go_simp)
  have cw3_0_1 : w3.cell? ⟨W.heap.size, 1, none⟩ = some (.int .i64 0) := cell_gr hw3 (by go_simp)
  have zw3_0 : W.heap.size < w3.heap.size := World.block_lt_of_cell? _ _ cw3_0_0
  have gw3 : Gr W w3 := Gr.trans (by have gg := gw2; have gs := gg.size; go_grown) hw3
  clear hw3 gw2 zw2_0 cw2_0_0 cw2_0_1
  go_wp2_with fail
  go_ret
  exact ⟨rfl, by go_grown⟩

set_option maxHeartbeats 4000000 in
set_option maxRecDepth 100000 in
theorem even_core (ax ay bx by' cx cy dx dy h l d : Int) (x y o : Bool) (W : World) (hc : (y = false) ∨ (y = true ∧ x = true))
    (A1 : ∀ w, Calls Try.prog 24 #[.agg #[.int .i64 ax, .int .i64 ay], .agg #[.int .i64 bx, .int .i64 by'], .agg #[.int .i64 cx, .int .i64 cy], .agg #[.int .i64 dx, .int .i64 dy]] w fun e w' => e = .returned (.bool x) ∧ Gr w w')
    (A2 : ∀ w, Calls Try.prog 26 #[.agg #[.int .i64 ax, .int .i64 ay], .agg #[.int .i64 bx, .int .i64 by'], .agg #[.int .i64 cx, .int .i64 cy], .agg #[.int .i64 dx, .int .i64 dy]] w fun e w' => e = .returned (.bool y) ∧ Gr w w')
    (A3 : ∀ w, Calls Try.prog 24 #[.agg #[.int .i64 cx, .int .i64 cy], .agg #[.int .i64 dx, .int .i64 dy], .agg #[.int .i64 ax, .int .i64 ay], .agg #[.int .i64 bx, .int .i64 by']] w fun e w' => e = .returned (.bool x) ∧ Gr w w')
    (A4 : ∀ w, Calls Try.prog 24 #[.agg #[.int .i64 bx, .int .i64 by'], .agg #[.int .i64 ax, .int .i64 ay], .agg #[.int .i64 cx, .int .i64 cy], .agg #[.int .i64 dx, .int .i64 dy]] w fun e w' => e = .returned (.bool x) ∧ Gr w w')
    (A5 : ∀ w, Calls Try.prog 24 #[.agg #[.int .i64 ax, .int .i64 ay], .agg #[.int .i64 bx, .int .i64 by'], .agg #[.int .i64 dx, .int .i64 dy], .agg #[.int .i64 cx, .int .i64 cy]] w fun e w' => e = .returned (.bool x) ∧ Gr w w')
    (A6 : ∀ w, Calls Try.prog 26 #[.agg #[.int .i64 cx, .int .i64 cy], .agg #[.int .i64 dx, .int .i64 dy], .agg #[.int .i64 bx, .int .i64 by'], .agg #[.int .i64 ax, .int .i64 ay]] w fun e w' => e = .returned (.bool y) ∧ Gr w w')
    (A7 : ∀ w, Calls Try.prog 22 #[.agg #[.int .i64 ax, .int .i64 ay], .agg #[.int .i64 bx, .int .i64 by'], .agg #[.int .i64 cx, .int .i64 cy]] w fun e w' => e = .returned (.bool o) ∧ Gr w w')
    (A8 : ∀ w, Calls Try.prog 22 #[.agg #[.int .i64 bx, .int .i64 by'], .agg #[.int .i64 ax, .int .i64 ay], .agg #[.int .i64 cx, .int .i64 cy]] w fun e w' => e = .returned (.bool o) ∧ Gr w w')
    (A9 : ∀ w, Calls Try.prog 30 #[.agg #[.int .i64 ax, .int .i64 ay], .agg #[.int .i64 bx, .int .i64 by'], .agg #[.int .i64 cx, .int .i64 cy]] w fun e w' => e = .returned (.agg #[.int .u64 h, .int .u64 l, .int .u64 d]) ∧ Gr w w')
    (A0 : ∀ w, Calls Try.prog 30 #[.agg #[.int .i64 bx, .int .i64 by'], .agg #[.int .i64 ax, .int .i64 ay], .agg #[.int .i64 cx, .int .i64 cy]] w fun e w' => e = .returned (.agg #[.int .u64 h, .int .u64 l, .int .u64 d]) ∧ Gr w w') :
    Calls Try.prog 5 #[.agg #[.int .i64 ax, .int .i64 ay], .agg #[.int .i64 bx, .int .i64 by'], .agg #[.int .i64 cx, .int .i64 cy], .agg #[.int .i64 dx, .int .i64 dy]] W fun e w' => e = .returned (.bool true) ∧ Gr W w' := by
  have H1 := Lib.hid A1
  have H2 := Lib.hid A2
  have H3 := Lib.hid A3
  have H4 := Lib.hid A4
  have H5 := Lib.hid A5
  have H6 := Lib.hid A6
  have H7 := Lib.hid A7
  have H8 := Lib.hid A8
  have H9 := Lib.hid A9
  have H0 := Lib.hid A0
  clear A1 A2 A3 A4 A5 A6 A7 A8 A9 A0
  rcases hc with rfl | ⟨rfl, rfl⟩
  all_goals
    go_enter Try.func5, Try.ntmps5
    go_wp2_with fail
    go_at_call 24
    refine ((H1.out _)).mono ?_
    rintro e w1 ⟨rfl, hw1⟩
    have cw1_0_0 : w1.cell? ⟨W.heap.size, 0, none⟩ = some (.int .i64 ax) := cell_gr hw1 (by go_simp)
    have cw1_0_1 : w1.cell? ⟨W.heap.size, 1, none⟩ = some (.int .i64 ay) := cell_gr hw1 (by go_simp)
    have zw1_0 : W.heap.size < w1.heap.size := World.block_lt_of_cell? _ _ cw1_0_0
    have cw1_1_0 : w1.cell? ⟨W.heap.size + 1, 0, none⟩ = some (.int .i64 bx) := cell_gr hw1 (by go_simp)
    have cw1_1_1 : w1.cell? ⟨W.heap.size + 1, 1, none⟩ = some (.int .i64 by') := cell_gr hw1 (by go_simp)
    have zw1_1 : W.heap.size + 1 < w1.heap.size := World.block_lt_of_cell? _ _ cw1_1_0
    have cw1_2_0 : w1.cell? ⟨W.heap.size + 1 + 1, 0, none⟩ = some (.int .i64 cx) := cell_gr hw1 (by go_simp)
    have cw1_2_1 : w1.cell? ⟨W.heap.size + 1 + 1, 1, none⟩ = some (.int .i64 cy) := cell_gr hw1 (by go_simp)
    have zw1_2 : W.heap.size + 1 + 1 < w1.heap.size := World.block_lt_of_cell? _ _ cw1_2_0
    have cw1_3_0 : w1.cell? ⟨W.heap.size + 1 + 1 + 1, 0, none⟩ = some (.int .i64 dx) := cell_gr hw1 (by go_simp)
    have cw1_3_1 : w1.cell? ⟨W.heap.size + 1 + 1 + 1, 1, none⟩ = some (.int .i64 dy) := cell_gr hw1 (by go_simp)
    have zw1_3 : W.heap.size + 1 + 1 + 1 < w1.heap.size := World.block_lt_of_cell? _ _ cw1_3_0
    have gw1 : Gr W w1 := Gr.trans (by go_grown) hw1
    clear hw1
    go_wp2_with fail
    go_at_call 26
    refine ((H2.out _)).mono ?_
    rintro e w2 ⟨rfl, hw2⟩
    have cw2_0_0 : w2.cell? ⟨W.heap.size, 0, none⟩ = some (.int .i64 ax) := cell_gr hw2 (by go_simp)
    have cw2_0_1 : w2.cell? ⟨W.heap.size, 1, none⟩ = some (.int .i64 ay) := cell_gr hw2 (by go_simp)
    have zw2_0 : W.heap.size < w2.heap.size := World.block_lt_of_cell? _ _ cw2_0_0
    have cw2_1_0 : w2.cell? ⟨W.heap.size + 1, 0, none⟩ = some (.int .i64 bx) := cell_gr hw2 (by go_simp)
    have cw2_1_1 : w2.cell? ⟨W.heap.size + 1, 1, none⟩ = some (.int .i64 by') := cell_gr hw2 (by go_simp)
    have zw2_1 : W.heap.size + 1 < w2.heap.size := World.block_lt_of_cell? _ _ cw2_1_0
    have cw2_2_0 : w2.cell? ⟨W.heap.size + 1 + 1, 0, none⟩ = some (.int .i64 cx) := cell_gr hw2 (by go_simp)
    have cw2_2_1 : w2.cell? ⟨W.heap.size + 1 + 1, 1, none⟩ = some (.int .i64 cy) := cell_gr hw2 (by go_simp)
    have zw2_2 : W.heap.size + 1 + 1 < w2.heap.size := World.block_lt_of_cell? _ _ cw2_2_0
    have cw2_3_0 : w2.cell? ⟨W.heap.size + 1 + 1 + 1, 0, none⟩ = some (.int .i64 dx) := cell_gr hw2 (by go_simp)
    have cw2_3_1 : w2.cell? ⟨W.heap.size + 1 + 1 + 1, 1, none⟩ = some (.int .i64 dy) := cell_gr hw2 (by go_simp)
    have zw2_3 : W.heap.size + 1 + 1 + 1 < w2.heap.size := World.block_lt_of_cell? _ _ cw2_3_0
    have gw2 : Gr W w2 := Gr.trans (by have gg := gw1; have gs := gg.size; go_grown) hw2
    clear hw2 gw1 zw1_0 cw1_0_0 cw1_0_1 zw1_1 cw1_1_0 cw1_1_1 zw1_2 cw1_2_0 cw1_2_1 zw1_3 cw1_3_0 cw1_3_1
    go_wp2_with fail
    refine wp_region_spread (by kernel_rfl) (by kernel_rfl) ?_
    try simp only [List.append]
    repeat (first | go_big_quiet_skip | (go_big_quiet_want; go_big_quiet_op; (first | go_big_quiet_on | (apply Exists.intro; refine ⟨fun _ => ?_, ?_⟩; (· (first | (go_at_call 24; first | ((with_reducible refine ((H3.out _)).mono ?_); rintro e w' ⟨rfl, hg⟩; exact ⟨rfl, spread_gr hg⟩) | ((with_reducible refine ((H4.out _)).mono ?_); rintro e w' ⟨rfl, hg⟩; exact ⟨rfl, spread_gr hg⟩) | ((with_reducible refine ((H5.out _)).mono ?_); rintro e w' ⟨rfl, hg⟩; exact ⟨rfl, spread_gr hg⟩)) | (go_at_call 26; first | ((with_reducible refine ((H6.out _)).mono ?_); rintro e w' ⟨rfl, hg⟩; exact ⟨rfl, spread_gr hg⟩)) | (go_at_call 22; first | ((with_reducible refine ((H7.out _)).mono ?_); rintro e w' ⟨rfl, hg⟩; exact ⟨rfl, spread_gr hg⟩) | ((with_reducible refine ((H8.out _)).mono ?_); rintro e w' ⟨rfl, hg⟩; exact ⟨rfl, spread_gr hg⟩)) | (go_at_call 30; first | ((with_reducible refine ((H9.out _)).mono ?_); rintro e w' ⟨rfl, hg⟩; exact ⟨rfl, spread_gr hg⟩) | ((with_reducible refine ((H0.out _)).mono ?_); rintro e w' ⟨rfl, hg⟩; exact ⟨rfl, spread_gr hg⟩)) | (go_at_call 32; first | ((with_reducible refine ((s4_awake _)).mono ?_); rintro e w' ⟨rfl, hg⟩; exact ⟨rfl, spread_gr hg⟩)))); go_big_quiet_on))))
    refine wpQuiet_nil ?_
    intro wr hr
    obtain ⟨mr, rfl⟩ := hr
    go_wp2_with fail
    go_ret
    exact ⟨rfl, Gr.trans (by have gg := gw2; have gs := gg.size; go_grown) (gr_spread _ _)⟩
theorem all4_swap (ax ay bx by' cx cy dx dy : Int) : all4 cx cy dx dy ax ay bx by' = all4 ax ay bx by' cx cy dx dy := by unfold all4; cases nearB ax ay <;> cases nearB bx by' <;> cases nearB cx cy <;> cases nearB dx dy <;> rfl
theorem all4_flip (ax ay bx by' cx cy dx dy : Int) : all4 bx by' ax ay cx cy dx dy = all4 ax ay bx by' cx cy dx dy := by unfold all4; cases nearB ax ay <;> cases nearB bx by' <;> cases nearB cx cy <;> cases nearB dx dy <;> rfl
theorem all4_flip2 (ax ay bx by' cx cy dx dy : Int) : all4 ax ay bx by' dx dy cx cy = all4 ax ay bx by' cx cy dx dy := by unfold all4; cases nearB ax ay <;> cases nearB bx by' <;> cases nearB cx cy <;> cases nearB dx dy <;> rfl
theorem onG_flip (ax ay bx by' px py : Int) : onG bx by' ax ay px py = onG ax ay bx by' px py := by
  unfold onG
  rw [onF_flip]
  cases nearB ax ay <;> cases nearB bx by' <;> cases nearB px py <;> rfl
/-- Dist's answer, of any points. -/
theorem c_gDistAny (ax ay bx by' px py : Int) : ∃ h l d : Int, (∀ w, Calls Try.prog 30 #[.agg #[.int .i64 ax, .int .i64 ay], .agg #[.int .i64 bx, .int .i64 by'], .agg #[.int .i64 px, .int .i64 py]] w fun e w' => e = .returned (.agg #[.int .u64 h, .int .u64 l, .int .u64 d]) ∧ Gr w w') ∧ (∀ w, Calls Try.prog 30 #[.agg #[.int .i64 bx, .int .i64 by'], .agg #[.int .i64 ax, .int .i64 ay], .agg #[.int .i64 px, .int .i64 py]] w fun e w' => e = .returned (.agg #[.int .u64 h, .int .u64 l, .int .u64 d]) ∧ Gr w w') := by
  cases h : (nearB ax ay && nearB bx by' && nearB px py)
  · refine ⟨0, 0, 0, c_gDist_no ax ay bx by' px py h, c_gDist_no bx by' ax ay px py ?_⟩
    rw [← h]
    cases nearB ax ay <;> cases nearB bx by' <;> cases nearB px py <;> rfl
  · have h2 : (nearB bx by' && nearB ax ay && nearB px py) = true := by
      rw [← h]
      cases nearB ax ay <;> cases nearB bx by' <;> cases nearB px py <;> rfl
    have g := c_gDist bx by' ax ay px py h2
    have f := sd_flip ax ay bx by' px py
    unfold dsH dsL at g
    rw [f.1, f.2] at g
    exact ⟨_, _, _, c_gDist ax ay bx by' px py h, g⟩
theorem walk_SegmEven (ax ay bx by' cx cy dx dy : Int) (h1 : (-9223372036854775808 ≤ ax ∧ ax ≤ 9223372036854775807) ∧ (-9223372036854775808 ≤ ay ∧ ay ≤ 9223372036854775807)) (h2 : (-9223372036854775808 ≤ bx ∧ bx ≤ 9223372036854775807) ∧ (-9223372036854775808 ≤ by' ∧ by' ≤ 9223372036854775807)) (h3 : (-9223372036854775808 ≤ cx ∧ cx ≤ 9223372036854775807) ∧ (-9223372036854775808 ≤ cy ∧ cy ≤ 9223372036854775807)) (h4 : (-9223372036854775808 ≤ dx ∧ dx ≤ 9223372036854775807) ∧ (-9223372036854775808 ≤ dy ∧ dy ≤ 9223372036854775807)) (W : World) :
    Calls Try.prog 5 #[.agg #[.int .i64 ax, .int .i64 ay], .agg #[.int .i64 bx, .int .i64 by'], .agg #[.int .i64 cx, .int .i64 cy], .agg #[.int .i64 dx, .int .i64 dy]] W fun e w' => e = .returned (.bool true) ∧ Gr W w' := by
  obtain ⟨h, l, d, D1, D2⟩ := c_gDistAny ax ay bx by' cx cy
  have M1 := c_gMeet ax ay bx by' cx cy dx dy
  have M2 := c_gMeet cx cy dx dy ax ay bx by'
  have M3 := c_gMeet bx by' ax ay cx cy dx dy
  have M4 := c_gMeet ax ay bx by' dx dy cx cy
  have P1 := c_gProper ax ay bx by' cx cy dx dy
  have P2 := c_gProper cx cy dx dy bx by' ax ay
  have O1 := c_gOn ax ay bx by' cx cy
  have O2 := c_gOn bx by' ax ay cx cy
  rw [show meG cx cy dx dy ax ay bx by' = meG ax ay bx by' cx cy dx dy by unfold meG; rw [all4_swap, meF_swap]] at M2
  rw [show meG bx by' ax ay cx cy dx dy = meG ax ay bx by' cx cy dx dy by unfold meG; rw [all4_flip, meF_flip]] at M3
  rw [show meG ax ay bx by' dx dy cx cy = meG ax ay bx by' cx cy dx dy by unfold meG; rw [all4_flip2, meF_flip2]] at M4
  rw [show prG cx cy dx dy bx by' ax ay = prG ax ay bx by' cx cy dx dy by unfold prG; rw [prF_swap, all4_flip2, all4_swap]] at P2
  rw [onG_flip] at O2
  refine even_core ax ay bx by' cx cy dx dy h l d _ _ _ W ?_ M1 P1 M2 M3 M4 P2 O1 O2 D1 D2
  cases hp : prG ax ay bx by' cx cy dx dy
  · exact Or.inl rfl
  · refine Or.inr ⟨rfl, ?_⟩
    unfold prG at hp
    unfold meG meF
    rw [Bool.and_eq_true] at hp
    rw [hp.1, hp.2]
    rfl
end Go.Proofs.Ythjhhnolkiejpaa
