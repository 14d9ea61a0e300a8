/- SegmAsks -/
import Derived.Test.YthjhhnolkiejpaaZp
namespace Go.Proofs.Ythjhhnolkiejpaa
set_option linter.unusedVariables false
open Go.ChangeShapes Go.WideShapes Go.ChangeAt Go.RowKit

set_option maxHeartbeats 4000000 in
set_option maxRecDepth 100000 in
theorem asks_core (ax ay bx by' cx cy dx dy lx ly hx hy h l dd : Int) (on me pr mb : Bool) (W : World)
    (A1 : ∀ w, Calls Try.prog 22 #[.agg #[.int .i64 ax, .int .i64 ay], .agg #[.int .i64 bx, .int .i64 by'], .agg #[.int .i64 cx, .int .i64 cy]] w fun e w' => e = .returned (.bool on) ∧ Gr w w')
    (A2 : ∀ w, Calls Try.prog 23 #[.agg #[.int .i64 ax, .int .i64 ay], .agg #[.int .i64 bx, .int .i64 by'], .agg #[.int .i64 cx, .int .i64 cy]] w fun e w' => e = .returned (.bool on) ∧ Gr w w')
    (A3 : ∀ w, Calls Try.prog 24 #[.agg #[.int .i64 ax, .int .i64 ay], .agg #[.int .i64 bx, .int .i64 by'], .agg #[.int .i64 cx, .int .i64 cy], .agg #[.int .i64 dx, .int .i64 dy]] w fun e w' => e = .returned (.bool me) ∧ Gr w w')
    (A4 : ∀ w, Calls Try.prog 25 #[.agg #[.int .i64 ax, .int .i64 ay], .agg #[.int .i64 bx, .int .i64 by'], .agg #[.int .i64 cx, .int .i64 cy], .agg #[.int .i64 dx, .int .i64 dy]] w fun e w' => e = .returned (.bool me) ∧ Gr w w')
    (A5 : ∀ w, Calls Try.prog 26 #[.agg #[.int .i64 ax, .int .i64 ay], .agg #[.int .i64 bx, .int .i64 by'], .agg #[.int .i64 cx, .int .i64 cy], .agg #[.int .i64 dx, .int .i64 dy]] w fun e w' => e = .returned (.bool pr) ∧ Gr w w')
    (A6 : ∀ w, Calls Try.prog 27 #[.agg #[.int .i64 ax, .int .i64 ay], .agg #[.int .i64 bx, .int .i64 by'], .agg #[.int .i64 cx, .int .i64 cy], .agg #[.int .i64 dx, .int .i64 dy]] w fun e w' => e = .returned (.bool pr) ∧ Gr w w')
    (A7 : ∀ w, Calls Try.prog 28 #[.agg #[.int .i64 ax, .int .i64 ay], .agg #[.int .i64 bx, .int .i64 by'], .agg #[.int .i64 lx, .int .i64 ly, .int .i64 hx, .int .i64 hy]] w fun e w' => e = .returned (.bool mb) ∧ Gr w w')
    (A8 : ∀ w, Calls Try.prog 29 #[.agg #[.int .i64 ax, .int .i64 ay], .agg #[.int .i64 bx, .int .i64 by'], .agg #[.int .i64 lx, .int .i64 ly, .int .i64 hx, .int .i64 hy]] w fun e w' => e = .returned (.bool mb) ∧ Gr w w')
    (A9 : ∀ w, Calls Try.prog 30 #[.agg #[.int .i64 ax, .int .i64 ay], .agg #[.int .i64 bx, .int .i64 by'], .agg #[.int .i64 cx, .int .i64 cy]] w fun e w' => e = .returned (.agg #[.int .u64 h, .int .u64 l, .int .u64 dd]) ∧ Gr w w')
    (A0 : ∀ w, Calls Try.prog 31 #[.agg #[.int .i64 ax, .int .i64 ay], .agg #[.int .i64 bx, .int .i64 by'], .agg #[.int .i64 cx, .int .i64 cy]] w fun e w' => e = .returned (.agg #[.int .u64 h, .int .u64 l, .int .u64 dd]) ∧ Gr w w') :
    Calls Try.prog 4 #[.agg #[.int .i64 ax, .int .i64 ay], .agg #[.int .i64 bx, .int .i64 by'], .agg #[.int .i64 cx, .int .i64 cy], .agg #[.int .i64 dx, .int .i64 dy], .agg #[.int .i64 lx, .int .i64 ly, .int .i64 hx, .int .i64 hy]] W fun e w' => e = .returned (.bool true) ∧ Gr W w' := by
  have H1 := Lib.hid A1
  have H2 := Lib.hid A2
  have H3 := Lib.hid A3
  have H4 := Lib.hid A4
  have H5 := Lib.hid A5
  have H6 := Lib.hid A6
  have H7 := Lib.hid A7
  have H8 := Lib.hid A8
  have H9 := Lib.hid A9
  have H0 := Lib.hid A0
  clear A1 A2 A3 A4 A5 A6 A7 A8 A9 A0
  go_enter Try.func4, Try.ntmps4
  go_wp2_with fail
  generalize hhw0 : (((((W.alloc (.cells #[.int .i64 ax, .int .i64 ay] 24)).alloc (.cells #[.int .i64 bx, .int .i64 by'] 24)).alloc (.cells #[.int .i64 cx, .int .i64 cy] 24)).alloc (.cells #[.int .i64 dx, .int .i64 dy] 24)).alloc (.cells #[.int .i64 lx, .int .i64 ly, .int .i64 hx, .int .i64 hy] 28)) = w0
  have cw0_0_0 : w0.cell? ⟨W.heap.size, 0, none⟩ = some (.int .i64 ax) := by subst hhw0; go_simp
  have cw0_0_1 : w0.cell? ⟨W.heap.size, 1, none⟩ = some (.int .i64 ay) := by subst hhw0; go_simp
  have zw0_0 : W.heap.size < w0.heap.size := World.block_lt_of_cell? _ _ cw0_0_0
  have cw0_1_0 : w0.cell? ⟨W.heap.size + 1, 0, none⟩ = some (.int .i64 bx) := by subst hhw0; go_simp
  have cw0_1_1 : w0.cell? ⟨W.heap.size + 1, 1, none⟩ = some (.int .i64 by') := by subst hhw0; go_simp
  have zw0_1 : W.heap.size + 1 < w0.heap.size := World.block_lt_of_cell? _ _ cw0_1_0
  have cw0_2_0 : w0.cell? ⟨W.heap.size + 1 + 1, 0, none⟩ = some (.int .i64 cx) := by subst hhw0; go_simp
  have cw0_2_1 : w0.cell? ⟨W.heap.size + 1 + 1, 1, none⟩ = some (.int .i64 cy) := by subst hhw0; go_simp
  have zw0_2 : W.heap.size + 1 + 1 < w0.heap.size := World.block_lt_of_cell? _ _ cw0_2_0
  have cw0_3_0 : w0.cell? ⟨W.heap.size + 1 + 1 + 1, 0, none⟩ = some (.int .i64 dx) := by subst hhw0; go_simp
  have cw0_3_1 : w0.cell? ⟨W.heap.size + 1 + 1 + 1, 1, none⟩ = some (.int .i64 dy) := by subst hhw0; go_simp
  have zw0_3 : W.heap.size + 1 + 1 + 1 < w0.heap.size := World.block_lt_of_cell? _ _ cw0_3_0
  have cw0_4_0 : w0.cell? ⟨W.heap.size + 1 + 1 + 1 + 1, 0, none⟩ = some (.int .i64 lx) := by subst hhw0; go_simp
  have cw0_4_1 : w0.cell? ⟨W.heap.size + 1 + 1 + 1 + 1, 1, none⟩ = some (.int .i64 ly) := by subst hhw0; go_simp
  have cw0_4_2 : w0.cell? ⟨W.heap.size + 1 + 1 + 1 + 1, 2, none⟩ = some (.int .i64 hx) := by subst hhw0; go_simp
  have cw0_4_3 : w0.cell? ⟨W.heap.size + 1 + 1 + 1 + 1, 3, none⟩ = some (.int .i64 hy) := by subst hhw0; go_simp
  have zw0_4 : W.heap.size + 1 + 1 + 1 + 1 < w0.heap.size := World.block_lt_of_cell? _ _ cw0_4_0
  have gw0 : Gr W w0 := by subst hhw0; go_grown
  clear hhw0
  go_wp2_with fail
  refine wp_region_spread (by kernel_rfl) (by kernel_rfl) ?_
  try simp only [List.append]
  repeat (first | go_big_quiet_skip | (go_big_quiet_want; go_big_quiet_op; (first | go_big_quiet_on | (apply Exists.intro; refine ⟨fun _ => ?_, ?_⟩; (· (first | (go_at_call 22; first | ((with_reducible refine ((H1.out _)).mono ?_); rintro e w' ⟨rfl, hg⟩; exact ⟨rfl, spread_gr hg⟩)) | (go_at_call 23; first | ((with_reducible refine ((H2.out _)).mono ?_); rintro e w' ⟨rfl, hg⟩; exact ⟨rfl, spread_gr hg⟩)) | (go_at_call 24; first | ((with_reducible refine ((H3.out _)).mono ?_); rintro e w' ⟨rfl, hg⟩; exact ⟨rfl, spread_gr hg⟩)) | (go_at_call 25; first | ((with_reducible refine ((H4.out _)).mono ?_); rintro e w' ⟨rfl, hg⟩; exact ⟨rfl, spread_gr hg⟩)) | (go_at_call 26; first | ((with_reducible refine ((H5.out _)).mono ?_); rintro e w' ⟨rfl, hg⟩; exact ⟨rfl, spread_gr hg⟩)) | (go_at_call 27; first | ((with_reducible refine ((H6.out _)).mono ?_); rintro e w' ⟨rfl, hg⟩; exact ⟨rfl, spread_gr hg⟩)) | (go_at_call 28; first | ((with_reducible refine ((H7.out _)).mono ?_); rintro e w' ⟨rfl, hg⟩; exact ⟨rfl, spread_gr hg⟩)) | (go_at_call 29; first | ((with_reducible refine ((H8.out _)).mono ?_); rintro e w' ⟨rfl, hg⟩; exact ⟨rfl, spread_gr hg⟩)) | (go_at_call 30; first | ((with_reducible refine ((H9.out _)).mono ?_); rintro e w' ⟨rfl, hg⟩; exact ⟨rfl, spread_gr hg⟩)) | (go_at_call 31; first | ((with_reducible refine ((H0.out _)).mono ?_); rintro e w' ⟨rfl, hg⟩; exact ⟨rfl, spread_gr hg⟩)) | (go_at_call 32; first | ((with_reducible refine ((s4_awake _)).mono ?_); rintro e w' ⟨rfl, hg⟩; exact ⟨rfl, spread_gr hg⟩)))); go_big_quiet_on))))
  refine wpQuiet_nil ?_
  intro wr hr
  obtain ⟨mr, rfl⟩ := hr
  go_wp2_with fail
  go_ret
  exact ⟨rfl, Gr.trans (by have gg := gw0; have gs := gg.size; go_grown) (gr_spread _ _)⟩
theorem walk_SegmAsks (ax ay bx by' cx cy dx dy lx ly hx hy : Int) (h1 : (-9223372036854775808 ≤ ax ∧ ax ≤ 9223372036854775807) ∧ (-9223372036854775808 ≤ ay ∧ ay ≤ 9223372036854775807)) (h2 : (-9223372036854775808 ≤ bx ∧ bx ≤ 9223372036854775807) ∧ (-9223372036854775808 ≤ by' ∧ by' ≤ 9223372036854775807)) (h3 : (-9223372036854775808 ≤ cx ∧ cx ≤ 9223372036854775807) ∧ (-9223372036854775808 ≤ cy ∧ cy ≤ 9223372036854775807)) (h4 : (-9223372036854775808 ≤ dx ∧ dx ≤ 9223372036854775807) ∧ (-9223372036854775808 ≤ dy ∧ dy ≤ 9223372036854775807)) (h5 : (-9223372036854775808 ≤ lx ∧ lx ≤ 9223372036854775807) ∧ (-9223372036854775808 ≤ ly ∧ ly ≤ 9223372036854775807) ∧ (-9223372036854775808 ≤ hx ∧ hx ≤ 9223372036854775807) ∧ (-9223372036854775808 ≤ hy ∧ hy ≤ 9223372036854775807)) (W : World) :
    Calls Try.prog 4 #[.agg #[.int .i64 ax, .int .i64 ay], .agg #[.int .i64 bx, .int .i64 by'], .agg #[.int .i64 cx, .int .i64 cy], .agg #[.int .i64 dx, .int .i64 dy], .agg #[.int .i64 lx, .int .i64 ly, .int .i64 hx, .int .i64 hy]] W fun e w' => e = .returned (.bool true) ∧ Gr W w' := by
  clear h1 h2 h3 h4 h5
  cases h : (nearB ax ay && nearB bx by' && nearB cx cy)
  · exact asks_core ax ay bx by' cx cy dx dy lx ly hx hy 0 0 0 _ _ _ _ W (c_gOn ax ay bx by' cx cy) (c_rOn ax ay bx by' cx cy) (c_gMeet ax ay bx by' cx cy dx dy) (c_rMeet ax ay bx by' cx cy dx dy) (c_gProper ax ay bx by' cx cy dx dy) (c_rProper ax ay bx by' cx cy dx dy) (c_gMeetsBox ax ay bx by' lx ly hx hy) (c_rMeetsBox ax ay bx by' lx ly hx hy) (c_gDist_no ax ay bx by' cx cy h) (c_rSegDist_no ax ay bx by' cx cy h)
  · exact asks_core ax ay bx by' cx cy dx dy lx ly hx hy _ _ _ _ _ _ _ W (c_gOn ax ay bx by' cx cy) (c_rOn ax ay bx by' cx cy) (c_gMeet ax ay bx by' cx cy dx dy) (c_rMeet ax ay bx by' cx cy dx dy) (c_gProper ax ay bx by' cx cy dx dy) (c_rProper ax ay bx by' cx cy dx dy) (c_gMeetsBox ax ay bx by' lx ly hx hy) (c_rMeetsBox ax ay bx by' lx ly hx hy) (c_gDist ax ay bx by' cx cy h) (c_rSegDist ax ay bx by' cx cy h)
end Go.Proofs.Ythjhhnolkiejpaa
