/- WideOrder's walk -/
import Derived.Test.YtihfkecigkmfjaaDoorO
namespace Go.Proofs.YtihfkecigkmfjaaDoor
set_option linter.unusedVariables false
open Go.ChangeShapes Go.WideShapes Go.ChangeAt Go.RowKit

set_option maxHeartbeats 1000000 in
set_option maxRecDepth 100000 in
theorem order0 (ah al bh bl d : Nat)  (k : Int) (W : World) (hk : k = 0) (hd : d = 0) (hp : Lib.TabIs Tryd.prog W "internal/strconv.uint64pow10" .u64 Lib.pow10Tab)
    (A1 : ∀ w, Calls Tryd.prog 26 #[.agg #[.int .u64 ah, .int .u64 al], .int .u64 d, .agg #[.int .u64 bh, .int .u64 bl], .int .u64 d] w fun e w' => e = .returned (.int .i64 k) ∧ Gr w w')
     :
    Calls Tryd.prog 9 #[.int .u64 ah, .int .u64 al, .int .u64 bh, .int .u64 bl, .int .u64 d] W fun e w' => e = .returned (.bool true) ∧ Gr W w' := by
  have H1 := Lib.hid A1
  have AW : ∀ w, Gr W w → Calls Tryd.prog 19 #[] w fun e w' => e = .returned (.bool true) ∧ Gr w w' := fun w g => c_awake w (tab_below hp g)
  have HAW := Lib.hid AW
  clear A1 AW hp
  subst hk hd
  go_enter Tryd.func9, Tryd.ntmps9
  go_wp2_with fail
  go_at_call 11
  refine ((c_w ah al _)).mono ?_
  rintro e w1 ⟨rfl, hw1⟩
  have gw1 : Gr W w1 := Gr.trans (by go_grown) hw1
  clear hw1
  go_wp2_with fail
  go_at_call 11
  refine ((c_w bh bl _)).mono ?_
  rintro e w2 ⟨rfl, hw2⟩
  have cw2_0_0 : w2.cell? ⟨w1.heap.size, 0, none⟩ = some (.int .u64 ah) := cell_gr hw2 (by go_simp)
  have cw2_0_1 : w2.cell? ⟨w1.heap.size, 1, none⟩ = some (.int .u64 al) := cell_gr hw2 (by go_simp)
  have zw2_0 : w1.heap.size < w2.heap.size := World.block_lt_of_cell? _ _ cw2_0_0
  have gw2 : Gr W w2 := Gr.trans (by have gg := gw1; have gs := gg.size; go_grown) hw2
  clear hw2 gw1
  go_wp2_with fail
  go_at_call 26
  refine ((H1.out _)).mono ?_
  rintro e w3 ⟨rfl, hw3⟩
  have cw3_0_0 : w3.cell? ⟨w1.heap.size, 0, none⟩ = some (.int .u64 ah) := cell_gr hw3 (by go_simp)
  have cw3_0_1 : w3.cell? ⟨w1.heap.size, 1, none⟩ = some (.int .u64 al) := cell_gr hw3 (by go_simp)
  have zw3_0 : w1.heap.size < w3.heap.size := World.block_lt_of_cell? _ _ cw3_0_0
  have cw3_1_0 : w3.cell? ⟨w2.heap.size, 0, none⟩ = some (.int .u64 bh) := cell_gr hw3 (by go_simp)
  have cw3_1_1 : w3.cell? ⟨w2.heap.size, 1, none⟩ = some (.int .u64 bl) := cell_gr hw3 (by go_simp)
  have zw3_1 : w2.heap.size < w3.heap.size := World.block_lt_of_cell? _ _ cw3_1_0
  have gw3 : Gr W w3 := Gr.trans (by have gg := gw2; have gs := gg.size; go_grown) hw3
  clear hw3 gw2 zw2_0 cw2_0_0 cw2_0_1
  go_wp2_with fail
  go_at_call 19
  refine ((HAW.out _ gw3)).mono ?_
  rintro e w4 ⟨rfl, hw4⟩
  have cw4_0_0 : w4.cell? ⟨w1.heap.size, 0, none⟩ = some (.int .u64 ah) := cell_gr hw4 (by go_simp)
  have cw4_0_1 : w4.cell? ⟨w1.heap.size, 1, none⟩ = some (.int .u64 al) := cell_gr hw4 (by go_simp)
  have zw4_0 : w1.heap.size < w4.heap.size := World.block_lt_of_cell? _ _ cw4_0_0
  have cw4_1_0 : w4.cell? ⟨w2.heap.size, 0, none⟩ = some (.int .u64 bh) := cell_gr hw4 (by go_simp)
  have cw4_1_1 : w4.cell? ⟨w2.heap.size, 1, none⟩ = some (.int .u64 bl) := cell_gr hw4 (by go_simp)
  have zw4_1 : w2.heap.size < w4.heap.size := World.block_lt_of_cell? _ _ cw4_1_0
  have gw4 : Gr W w4 := Gr.trans (by have gg := gw3; have gs := gg.size; go_grown) hw4
  clear hw4 gw3 zw3_0 cw3_0_0 cw3_0_1 zw3_1 cw3_1_0 cw3_1_1
  go_wp2_with fail
  go_ret
  exact ⟨rfl, gw4⟩

set_option maxHeartbeats 1000000 in
set_option maxRecDepth 100000 in
theorem order1 (ah al bh bl d : Nat)  (k : Int) (W : World) (hd0 : ((d : Int) == 0) = false) (hd2 : decide ((d : Int) < 2) = true) (hd3 : decide (d < 2) = true) (hp : Lib.TabIs Tryd.prog W "internal/strconv.uint64pow10" .u64 Lib.pow10Tab)
    (A1 : ∀ w, Calls Tryd.prog 26 #[.agg #[.int .u64 ah, .int .u64 al], .int .u64 d, .agg #[.int .u64 bh, .int .u64 bl], .int .u64 d] w fun e w' => e = .returned (.int .i64 k) ∧ Gr w w')
    (A2 : ∀ w, Calls Tryd.prog 17 #[.agg #[.int .u64 ah, .int .u64 al], .agg #[.int .u64 bh, .int .u64 bl]] w fun e w' => e = .returned (.int .i64 k) ∧ Gr w w')
    (A3 : ∀ w, Calls Tryd.prog 26 #[.agg #[.int .u64 ah, .int .u64 al], .int .u64 d, .agg #[.int .u64 ah, .int .u64 al], .int .u64 d] w fun e w' => e = .returned (.int .i64 0) ∧ Gr w w') :
    Calls Tryd.prog 9 #[.int .u64 ah, .int .u64 al, .int .u64 bh, .int .u64 bl, .int .u64 d] W fun e w' => e = .returned (.bool true) ∧ Gr W w' := by
  have H1 := Lib.hid A1
  have H2 := Lib.hid A2
  have H3 := Lib.hid A3
  have AW : ∀ w, Gr W w → Calls Tryd.prog 19 #[] w fun e w' => e = .returned (.bool true) ∧ Gr w w' := fun w g => c_awake w (tab_below hp g)
  have HAW := Lib.hid AW
  clear A1 A2 A3 AW hp
  go_enter Tryd.func9, Tryd.ntmps9
  go_wp2_with fail
  go_at_call 11
  refine ((c_w ah al _)).mono ?_
  rintro e w1 ⟨rfl, hw1⟩
  have gw1 : Gr W w1 := Gr.trans (by go_grown) hw1
  clear hw1
  go_wp2_with fail
  go_at_call 11
  refine ((c_w bh bl _)).mono ?_
  rintro e w2 ⟨rfl, hw2⟩
  have cw2_0_0 : w2.cell? ⟨w1.heap.size, 0, none⟩ = some (.int .u64 ah) := cell_gr hw2 (by go_simp)
  have cw2_0_1 : w2.cell? ⟨w1.heap.size, 1, none⟩ = some (.int .u64 al) := cell_gr hw2 (by go_simp)
  have zw2_0 : w1.heap.size < w2.heap.size := World.block_lt_of_cell? _ _ cw2_0_0
  have gw2 : Gr W w2 := Gr.trans (by have gg := gw1; have gs := gg.size; go_grown) hw2
  clear hw2 gw1
  go_wp2_with fail
  go_at_call 26
  refine ((H1.out _)).mono ?_
  rintro e w3 ⟨rfl, hw3⟩
  have cw3_0_0 : w3.cell? ⟨w1.heap.size, 0, none⟩ = some (.int .u64 ah) := cell_gr hw3 (by go_simp)
  have cw3_0_1 : w3.cell? ⟨w1.heap.size, 1, none⟩ = some (.int .u64 al) := cell_gr hw3 (by go_simp)
  have zw3_0 : w1.heap.size < w3.heap.size := World.block_lt_of_cell? _ _ cw3_0_0
  have cw3_1_0 : w3.cell? ⟨w2.heap.size, 0, none⟩ = some (.int .u64 bh) := cell_gr hw3 (by go_simp)
  have cw3_1_1 : w3.cell? ⟨w2.heap.size, 1, none⟩ = some (.int .u64 bl) := cell_gr hw3 (by go_simp)
  have zw3_1 : w2.heap.size < w3.heap.size := World.block_lt_of_cell? _ _ cw3_1_0
  have gw3 : Gr W w3 := Gr.trans (by have gg := gw2; have gs := gg.size; go_grown) hw3
  clear hw3 gw2 zw2_0 cw2_0_0 cw2_0_1
  go_wp2_with fail
  refine wp_region_spread (by kernel_rfl) (by kernel_rfl) ?_
  repeat (first | go_big_quiet_skip | (go_big_quiet_want; go_big_quiet_op; (first | go_big_quiet_on | (apply Exists.intro; refine ⟨fun _ => ?_, ?_⟩; (· (first | (go_at_call 17; first | ((with_reducible refine ((H2.out _)).mono ?_); rintro e w' ⟨rfl, hg⟩; exact ⟨rfl, spread_gr hg⟩)) | (go_at_call 26; first | ((with_reducible refine ((H3.out _)).mono ?_); rintro e w' ⟨rfl, hg⟩; exact ⟨rfl, spread_gr hg⟩)) | (go_at_call 19; first | ((with_reducible refine ((HAW.out _ (Gr.trans (by have gg := gw3; have gs := gg.size; go_grown) (gr_spread _ _)))).mono ?_); rintro e w' ⟨rfl, hg⟩; exact ⟨rfl, spread_gr hg⟩)))); go_big_quiet_on))))
  refine wpQuiet_nil ?_
  intro wr hr
  obtain ⟨mr, rfl⟩ := hr
  go_wp2_with fail
  go_ret
  exact ⟨rfl, Gr.trans (by have gg := gw3; have gs := gg.size; go_grown) (gr_spread _ _)⟩

set_option maxHeartbeats 1000000 in
set_option maxRecDepth 100000 in
theorem order2 (ah al bh bl d : Nat)  (k : Int) (W : World) (hd0 : ((d : Int) == 0) = false) (hd2 : decide ((d : Int) < 2) = false) (hd3 : decide (d < 2) = false) (hp : Lib.TabIs Tryd.prog W "internal/strconv.uint64pow10" .u64 Lib.pow10Tab)
    (A1 : ∀ w, Calls Tryd.prog 26 #[.agg #[.int .u64 ah, .int .u64 al], .int .u64 d, .agg #[.int .u64 bh, .int .u64 bl], .int .u64 d] w fun e w' => e = .returned (.int .i64 k) ∧ Gr w w')
    (A2 : ∀ w, Calls Tryd.prog 17 #[.agg #[.int .u64 ah, .int .u64 al], .agg #[.int .u64 bh, .int .u64 bl]] w fun e w' => e = .returned (.int .i64 k) ∧ Gr w w')
    (A3 : ∀ w, Calls Tryd.prog 26 #[.agg #[.int .u64 ah, .int .u64 al], .int .u64 d, .agg #[.int .u64 ah, .int .u64 al], .int .u64 d] w fun e w' => e = .returned (.int .i64 0) ∧ Gr w w')
    (A4 : ∀ w, Calls Tryd.prog 17 #[.agg #[.int .u64 ah, .int .u64 al], .agg #[.int .u64 0, .int .u64 0]] w fun e w' => e = .returned (.int .i64 0) ∧ Gr w w') :
    Calls Tryd.prog 9 #[.int .u64 ah, .int .u64 al, .int .u64 bh, .int .u64 bl, .int .u64 d] W fun e w' => e = .returned (.bool true) ∧ Gr W w' := by
  have H1 := Lib.hid A1
  have H2 := Lib.hid A2
  have H3 := Lib.hid A3
  have H4 := Lib.hid A4
  have AW : ∀ w, Gr W w → Calls Tryd.prog 19 #[] w fun e w' => e = .returned (.bool true) ∧ Gr w w' := fun w g => c_awake w (tab_below hp g)
  have HAW := Lib.hid AW
  clear A1 A2 A3 A4 AW hp
  go_enter Tryd.func9, Tryd.ntmps9
  go_wp2_with fail
  go_at_call 11
  refine ((c_w ah al _)).mono ?_
  rintro e w1 ⟨rfl, hw1⟩
  have gw1 : Gr W w1 := Gr.trans (by go_grown) hw1
  clear hw1
  go_wp2_with fail
  go_at_call 11
  refine ((c_w bh bl _)).mono ?_
  rintro e w2 ⟨rfl, hw2⟩
  have cw2_0_0 : w2.cell? ⟨w1.heap.size, 0, none⟩ = some (.int .u64 ah) := cell_gr hw2 (by go_simp)
  have cw2_0_1 : w2.cell? ⟨w1.heap.size, 1, none⟩ = some (.int .u64 al) := cell_gr hw2 (by go_simp)
  have zw2_0 : w1.heap.size < w2.heap.size := World.block_lt_of_cell? _ _ cw2_0_0
  have gw2 : Gr W w2 := Gr.trans (by have gg := gw1; have gs := gg.size; go_grown) hw2
  clear hw2 gw1
  go_wp2_with fail
  go_at_call 26
  refine ((H1.out _)).mono ?_
  rintro e w3 ⟨rfl, hw3⟩
  have cw3_0_0 : w3.cell? ⟨w1.heap.size, 0, none⟩ = some (.int .u64 ah) := cell_gr hw3 (by go_simp)
  have cw3_0_1 : w3.cell? ⟨w1.heap.size, 1, none⟩ = some (.int .u64 al) := cell_gr hw3 (by go_simp)
  have zw3_0 : w1.heap.size < w3.heap.size := World.block_lt_of_cell? _ _ cw3_0_0
  have cw3_1_0 : w3.cell? ⟨w2.heap.size, 0, none⟩ = some (.int .u64 bh) := cell_gr hw3 (by go_simp)
  have cw3_1_1 : w3.cell? ⟨w2.heap.size, 1, none⟩ = some (.int .u64 bl) := cell_gr hw3 (by go_simp)
  have zw3_1 : w2.heap.size < w3.heap.size := World.block_lt_of_cell? _ _ cw3_1_0
  have gw3 : Gr W w3 := Gr.trans (by have gg := gw2; have gs := gg.size; go_grown) hw3
  clear hw3 gw2 zw2_0 cw2_0_0 cw2_0_1
  go_wp2_with fail
  refine wp_region_spread (by kernel_rfl) (by kernel_rfl) ?_
  repeat (first | go_big_quiet_skip | (go_big_quiet_want; go_big_quiet_op; (first | go_big_quiet_on | (apply Exists.intro; refine ⟨fun _ => ?_, ?_⟩; (· (first | (go_at_call 17; first | ((with_reducible refine ((H2.out _)).mono ?_); rintro e w' ⟨rfl, hg⟩; exact ⟨rfl, spread_gr hg⟩) | ((with_reducible refine ((H4.out _)).mono ?_); rintro e w' ⟨rfl, hg⟩; exact ⟨rfl, spread_gr hg⟩)) | (go_at_call 26; first | ((with_reducible refine ((H3.out _)).mono ?_); rintro e w' ⟨rfl, hg⟩; exact ⟨rfl, spread_gr hg⟩)) | (go_at_call 11; first | ((with_reducible refine ((a_w00 _)).mono ?_); rintro e w' ⟨rfl, hg⟩; exact ⟨rfl, spread_gr hg⟩)) | (go_at_call 19; first | ((with_reducible refine ((HAW.out _ (Gr.trans (by have gg := gw3; have gs := gg.size; go_grown) (gr_spread _ _)))).mono ?_); rintro e w' ⟨rfl, hg⟩; exact ⟨rfl, spread_gr hg⟩)))); go_big_quiet_on))))
  refine wpQuiet_nil ?_
  intro wr hr
  obtain ⟨mr, rfl⟩ := hr
  go_wp2_with fail
  go_ret
  exact ⟨rfl, Gr.trans (by have gg := gw3; have gs := gg.size; go_grown) (gr_spread _ _)⟩

set_option maxHeartbeats 1000000 in
set_option maxRecDepth 100000 in
theorem order3 (ah al bh bl d : Nat) (d1 : Nat) (z : Int) (k : Int) (W : World) (hd0 : ((d : Int) == 0) = false) (hd2 : decide ((d : Int) < 2) = false) (hd3 : decide (d < 2) = false) (hz : (z == 0) = false) (hd1 : IntKind.u64.wrap ((d : Int) - 1) = (d1 : Int)) (hp : Lib.TabIs Tryd.prog W "internal/strconv.uint64pow10" .u64 Lib.pow10Tab)
    (A1 : ∀ w, Calls Tryd.prog 26 #[.agg #[.int .u64 ah, .int .u64 al], .int .u64 d, .agg #[.int .u64 bh, .int .u64 bl], .int .u64 d] w fun e w' => e = .returned (.int .i64 k) ∧ Gr w w')
    (A2 : ∀ w, Calls Tryd.prog 17 #[.agg #[.int .u64 ah, .int .u64 al], .agg #[.int .u64 bh, .int .u64 bl]] w fun e w' => e = .returned (.int .i64 k) ∧ Gr w w')
    (A3 : ∀ w, Calls Tryd.prog 26 #[.agg #[.int .u64 ah, .int .u64 al], .int .u64 d, .agg #[.int .u64 ah, .int .u64 al], .int .u64 d] w fun e w' => e = .returned (.int .i64 0) ∧ Gr w w')
    (A4 : ∀ w, Calls Tryd.prog 17 #[.agg #[.int .u64 ah, .int .u64 al], .agg #[.int .u64 0, .int .u64 0]] w fun e w' => e = .returned (.int .i64 z) ∧ Gr w w')
    (A5 : ∀ w, Calls Tryd.prog 26 #[.agg #[.int .u64 ah, .int .u64 al], .int .u64 d, .agg #[.int .u64 ah, .int .u64 al], .int .u64 d1] w fun e w' => e = .returned (.int .i64 1) ∧ Gr w w') :
    Calls Tryd.prog 9 #[.int .u64 ah, .int .u64 al, .int .u64 bh, .int .u64 bl, .int .u64 d] W fun e w' => e = .returned (.bool true) ∧ Gr W w' := by
  have H1 := Lib.hid A1
  have H2 := Lib.hid A2
  have H3 := Lib.hid A3
  have H4 := Lib.hid A4
  have H5 := Lib.hid A5
  have AW : ∀ w, Gr W w → Calls Tryd.prog 19 #[] w fun e w' => e = .returned (.bool true) ∧ Gr w w' := fun w g => c_awake w (tab_below hp g)
  have HAW := Lib.hid AW
  clear A1 A2 A3 A4 A5 AW hp
  go_enter Tryd.func9, Tryd.ntmps9
  go_wp2_with fail
  go_at_call 11
  refine ((c_w ah al _)).mono ?_
  rintro e w1 ⟨rfl, hw1⟩
  have gw1 : Gr W w1 := Gr.trans (by go_grown) hw1
  clear hw1
  go_wp2_with fail
  go_at_call 11
  refine ((c_w bh bl _)).mono ?_
  rintro e w2 ⟨rfl, hw2⟩
  have cw2_0_0 : w2.cell? ⟨w1.heap.size, 0, none⟩ = some (.int .u64 ah) := cell_gr hw2 (by go_simp)
  have cw2_0_1 : w2.cell? ⟨w1.heap.size, 1, none⟩ = some (.int .u64 al) := cell_gr hw2 (by go_simp)
  have zw2_0 : w1.heap.size < w2.heap.size := World.block_lt_of_cell? _ _ cw2_0_0
  have gw2 : Gr W w2 := Gr.trans (by have gg := gw1; have gs := gg.size; go_grown) hw2
  clear hw2 gw1
  go_wp2_with fail
  go_at_call 26
  refine ((H1.out _)).mono ?_
  rintro e w3 ⟨rfl, hw3⟩
  have cw3_0_0 : w3.cell? ⟨w1.heap.size, 0, none⟩ = some (.int .u64 ah) := cell_gr hw3 (by go_simp)
  have cw3_0_1 : w3.cell? ⟨w1.heap.size, 1, none⟩ = some (.int .u64 al) := cell_gr hw3 (by go_simp)
  have zw3_0 : w1.heap.size < w3.heap.size := World.block_lt_of_cell? _ _ cw3_0_0
  have cw3_1_0 : w3.cell? ⟨w2.heap.size, 0, none⟩ = some (.int .u64 bh) := cell_gr hw3 (by go_simp)
  have cw3_1_1 : w3.cell? ⟨w2.heap.size, 1, none⟩ = some (.int .u64 bl) := cell_gr hw3 (by go_simp)
  have zw3_1 : w2.heap.size < w3.heap.size := World.block_lt_of_cell? _ _ cw3_1_0
  have gw3 : Gr W w3 := Gr.trans (by have gg := gw2; have gs := gg.size; go_grown) hw3
  clear hw3 gw2 zw2_0 cw2_0_0 cw2_0_1
  go_wp2_with fail
  refine wp_region_spread (by kernel_rfl) (by kernel_rfl) ?_
  repeat (first | go_big_quiet_skip | (go_big_quiet_want; go_big_quiet_op; (first | go_big_quiet_on | (apply Exists.intro; refine ⟨fun _ => ?_, ?_⟩; (· (first | (go_at_call 17; first | ((with_reducible refine ((H2.out _)).mono ?_); rintro e w' ⟨rfl, hg⟩; exact ⟨rfl, spread_gr hg⟩) | ((with_reducible refine ((H4.out _)).mono ?_); rintro e w' ⟨rfl, hg⟩; exact ⟨rfl, spread_gr hg⟩)) | (go_at_call 26; first | ((with_reducible refine ((H3.out _)).mono ?_); rintro e w' ⟨rfl, hg⟩; exact ⟨rfl, spread_gr hg⟩) | ((with_reducible refine ((H5.out _)).mono ?_); rintro e w' ⟨rfl, hg⟩; exact ⟨rfl, spread_gr hg⟩)) | (go_at_call 11; first | ((with_reducible refine ((a_w00 _)).mono ?_); rintro e w' ⟨rfl, hg⟩; exact ⟨rfl, spread_gr hg⟩)) | (go_at_call 19; first | ((with_reducible refine ((HAW.out _ (Gr.trans (by have gg := gw3; have gs := gg.size; go_grown) (gr_spread _ _)))).mono ?_); rintro e w' ⟨rfl, hg⟩; exact ⟨rfl, spread_gr hg⟩)))); go_big_quiet_on))))
  refine wpQuiet_nil ?_
  intro wr hr
  obtain ⟨mr, rfl⟩ := hr
  go_wp2_with fail
  go_ret
  exact ⟨rfl, Gr.trans (by have gg := gw3; have gs := gg.size; go_grown) (gr_spread _ _)⟩

theorem cmp_mul {a b d : Nat} (h : 1 ≤ d) : cmpN (a * d) (b * d) = cmpN a b := by
  unfold cmpN
  simp only [Nat.mul_lt_mul_right (Nat.lt_of_lt_of_le Nat.zero_lt_one h)]

set_option maxRecDepth 100000 in
theorem walk_WideOrder (ah al bh bl d : Nat) (h1 : Wd ah) (h2 : Wd al) (h3 : Wd bh) (h4 : Wd bl) (h5 : Wd d) (W : World) (hp : Lib.TabIs Tryd.prog W "internal/strconv.uint64pow10" .u64 Lib.pow10Tab) :
    Calls Tryd.prog 9 #[.int .u64 ah, .int .u64 al, .int .u64 bh, .int .u64 bl, .int .u64 d] W fun e w' => e = .returned (.bool true) ∧ Gr W w' := by
  have A1 := c_CompareProducts ah al d bh bl d h1 h2 h5 h3 h4 h5
  have A2 := c_Compare ah al bh bl h1 h2 h3 h4
  have A3 := c_CompareProducts ah al d ah al d h1 h2 h5 h1 h2 h5
  rw [cmpN_eq rfl] at A3
  have A4 := c_Compare ah al 0 0 h1 h2 (by unfold Wd; omega) (by unfold Wd; omega)
  rw [val_zero] at A4
  rcases Nat.eq_zero_or_pos d with hd | hd
  · rw [hd, Nat.mul_zero, Nat.mul_zero, cmpN_eq rfl] at A1
    rw [hd]
    exact order0 ah al bh bl 0 0 W rfl rfl hp A1
  · rw [cmp_mul hd] at A1
    by_cases hd1 : d = 1
    · exact order1 ah al bh bl d _ W (by simp; omega) (decide_eq_true (by omega)) (decide_eq_true (by omega)) hp A1 A2 A3
    · have e0 : ((d : Int) == 0) = false := by simp; omega
      have e2 : decide ((d : Int) < 2) = false := decide_eq_false (by omega)
      have e3 : decide (d < 2) = false := decide_eq_false (by omega)
      rcases Nat.eq_zero_or_pos (val ah al) with hv | hv
      · rw [hv, cmpN_eq rfl] at A4
        exact order2 ah al bh bl d _ W e0 e2 e3 hp A1 A2 A3 A4
      · rw [cmpN_gt hv] at A4
        have h6 : Wd (d - 1) := by unfold Wd at *; omega
        have A5 := c_CompareProducts ah al d ah al (d - 1) h1 h2 h5 h1 h2 h6
        rw [cmpN_gt (Nat.mul_lt_mul_of_pos_left (by omega) hv)] at A5
        exact order3 ah al bh bl d (d - 1) 1 _ W e0 e2 e3 rfl (by rw [show (d : Int) - 1 = ((d - 1 : Nat) : Int) by omega]; exact IntWalk.u64_in _ (by unfold Wd at h6; omega)) hp A1 A2 A3 A4 A5
end Go.Proofs.YtihfkecigkmfjaaDoor
