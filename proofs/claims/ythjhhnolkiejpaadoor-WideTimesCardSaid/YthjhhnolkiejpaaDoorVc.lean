/- WideTimes -/
import Derived.Test.YthjhhnolkiejpaaDoorVb
import Derived.Test.YthjhhnolkiejpaaDoorRo
namespace Go.Proofs.YthjhhnolkiejpaaDoor
set_option linter.unusedVariables false
open Go.ChangeShapes Go.WideShapes Go.ChangeAt Go.RowKit

set_option maxHeartbeats 4000000 in
set_option maxRecDepth 100000 in
theorem times_core (ah al b ch cl d t u v mh ml sh sl : Nat) (n k : Int) (W : World) (hp : Lib.TabIs Tryd.prog W "internal/strconv.uint64pow10" .u64 Lib.pow10Tab)
    (A1 : ∀ w, Calls Tryd.prog 11 #[.int .u64 ah, .int .u64 al] w fun e w' => e = .returned (.agg #[.int .u64 ah, .int .u64 al]) ∧ Gr w w')
    (A2 : ∀ w, Calls Tryd.prog 10 #[.agg #[.int .u64 ah, .int .u64 al], .int .u64 b] w fun e w' => e = .returned (.tuple #[.int .u64 t, .agg #[.int .u64 u, .int .u64 v]]) ∧ Gr w w')
    (A3 : ∀ w, Calls Tryd.prog 12 #[.agg #[.int .u64 ah, .int .u64 al], .int .u64 b] w fun e w' => e = .returned (.tuple #[.int .u64 t, .agg #[.int .u64 u, .int .u64 v]]) ∧ Gr w w')
    (A4 : ∀ w, Calls Tryd.prog 14 #[.int .u64 al, .int .u64 b] w fun e w' => e = .returned (.agg #[.int .u64 mh, .int .u64 ml]) ∧ Gr w w')
    (A5 : ∀ w, Calls Tryd.prog 15 #[.int .u64 al, .int .u64 b] w fun e w' => e = .returned (.agg #[.int .u64 mh, .int .u64 ml]) ∧ Gr w w')
    (A6 : ∀ w, Calls Tryd.prog 16 #[.int .i64 n] w fun e w' => e = .returned (.agg #[.int .u64 sh, .int .u64 sl]) ∧ Gr w w')
    (A7 : ∀ w, Calls Tryd.prog 17 #[.int .i64 n] w fun e w' => e = .returned (.agg #[.int .u64 sh, .int .u64 sl]) ∧ Gr w w')
    (A8 : ∀ w, Calls Tryd.prog 11 #[.int .u64 ch, .int .u64 cl] w fun e w' => e = .returned (.agg #[.int .u64 ch, .int .u64 cl]) ∧ Gr w w')
    (A9 : ∀ w, Calls Tryd.prog 18 #[.agg #[.int .u64 ah, .int .u64 al], .int .u64 b, .agg #[.int .u64 ch, .int .u64 cl], .int .u64 d] w fun e w' => e = .returned (.int .i64 k) ∧ Gr w w')
    (A0 : ∀ w, Calls Tryd.prog 19 #[.agg #[.int .u64 ah, .int .u64 al], .int .u64 b, .agg #[.int .u64 ch, .int .u64 cl], .int .u64 d] w fun e w' => e = .returned (.int .i64 k) ∧ Gr w w') :
    Calls Tryd.prog 3 #[.int .u64 ah, .int .u64 al, .int .u64 b, .int .u64 ch, .int .u64 cl, .int .u64 d, .int .i64 n] W fun e w' => e = .returned (.bool true) ∧ Gr W w' := by
  have AW : ∀ w, Gr W w → Calls Tryd.prog 20 #[] w fun e w' => e = .returned (.bool true) ∧ Gr w w' := fun w g => c_awake w (tab_below hp g)
  have HAW := Lib.hid AW
  clear AW hp
  have H1 := Lib.hid A1
  have H2 := Lib.hid A2
  have H3 := Lib.hid A3
  have H4 := Lib.hid A4
  have H5 := Lib.hid A5
  have H6 := Lib.hid A6
  have H7 := Lib.hid A7
  have H8 := Lib.hid A8
  have H9 := Lib.hid A9
  have H0 := Lib.hid A0
  clear A1 A2 A3 A4 A5 A6 A7 A8 A9 A0
  go_enter Tryd.func3, Tryd.ntmps3
  go_wp2_with fail
  go_at_call 11
  refine ((H1.out _)).mono ?_
  rintro e w1 ⟨rfl, hw1⟩
  have gw1 : Gr W w1 := Gr.trans (by go_grown) hw1
  clear hw1
  go_wp2_with fail
  go_at_call 10
  refine ((H2.out _)).mono ?_
  rintro e w2 ⟨rfl, hw2⟩
  have gw2 : Gr W w2 := Gr.trans (by have gg := gw1; have gs := gg.size; go_grown) hw2
  clear hw2 gw1
  go_wp2_with fail
  go_at_call 12
  refine ((H3.out _)).mono ?_
  rintro e w3 ⟨rfl, hw3⟩
  have cw3_0_0 : w3.cell? ⟨w2.heap.size, 0, none⟩ = some (.int .u64 u) := cell_gr hw3 (by go_simp)
  have cw3_0_1 : w3.cell? ⟨w2.heap.size, 1, none⟩ = some (.int .u64 v) := cell_gr hw3 (by go_simp)
  have zw3_0 : w2.heap.size < w3.heap.size := World.block_lt_of_cell? _ _ cw3_0_0
  have gw3 : Gr W w3 := Gr.trans (by have gg := gw2; have gs := gg.size; go_grown) hw3
  clear hw3 gw2
  go_wp2_with fail
  refine wp_region_spread (by kernel_rfl) (by kernel_rfl) ?_
  try simp only [List.append]
  repeat (first | go_big_quiet_skip | (go_big_quiet_want; go_big_quiet_op; (first | go_big_quiet_on | (apply Exists.intro; refine ⟨fun _ => ?_, ?_⟩; (· (first | (go_at_call 14; first | ((with_reducible refine ((H4.out _)).mono ?_); rintro e w' ⟨rfl, hg⟩; exact ⟨rfl, spread_gr hg⟩)) | (go_at_call 15; first | ((with_reducible refine ((H5.out _)).mono ?_); rintro e w' ⟨rfl, hg⟩; exact ⟨rfl, spread_gr hg⟩)) | (go_at_call 13; first | ((with_reducible refine ((c_u _ _ _)).mono ?_); rintro e w' ⟨rfl, hg⟩; exact ⟨rfl, spread_gr hg⟩)) | (go_at_call 16; first | ((with_reducible refine ((H6.out _)).mono ?_); rintro e w' ⟨rfl, hg⟩; exact ⟨rfl, spread_gr hg⟩)) | (go_at_call 17; first | ((with_reducible refine ((H7.out _)).mono ?_); rintro e w' ⟨rfl, hg⟩; exact ⟨rfl, spread_gr hg⟩)) | (go_at_call 11; first | ((with_reducible refine ((H1.out _)).mono ?_); rintro e w' ⟨rfl, hg⟩; exact ⟨rfl, spread_gr hg⟩) | ((with_reducible refine ((H8.out _)).mono ?_); rintro e w' ⟨rfl, hg⟩; exact ⟨rfl, spread_gr hg⟩)) | (go_at_call 18; first | ((with_reducible refine ((H9.out _)).mono ?_); rintro e w' ⟨rfl, hg⟩; exact ⟨rfl, spread_gr hg⟩)) | (go_at_call 19; first | ((with_reducible refine ((H0.out _)).mono ?_); rintro e w' ⟨rfl, hg⟩; exact ⟨rfl, spread_gr hg⟩)) | (go_at_call 20; first | ((with_reducible refine ((HAW.out _ (Gr.trans (by have gg := gw3; have gs := gg.size; go_grown) (gr_spread _ _)))).mono ?_); rintro e w' ⟨rfl, hg⟩; exact ⟨rfl, spread_gr hg⟩)))); go_big_quiet_on))))
  refine wpQuiet_nil ?_
  intro wr hr
  obtain ⟨mr, rfl⟩ := hr
  go_wp2_with fail
  go_ret
  exact ⟨rfl, Gr.trans (by have gg := gw3; have gs := gg.size; go_grown) (gr_spread _ _)⟩
theorem walk_WideTimes (ah al b ch cl d : Nat) (n : Int) (h1 : Wd ah) (h2 : Wd al) (h3 : Wd b) (h4 : Wd ch) (h5 : Wd cl) (h6 : Wd d) (h7 : -9223372036854775808 ≤ n ∧ n ≤ 9223372036854775807) (W : World) (hp : Lib.TabIs Tryd.prog W "internal/strconv.uint64pow10" .u64 Lib.pow10Tab) :
    Calls Tryd.prog 3 #[.int .u64 ah, .int .u64 al, .int .u64 b, .int .u64 ch, .int .u64 cl, .int .u64 d, .int .i64 n] W fun e w' => e = .returned (.bool true) ∧ Gr W w' :=
  times_core ah al b ch cl d _ _ _ _ _ _ _ n _ W hp (c_w ah al) (c_Times ah al b h1 h2 h3) (c_rTimes ah al b h1 h2 h3) (c_Mul al b h2 h3) (c_rMul al b h2 h3) (c_Square n h7) (c_rSquare n h7) (c_w ch cl) (c_CompareProducts ah al b ch cl d h1 h2 h3 h4 h5 h6) (c_rCompareProducts ah al b ch cl d h1 h2 h3 h4 h5 h6)
end Go.Proofs.YthjhhnolkiejpaaDoor
