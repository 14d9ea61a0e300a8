/- WideTexts -/
import Derived.Test.YthjhhnolkiejpaaDoorYb
import Derived.Test.YthjhhnolkiejpaaDoorC
namespace Go.Proofs.YthjhhnolkiejpaaDoor
set_option linter.unusedVariables false
open Go.ChangeShapes Go.WideShapes Go.ChangeAt Go.RowKit

set_option maxRecDepth 100000 in
theorem texts_long (hi lo : Nat) (s : ByteArray) (W : World) (hs : decide (200 < (s.size : Int)) = true) (hp : Lib.TabIs Tryd.prog W "internal/strconv.uint64pow10" .u64 Lib.pow10Tab) :
    Calls Tryd.prog 4 #[.int .u64 hi, .int .u64 lo, .string s] W fun e w' => e = .returned (.bool true) ∧ Gr W w' := by
  have AW : ∀ w, Gr W w → Calls Tryd.prog 20 #[] w fun e w' => e = .returned (.bool true) ∧ Gr w w' := fun w g => c_awake w (tab_below hp g)
  have HAW := Lib.hid AW
  clear AW hp
  go_enter Tryd.func4, Tryd.ntmps4
  go_wp2_with fail
  go_at_call 20
  refine ((HAW.out _ (by go_grown))).mono ?_
  rintro e w1 ⟨rfl, hw1⟩
  have gw1 : Gr W w1 := Gr.trans (by go_grown) hw1
  clear hw1
  go_wp2_with fail
  go_ret
  exact ⟨rfl, gw1⟩
set_option maxHeartbeats 4000000 in
set_option maxRecDepth 100000 in
theorem texts_core (hi lo ph pl : Nat) (ok : Bool) (s t : ByteArray) (W : World) (hs : decide (200 < (s.size : Int)) = false) (hp : Lib.TabIs Tryd.prog W "internal/strconv.uint64pow10" .u64 Lib.pow10Tab)
    (A1 : ∀ w, Calls Tryd.prog 21 #[.string s] w fun e w' => e = .returned (.tuple #[.agg #[.int .u64 ph, .int .u64 pl], .bool ok]) ∧ Gr w w')
    (A2 : ∀ w, Calls Tryd.prog 22 #[.string s] w fun e w' => e = .returned (.tuple #[.agg #[.int .u64 ph, .int .u64 pl], .bool ok]) ∧ Gr w w')
    (A3 : ∀ w, Calls Tryd.prog 11 #[.int .u64 hi, .int .u64 lo] w fun e w' => e = .returned (.agg #[.int .u64 hi, .int .u64 lo]) ∧ Gr w w')
    (A4 : ∀ w, Gr W w → Calls Tryd.prog 23 #[.agg #[.int .u64 hi, .int .u64 lo]] w fun e w' => e = .returned (.string t) ∧ Gr w w')
    (A5 : ∀ w, Calls Tryd.prog 21 #[.string t] w fun e w' => e = .returned (.tuple #[.agg #[.int .u64 hi, .int .u64 lo], .bool true]) ∧ Gr w w')
    (A6 : ∀ w, Calls Tryd.prog 24 #[.agg #[.int .u64 hi, .int .u64 lo]] w fun e w' => e = .returned (.string t) ∧ Gr w w') :
    Calls Tryd.prog 4 #[.int .u64 hi, .int .u64 lo, .string s] W fun e w' => e = .returned (.bool true) ∧ Gr W w' := by
  have AW : ∀ w, Gr W w → Calls Tryd.prog 20 #[] w fun e w' => e = .returned (.bool true) ∧ Gr w w' := fun w g => c_awake w (tab_below hp g)
  have HAW := Lib.hid AW
  clear AW hp
  have H1 := Lib.hid A1
  have H2 := Lib.hid A2
  have H3 := Lib.hid A3
  have H4 := Lib.hid A4
  have H5 := Lib.hid A5
  have H6 := Lib.hid A6
  clear A1 A2 A3 A4 A5 A6
  go_enter Tryd.func4, Tryd.ntmps4
  go_wp2_with fail
  go_at_call 21
  refine ((H1.out _)).mono ?_
  rintro e w1 ⟨rfl, hw1⟩
  have gw1 : Gr W w1 := Gr.trans (by go_grown) hw1
  clear hw1
  go_wp2_with fail
  go_at_call 22
  refine ((H2.out _)).mono ?_
  rintro e w2 ⟨rfl, hw2⟩
  have cw2_0_0 : w2.cell? ⟨w1.heap.size, 0, none⟩ = some (.int .u64 ph) := cell_gr hw2 (by go_simp)
  have cw2_0_1 : w2.cell? ⟨w1.heap.size, 1, none⟩ = some (.int .u64 pl) := cell_gr hw2 (by go_simp)
  have zw2_0 : w1.heap.size < w2.heap.size := World.block_lt_of_cell? _ _ cw2_0_0
  have gw2 : Gr W w2 := Gr.trans (by have gg := gw1; have gs := gg.size; go_grown) hw2
  clear hw2 gw1
  go_wp2_with fail
  go_at_call 11
  refine ((H3.out _)).mono ?_
  rintro e w3 ⟨rfl, hw3⟩
  have cw3_0_0 : w3.cell? ⟨w1.heap.size, 0, none⟩ = some (.int .u64 ph) := cell_gr hw3 (by go_simp)
  have cw3_0_1 : w3.cell? ⟨w1.heap.size, 1, none⟩ = some (.int .u64 pl) := cell_gr hw3 (by go_simp)
  have zw3_0 : w1.heap.size < w3.heap.size := World.block_lt_of_cell? _ _ cw3_0_0
  have cw3_1_0 : w3.cell? ⟨w2.heap.size, 0, none⟩ = some (.int .u64 ph) := cell_gr hw3 (by go_simp)
  have cw3_1_1 : w3.cell? ⟨w2.heap.size, 1, none⟩ = some (.int .u64 pl) := cell_gr hw3 (by go_simp)
  have zw3_1 : w2.heap.size < w3.heap.size := World.block_lt_of_cell? _ _ cw3_1_0
  have gw3 : Gr W w3 := Gr.trans (by have gg := gw2; have gs := gg.size; go_grown) hw3
  clear hw3 gw2 zw2_0 cw2_0_0 cw2_0_1
  go_wp2_with fail
  go_at_call 23
  refine ((H4.out _ (by have gg := gw3; have gs := gg.size; go_grown))).mono ?_
  rintro e w4 ⟨rfl, hw4⟩
  have cw4_0_0 : w4.cell? ⟨w1.heap.size, 0, none⟩ = some (.int .u64 ph) := cell_gr hw4 (by go_simp)
  have cw4_0_1 : w4.cell? ⟨w1.heap.size, 1, none⟩ = some (.int .u64 pl) := cell_gr hw4 (by go_simp)
  have zw4_0 : w1.heap.size < w4.heap.size := World.block_lt_of_cell? _ _ cw4_0_0
  have cw4_1_0 : w4.cell? ⟨w2.heap.size, 0, none⟩ = some (.int .u64 ph) := cell_gr hw4 (by go_simp)
  have cw4_1_1 : w4.cell? ⟨w2.heap.size, 1, none⟩ = some (.int .u64 pl) := cell_gr hw4 (by go_simp)
  have zw4_1 : w2.heap.size < w4.heap.size := World.block_lt_of_cell? _ _ cw4_1_0
  have gw4 : Gr W w4 := Gr.trans (by have gg := gw3; have gs := gg.size; go_grown) hw4
  clear hw4 gw3 zw3_0 cw3_0_0 cw3_0_1 zw3_1 cw3_1_0 cw3_1_1
  go_wp2_with fail
  go_at_call 21
  refine ((H5.out _)).mono ?_
  rintro e w5 ⟨rfl, hw5⟩
  have cw5_0_0 : w5.cell? ⟨w1.heap.size, 0, none⟩ = some (.int .u64 ph) := cell_gr hw5 (by go_simp)
  have cw5_0_1 : w5.cell? ⟨w1.heap.size, 1, none⟩ = some (.int .u64 pl) := cell_gr hw5 (by go_simp)
  have zw5_0 : w1.heap.size < w5.heap.size := World.block_lt_of_cell? _ _ cw5_0_0
  have cw5_1_0 : w5.cell? ⟨w2.heap.size, 0, none⟩ = some (.int .u64 ph) := cell_gr hw5 (by go_simp)
  have cw5_1_1 : w5.cell? ⟨w2.heap.size, 1, none⟩ = some (.int .u64 pl) := cell_gr hw5 (by go_simp)
  have zw5_1 : w2.heap.size < w5.heap.size := World.block_lt_of_cell? _ _ cw5_1_0
  have gw5 : Gr W w5 := Gr.trans (by have gg := gw4; have gs := gg.size; go_grown) hw5
  clear hw5 gw4 zw4_0 cw4_0_0 cw4_0_1 zw4_1 cw4_1_0 cw4_1_1
  go_wp2_with fail
  refine wp_region_spread (by kernel_rfl) (by kernel_rfl) ?_
  try simp only [List.append]
  repeat (first | go_big_quiet_skip | (go_big_quiet_want; go_big_quiet_op; (first | go_big_quiet_on | (apply Exists.intro; refine ⟨fun _ => ?_, ?_⟩; (· (first | (go_at_call 11; first | ((with_reducible refine ((H3.out _)).mono ?_); rintro e w' ⟨rfl, hg⟩; exact ⟨rfl, spread_gr hg⟩)) | (go_at_call 23; first | ((with_reducible refine ((H4.out _ (Gr.trans (by have gg := gw5; have gs := gg.size; go_grown) (gr_spread _ _)))).mono ?_); rintro e w' ⟨rfl, hg⟩; exact ⟨rfl, spread_gr hg⟩)) | (go_at_call 24; first | ((with_reducible refine ((H6.out _)).mono ?_); rintro e w' ⟨rfl, hg⟩; exact ⟨rfl, spread_gr hg⟩)) | (go_at_call 13; first | ((with_reducible refine ((c_u _ _ _)).mono ?_); rintro e w' ⟨rfl, hg⟩; exact ⟨rfl, spread_gr hg⟩)) | (go_at_call 20; first | ((with_reducible refine ((HAW.out _ (Gr.trans (by have gg := gw5; have gs := gg.size; go_grown) (gr_spread _ _)))).mono ?_); rintro e w' ⟨rfl, hg⟩; exact ⟨rfl, spread_gr hg⟩)))); go_big_quiet_on))))
  refine wpQuiet_nil ?_
  intro wr hr
  obtain ⟨mr, rfl⟩ := hr
  go_wp2_with fail
  go_ret
  exact ⟨rfl, Gr.trans (by have gg := gw5; have gs := gg.size; go_grown) (gr_spread _ _)⟩
theorem walk_WideTexts (hi lo : Nat) (s : ByteArray) (h1 : Wd hi) (h2 : Wd lo) (h3 : s.size ≤ maxLen) (W : World) (hp : Lib.TabIs Tryd.prog W "internal/strconv.uint64pow10" .u64 Lib.pow10Tab) :
    Calls Tryd.prog 4 #[.int .u64 hi, .int .u64 lo, .string s] W fun e w' => e = .returned (.bool true) ∧ Gr W w' := by
  by_cases hl : 200 < s.size
  · exact texts_long hi lo s W (decide_eq_true (by omega)) hp
  · obtain ⟨n, hn⟩ : ∃ n, n = val hi lo := ⟨_, rfl⟩
    have hlt : n < p128 := by rw [hn]; unfold val p128 Wd at *; omega
    have C1 := fun w => c_Parse s w
    have C2 := fun w => c_rParse s w
    have C5 : ∀ w, Calls Tryd.prog 21 #[.string ⟨(Lib.decDigits n).toArray⟩] w fun e w' => e = .returned (.tuple #[.agg #[.int .u64 hi, .int .u64 lo], .bool true]) ∧ Gr w w' := fun w => by
      have C := c_Parse (⟨(Lib.decDigits n).toArray⟩ : ByteArray) w
      rw [show (⟨(Lib.decDigits n).toArray⟩ : ByteArray).data.toList = Lib.decDigits n from rfl, Rd.parse_dec (by unfold p128; omega) hlt] at C
      have ep : parsed (some n) = .tuple #[.agg #[.int .u64 hi, .int .u64 lo], .bool true] := by
        unfold parsed
        show Value.tuple #[.agg #[.int .u64 ((n / 18446744073709551616 : Nat) : Int), .int .u64 ((n % 18446744073709551616 : Nat) : Int)], .bool true] = _
        rw [show n / 18446744073709551616 = hi by rw [hn]; unfold val Wd at *; omega, show n % 18446744073709551616 = lo by rw [hn]; unfold val Wd at *; omega]
      rw [ep] at C
      exact C
    have C4 : ∀ w, Gr W w → Calls Tryd.prog 23 #[.agg #[.int .u64 hi, .int .u64 lo]] w fun e w' => e = .returned (.string ⟨(Lib.decDigits n).toArray⟩) ∧ Gr w w' := fun w g => by rw [hn]; exact c_Text hi lo h1 h2 w (tab_below hp g)
    have C6 : ∀ w, Calls Tryd.prog 24 #[.agg #[.int .u64 hi, .int .u64 lo]] w fun e w' => e = .returned (.string ⟨(Lib.decDigits n).toArray⟩) ∧ Gr w w' := fun w => by rw [hn]; exact c_rText hi lo h1 h2 w
    cases hq : Rd.parse p128 s.data.toList with
    | none =>
      rw [hq] at C1 C2
      exact texts_core hi lo 0 0 false s _ W (decide_eq_false (by omega)) hp C1 C2 (c_w hi lo) C4 C5 C6
    | some m =>
      rw [hq] at C1 C2
      exact texts_core hi lo (m / 18446744073709551616) (m % 18446744073709551616) true s _ W (decide_eq_false (by omega)) hp C1 C2 (c_w hi lo) C4 C5 C6
end Go.Proofs.YthjhhnolkiejpaaDoor
