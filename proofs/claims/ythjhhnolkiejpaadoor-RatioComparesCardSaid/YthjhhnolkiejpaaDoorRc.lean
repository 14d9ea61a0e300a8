/- ratio: what the document fixes; RatioNears, RatioWhole -/
import Derived.Test.YthjhhnolkiejpaaDoorRb
namespace Go.Proofs.YthjhhnolkiejpaaDoor
set_option linter.unusedVariables false
open Go.ChangeShapes Go.WideShapes Go.ChangeAt Go.RowKit

theorem p2_Make (w : World) : Calls Tryd.prog 55 #[.agg #[.int .u64 0, .int .u64 6], .int .u64 4] w fun e w' => e = .returned (.tuple #[.agg #[.int .u64 0, .int .u64 3, .int .u64 2], .nilIface]) ∧ Gr w w' := by
  have h := c_Make 0 6 4 (by unfold Wd; omega) (by unfold Wd; omega) (by unfold Wd; omega) (by omega) w
  have e1 : lowN (val 0 6) 4 / 18446744073709551616 = 0 := by decide +kernel
  have e2 : lowN (val 0 6) 4 % 18446744073709551616 = 3 := by decide +kernel
  have e3 : lowD (val 0 6) 4 = 2 := by decide +kernel
  rw [e1, e2, e3] at h
  exact h
theorem p2_Text (w : World) (hp : Lib.TabIs Tryd.prog w "internal/strconv.uint64pow10" .u64 Lib.pow10Tab) : Calls Tryd.prog 28 #[.agg #[.int .u64 0, .int .u64 3, .int .u64 2]] w fun e w' => e = .returned (.string ⟨#[51, 47, 50]⟩) ∧ Gr w w' := by
  have h := c_rtText 0 3 2 (by unfold Wd; omega) (by unfold Wd; omega) (by unfold Wd; omega) (by omega) w hp
  have e2 : lowN (val 0 3) 2 = 3 := by decide +kernel
  have e3 : lowD (val 0 3) 2 = 2 := by decide +kernel
  have e : (txt (val 0 3) 2).toArray = #[51, 47, 50] := by
    unfold txt
    rw [e2, e3, Lib.decDigits_eq, Lib.decDigits_eq]
    decide +kernel
  rw [e] at h
  exact h
theorem p2_Sound (w : World) : Calls Tryd.prog 33 #[.agg #[.int .u64 0, .int .u64 0, .int .u64 0]] w fun e w' => e = .returned (.bool false) ∧ Gr w w' := c_Sound 0 0 0 w
set_option maxRecDepth 100000 in
theorem p2_awake (W : World) (hp : Lib.TabIs Tryd.prog W "internal/strconv.uint64pow10" .u64 Lib.pow10Tab) :
    Calls Tryd.prog 25 #[] W fun e w' => e = .returned (.bool true) ∧ Gr W w' := by
  go_enter Tryd.func25, Tryd.ntmps25
  go_wp2_with fail
  go_at_call 55
  refine ((p2_Make _)).mono ?_
  rintro e w1 ⟨rfl, hw1⟩
  have gw1 : Gr W w1 := Gr.trans (by go_grown) hw1
  clear hw1
  go_wp2_with fail
  go_at_call 28
  refine ((p2_Text _ (tab_below hp (by have gg := gw1; have gs := gg.size; go_grown)))).mono ?_
  rintro e w2 ⟨rfl, hw2⟩
  have cw2_0_0 : w2.cell? ⟨w1.heap.size, 0, none⟩ = some (.int .u64 0) := cell_gr hw2 (by go_simp)
  have cw2_0_1 : w2.cell? ⟨w1.heap.size, 1, none⟩ = some (.int .u64 3) := cell_gr hw2 (by go_simp)
  have cw2_0_2 : w2.cell? ⟨w1.heap.size, 2, none⟩ = some (.int .u64 2) := cell_gr hw2 (by go_simp)
  have zw2_0 : w1.heap.size < w2.heap.size := World.block_lt_of_cell? _ _ cw2_0_0
  have gw2 : Gr W w2 := Gr.trans (by have gg := gw1; have gs := gg.size; go_grown) hw2
  clear hw2 gw1
  go_wp2_with fail
  go_at_call 33
  refine ((p2_Sound _)).mono ?_
  rintro e w3 ⟨rfl, hw3⟩
  have cw3_0_0 : w3.cell? ⟨w1.heap.size, 0, none⟩ = some (.int .u64 0) := cell_gr hw3 (by go_simp)
  have cw3_0_1 : w3.cell? ⟨w1.heap.size, 1, none⟩ = some (.int .u64 3) := cell_gr hw3 (by go_simp)
  have cw3_0_2 : w3.cell? ⟨w1.heap.size, 2, none⟩ = some (.int .u64 2) := cell_gr hw3 (by go_simp)
  have zw3_0 : w1.heap.size < w3.heap.size := World.block_lt_of_cell? _ _ cw3_0_0
  have gw3 : Gr W w3 := Gr.trans (by have gg := gw2; have gs := gg.size; go_grown) hw3
  clear hw3 gw2 zw2_0 cw2_0_0 cw2_0_1 cw2_0_2
  go_wp2_with fail
  go_ret
  exact ⟨rfl, by go_grown⟩

end Go.Proofs.YthjhhnolkiejpaaDoor
