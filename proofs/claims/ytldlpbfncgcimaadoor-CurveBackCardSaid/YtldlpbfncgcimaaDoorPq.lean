/- plane: Union of any boxes; the document's; the numbers of errors -/
import Derived.Test.YtldlpbfncgcimaaDoorPm
import Derived.Test.YtldlpbfncgcimaaDoorRi
import Derived.Test.YtldlpbfncgcimaaDoorJ
import Derived.Test.YtldlpbfncgcimaaDoorSb
namespace Go.Proofs.YtldlpbfncgcimaaDoor
set_option linter.unusedVariables false
open Go.ChangeShapes Go.WideShapes Go.ChangeAt Go.RowKit

/-- The least number of the first k, the first one's own too; the greatest. -/
def accMin (A : Nat → Int) : Nat → Int
  | 0 => A 0
  | k + 1 => minZ (accMin A k) (A k)
def accMax (A : Nat → Int) : Nat → Int
  | 0 => A 0
  | k + 1 => maxZ (accMax A k) (A k)
theorem boxErr_code {lx ly hx hy : Int} (h : boxB lx ly hx hy = false) : ∃ z : Int, (z = 1 ∨ z = 2) ∧ boxErr lx ly hx hy = .iface 82 (.int .i64 z) ∧ boxCode lx ly hx hy = z := by
  unfold boxB at h
  unfold boxErr boxCode
  by_cases h1 : (nearB lx ly && nearB hx hy) = true
  · rw [if_pos h1, if_pos h1]
    by_cases h2 : (decide (lx ≤ hx) && decide (ly ≤ hy)) = true
    · rw [h1, Bool.true_and, h2] at h
      cases h
    · rw [if_neg h2, if_neg h2]
      exact ⟨1, Or.inl rfl, rfl, rfl⟩
  · rw [if_neg h1, if_neg h1]
    exact ⟨2, Or.inr rfl, rfl, rfl⟩

theorem c_Code_nil (w : World) : Calls Tryd.prog 23 #[.nilIface] w fun e w' => e = .returned (.int .i64 0) ∧ Gr w w' := by
  go_enter Tryd.func23, Tryd.ntmps23
  go_wp2
  go_ret
  exact ⟨rfl, by go_grown⟩
set_option maxHeartbeats 1000000 in
set_option maxRecDepth 100000 in
theorem c_Code_errno (z : Int) (hz : z = 1 ∨ z = 2) (w : World) : Calls Tryd.prog 23 #[.iface 82 (.int .i64 z)] w fun e w' => e = .returned (.int .i64 z) ∧ Gr w w' := by
  rcases hz with rfl | rfl
  · have I1 : ∀ w, Calls Tryd.prog 49 #[.iface 82 (.int .i64 1), .iface 82 (.int .i64 1)] w fun e w' => e = .returned (.bool true) ∧ Gr w w' := c_Is_errno 1 1
    have H1 := Lib.hid I1
    clear I1
    go_enter Tryd.func23, Tryd.ntmps23
    go_wp2_with fail
    refine wp_loop_rounds 1 ?_
    rw [rounds_succ]
    go_wp2_with (go_at_call 49; (with_reducible refine (H1.out _).mono ?_); rintro e w1 ⟨rfl, hg⟩)
    go_ret
    exact ⟨rfl, Gr.trans (by go_grown) hg⟩
  · have I1 : ∀ w, Calls Tryd.prog 49 #[.iface 82 (.int .i64 2), .iface 82 (.int .i64 1)] w fun e w' => e = .returned (.bool false) ∧ Gr w w' := c_Is_errno 2 1
    have I2 : ∀ w, Calls Tryd.prog 49 #[.iface 82 (.int .i64 2), .iface 82 (.int .i64 2)] w fun e w' => e = .returned (.bool true) ∧ Gr w w' := c_Is_errno 2 2
    have H1 := Lib.hid I1
    have H2 := Lib.hid I2
    clear I1 I2
    go_enter Tryd.func23, Tryd.ntmps23
    go_wp2_with fail
    refine wp_loop_rounds 2 ?_
    rw [rounds_succ]
    go_wp2_with (go_at_call 49; (with_reducible refine (H1.out _).mono ?_); rintro e w1 ⟨rfl, hg⟩)
    rw [rounds_succ]
    go_wp2_with (go_at_call 49; (with_reducible refine (H2.out _).mono ?_); rintro e w2 ⟨rfl, hg2⟩)
    go_ret
    exact ⟨rfl, Gr.trans (Gr.trans (by go_grown) hg) hg2⟩

end Go.Proofs.YtldlpbfncgcimaaDoor
