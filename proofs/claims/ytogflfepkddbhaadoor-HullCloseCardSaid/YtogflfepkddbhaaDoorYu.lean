/- HullClose, for all arguments -/
import Derived.Test.YtogflfepkddbhaaDoorYt
import Derived.Test.YtogflfepkddbhaaDoorOp
namespace Go.Proofs.YtogflfepkddbhaaDoor
set_option linter.unusedVariables false
open Go.ChangeShapes Go.WideShapes Go.ChangeAt Go.RowKit

theorem walk_HullClose (W : World) (v : Value) (i j : Int) (h : ∃ (n : Nat) (X Y : Nat → Int), Pts W v n X Y) (hi : -9223372036854775808 ≤ i ∧ i ≤ 9223372036854775807) (hj : -9223372036854775808 ≤ j ∧ j ≤ 9223372036854775807) (hE : ErrT W) :
    Calls Tryd.prog 6 #[v, .int .i64 i, .int .i64 j] W fun e w' => e = .returned (.bool true) ∧ Gr W w' := by
  obtain ⟨n, X, Y, h⟩ := h
  by_cases c : 100 < n ∨ n < 2
  · obtain ⟨ad, cap, B, off, rfl, _⟩ := h
    exact close_no i j W hE c
  by_cases h0 : (mnC 2 n X Y).1 = 0
  · exact close_yes i j W hE h (by omega) (by omega) h0 hi hj
  · exact close_err i j W hE h (by omega) (by omega) h0
end Go.Proofs.YtogflfepkddbhaaDoor
