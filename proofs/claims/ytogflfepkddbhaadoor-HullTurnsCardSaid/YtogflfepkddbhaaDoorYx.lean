/- HullTurns, for all arguments -/
import Derived.Test.YtogflfepkddbhaaDoorYw
import Derived.Test.YtogflfepkddbhaaDoorOp
namespace Go.Proofs.YtogflfepkddbhaaDoor
set_option linter.unusedVariables false
open Go.ChangeShapes Go.WideShapes Go.ChangeAt Go.RowKit

theorem walk_HullTurns (W : World) (v : Value) (i : Int) (h : ∃ (n : Nat) (X Y : Nat → Int), Pts W v n X Y) (hi : -9223372036854775808 ≤ i ∧ i ≤ 9223372036854775807) (hE : ErrT W) :
    Calls Tryd.prog 4 #[v, .int .i64 i] W fun e w' => e = .returned (.bool true) ∧ Gr W w' := by
  obtain ⟨n, X, Y, h⟩ := h
  by_cases c : 100 < n ∨ n < 2
  · obtain ⟨ad, cap, B, off, rfl, _⟩ := h
    exact turns_no i W hE c
  by_cases h0 : (mnC 1 n X Y).1 = 0
  · exact turns_yes i W hE h (by omega) (by omega) h0 hi
  · exact turns_err i W hE h (by omega) (by omega) h0 hi
end Go.Proofs.YtogflfepkddbhaaDoor
