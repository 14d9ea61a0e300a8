/- HullRound, for all arguments -/
import Derived.Test.YtogflfepkddbhaaDoorYzc
import Derived.Test.YtogflfepkddbhaaDoorOp
namespace Go.Proofs.YtogflfepkddbhaaDoor
set_option linter.unusedVariables false
open Go.ChangeShapes Go.WideShapes Go.ChangeAt Go.RowKit

theorem walk_HullRound (W : World) (v : Value) (h : ∃ (n : Nat) (X Y : Nat → Int), Pts W v n X Y) (hE : ErrT W) :
    Calls Tryd.prog 3 #[v] W fun e w' => e = .returned (.bool true) ∧ Gr W w' := by
  obtain ⟨n, X, Y, h⟩ := h
  by_cases c : 100 < n
  · obtain ⟨ad, cap, B, off, rfl, _⟩ := h
    exact round_no W hE c
  by_cases h0 : (mnC 1 n X Y).1 = 0
  · exact round_yes W hE h (by omega) h0
  · exact round_err W hE h (by omega) h0
end Go.Proofs.YtogflfepkddbhaaDoor
