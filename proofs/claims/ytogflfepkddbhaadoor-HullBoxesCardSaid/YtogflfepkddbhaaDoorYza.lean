/- HullBoxes, for all arguments -/
import Derived.Test.YtogflfepkddbhaaDoorYz
import Derived.Test.YtogflfepkddbhaaDoorOp
namespace Go.Proofs.YtogflfepkddbhaaDoor
set_option linter.unusedVariables false
open Go.ChangeShapes Go.WideShapes Go.ChangeAt Go.RowKit

theorem walk_HullBoxes (W : World) (v : Value) (px py : Int) (h : ∃ (n : Nat) (X Y : Nat → Int), Pts W v n X Y) {p1 : Prop} (_ : p1) (hE : ErrT W) :
    Calls Tryd.prog 5 #[v, .agg #[.int .i64 px, .int .i64 py]] W fun e w' => e = .returned (.bool true) ∧ Gr W w' := by
  obtain ⟨n, X, Y, h⟩ := h
  by_cases c : 100 < n ∨ n = 0
  · obtain ⟨ad, cap, B, off, rfl, _⟩ := h
    exact boxes_no px py W hE (by omega)
  cases hq : nearB px py
  · obtain ⟨ad, cap, B, off, rfl, _⟩ := h
    exact boxes_no px py W hE (.inr (.inr hq))
  by_cases h0 : (mnC 1 n X Y).1 = 0
  · exact boxes_yes px py W hE h (by omega) (by omega) hq h0
  · exact boxes_err px py W hE h (by omega) (by omega) hq h0
end Go.Proofs.YtogflfepkddbhaaDoor
