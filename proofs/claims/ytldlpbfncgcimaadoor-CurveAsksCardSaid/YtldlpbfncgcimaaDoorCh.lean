/- curve.turn, curve.Hilbert -/
import Derived.Test.YtldlpbfncgcimaaDoorCe
import Derived.Test.YtldlpbfncgcimaaDoorCg
import Derived.Deep.LoopGhost
namespace Go.Proofs.YtldlpbfncgcimaaDoor
set_option linter.unusedVariables false
open Go.ChangeShapes Go.WideShapes Go.ChangeAt Go.RowKit

set_option maxHeartbeats 2000000 in
set_option maxRecDepth 100000 in
theorem turn_core (q s x y a b : Int) (W : World) (hx : 0 ≤ x ∧ x ≤ 1073741824) (hy : 0 ≤ y ∧ y ≤ 1073741824) (hs : 0 ≤ s ∧ s ≤ 1073741824)
    (h : (q = 3 ∧ s - 1 - y = a ∧ s - 1 - x = b) ∨ (q = 0 ∧ a = y ∧ b = x) ∨ ((q = 1 ∨ q = 2) ∧ a = x ∧ b = y)) :
    Calls Tryd.prog 56 #[.int .i64 q, .int .i64 s, .agg #[.int .i64 x, .int .i64 y]] W fun e w' => e = .returned (.agg #[.int .i64 a, .int .i64 b]) ∧ Gr W w' := by
  obtain ⟨x0, x1⟩ := hx
  obtain ⟨y0, y1⟩ := hy
  obtain ⟨s0, s1⟩ := hs
  rcases h with ⟨rfl, ha, hb⟩ | ⟨rfl, rfl, rfl⟩ | ⟨rfl | rfl, rfl, rfl⟩
  all_goals
    go_enter Tryd.func56, Tryd.ntmps56
    go_wp2_with fail
    refine bodyPost_ret (v := .agg #[.int .i64 a, .int .i64 b]) (by simp [results, Tryd.results56, go_sem, *]) rfl ⟨rfl, by go_grown⟩
theorem c_turn (q s x y : Nat) (W : World) (hq : q < 4) (hs : s ≤ 1073741824) (hx : x < s) (hy : y < s) :
    Calls Tryd.prog 56 #[.int .i64 q, .int .i64 s, .agg #[.int .i64 x, .int .i64 y]] W fun e w' => e = .returned (.agg #[.int .i64 (Cv.tX q s x y : Nat), .int .i64 (Cv.tY q s x y : Nat)]) ∧ Gr W w' := by
  refine turn_core q s x y _ _ W (by omega) (by omega) (by omega) ?_
  rcases (show q = 0 ∨ q = 1 ∨ q = 2 ∨ q = 3 by omega) with rfl | rfl | rfl | rfl
  · right; left; exact ⟨rfl, rfl, rfl⟩
  · right; right; exact ⟨Or.inl rfl, rfl, rfl⟩
  · right; right; exact ⟨Or.inr rfl, rfl, rfl⟩
  · left
    refine ⟨rfl, ?_, ?_⟩
    · show (s : Int) - 1 - y = ((s - 1 - y : Nat) : Int); omega
    · show (s : Int) - 1 - x = ((s - 1 - x : Nat) : Int); omega
end Go.Proofs.YtldlpbfncgcimaaDoor
