/- plane: what turns on boxes -/
import Derived.Test.YtfamocpbmbhmbaaDoorPc
namespace Go.Proofs.YtfamocpbmbhmbaaDoor
set_option linter.unusedVariables false
open Go.ChangeShapes Go.WideShapes Go.ChangeAt Go.RowKit

theorem boxErr_true {lx ly hx hy : Int} (h : boxB lx ly hx hy = true) : boxErr lx ly hx hy = .nilIface := by
  unfold boxB at h
  unfold boxErr
  rw [Bool.and_eq_true, Bool.and_eq_true] at h
  rw [if_pos h.1.1, if_pos]
  rw [h.1.2, h.2]; rfl
theorem boxErr_false {lx ly hx hy : Int} (h : boxB lx ly hx hy = false) : ∃ k : Int, boxErr lx ly hx hy = .iface 69 (.int .i64 k) := by
  unfold boxB at h
  unfold boxErr
  by_cases h1 : (nearB lx ly && nearB hx hy) = true
  · rw [if_pos h1]
    by_cases h2 : (decide (lx ≤ hx) && decide (ly ≤ hy)) = true
    · rw [h1, Bool.true_and, h2] at h
      cases h
    · rw [if_neg h2]
      exact ⟨_, rfl⟩
  · rw [if_neg h1]
    exact ⟨_, rfl⟩
/-- All of n boxes may be. -/
def allBox (A B C D : Nat → Int) : Nat → Bool
  | 0 => true
  | n + 1 => allBox A B C D n && boxB (A n) (B n) (C n) (D n)
theorem allBox_iff (A B C D : Nat → Int) (n : Nat) : allBox A B C D n = true ↔ ∀ k, k < n → boxB (A k) (B k) (C k) (D k) = true := by
  induction n with
  | zero => simp [allBox]
  | succ n ih =>
    simp only [allBox, Bool.and_eq_true, ih]
    constructor
    · rintro ⟨h1, h2⟩ k hk
      rcases Nat.lt_succ_iff_lt_or_eq.1 hk with h | rfl
      · exact h1 k h
      · exact h2
    · intro h
      exact ⟨fun k hk => h k (by omega), h n (by omega)⟩

/-- The box has the point. -/
def inB (lx ly hx hy px py : Int) : Bool := decide (lx ≤ px) && decide (px ≤ hx) && decide (ly ≤ py) && decide (py ≤ hy)
/-- How far v is from lo to hi. -/
def beyZ (lo hi v : Int) : Int := if v < lo then lo - v else if hi < v then v - hi else 0
/-- Square's answer, of points that may be. -/
def sqZ (ax ay bx by' : Int) : Int := (bx - ax) * (bx - ax) + (by' - ay) * (by' - ay)
end Go.Proofs.YtfamocpbmbhmbaaDoor
