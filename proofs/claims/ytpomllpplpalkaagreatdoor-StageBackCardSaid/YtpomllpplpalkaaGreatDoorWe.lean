/- model: any shape; a copy of a map; what is told of a map of one object -/
import Derived.Test.YtpomllpplpalkaaGreatDoorWd
namespace Go.Proofs.YtpomllpplpalkaaGreatDoor
set_option linter.unusedVariables false
set_option linter.unusedSimpArgs false
open Go.ChangeShapes Go.WideShapes Go.ChangeAt Go.RowKit Go.Maps Go.Sort Go.Shelf

def shK (q : Nat) : Int := if q = 0 then 1 else if q = 1 then 2 else if q = 2 then 3 else 4
def shN (q : Nat) : Nat := if q = 0 then 1 else if q = 1 then 1 else if q = 2 then 2 else 4
theorem boxN_ok {a b c d : Int} (h1 : nearB a b = true) (h2 : nearB c d = true) (h3 : a ≤ c) (h4 : b ≤ d) : boxN a b c d = 0 := by
  unfold boxN
  rw [h1, h2, decide_eq_true h3, decide_eq_true h4]
  rfl
theorem near_sm {a b : Int} (h1 : 0 ≤ a) (h2 : a ≤ 2000) (h3 : 0 ≤ b) (h4 : b ≤ 2000) : nearB a b = true := nearB_iff.2 ⟨by omega, by omega, by omega, by omega⟩
theorem shN_pos {q : Nat} (h : q < 4) : 0 < shN q ∧ shN q ≤ 4 := by
  rcases (by omega : q = 0 ∨ q = 1 ∨ q = 2 ∨ q = 3) with rfl | rfl | rfl | rfl <;> decide
end Go.Proofs.YtpomllpplpalkaaGreatDoor
