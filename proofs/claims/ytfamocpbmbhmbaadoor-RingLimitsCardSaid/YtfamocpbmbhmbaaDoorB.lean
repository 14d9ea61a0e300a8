/- WideBack's walk -/
import Derived.Test.YtfamocpbmbhmbaaDoorA
namespace Go.Proofs.YtfamocpbmbhmbaaDoor
set_option linter.unusedVariables false
open Go.ChangeShapes Go.WideShapes Go.ChangeAt Go.RowKit

theorem cmp_neg (a b : Nat) : cmpN a b = -cmpN b a := by unfold cmpN; split <;> split <;> omega
theorem cmp_lt0 (a b : Nat) : decide (cmpN a b < 0) = decide (a < b) := by
  unfold cmpN; split
  · rename_i h; simp [h]
  · rename_i h; split <;> simp [h]

/-- Two numbers of two words, held against each other. -/
theorem eqU (ah al bh bl : Nat) (w : World) : (binOp .eql 43 (.agg #[.int .u64 ah, .int .u64 al]) (.agg #[.int .u64 bh, .int .u64 bl])).run Tryd.prog w = .ok (.bool (decide (ah = bh ∧ al = bl))) w := by
  by_cases h1 : ah = bh
  · subst h1
    by_cases h2 : al = bl
    · subst h2
      simp [go_sem]
    · have e : ((al : Int) == (bl : Int)) = false := by simp; omega
      simp [go_sem, h2, e]
  · have e : ((ah : Int) == (bh : Int)) = false := by simp; omega
    simp [go_sem, h1, e]
theorem val_lt {a b : Nat} (ha : Wd a) (hb : Wd b) : val a b < 340282366920938463463374607431768211456 := by
  unfold val
  have h1 : a * 18446744073709551616 ≤ 18446744073709551615 * 18446744073709551616 := Nat.mul_le_mul_right _ (Nat.le_sub_one_of_lt ha)
  have h2 : b < 18446744073709551616 := hb
  omega
end Go.Proofs.YtfamocpbmbhmbaaDoor
