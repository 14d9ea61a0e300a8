/- math/bits.Div64 at every divisor that is greater than the higher word. -/
import Derived.Deep.CutBlock
import Derived.Test.YtfamocpbmbhmbaaDoorW
import Derived.Test.YtfamocpbmbhmbaaDoorM
import Derived.Deep.DeepCutAuto
namespace Go.Proofs.YtfamocpbmbhmbaaDoor
set_option linter.unusedVariables false
open Go.ChangeShapes Go.WideShapes Go.ChangeAt Go.RowKit

/-- One digit's guess, lowered till it is the digit: the relation of both loops. -/
def DigRel (u yn1 Q : Nat) (q r : Value) : Prop := ∃ a b : Nat, q = .int .u64 a ∧ r = .int .u64 b ∧ a * yn1 + b = u ∧ Q ≤ a ∧ b < 4294967296

/-- The divisor's leading noughts, struck by a shift. -/
theorem norm {y : Nat} (h1 : 1 ≤ y) (h : Wd y) : ∃ s : Nat, s ≤ 63 ∧ 64 - (Lib.bitLen y : Int) = (s : Int) ∧ 9223372036854775808 ≤ y * 2 ^ s ∧ y * 2 ^ s < 18446744073709551616 := by
  obtain ⟨b1, b2, b3⟩ := Lib.bitLenAux_bounds 64 y h (by omega)
  have hb : Lib.bitLenAux 64 y ≤ 64 := by
    rcases Nat.lt_or_ge 64 (Lib.bitLenAux 64 y) with g | g
    · exfalso
      have := Nat.pow_le_pow_right (n := 2) (by omega) (show 64 ≤ Lib.bitLenAux 64 y - 1 by omega)
      unfold Wd at h
      omega
    · exact g
  obtain ⟨k, hk⟩ : ∃ k, k = Lib.bitLenAux 64 y := ⟨_, rfl⟩
  have hbl : Lib.bitLen y = k := by rw [hk]; rfl
  rw [← hk] at b1 b2 b3 hb
  refine ⟨64 - k, by omega, by rw [hbl]; omega, ?_, ?_⟩
  · have h2 : 2 ^ (k - 1) * 2 ^ (64 - k) ≤ y * 2 ^ (64 - k) := Nat.mul_le_mul_right _ b2
    rw [← Nat.pow_add, show k - 1 + (64 - k) = 63 by omega] at h2
    exact h2
  · have h2 : y * 2 ^ (64 - k) < 2 ^ k * 2 ^ (64 - k) := Nat.mul_lt_mul_of_pos_right b3 (Nat.two_pow_pos _)
    rw [← Nat.pow_add, show k + (64 - k) = 64 by omega] at h2
    exact h2

end Go.Proofs.YtfamocpbmbhmbaaDoor
