/- Division of a number of two words by one word, digit by digit: the plain arithmetic. -/
import Derived.Laws.Bits64b
import Derived.WalkKit
namespace Go.Proofs.YtfamocpbmbhmbaaDoor.Kn
set_option linter.unusedVariables false
open Go

theorem parts {a b c q : Nat} : q * (a * c + b) = q * a * c + q * b := by rw [Nat.mul_add, Nat.mul_assoc]

/-- The guess is too great. -/
theorem gt {yn1 yn0 u d q r : Nat} (hr : q * yn1 + r = u) (hd : d < 4294967296) (hu : u < yn1 * 4294967296 + yn0)
    (h : 4294967296 ≤ q ∨ 4294967296 * r + d < q * yn0) : (u * 4294967296 + d) / (yn1 * 4294967296 + yn0) < q := by
  have hy : 0 < yn1 * 4294967296 + yn0 := by omega
  rw [Nat.div_lt_iff_lt_mul hy]
  rcases h with h | h
  · have h1 : u * 4294967296 + d < (yn1 * 4294967296 + yn0) * 4294967296 := by omega
    have h2 : (yn1 * 4294967296 + yn0) * 4294967296 ≤ (yn1 * 4294967296 + yn0) * q := Nat.mul_le_mul_left _ h
    rw [Nat.mul_comm q]
    omega
  · rw [parts]
    omega

/-- The guess is the digit. -/
theorem eq {yn1 yn0 u d q r : Nat} (hr : q * yn1 + r = u) (hd : d < 4294967296) (hu : u < yn1 * 4294967296 + yn0)
    (hq : (u * 4294967296 + d) / (yn1 * 4294967296 + yn0) ≤ q) (h : q * yn0 ≤ 4294967296 * r + d) : (u * 4294967296 + d) / (yn1 * 4294967296 + yn0) = q := by
  have hy : 0 < yn1 * 4294967296 + yn0 := by omega
  refine Nat.le_antisymm hq ?_
  rw [Nat.le_div_iff_mul_le hy, parts]
  omega

/-- What is left has passed the digit's size: the guess is the digit. -/
theorem eq_break {yn1 yn0 u d q r : Nat} (hr : q * yn1 + r = u) (hd : d < 4294967296) (hu : u < yn1 * 4294967296 + yn0) (h0 : yn0 < 4294967296)
    (hq : (u * 4294967296 + d) / (yn1 * 4294967296 + yn0) ≤ q) (h : 4294967296 ≤ r) : (u * 4294967296 + d) / (yn1 * 4294967296 + yn0) = q := by
  refine eq hr hd hu hq ?_
  have h1 : q * yn1 < 4294967296 * yn1 := by omega
  have h2 : q < 4294967296 := Nat.lt_of_mul_lt_mul_right h1
  have h3 : q * yn0 ≤ 4294967295 * 4294967295 := Nat.mul_le_mul (by omega) (by omega)
  omega

/-- The first guess is no less than the digit. -/
theorem first {yn1 yn0 u d : Nat} (h1 : 1 ≤ yn1) (hd : d < 4294967296) : (u * 4294967296 + d) / (yn1 * 4294967296 + yn0) ≤ u / yn1 := by
  have hy : 0 < yn1 * 4294967296 + yn0 := by omega
  have hlt : u < (u / yn1 + 1) * yn1 := by rw [← Nat.div_lt_iff_lt_mul h1]; omega
  have : (u * 4294967296 + d) / (yn1 * 4294967296 + yn0) < u / yn1 + 1 := by
    rw [Nat.div_lt_iff_lt_mul hy, parts]
    have : u + 1 ≤ (u / yn1 + 1) * yn1 := hlt
    omega
  omega

/-- From both digits to the quotient and the rest. -/
theorem whole {n y S Y Q1 R1 Q0 R0 t l : Nat} (hS : 0 < S) (hY : Y = y * S) (hn : n * S = t * 4294967296 + l)
    (h1 : t = Q1 * Y + R1) (h0 : R1 * 4294967296 + l = Q0 * Y + R0) (hR : R0 < Y) :
    n / y = Q1 * 4294967296 + Q0 ∧ n % y * S = R0 := by
  have e : n * S = (Q1 * 4294967296 + Q0) * Y + R0 := by
    rw [hn, h1, Nat.add_mul, Nat.add_mul, Nat.mul_right_comm]
    omega
  constructor
  · rw [← Nat.mul_div_mul_right n y hS, ← hY, e, Nat.mul_comm (_ + _) Y, Nat.mul_add_div (by omega), Nat.div_eq_of_lt hR, Nat.add_zero]
  · rw [← Nat.mul_mod_mul_right, ← hY, e, Nat.mul_comm (_ + _) Y, Nat.mul_add_mod, Nat.mod_eq_of_lt hR]

/-- The higher word shifted, with what comes in from the lower one. -/
theorem shifted {hi lo s : Nat} (hs : s ≤ 63) (hl : lo < 18446744073709551616) : (hi * 2 ^ s) ||| (lo / 2 ^ (64 - s)) = hi * 2 ^ s + lo / 2 ^ (64 - s) := by
  have hb : lo / 2 ^ (64 - s) < 2 ^ s := by
    rw [Nat.div_lt_iff_lt_mul (Nat.two_pow_pos _), ← Nat.pow_add, show s + (64 - s) = 64 by omega]
    exact hl
  rw [Nat.mul_comm, Nat.two_pow_add_eq_or_of_lt hb]

theorem split {hi lo s : Nat} (hs : s ≤ 63) (hl : lo < 18446744073709551616) : (hi * 18446744073709551616 + lo) * 2 ^ s = (hi * 2 ^ s + lo / 2 ^ (64 - s)) * 18446744073709551616 + lo * 2 ^ s % 18446744073709551616 := by
  have e : (18446744073709551616 : Nat) = 2 ^ (64 - s) * 2 ^ s := by rw [← Nat.pow_add, show 64 - s + s = 64 by omega]
  have h1 : lo * 2 ^ s % 18446744073709551616 = lo % 2 ^ (64 - s) * 2 ^ s := by rw [e, Nat.mul_mod_mul_right]
  have h2 := Nat.div_add_mod lo (2 ^ (64 - s))
  rw [h1, Nat.add_mul, Nat.add_mul, Nat.add_assoc, Nat.mul_right_comm]
  congr 1
  conv => lhs; rw [← h2, Nat.add_mul]
  congr 1
  rw [Nat.mul_comm (2 ^ (64 - s)), Nat.mul_assoc, ← e]

/-- The rest of one step, reckoned with words that go round. -/
theorem rest_wrap {u d q Y R : Nat} (h : u * 4294967296 + d = q * Y + R) (hR : R < 18446744073709551616) :
    IntKind.u64.wrap (IntKind.u64.wrap (IntKind.u64.wrap ((u : Int) * 4294967296) + (d : Int)) - IntKind.u64.wrap ((q : Int) * (Y : Int))) = (R : Int) := by
  simp only [IntKind.wrap_u64]
  obtain ⟨p, hp⟩ : ∃ p : Nat, p = q * Y := ⟨_, rfl⟩
  have hc : (q : Int) * (Y : Int) = (p : Int) := by rw [hp]; simp
  rw [hc]
  rw [← hp] at h
  omega
end Go.Proofs.YtfamocpbmbhmbaaDoor.Kn
