/- RatioScales -/
import Derived.Test.YthjhhnolkiejpaaDoorRd
namespace Go.Proofs.YthjhhnolkiejpaaDoor
set_option linter.unusedVariables false
open Go.ChangeShapes Go.WideShapes Go.ChangeAt Go.RowKit

theorem low_scale (n d k : Nat) (hd : 0 < d) (hk : 0 < k) : lowN (n * k) (d * k) = lowN n d ∧ lowD (n * k) (d * k) = lowD n d := by
  unfold lowN lowD
  have e : Nat.gcd (d * k) (n * k % (d * k)) = Nat.gcd d (n % d) * k := by
    rw [Nat.mul_mod_mul_right, Nat.gcd_mul_right]
  rw [e]
  exact ⟨Nat.mul_div_mul_right _ _ hk, Nat.mul_div_mul_right _ _ hk⟩
theorem gcd_mod (d n : Nat) : Nat.gcd d (n % d) = Nat.gcd d n := by
  rw [Nat.gcd_comm, ← Nat.gcd_rec]
theorem low_parts (n d : Nat) (hd : 0 < d) : n = lowN n d * Nat.gcd d n ∧ d = lowD n d * Nat.gcd d n ∧ 0 < Nat.gcd d n ∧ 0 < lowD n d := by
  unfold lowN lowD
  rw [gcd_mod]
  have hg : 0 < Nat.gcd d n := Nat.gcd_pos_of_pos_left _ hd
  refine ⟨(Nat.div_mul_cancel (Nat.gcd_dvd_right d n)).symm, (Nat.div_mul_cancel (Nat.gcd_dvd_left d n)).symm, hg, ?_⟩
  exact Nat.div_pos (Nat.le_of_dvd hd (Nat.gcd_dvd_left d n)) hg
theorem low_low (n d : Nat) (hd : 0 < d) : lowN (lowN n d) (lowD n d) = lowN n d ∧ lowD (lowN n d) (lowD n d) = lowD n d := by
  obtain ⟨e1, e2, hg, hp⟩ := low_parts n d hd
  have hs := low_scale (lowN n d) (lowD n d) (Nat.gcd d n) hp hg
  rw [← e1, ← e2] at hs
  exact ⟨hs.1.symm, hs.2.symm⟩
theorem low_cross (n d : Nat) (hd : 0 < d) : n * lowD n d = lowN n d * d := by
  obtain ⟨e1, e2, hg, hp⟩ := low_parts n d hd
  generalize lowN n d = a at *
  generalize lowD n d = b at *
  generalize Nat.gcd d n = g at *
  subst e1 e2
  rw [Nat.mul_assoc, Nat.mul_comm g b]
end Go.Proofs.YthjhhnolkiejpaaDoor
