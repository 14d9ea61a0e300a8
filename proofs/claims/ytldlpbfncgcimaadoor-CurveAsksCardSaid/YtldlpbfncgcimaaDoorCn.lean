/- neighbours on the curve: plain facts -/
import Derived.Test.YtldlpbfncgcimaaDoorCg
namespace Go.Proofs.YtldlpbfncgcimaaDoor.Cv
set_option linter.unusedVariables false

theorem mod_succ (v j : Nat) : v % 4 ^ (j + 1) = v / 4 ^ j % 4 * 4 ^ j + v % 4 ^ j := by
  rw [Nat.pow_succ, Nat.mod_mul, Nat.mul_comm (4 ^ j) (v / 4 ^ j % 4), Nat.add_comm]
theorem uX_zero {j v : Nat} (h : v % 4 ^ j = 0) : uX j v = (0, 0) := by
  induction j with
  | zero => rfl
  | succ j ih =>
    rw [mod_succ] at h
    have hp : 0 < 4 ^ j := Nat.pow_pos (by omega)
    have h1 : v % 4 ^ j = 0 := by omega
    have h2 : v / 4 ^ j % 4 = 0 := by
      rcases Nat.eq_zero_or_pos (v / 4 ^ j % 4) with h3 | h3
      · exact h3
      · have : 1 * 4 ^ j ≤ v / 4 ^ j % 4 * 4 ^ j := Nat.mul_le_mul_right _ h3
        omega
    rw [uX, h2, ih h1]
    simp [tX, tY, rt, up]
theorem uX_top {j v : Nat} (h : v % 4 ^ j = 4 ^ j - 1) : uX j v = (2 ^ j - 1, 0) := by
  induction j with
  | zero => rfl
  | succ j ih =>
    rw [mod_succ, Nat.pow_succ] at h
    have hp : 0 < 4 ^ j := Nat.pow_pos (by omega)
    have hm : v % 4 ^ j < 4 ^ j := Nat.mod_lt _ hp
    have hq : v / 4 ^ j % 4 < 4 := Nat.mod_lt _ (by omega)
    have h2 : v / 4 ^ j % 4 = 3 := by
      rcases (show v / 4 ^ j % 4 = 3 ∨ v / 4 ^ j % 4 ≤ 2 by omega) with h3 | h3
      · exact h3
      · have : v / 4 ^ j % 4 * 4 ^ j ≤ 2 * 4 ^ j := Nat.mul_le_mul_right _ h3
        omega
    have h1 : v % 4 ^ j = 4 ^ j - 1 := by rw [h2] at h; omega
    have hp2 : 0 < 2 ^ j := Nat.two_pow_pos j
    rw [uX, h2, ih h1]
    simp [tX, tY, rt, up, Nat.pow_succ]
    omega
/-- Side by side. -/
def adj (a b : Nat × Nat) : Prop := (a.1 = b.1 ∧ (a.2 = b.2 + 1 ∨ b.2 = a.2 + 1)) ∨ (a.2 = b.2 ∧ (a.1 = b.1 + 1 ∨ b.1 = a.1 + 1))
theorem uX_adj {j v : Nat} (h : v % 4 ^ j ≠ 4 ^ j - 1) : adj (uX j v) (uX j (v + 1)) := by
  induction j with
  | zero => exact absurd (by simp [Nat.mod_one]) h
  | succ j ih =>
    have hp : 0 < 4 ^ j := Nat.pow_pos (by omega)
    have hm : v % 4 ^ j < 4 ^ j := Nat.mod_lt _ hp
    have dm := Nat.div_add_mod v (4 ^ j)
    have l := uX_lt j v
    have l' := uX_lt j (v + 1)
    by_cases hc : v % 4 ^ j = 4 ^ j - 1
    · have hq : v / 4 ^ j % 4 < 4 := Nat.mod_lt _ (by omega)
      have e1 : v + 1 = 4 ^ j * (v / 4 ^ j + 1) := by rw [Nat.mul_add]; omega
      have hd : (v + 1) / 4 ^ j = v / 4 ^ j + 1 := by rw [e1, Nat.mul_div_cancel_left _ hp]
      have hz : (v + 1) % 4 ^ j = 0 := by rw [e1, Nat.mul_mod_right]
      have h3 : v / 4 ^ j % 4 ≠ 3 := fun h3 => h (by rw [mod_succ, h3, hc, Nat.pow_succ]; omega)
      have q' : (v + 1) / 4 ^ j % 4 = v / 4 ^ j % 4 + 1 := by rw [hd]; omega
      rw [uX, uX, q', uX_zero hz, uX_top hc]
      have hp2 : 0 < 2 ^ j := Nat.two_pow_pos j
      rcases (show v / 4 ^ j % 4 = 0 ∨ v / 4 ^ j % 4 = 1 ∨ v / 4 ^ j % 4 = 2 by omega) with e | e | e <;> rw [e] <;> simp [tX, tY, rt, up, adj] <;> omega
    · have e1 : v + 1 = 4 ^ j * (v / 4 ^ j) + (v % 4 ^ j + 1) := by omega
      have hd : (v + 1) / 4 ^ j = v / 4 ^ j := by rw [e1, Nat.mul_add_div hp, Nat.div_eq_of_lt (show v % 4 ^ j + 1 < 4 ^ j by omega)]; rfl
      have a := ih hc
      rw [uX, uX, hd]
      generalize v / 4 ^ j % 4 = q
      generalize uX j v = p at *
      generalize uX j (v + 1) = p' at *
      obtain ⟨px, py⟩ := p
      obtain ⟨px', py'⟩ := p'
      clear ih hd e1 hc dm hm h
      unfold adj tX tY at *
      dsimp only at *
      generalize rt q * 2 ^ j = R
      generalize up q * 2 ^ j = U
      generalize 2 ^ j = s at *
      by_cases h3 : q = 3
      · simp only [h3, if_true]; omega
      · by_cases h0 : q = 0
        · rw [if_neg h3, if_neg h3, if_neg h3, if_neg h3]; simp only [h0, if_true]; omega
        · rw [if_neg h3, if_neg h3, if_neg h3, if_neg h3, if_neg h0, if_neg h0, if_neg h0, if_neg h0]; omega
end Go.Proofs.YtldlpbfncgcimaaDoor.Cv
