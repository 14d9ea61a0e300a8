/- enc: reading a number of bytes: plain facts -/
namespace Go.Proofs.YtmcbanplpgooeaaDoor.Ec
set_option linter.unusedVariables false

/-- What the byte c at i adds to a number. -/
def stp (acc c i : Nat) : Nat := acc ||| ((c % 128) * 2 ^ (7 * i)) % 18446744073709551616
/-- The number that bytes (of length n, read by f) begin with, and how many they are, from the byte i: k bytes at most. -/
def uv (f : Nat → Nat) (n : Nat) : Nat → Nat → Nat → Nat × Nat
  | 0, _, _ => (0, 0)
  | k + 1, i, acc =>
    if i < n then
      if (i = 9 ∧ 1 < f i) ∨ (0 < i ∧ f i = 0) then (0, 0)
      else if f i < 128 then (stp acc (f i) i, i + 1)
      else uv f n k (i + 1) (stp acc (f i) i)
    else (0, 0)
theorem stp_wd {acc c i : Nat} (h : acc < 18446744073709551616) : stp acc c i < 18446744073709551616 := by
  unfold stp
  exact Nat.or_lt_two_pow (n := 64) (by omega) (Nat.mod_lt _ (by decide))
theorem uv_end (f : Nat → Nat) (n k i acc : Nat) (h : ¬ i < n) : uv f n k i acc = (0, 0) := by
  cases k with
  | zero => rfl
  | succ k => rw [uv, if_neg h]
theorem uv_bad (f : Nat → Nat) (n k i acc : Nat) (h : (i = 9 ∧ 1 < f i) ∨ (0 < i ∧ f i = 0)) : uv f n k i acc = (0, 0) := by
  cases k with
  | zero => rfl
  | succ k =>
    rw [uv]
    by_cases hi : i < n
    · rw [if_pos hi, if_pos h]
    · rw [if_neg hi]
theorem uv_last (f : Nat → Nat) (n k i acc : Nat) (hi : i < n) (h : ¬ ((i = 9 ∧ 1 < f i) ∨ (0 < i ∧ f i = 0))) (hc : f i < 128) : uv f n (k + 1) i acc = (stp acc (f i) i, i + 1) := by
  rw [uv, if_pos hi, if_neg h, if_pos hc]
theorem uv_more (f : Nat → Nat) (n k i acc : Nat) (hi : i < n) (h : ¬ ((i = 9 ∧ 1 < f i) ∨ (0 < i ∧ f i = 0))) (hc : ¬ f i < 128) : uv f n (k + 1) i acc = uv f n k (i + 1) (stp acc (f i) i) := by
  rw [uv, if_pos hi, if_neg h, if_neg hc]
theorem uv_wd (f : Nat → Nat) (n : Nat) : ∀ k i acc, acc < 18446744073709551616 → (uv f n k i acc).1 < 18446744073709551616 ∧ (uv f n k i acc).2 ≤ i + k ∧ ((uv f n k i acc).2 = 0 → (uv f n k i acc).1 = 0) := by
  intro k
  induction k with
  | zero => intro i acc h; exact ⟨by show 0 < _; decide, Nat.zero_le _, fun _ => rfl⟩
  | succ k ih =>
    intro i acc h
    by_cases hi : i < n
    · by_cases hb : (i = 9 ∧ 1 < f i) ∨ (0 < i ∧ f i = 0)
      · rw [uv_bad f n _ i acc hb]; exact ⟨by show 0 < _; decide, Nat.zero_le _, fun _ => rfl⟩
      · by_cases hc : f i < 128
        · rw [uv_last f n k i acc hi hb hc]
          exact ⟨stp_wd h, by show i + 1 ≤ _; omega, fun e => absurd e (by show i + 1 ≠ 0; omega)⟩
        · rw [uv_more f n k i acc hi hb hc]
          have := ih (i + 1) _ (stp_wd (c := f i) (i := i) h)
          exact ⟨this.1, by have := this.2.1; omega, this.2.2⟩
    · rw [uv_end f n _ i acc hi]; exact ⟨by show 0 < _; decide, Nat.zero_le _, fun _ => rfl⟩
end Go.Proofs.YtmcbanplpgooeaaDoor.Ec
