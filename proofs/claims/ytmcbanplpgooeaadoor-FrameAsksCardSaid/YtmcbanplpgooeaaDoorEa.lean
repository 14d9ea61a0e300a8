/- numbers as bytes: plain facts -/
namespace Go.Proofs.YtmcbanplpgooeaaDoor.Ec
set_option linter.unusedVariables false

/-- A number's groups of seven digits, the least first. -/
def vr (v : Nat) : List UInt8 := if h : v < 128 then [UInt8.ofNat v] else UInt8.ofNat (v % 128 + 128) :: vr (v / 128)
termination_by v
decreasing_by omega
theorem vr_small {v : Nat} (h : v < 128) : vr v = [UInt8.ofNat v] := by rw [vr, dif_pos h]
theorem vr_big {v : Nat} (h : ¬ v < 128) : vr v = UInt8.ofNat (v % 128 + 128) :: vr (v / 128) := by rw [vr, dif_neg h]
theorem vr_len : ∀ (k v : Nat), v < 128 ^ k → 1 ≤ k → 1 ≤ (vr v).length ∧ (vr v).length ≤ k := by
  intro k
  induction k with
  | zero => intro v _ h; omega
  | succ k ih =>
    intro v hv _
    by_cases h : v < 128
    · rw [vr_small h]; simp
    · rw [vr_big h]
      rw [Nat.pow_succ] at hv
      have hk : 1 ≤ k := by
        rcases Nat.eq_zero_or_pos k with h0 | h0
        · subst h0; simp at hv; omega
        · exact h0
      have := ih (v / 128) (by omega) hk
      simp; omega
theorem vr_len10 {v : Nat} (h : v < 18446744073709551616) : 1 ≤ (vr v).length ∧ (vr v).length ≤ 10 := vr_len 10 v (Nat.lt_of_lt_of_le h (by decide)) (by omega)
set_option maxRecDepth 100000 in
theorem byte_or (v : Nat) : v % 256 ||| 128 = v % 128 + 128 := by
  have h1 : v % 256 % 128 = v % 128 := by omega
  have key : ∀ x, x < 256 → x ||| 128 = x % 128 + 128 := by decide
  rw [key _ (by omega), h1]
set_option maxRecDepth 100000 in
theorem low_or (v : Nat) : v % 128 ||| 128 = v % 128 + 128 := by
  have key : ∀ x, x < 128 → x ||| 128 = x + 128 := by decide
  exact key _ (by omega)
theorem len_mono {n m : Nat} (h : n ≤ m) : (vr n).length ≤ (vr m).length := by
  induction m using Nat.strongRecOn generalizing n with
  | _ m ih =>
    by_cases hm : m < 128
    · rw [vr_small hm, vr_small (by omega)]; simp
    · rw [vr_big hm]
      by_cases hn : n < 128
      · rw [vr_small hn]; simp
      · rw [vr_big hn]
        have := ih (m / 128) (by omega) (n := n / 128) (by omega)
        simp; omega
theorem vr_inj {n m : Nat} (h : vr n = vr m) : n = m := by
  induction m using Nat.strongRecOn generalizing n with
  | _ m ih =>
    have tn : ∀ x, x < 256 → (UInt8.ofNat x).toNat = x := fun x hx => by rw [UInt8.toNat_ofNat']; omega
    by_cases hm : m < 128
    · by_cases hn : n < 128
      · rw [vr_small hm, vr_small hn] at h
        have := congrArg UInt8.toNat (List.cons.inj h).1
        rw [tn n (by omega), tn m (by omega)] at this
        exact this
      · rw [vr_small hm, vr_big hn] at h
        have := congrArg UInt8.toNat (List.cons.inj h).1
        rw [tn _ (by omega), tn m (by omega)] at this
        omega
    · by_cases hn : n < 128
      · rw [vr_big hm, vr_small hn] at h
        have := congrArg UInt8.toNat (List.cons.inj h).1
        rw [tn n (by omega), tn _ (by omega)] at this
        omega
      · rw [vr_big hm, vr_big hn] at h
        have h1 := congrArg UInt8.toNat (List.cons.inj h).1
        rw [tn _ (by omega), tn _ (by omega)] at h1
        have := ih (m / 128) (by omega) (List.cons.inj h).2
        omega
end Go.Proofs.YtmcbanplpgooeaaDoor.Ec
