/- what was laid is read as it was: plain facts -/
import Derived.Test.YtlkciinhhagjiaaDoorEa
namespace Go.Proofs.YtlkciinhhagjiaaDoor.Ec
set_option linter.unusedVariables false

theorem stp_add {acc c i : Nat} (h : acc < 2 ^ (7 * i)) (hc : c % 128 * 2 ^ (7 * i) < 18446744073709551616) : stp acc c i = acc + c % 128 * 2 ^ (7 * i) := by
  unfold stp
  rw [Nat.mod_eq_of_lt hc, Nat.mul_comm (c % 128), Nat.or_comm, ← Nat.two_pow_add_eq_or_of_lt h]
  omega
theorem uv_vr (f : Nat → Nat) (n : Nat) : ∀ k v i acc, v * 2 ^ (7 * i) < 18446744073709551616 → acc < 2 ^ (7 * i) → (0 < i → 0 < v) → i + k = 10 →
    (∀ j, j < (vr v).length → f (i + j) = ((vr v).getD j 0).toNat) → i + (vr v).length ≤ n → uv f n k i acc = (acc + v * 2 ^ (7 * i), i + (vr v).length) := by
  intro k
  induction k with
  | zero =>
    intro v i acc h1 h2 h3 h4 h5 h6
    obtain rfl : i = 10 := by omega
    have := h3 (by omega)
    rw [show 7 * 10 = 64 + 6 from rfl, Nat.pow_add] at h1
    omega
  | succ k ih =>
    intro v i acc h1 h2 h3 h4 h5 h6
    have tn : ∀ x, x < 256 → (UInt8.ofNat x).toNat = x := fun x hx => by rw [UInt8.toNat_ofNat']; exact Nat.mod_eq_of_lt hx
    obtain ⟨P, hP⟩ : ∃ P, P = 2 ^ (7 * i) := ⟨_, rfl⟩
    have hP9 : i = 9 → P = 9223372036854775808 := fun e => by rw [hP, e]
    have hPp : 0 < P := by rw [hP]; exact Nat.two_pow_pos _
    by_cases h : v < 128
    · rw [vr_small h] at h5 h6 ⊢
      simp at h6
      have e0 : f i = v := by
        have := h5 0 (by simp)
        rw [Nat.add_zero] at this
        rw [this]
        exact tn v (by omega)
      have hv : v % 128 = v := Nat.mod_eq_of_lt h
      rw [uv_last f n k i acc (by omega) ?_ (by omega), e0, stp_add h2 (by rw [hv]; exact h1), hv]
      · simp
      · rw [e0]
        rintro (⟨a, b⟩ | ⟨a, b⟩)
        · rw [← hP, hP9 a] at h1; omega
        · have := h3 a; omega
    · rw [vr_big h] at h5 h6 ⊢
      simp at h6
      have e0 : f i = v % 128 + 128 := by
        have := h5 0 (by simp)
        rw [Nat.add_zero] at this
        rw [this]
        exact tn _ (by omega)
      have hd : 128 * (v / 128) + v % 128 = v := Nat.div_add_mod v 128
      have hm : (v % 128 + 128) % 128 = v % 128 := by omega
      have hs : v * P = v / 128 * (P * 128) + v % 128 * P := by
        conv => lhs; rw [← hd]
        rw [Nat.add_mul]
        congr 1
        rw [Nat.mul_comm 128, Nat.mul_assoc, Nat.mul_comm 128]
      have hP2 : 2 ^ (7 * (i + 1)) = P * 128 := by rw [hP, show 7 * (i + 1) = 7 * i + 7 by omega, Nat.pow_add]
      have hlt : v % 128 * P + P ≤ P * 128 := by
        have : (v % 128 + 1) * P ≤ 128 * P := Nat.mul_le_mul_right _ (by omega)
        rw [Nat.add_mul, Nat.one_mul, Nat.mul_comm 128] at this
        exact this
      rw [← hP] at h1 h2
      rw [uv_more f n k i acc (by omega) ?_ (by omega), e0, stp_add (by rw [← hP]; exact h2) (by rw [hm, ← hP]; omega), hm, ← hP]
      · rw [ih (v / 128) (i + 1) _ (by rw [hP2]; omega) (by rw [hP2]; omega) (fun _ => by omega) (by omega) (fun j hj => ?_) (by omega), hP2]
        · simp only [List.length_cons]
          rw [hs]
          congr 1 <;> omega
        · have := h5 (j + 1) (by simp; omega)
          rw [show i + 1 + j = i + (j + 1) by omega, this]
          simp
      · rw [e0]
        rintro (⟨a, b⟩ | ⟨a, b⟩)
        · rw [hP9 a] at h1; omega
        · omega
end Go.Proofs.YtlkciinhhagjiaaDoor.Ec
