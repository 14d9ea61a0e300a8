/- a number that was read is laid as it was; the key of a box -/
import Derived.Test.YtlkciinhhagjiaaDoorEk
import Derived.Test.YtlkciinhhagjiaaDoorEt
namespace Go.Proofs.YtlkciinhhagjiaaDoor.Ec
set_option linter.unusedVariables false

theorem uv_back (f : Nat → Nat) (n : Nat) (hf : ∀ j, f j < 256) : ∀ k i acc v s, i + k = 10 → acc < 2 ^ (7 * i) → uv f n k i acc = (v, s) → s ≠ 0 →
    ∃ m, v = acc + m * 2 ^ (7 * i) ∧ (0 < i → 0 < m) ∧ s = i + (vr m).length ∧ s ≤ n ∧ (∀ j, j < (vr m).length → (vr m).getD j 0 = UInt8.ofNat (f (i + j))) := by
  intro k
  induction k with
  | zero =>
    intro i acc v s h1 h2 h3 h4
    rw [show uv f n 0 i acc = (0, 0) from rfl] at h3
    cases h3
    exact absurd rfl h4
  | succ k ih =>
    intro i acc v s h1 h2 h3 h4
    by_cases hi : i < n
    · by_cases hb : (i = 9 ∧ 1 < f i) ∨ (0 < i ∧ f i = 0)
      · rw [uv_bad f n _ i acc hb] at h3; cases h3; exact absurd rfl h4
      · obtain ⟨P, hP⟩ : ∃ P, P = 2 ^ (7 * i) := ⟨_, rfl⟩
        have hPp : 0 < P := by rw [hP]; exact Nat.two_pow_pos _
        have hP2 : 2 ^ (7 * (i + 1)) = P * 128 := by rw [hP, show 7 * (i + 1) = 7 * i + 7 by omega, Nat.pow_add]
        have hP9 : i = 9 → P = 9223372036854775808 := fun e => by rw [hP, e]
        have hP8 : i ≤ 8 → P ≤ 72057594037927936 := fun e => by rw [hP]; exact Nat.le_trans (Nat.pow_le_pow_right (by omega) (show 7 * i ≤ 56 by omega)) (by decide)
        have hfi := hf i
        have hst : f i % 128 * 2 ^ (7 * i) < 18446744073709551616 := by
          rw [← hP]
          by_cases h9 : i = 9
          · have := hP9 h9
            have h1 : f i ≤ 1 := by
              rcases Nat.lt_or_ge 1 (f i) with h | h
              · exact absurd (Or.inl ⟨h9, h⟩) hb
              · exact h
            have : f i % 128 * P ≤ 1 * P := Nat.mul_le_mul_right _ (by omega)
            omega
          · have := hP8 (by omega)
            have : f i % 128 * P ≤ 127 * P := Nat.mul_le_mul_right _ (by omega)
            omega
        by_cases hc : f i < 128
        · rw [uv_last f n k i acc hi hb hc, stp_add h2 hst] at h3
          cases h3
          refine ⟨f i, by rw [Nat.mod_eq_of_lt hc], fun h0 => ?_, by rw [vr_small hc]; rfl, by omega, fun j hj => ?_⟩
          · rcases Nat.eq_zero_or_pos (f i) with h | h
            · exact absurd (Or.inr ⟨h0, h⟩) hb
            · exact h
          · rw [vr_small hc] at hj ⊢
            obtain rfl : j = 0 := by simpa using hj
            rfl
        · have h9 : i ≠ 9 := fun e => hb (Or.inl ⟨e, by omega⟩)
          rw [uv_more f n k i acc hi hb hc, stp_add h2 hst] at h3
          have hlt : f i % 128 * P + P ≤ P * 128 := by
            have : (f i % 128 + 1) * P ≤ 128 * P := Nat.mul_le_mul_right _ (by omega)
            rw [Nat.add_mul, Nat.one_mul, Nat.mul_comm 128] at this
            exact this
          rw [← hP] at h3 h2
          obtain ⟨m, e1, e2, e3, e4, e5⟩ := ih (i + 1) _ v s (by omega) (by rw [hP2]; omega) h3 h4
          have hm := e2 (by omega)
          have d1 : (f i % 128 + 128 * m) % 128 = f i % 128 := by omega
          have d2 : (f i % 128 + 128 * m) / 128 = m := by omega
          have hbig : ¬ f i % 128 + 128 * m < 128 := by omega
          refine ⟨f i % 128 + 128 * m, ?_, fun _ => by omega, ?_, e4, fun j hj => ?_⟩
          · rw [← hP, e1, hP2, Nat.add_mul, Nat.mul_comm P 128, ← Nat.mul_assoc, Nat.mul_comm m 128]
            omega
          · rw [vr_big hbig, d2, List.length_cons]; omega
          · rw [vr_big hbig, d1, d2] at hj ⊢
            cases j with
            | zero =>
              show UInt8.ofNat (f i % 128 + 128) = UInt8.ofNat (f i)
              rw [show f i % 128 + 128 = f i by omega]
            | succ j =>
              rw [List.getD_cons_succ, e5 j (by simpa using hj), show i + 1 + j = i + (j + 1) by omega]
    · rw [uv_end f n _ i acc hi] at h3; cases h3; exact absurd rfl h4
end Go.Proofs.YtlkciinhhagjiaaDoor.Ec
namespace Go.Proofs.YtlkciinhhagjiaaDoor
set_option linter.unusedVariables false
set_option linter.unusedSimpArgs false
open Go.ChangeShapes Go.WideShapes Go.ChangeAt Go.RowKit

/-- A number that was read, laid again, is what was read. -/
theorem uL_back {L : List UInt8} {v s : Nat} (h : uL L = (v, s)) (hs : s ≠ 0) : L = Ec.vr v ++ L.drop s ∧ s = (Ec.vr v).length := by
  obtain ⟨m, e1, -, e3, e4, e5⟩ := Ec.uv_back (rb L) L.length (rb_lt L) 10 0 0 v s rfl (by decide) h hs
  obtain rfl : v = m := by simpa using e1
  have e3' : s = (Ec.vr v).length := by omega
  refine ⟨?_, e3'⟩
  have : Ec.vr v = L.take s := by
    apply List.ext_getElem
    · rw [List.length_take]; omega
    · intro j h1 h2
      have := e5 j h1
      rw [List.getD_eq_getElem?_getD, List.getElem?_eq_getElem h1, Option.getD_some] at this
      rw [this, List.getElem_take, Nat.zero_add]
      unfold rb
      rw [List.getD_eq_getElem?_getD, List.getElem?_eq_getElem (by omega), Option.getD_some]
      exact UInt8.ofNat_toNat
  rw [this, List.take_append_drop]
theorem zz_si {v : Nat} (h : Wd v) : zz (si v) = v := by
  unfold Wd at h
  unfold si zz
  split <;> split <;> omega
/-- A box's key. -/
def keyB (lx ly hx hy : Int) : List UInt8 := Ec.vr (zz lx) ++ Ec.vr (zz ly) ++ Ec.vr (zz hx) ++ Ec.vr (zz hy)
theorem keyB_len {lx ly hx hy : Int} (h1 : Iw lx) (h2 : Iw ly) (h3 : Iw hx) (h4 : Iw hy) : 4 ≤ (keyB lx ly hx hy).length ∧ (keyB lx ly hx hy).length ≤ 40 := by
  have a := zz_len h1
  have b := zz_len h2
  have c := zz_len h3
  have d := zz_len h4
  unfold keyB
  simp only [List.length_append]
  omega
end Go.Proofs.YtlkciinhhagjiaaDoor
