/- decimal texts read: plain facts -/
import Derived.Lib.ItoaNum
namespace Go.Proofs.YthjhhnolkiejpaaDoor.Rd
set_option linter.unusedVariables false

/-- The digits read on from n; none at a byte that is no digit, or past the bound. -/
def scan (M : Nat) : Nat → List UInt8 → Option Nat
  | n, [] => some n
  | n, b :: r => if 48 ≤ b.toNat ∧ b.toNat ≤ 57 ∧ n * 10 + (b.toNat - 48) < M then scan M (n * 10 + (b.toNat - 48)) r else none

/-- The number whose numeral s is. -/
def parse (M : Nat) (s : List UInt8) : Option Nat := if s = [] ∨ 39 < s.length ∨ (1 < s.length ∧ s.head? = some 48) then none else scan M 0 s

theorem scan_append {M : Nat} : ∀ (s : List UInt8) (n : Nat) (t : List UInt8), scan M n (s ++ t) = (scan M n s).bind fun m => scan M m t
  | [], n, t => rfl
  | b :: r, n, t => by
    simp only [List.cons_append, scan]
    split
    · exact scan_append r _ t
    · rfl

theorem digit_toNat {d : Nat} (h : d < 10) : (UInt8.ofNat (48 + d)).toNat = 48 + d := by
  rw [UInt8.toNat_ofNat']; omega

/-- A numeral is read back. -/
theorem scan_dec {M : Nat} (u : Nat) (h : u < M) : scan M 0 (Lib.decDigits u) = some u := by
  induction u using Nat.strongRecOn with
  | _ u ih =>
    rw [Lib.decDigits]
    split
    · rename_i hu
      simp only [scan, digit_toNat hu]
      rw [if_pos (by omega)]
      congr 1; omega
    · rename_i hu
      rw [scan_append, ih (u / 10) (by omega) (by omega)]
      simp only [Option.bind, scan, digit_toNat (show u % 10 < 10 by omega)]
      rw [if_pos (by omega)]
      congr 1; omega

/-- What is read on from a number's numeral is a numeral. -/
theorem dec_scan {M : Nat} : ∀ (s : List UInt8) (n m : Nat), 0 < n → scan M n s = some m → Lib.decDigits m = Lib.decDigits n ++ s
  | [], n, m, _, h => by simp only [scan, Option.some.injEq] at h; subst h; simp
  | b :: r, n, m, hn, h => by
    simp only [scan] at h
    split at h
    · rename_i hb
      rw [dec_scan r _ m (by omega) h]
      have e : Lib.decDigits (n * 10 + (b.toNat - 48)) = Lib.decDigits n ++ [b] := by
        rw [Lib.decDigits, dif_neg (by omega), show (n * 10 + (b.toNat - 48)) / 10 = n by omega, show (n * 10 + (b.toNat - 48)) % 10 = b.toNat - 48 by omega]
        congr 2
        have : UInt8.ofNat (48 + (b.toNat - 48)) = UInt8.ofNat b.toNat := by congr 1; omega
        rw [this]; exact UInt8.ofNat_toNat
      rw [e, List.append_assoc]
      rfl
    · cases h

theorem parse_some {M : Nat} {s : List UInt8} {m : Nat} (h : parse M s = some m) : Lib.decDigits m = s ∧ m < M ∧ s.length ≤ 39 := by
  unfold parse at h
  split at h
  · cases h
  · rename_i hs
    cases s with
    | nil => simp at hs
    | cons b r =>
      have hlen : (b :: r).length ≤ 39 := by
        rcases Nat.lt_or_ge 39 (b :: r).length with h | h
        · exact absurd (Or.inr (Or.inl h)) hs
        · exact h
      have hbound : ∀ (s : List UInt8) (n m : Nat), n < M → scan M n s = some m → m < M := fun s => by
        induction s with
        | nil => intro n m hn h; simp only [scan, Option.some.injEq] at h; omega
        | cons c t ih =>
          intro n m hn h
          simp only [scan] at h
          split at h
          · rename_i hc; exact ih _ m hc.2.2 h
          · cases h
      simp only [scan] at h
      split at h
      · rename_i hb
        have hm := hbound r _ m hb.2.2 h
        refine ⟨?_, hm, hlen⟩
        have e1 : UInt8.ofNat (48 + (b.toNat - 48)) = b := by
          rw [show 48 + (b.toNat - 48) = b.toNat by omega]; exact UInt8.ofNat_toNat
        by_cases h0 : b.toNat = 48
        · cases r with
          | nil =>
            simp only [scan, Option.some.injEq] at h
            subst h
            rw [Lib.decDigits, dif_pos (by omega)]
            congr 1
            rw [show 48 + (0 * 10 + (b.toNat - 48)) = 48 + (b.toNat - 48) by omega]; exact e1
          | cons c t =>
            exfalso
            refine hs (Or.inr (Or.inr ⟨by simp, ?_⟩))
            have : b = 48 := UInt8.toNat_inj.1 h0
            rw [this]; rfl
        · rw [dec_scan r _ m (by omega) h, Lib.decDigits, dif_pos (by omega)]
          rw [show 48 + (0 * 10 + (b.toNat - 48)) = 48 + (b.toNat - 48) by omega, e1]
          rfl
      · cases h

theorem dec_head {u : Nat} (h : 0 < u) : (Lib.decDigits u).head? ≠ some 48 := by
  induction u using Nat.strongRecOn with
  | _ u ih =>
    rw [Lib.decDigits]
    split
    · rename_i hu
      intro hc
      simp only [List.head?, Option.some.injEq] at hc
      have := congrArg UInt8.toNat hc
      rw [digit_toNat hu] at this
      simp at this
      omega
    · rename_i hu
      have := ih (u / 10) (by omega) (by omega)
      cases hd : Lib.decDigits (u / 10) with
      | nil => have := Lib.decDigits_length (u / 10); rw [hd] at this; have := Lib.nDigits_pos (u / 10); simp at *; omega
      | cons c t => rw [hd] at this; simpa using this

/-- Read just where it is a numeral. -/
theorem parse_dec {M u : Nat} (hM : M ≤ 10 ^ 39) (h : u < M) : parse M (Lib.decDigits u) = some u := by
  unfold parse
  rw [if_neg, scan_dec u h]
  have hl := Lib.decDigits_length u
  have hp := Lib.nDigits_pos u
  rintro (h1 | h1 | ⟨h1, h2⟩)
  · rw [h1] at hl; simp at hl; omega
  · rw [hl] at h1
    have : Lib.nDigits u ≤ 39 := by
      rcases Nat.lt_or_ge 39 (Lib.nDigits u) with h3 | h3
      · have : 10 ^ 39 ≤ u := by
          have hlow : ∀ u, 0 < u → 10 ^ (Lib.nDigits u - 1) ≤ u := fun u => by
            induction u using Nat.strongRecOn with
            | _ u ih =>
              intro hu
              by_cases h9 : u < 10
              · rw [Lib.nDigits_small h9]; simp only [Nat.sub_self, Nat.pow_zero]; omega
              · have := ih (u / 10) (by omega) (by omega)
                have hq := Lib.nDigits_pos (u / 10)
                rw [Lib.nDigits_big h9]
                have e : Lib.nDigits (u / 10) + 1 - 1 = (Lib.nDigits (u / 10) - 1) + 1 := by omega
                rw [e, Nat.pow_succ]
                omega
          have hu0 : 0 < u := by
            rcases Nat.eq_zero_or_pos u with h0 | h0
            · subst h0; rw [Lib.nDigits_small (by omega)] at h3; omega
            · exact h0
          exact Nat.le_trans (Nat.pow_le_pow_right (by omega) (by omega)) (hlow u hu0)
        omega
      · exact h3
    omega
  · rcases Nat.eq_zero_or_pos u with h0 | h0
    · subst h0; rw [hl, Lib.nDigits_small (by omega)] at h1; omega
    · exact dec_head h0 h2
end Go.Proofs.YthjhhnolkiejpaaDoor.Rd
