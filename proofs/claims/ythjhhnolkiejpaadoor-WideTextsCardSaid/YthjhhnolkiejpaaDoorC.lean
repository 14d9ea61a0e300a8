/- WideDigits -/
import Derived.Test.YthjhhnolkiejpaaDoorU
namespace Go.Proofs.YthjhhnolkiejpaaDoor
set_option linter.unusedVariables false
open Go.ChangeShapes Go.WideShapes Go.ChangeAt Go.RowKit

theorem parse_bad_head {M : Nat} {b : UInt8} {r : List UInt8} (h : b.toNat < 48 ∨ 57 < b.toNat) : Rd.parse M (b :: r) = none := by
  unfold Rd.parse
  split
  · rfl
  · unfold Rd.scan
    rw [if_neg (by omega)]
theorem parse_nought {M : Nat} {r : List UInt8} (h : r ≠ []) : Rd.parse M (48 :: r) = none := by
  unfold Rd.parse
  rw [if_pos]
  refine Or.inr (Or.inr ⟨?_, rfl⟩)
  cases r with
  | nil => exact absurd rfl h
  | cons a t => simp
theorem parse_bad_end {M : Nat} {b : UInt8} {s : List UInt8} (h : b.toNat < 48 ∨ 57 < b.toNat) : Rd.parse M (s ++ [b]) = none := by
  unfold Rd.parse
  split
  · rfl
  · rw [Rd.scan_append]
    cases Rd.scan M 0 s with
    | none => rfl
    | some n =>
      simp only [Option.bind]
      unfold Rd.scan
      rw [if_neg (by omega)]
theorem dec_inj {a b : Nat} (h : Lib.decDigits a = Lib.decDigits b) : a = b := by
  have h1 := Rd.scan_dec (M := a + b + 1) a (by omega)
  have h2 := Rd.scan_dec (M := a + b + 1) b (by omega)
  rw [h, h2] at h1
  exact (Option.some.inj h1).symm
theorem parse_more {M n : Nat} (hM : M ≤ 10 ^ 39) (hn : 0 < n) : Rd.parse M (Lib.decDigits n ++ [55]) = if n * 10 + 7 < M then some (n * 10 + 7) else none := by
  have e : Lib.decDigits (n * 10 + 7) = Lib.decDigits n ++ [55] := by
    rw [Lib.decDigits, dif_neg (by omega), show (n * 10 + 7) / 10 = n by omega, show (n * 10 + 7) % 10 = 7 by omega]
    rfl
  rw [← e]
  split
  · rename_i h; exact Rd.parse_dec hM h
  · rename_i h
    cases hp : Rd.parse M (Lib.decDigits (n * 10 + 7)) with
    | none => rfl
    | some m =>
      obtain ⟨h1, h2, -⟩ := Rd.parse_some hp
      have := dec_inj h1
      omega

theorem a_w07 (w : World) : Calls Tryd.prog 11 #[.int .u64 0, .int .u64 7] w fun e w' => e = .returned (.agg #[.int .u64 0, .int .u64 7]) ∧ Gr w w' := c_w 0 7 w
theorem ba_cons (b : UInt8) (l : List UInt8) : (⟨#[b]⟩ : ByteArray) ++ ⟨l.toArray⟩ = ⟨(b :: l).toArray⟩ := ba_append [b] l
theorem ba_snoc (b : UInt8) (l : List UInt8) : (⟨l.toArray⟩ : ByteArray) ++ (⟨#[b]⟩ : ByteArray) = ⟨(l ++ [b]).toArray⟩ := ba_append l [b]
theorem dec_ne (n : Nat) : Lib.decDigits n ≠ [] := by
  intro h
  have := congrArg List.length h
  rw [Lib.decDigits_length] at this
  rw [Lib.nDigits] at this
  split at this <;> simp at this
end Go.Proofs.YthjhhnolkiejpaaDoor
