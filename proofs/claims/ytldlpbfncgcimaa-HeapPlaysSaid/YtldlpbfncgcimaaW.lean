/- wide's functions, by what they answer. -/
import Derived.Test.YtldlpbfncgcimaaF
import Derived.Test.YtldlpbfncgcimaaG
namespace Go.Proofs.Ytldlpbfncgcimaa
set_option linter.unusedVariables false
open Go.ChangeShapes Go.WideShapes Go.ChangeAt Go.RowKit

/-- The number of two words. -/
def val (hi lo : Nat) : Nat := hi * 18446744073709551616 + lo
/-- A word. -/
def Wd (a : Nat) : Prop := a < 18446744073709551616
/-- How a stands to b. -/
def cmpN (a b : Nat) : Int := if a < b then -1 else if b < a then 1 else 0

/-- A word that came in. -/
theorem u64_nat {z : Int} (h : (Lit.int .u64 z).wf = true) : ∃ a : Nat, z = a ∧ Wd a := by
  have hb := bounds_u64 h
  refine ⟨z.toNat, (Int.toNat_of_nonneg hb.1).symm, ?_⟩
  have h2 : z < 18446744073709551616 := by omega
  exact (Int.toNat_lt hb.1).2 h2

theorem add64 (x y c : Nat) (hc : c ≤ 1) (w : World) : (callFunc 72 #[.int .u64 x, .int .u64 y, .int .u64 c]).run Try.prog w =
      .ok (.value (.tuple #[.int .u64 (((x + y + c) % 18446744073709551616 : Nat) : Int), .int .u64 (((x + y + c) / 18446744073709551616 : Nat) : Int)])) w := by
  rw [run_callFunc_extern Try.func72 (by kernel_rfl) (by kernel_rfl) (by kernel_rfl) (e := add64Entry) (by kernel_rfl), run_add64 x y c (by omega) (by omega) (by omega) (by omega)]
  simp only [Result.andThen]
  congr 5 <;> omega
theorem cmpN_lt {a b : Nat} (h : a < b) : cmpN a b = -1 := if_pos h
theorem cmpN_gt {a b : Nat} (h : b < a) : cmpN a b = 1 := by unfold cmpN; rw [if_neg (by omega), if_pos h]
theorem cmpN_eq {a b : Nat} (h : a = b) : cmpN a b = 0 := by unfold cmpN; rw [if_neg (by omega), if_neg (by omega)]
theorem c_cmp (a b : Nat) (w : World) :
    Calls Try.prog 73 #[.int .u64 a, .int .u64 b] w fun e w' => e = .returned (.int .i64 (cmpN a b)) ∧ w' = w := by
  rcases Nat.lt_trichotomy a b with h | h | h
  · rw [cmpN_lt h]
    have h2 : ¬ b < a := by omega
    go_enter Try.func73, Try.ntmps73
    go_wp2
    go_ret
    exact ⟨rfl, rfl⟩
  · rw [cmpN_eq h]
    subst h
    go_enter Try.func73, Try.ntmps73
    go_wp2
    go_ret
    exact ⟨rfl, rfl⟩
  · rw [cmpN_gt h]
    have h2 : ¬ a < b := by omega
    go_enter Try.func73, Try.ntmps73
    go_wp2
    go_ret
    exact ⟨rfl, rfl⟩
theorem c_from2 (a0 a1 a2 b0 b1 b2 : Nat) (h0 : Wd a0) (h1 : Wd a1) (k0 : Wd b0) (k1 : Wd b1) (w : World) :
    Calls Try.prog 62 #[.int .i64 2, .agg #[.int .u64 a0, .int .u64 a1, .int .u64 a2], .agg #[.int .u64 b0, .int .u64 b1, .int .u64 b2]] w fun e w' => e = .returned (.int .i64 (cmpN (val a1 a0) (val b1 b0))) ∧ Gr w w' := by
  have hv : cmpN (val a1 a0) (val b1 b0) = if cmpN a1 b1 = 0 then cmpN a0 b0 else cmpN a1 b1 := by
    unfold cmpN val Wd at *
    split <;> split <;> (try split) <;> (try split) <;> omega
  rcases Nat.lt_trichotomy a1 b1 with h | h | h
  · have e1 := cmpN_lt h
    rw [hv, e1]
    have E1 := Lib.hid e1
    clear hv e1 h0 h1 k0 k1
    go_enter Try.func62, Try.ntmps62
    go_wp2_with (go_at_call 73; refine (c_cmp _ _ _).mono ?_; rw [E1.out]; rintro e w' ⟨rfl, rfl⟩)
    go_ret
    exact ⟨rfl, by go_grown⟩
  · subst h
    have e1 := cmpN_eq (rfl : a1 = a1)
    rw [hv, e1, if_pos rfl]
    have E1 := Lib.hid e1
    clear hv e1 h0 h1 k0 k1
    go_enter Try.func62, Try.ntmps62
    go_wp2_with (go_at_call 73; refine (c_cmp _ _ _).mono ?_; (try rw [E1.out]); rintro e w' ⟨rfl, rfl⟩)
    go_ret
    exact ⟨rfl, by go_grown⟩
  · have e1 := cmpN_gt h
    rw [hv, e1]
    have E1 := Lib.hid e1
    clear hv e1 h0 h1 k0 k1
    go_enter Try.func62, Try.ntmps62
    go_wp2_with (go_at_call 73; refine (c_cmp _ _ _).mono ?_; rw [E1.out]; rintro e w' ⟨rfl, rfl⟩)
    go_ret
    exact ⟨rfl, by go_grown⟩
theorem mulHi {a b : Nat} (ha : Wd a) (hb : Wd b) : a * b / 18446744073709551616 ≤ 18446744073709551614 := by
  unfold Wd at *
  have h1 : a * b ≤ 18446744073709551615 * 18446744073709551615 := Nat.mul_le_mul (by omega) (by omega)
  omega
/-- Times: the product whole. -/
theorem c_Times (ah al b : Nat) (h1 : Wd ah) (h2 : Wd al) (h3 : Wd b) (w : World) :
    Calls Try.prog 61 #[.agg #[.int .u64 ah, .int .u64 al], .int .u64 b] w fun e w' => e = .returned (.tuple #[.int .u64 ((val ah al * b / 18446744073709551616 / 18446744073709551616 : Nat) : Int), .agg #[.int .u64 ((val ah al * b / 18446744073709551616 % 18446744073709551616 : Nat) : Int), .int .u64 ((val ah al * b % 18446744073709551616 : Nat) : Int)]]) ∧ Gr w w' := by
  have H1 := mulHi h2 h3
  have H2 := mulHi h1 h3
  have hp : val ah al * b = ah * b * 18446744073709551616 + al * b := by unfold val; rw [Nat.add_mul, Nat.mul_right_comm]
  obtain ⟨p, hp1⟩ : ∃ p, p = ah * b := ⟨_, rfl⟩
  obtain ⟨q, hq1⟩ : ∃ q, q = al * b := ⟨_, rfl⟩
  obtain ⟨ca, hca⟩ : ∃ ca, ca = q / 18446744073709551616 := ⟨_, rfl⟩
  obtain ⟨lo, hlo⟩ : ∃ lo, lo = q % 18446744073709551616 := ⟨_, rfl⟩
  obtain ⟨t0, ht0⟩ : ∃ t0, t0 = p / 18446744073709551616 := ⟨_, rfl⟩
  obtain ⟨h0, hh0⟩ : ∃ h0, h0 = p % 18446744073709551616 := ⟨_, rfl⟩
  obtain ⟨hi, hhi⟩ : ∃ hi, hi = (h0 + ca) % 18446744073709551616 := ⟨_, rfl⟩
  obtain ⟨cy, hcy⟩ : ∃ cy, cy = (h0 + ca) / 18446744073709551616 := ⟨_, rfl⟩
  have f1 : val ah al * b / 18446744073709551616 / 18446744073709551616 = t0 + cy := by rw [hp, ← hp1, ← hq1]; omega
  have f2 : val ah al * b / 18446744073709551616 % 18446744073709551616 = hi := by rw [hp, ← hp1, ← hq1]; omega
  have f3 : val ah al * b % 18446744073709551616 = lo := by rw [hp, ← hp1, ← hq1]; omega
  rw [f1, f2, f3]
  have ht : t0 + cy ≤ 18446744073709551615 := by rw [← hp1] at H2; rw [← hq1] at H1; omega
  have m1 : ∀ W, Calls Try.prog 71 #[.int .u64 al, .int .u64 b] W fun e w' => e = .returned (.tuple #[.int .u64 ca, .int .u64 lo]) ∧ w' = W := fun W => by
    have := Try.bits_Mul64 al b h2 h3 W
    rw [← hq1, ← hca, ← hlo] at this; exact this
  have m2 : ∀ W, Calls Try.prog 71 #[.int .u64 ah, .int .u64 b] W fun e w' => e = .returned (.tuple #[.int .u64 t0, .int .u64 h0]) ∧ w' = W := fun W => by
    have := Try.bits_Mul64 ah b h1 h3 W
    rw [← hp1, ← ht0, ← hh0] at this; exact this
  have e1 : ∀ W, (callFunc 72 #[.int .u64 h0, .int .u64 ca, .int .u64 0]).run Try.prog W = .ok (.value (.tuple #[.int .u64 hi, .int .u64 cy])) W := fun W => by
    have := add64 h0 ca 0 (by omega) W
    rw [Nat.add_zero, ← hhi, ← hcy] at this; exact this
  have M1 := Lib.hid m1
  have M2 := Lib.hid m2
  clear m1 m2 f1 f2 f3 hp hp1 hq1 hca hlo ht0 hh0 hhi hcy H1 H2
  go_enter Try.func61, Try.ntmps61
  go_wp2_with (go_at_call 71; first | ((with_reducible refine (M1.out _).mono ?_); rintro e w' ⟨rfl, rfl⟩) | ((with_reducible refine (M2.out _).mono ?_); rintro e w' ⟨rfl, rfl⟩))
  go_returns
  exact ⟨rfl, by go_grown⟩
end Go.Proofs.Ytldlpbfncgcimaa
