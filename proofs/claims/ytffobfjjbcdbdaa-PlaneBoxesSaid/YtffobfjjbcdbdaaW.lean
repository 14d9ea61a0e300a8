/- wide's functions, by what they answer. -/
import Derived.Test.YtffobfjjbcdbdaaF
import Derived.Test.YtffobfjjbcdbdaaG
namespace Go.Proofs.Ytffobfjjbcdbdaa
set_option linter.unusedVariables false
open Go.ChangeShapes Go.WideShapes Go.ChangeAt Go.RowKit

/-- The number of two words. -/
def val (hi lo : Nat) : Nat := hi * 18446744073709551616 + lo
/-- A word. -/
def Wd (a : Nat) : Prop := a < 18446744073709551616
/-- How a stands to b. -/
def cmpN (a b : Nat) : Int := if a < b then -1 else if b < a then 1 else 0

/-- A word that came in. -/
theorem u64_nat {z : Int} (h : (Lit.int .u64 z).wf = true) : ∃ a : Nat, z = a ∧ Wd a := by
  have hb := bounds_u64 h
  refine ⟨z.toNat, (Int.toNat_of_nonneg hb.1).symm, ?_⟩
  have h2 : z < 18446744073709551616 := by omega
  exact (Int.toNat_lt hb.1).2 h2

theorem c_Mul (a b : Nat) (ha : Wd a) (hb : Wd b) (w : World) :
    Calls Try.prog 51 #[.int .u64 a, .int .u64 b] w fun e w' => e = .returned (.agg #[.int .u64 (a * b / 18446744073709551616 : Nat), .int .u64 (a * b % 18446744073709551616 : Nat)]) ∧ Gr w w' := by
  go_enter Try.func51, Try.ntmps51
  go_wp2_with (go_at_call 65; refine (Try.bits_Mul64 a b ha hb _).mono ?_; rintro e w' ⟨rfl, rfl⟩)
  go_returns
  exact ⟨rfl, by go_grown⟩
theorem sub64 (x y c : Nat) (hc : c ≤ 1) (w : World) : (callFunc 69 #[.int .u64 x, .int .u64 y, .int .u64 c]).run Try.prog w =
      .ok (.value (.tuple #[.int .u64 (((x + 18446744073709551616 - y - c) % 18446744073709551616 : Nat) : Int), .int .u64 ((if x < y + c then 1 else 0 : Nat) : Int)])) w := by
  rw [run_callFunc_extern Try.func69 (by kernel_rfl) (by kernel_rfl) (by kernel_rfl) (e := sub64Entry) (by kernel_rfl), run_sub64 x y c hc]
  rfl
theorem cmpN_lt {a b : Nat} (h : a < b) : cmpN a b = -1 := if_pos h
theorem cmpN_gt {a b : Nat} (h : b < a) : cmpN a b = 1 := by unfold cmpN; rw [if_neg (by omega), if_pos h]
theorem cmpN_eq {a b : Nat} (h : a = b) : cmpN a b = 0 := by unfold cmpN; rw [if_neg (by omega), if_neg (by omega)]
theorem c_Sub (ah al bh bl : Nat) (h1 : Wd ah) (h2 : Wd al) (h3 : Wd bh) (h4 : Wd bl) (w : World) :
    Calls Try.prog 54 #[.agg #[.int .u64 ah, .int .u64 al], .agg #[.int .u64 bh, .int .u64 bl]] w fun e w' => e = .returned (.tuple #[.agg #[.int .u64 (((val ah al + val 18446744073709551616 0 - val bh bl) / 18446744073709551616 % 18446744073709551616 : Nat) : Int), .int .u64 (((val ah al + val 18446744073709551616 0 - val bh bl) % 18446744073709551616 : Nat) : Int)], .bool (decide (val ah al < val bh bl))]) ∧ Gr w w' := by
  obtain ⟨lo, hlo⟩ : ∃ lo : Nat, lo = (al + 18446744073709551616 - bl) % 18446744073709551616 := ⟨_, rfl⟩
  obtain ⟨c, hc⟩ : ∃ c : Nat, c = if al < bl then 1 else 0 := ⟨_, rfl⟩
  obtain ⟨hi, hhi⟩ : ∃ hi : Nat, hi = (ah + 18446744073709551616 - bh - c) % 18446744073709551616 := ⟨_, rfl⟩
  have hc1 : c ≤ 1 := by subst hc; split <;> omega
  have e1 : ∀ W, (callFunc 69 #[.int .u64 al, .int .u64 bl, .int .u64 0]).run Try.prog W = .ok (.value (.tuple #[.int .u64 lo, .int .u64 c])) W := fun W => by
    have := sub64 al bl 0 (by omega) W
    simp only [Nat.add_zero, Nat.sub_zero] at this
    rw [← hlo, ← hc] at this; exact this
  have hm : (val ah al + val 18446744073709551616 0 - val bh bl) % 18446744073709551616 = lo := by unfold val Wd at *; omega
  have hd : (val ah al + val 18446744073709551616 0 - val bh bl) / 18446744073709551616 % 18446744073709551616 = hi := by
    subst hhi hc; unfold val Wd at *; split <;> omega
  have hx : val ah al < val bh bl ↔ ah < bh + c := by subst hc; unfold val Wd at *; split <;> omega
  rw [hd, hm]
  by_cases h : ah < bh + c
  · have e2 : ∀ W, (callFunc 69 #[.int .u64 ah, .int .u64 bh, .int .u64 c]).run Try.prog W = .ok (.value (.tuple #[.int .u64 hi, .int .u64 1])) W := fun W => by
      have := sub64 ah bh c hc1 W
      rw [← hhi, if_pos h] at this; exact this
    have hdec : decide (val ah al < val bh bl) = true := decide_eq_true (hx.2 h)
    rw [hdec]
    clear hd hm hdec hhi hlo hc hx h
    go_enter Try.func54, Try.ntmps54
    go_wp2
    go_returns
    exact ⟨rfl, by go_grown⟩
  · have e2 : ∀ W, (callFunc 69 #[.int .u64 ah, .int .u64 bh, .int .u64 c]).run Try.prog W = .ok (.value (.tuple #[.int .u64 hi, .int .u64 0])) W := fun W => by
      have := sub64 ah bh c hc1 W
      rw [← hhi, if_neg h] at this; exact this
    have hdec : decide (val ah al < val bh bl) = false := decide_eq_false (fun k => h (hx.1 k))
    rw [hdec]
    clear hd hm hdec hhi hlo hc hx h
    go_enter Try.func54, Try.ntmps54
    go_wp2
    go_returns
    exact ⟨rfl, by go_grown⟩
theorem mulHi {a b : Nat} (ha : Wd a) (hb : Wd b) : a * b / 18446744073709551616 ≤ 18446744073709551614 := by
  unfold Wd at *
  have h1 : a * b ≤ 18446744073709551615 * 18446744073709551615 := Nat.mul_le_mul (by omega) (by omega)
  omega
end Go.Proofs.Ytffobfjjbcdbdaa
