/- bits gathered: plain facts -/
import Derived.Test.YtldlpbfncgcimaaDoorCa
namespace Go.Proofs.YtldlpbfncgcimaaDoor.Cv
set_option linter.unusedVariables false

/-- The even bits of v, below the 2 k-th, side by side. -/
def gat (v : Nat) : Nat → Nat
  | 0 => 0
  | k + 1 => gat v k + v / 4 ^ k % 2 * 2 ^ k
theorem gat_lt (v k : Nat) : gat v k < 2 ^ k := by
  induction k with
  | zero => simp [gat]
  | succ k ih =>
    rw [gat, Nat.pow_succ]
    have : v / 4 ^ k % 2 * 2 ^ k ≤ 1 * 2 ^ k := Nat.mul_le_mul_right _ (by omega)
    omega
theorem gat_low (v k : Nat) : gat v (k + 1) = v % 2 + 2 * gat (v / 4) k := by
  induction k with
  | zero => simp [gat]
  | succ k ih =>
    rw [gat, ih, gat, Nat.div_div_eq_div_mul, Nat.mul_add, Nat.pow_succ 4 k, Nat.pow_succ 2 k, Nat.mul_comm 4]
    rw [Nat.add_assoc]
    congr 2
    rw [Nat.mul_comm (2 ^ k) 2, Nat.mul_left_comm]
/-- What was spread is gathered. -/
theorem gat_spr (k : Nat) : ∀ x y, x < 2 ^ k → gat (spr x k + 2 * spr y k) k = x := by
  induction k with
  | zero => intro x y h; simp at h; simp [gat, h]
  | succ k ih =>
    intro x y h
    rw [Nat.pow_succ] at h
    rw [gat_low, spr_low x, spr_low y]
    have e1 : (x % 2 + 4 * spr (x / 2) k + 2 * (y % 2 + 4 * spr (y / 2) k)) % 2 = x % 2 := by omega
    have e2 : (x % 2 + 4 * spr (x / 2) k + 2 * (y % 2 + 4 * spr (y / 2) k)) / 4 = spr (x / 2) k + 2 * spr (y / 2) k := by omega
    rw [e1, e2, ih _ _ (by omega)]
    omega
theorem gat_half (k : Nat) : ∀ x y, y < 2 ^ k → gat ((spr x k + 2 * spr y k) / 2) k = y := by
  induction k with
  | zero => intro x y h; simp at h; simp [gat, h]
  | succ k ih =>
    intro x y h
    rw [Nat.pow_succ] at h
    rw [gat_low, spr_low x, spr_low y]
    have e1 : (x % 2 + 4 * spr (x / 2) k + 2 * (y % 2 + 4 * spr (y / 2) k)) / 2 % 2 = y % 2 := by omega
    have e2 : (x % 2 + 4 * spr (x / 2) k + 2 * (y % 2 + 4 * spr (y / 2) k)) / 2 / 4 = (spr (x / 2) k + 2 * spr (y / 2) k) / 2 := by omega
    rw [e1, e2, ih _ _ (by omega)]
    omega
/-- What was gathered is spread. -/
theorem spr_gat (k : Nat) : ∀ v, v < 4 ^ k → spr (gat v k) k + 2 * spr (gat (v / 2) k) k = v := by
  induction k with
  | zero => intro v h; simp at h; simp [spr, h]
  | succ k ih =>
    intro v h
    rw [Nat.pow_succ] at h
    have := ih (v / 4) (by omega)
    rw [gat_low, gat_low, spr_low, spr_low]
    have h1 : (v % 2 + 2 * gat (v / 4) k) % 2 = v % 2 := by omega
    have h2 : (v % 2 + 2 * gat (v / 4) k) / 2 = gat (v / 4) k := by omega
    have h3 : (v / 2 % 2 + 2 * gat (v / 2 / 4) k) % 2 = v / 2 % 2 := by omega
    have h4 : (v / 2 % 2 + 2 * gat (v / 2 / 4) k) / 2 = gat (v / 2 / 4) k := by omega
    rw [h1, h2, h3, h4, show v / 2 / 4 = v / 4 / 2 by omega]
    omega
end Go.Proofs.YtldlpbfncgcimaaDoor.Cv
