/- the walk of WideSquares; the walks of WideOver, WideOrder, WideSquares; ratio: what its functions answer; the document's own long division, bit by bit; the document's own long division: the walk; the document's own products: words; the document's own products; the document's own squares, and fractions over one; the document's own Lowest -/
import Derived.Test.YtapfecmdfoobcaaGreatDoorK
import Derived.Test.YtapfecmdfoobcaaGreatDoorH
namespace Go.Proofs.YtapfecmdfoobcaaGreatDoor
set_option linter.unusedVariables false
open Go.ChangeShapes Go.WideShapes Go.ChangeAt Go.RowKit

theorem sq_lt {x y : Nat} : x * x < y * y ↔ x < y := by
  constructor
  · intro h
    rcases Nat.lt_or_ge x y with g | g
    · exact g
    · exact absurd (Nat.mul_le_mul g g) (by omega)
  · intro h
    exact Nat.mul_lt_mul'' h h
end Go.Proofs.YtapfecmdfoobcaaGreatDoor
namespace Go.Proofs.YtapfecmdfoobcaaGreatDoor
set_option linter.unusedVariables false
open Go.ChangeShapes Go.WideShapes Go.ChangeAt Go.RowKit

theorem val_zero (n : Nat) : val 0 n = n := by unfold val; omega
/-- All digits turned. -/
theorem xor_all (b : Nat) (h : Wd b) : bits BinOp.xor IntKind.u64 IntKind.u64.max (b : Int) = ((18446744073709551615 - b : Nat) : Int) := by
  have e := bits_xor_u64_nat 18446744073709551615 b (by omega) h
  have hm : IntKind.u64.max = ((18446744073709551615 : Nat) : Int) := rfl
  rw [hm, e]
  congr 1
  have h1 : (BitVec.allOnes 64 ^^^ BitVec.ofNat 64 b).toNat = 18446744073709551615 ^^^ b := by
    rw [BitVec.toNat_xor, BitVec.toNat_ofNat, Nat.mod_eq_of_lt h]
    rfl
  have h2 : (~~~ (BitVec.ofNat 64 b)).toNat = 18446744073709551615 - b := by
    rw [BitVec.toNat_not, BitVec.toNat_ofNat, Nat.mod_eq_of_lt h]
  rw [← h1, ← h2, BitVec.not_def]

end Go.Proofs.YtapfecmdfoobcaaGreatDoor
namespace Go.Proofs.YtapfecmdfoobcaaGreatDoor
set_option linter.unusedVariables false
open Go.ChangeShapes Go.WideShapes Go.ChangeAt Go.RowKit

/-- The two words of a number. -/
theorem val_split (n : Nat) (h : n < 340282366920938463463374607431768211456) : val (n / 18446744073709551616) (n % 18446744073709551616) = n ∧ Wd (n / 18446744073709551616) ∧ Wd (n % 18446744073709551616) := by
  unfold val Wd; omega
/-- The denominator that is left. -/
def lowD (n d : Nat) : Nat := d / Nat.gcd d (n % d)
/-- The numerator that is left. -/
def lowN (n d : Nat) : Nat := n / Nat.gcd d (n % d)
end Go.Proofs.YtapfecmdfoobcaaGreatDoor
namespace Go.Proofs.YtapfecmdfoobcaaGreatDoor
set_option linter.unusedVariables false
open Go.ChangeShapes Go.WideShapes Go.ChangeAt Go.RowKit

/-- What holds at the head of Div's loop: k bits are to come. -/
def DivRel (R : Nat) (h l d : Nat) (W : World) (k : Nat) (rv iv : Value) (wr : World) : Prop :=
  ∃ (qh ql r : Nat), k ≤ 128 ∧ Wd qh ∧ Wd ql ∧ r < d ∧ rv = .int .u64 r ∧ iv = .int .i64 ((k : Int) - 1) ∧ val qh ql = val h l / 2 ^ k / d * 2 ^ k ∧ r = val h l / 2 ^ k % d ∧
    wr.cell? ⟨R, 0, none⟩ = some (.int .u64 h) ∧ wr.cell? ⟨R, 1, none⟩ = some (.int .u64 l) ∧ wr.cell? ⟨R + 1, 0, none⟩ = some (.int .u64 0) ∧ wr.cell? ⟨R + 1, 1, none⟩ = some (.int .u64 0) ∧ wr.frozen? ⟨R + 1, 0, none⟩ = false ∧ wr.frozen? ⟨R + 1, 1, none⟩ = false ∧
    wr.cell? ⟨R + 1 + 1, 0, none⟩ = some (.int .u64 qh) ∧ wr.cell? ⟨R + 1 + 1, 1, none⟩ = some (.int .u64 ql) ∧ wr.frozen? ⟨R + 1 + 1, 0, none⟩ = false ∧ wr.frozen? ⟨R + 1 + 1, 1, none⟩ = false ∧ Gr W wr
theorem and_one (x : Nat) (h : Wd x) : bits BinOp.and IntKind.u64 (x : Int) 1 = ((x % 2 : Nat) : Int) := by
  have e := bits_and_u64_nat x 1 h (by omega)
  rw [Nat.and_one_is_mod] at e
  exact e
theorem or_bit (m b : Nat) (h : Wd m) (hb : b < 2) (hm : m % 2 = 0) : bits BinOp.or IntKind.u64 (m : Int) (b : Int) = ((m + b : Nat) : Int) := by
  have e := bits_or_u64_nat m b h (by omega)
  have e2 := Nat.two_pow_add_eq_or_of_lt (i := 1) (b := b) (by omega) (m / 2)
  rw [show 2 ^ 1 * (m / 2) = m by omega] at e2
  rw [← e2] at e
  exact e
/-- One bit more. -/
theorem div_step {T d B : Nat} (hd : 1 ≤ d) (hB : B < 2) : (2 * T + B) / d = 2 * (T / d) + (if d ≤ 2 * (T % d) + B then 1 else 0) ∧ (2 * T + B) % d = 2 * (T % d) + B - (if d ≤ 2 * (T % d) + B then d else 0) := by
  have h1 := Nat.div_add_mod T d
  have h2 := Nat.mod_lt T (show 0 < d by omega)
  generalize T / d = Q at *
  generalize T % d = r at *
  have e : 2 * T + B = d * (2 * Q) + (2 * r + B) := by
    rw [← h1, Nat.mul_left_comm d 2 Q]; omega
  rw [e, Nat.mul_add_div (by omega), Nat.mul_add_mod]
  split
  · rename_i h
    have a : (2 * r + B) / d = 1 := by
      rw [Nat.div_eq_iff (by omega)]; omega
    have b : (2 * r + B) % d = 2 * r + B - d := by
      rw [Nat.mod_eq_sub_mod h, Nat.mod_eq_of_lt (by omega)]
    rw [a, b]; omega
  · rename_i h
    rw [Nat.div_eq_of_lt (by omega), Nat.mod_eq_of_lt (by omega)]; omega
theorem two_steps (N k : Nat) : N / 2 ^ k = 2 * (N / 2 ^ (k + 1)) + N / 2 ^ k % 2 := by
  rw [Nat.pow_succ, ← Nat.div_div_eq_div_mul]
  omega
theorem bit_high (h l j : Nat) (hl : Wd l) : val h l / 2 ^ (j + 64) = h / 2 ^ j := by
  rw [Nat.add_comm, Nat.pow_add, ← Nat.div_div_eq_div_mul]
  congr 1
  unfold val Wd at *
  omega
theorem bit_low (h l i : Nat) (hi : i < 64) : val h l / 2 ^ i % 2 = l / 2 ^ i % 2 := by
  obtain ⟨s, hs⟩ : ∃ s, 64 = i + 1 + s := ⟨63 - i, by omega⟩
  have e : val h l = 2 ^ i * (2 * (h * 2 ^ s)) + l := by
    unfold val
    rw [show (18446744073709551616 : Nat) = 2 ^ 64 from rfl, hs, Nat.pow_add, Nat.pow_succ]
    grind
  rw [e, Nat.mul_add_div (Nat.two_pow_pos i)]
  omega
theorem or_pow (a j s : Nat) (e : a = s * 2 ^ (j + 1)) : a ||| 2 ^ j = a + 2 ^ j := by
  have h := Nat.two_pow_add_eq_or_of_lt (i := j + 1) (b := 2 ^ j) (Nat.pow_lt_pow_right (by omega) (by omega)) s
  rw [Nat.mul_comm] at h
  rw [e, ← h]
/-- The quotient's words, where j + 65 bits are to come. -/
theorem quo_high {qh ql Q j : Nat} (hql : Wd ql) (e : val qh ql = Q * 2 ^ (j + 64 + 1)) : ql = 0 ∧ qh = Q * 2 ^ (j + 1) := by
  have e2 : Q * 2 ^ (j + 64 + 1) = Q * 2 ^ (j + 1) * 18446744073709551616 := by
    rw [show (18446744073709551616 : Nat) = 2 ^ 64 from rfl, Nat.mul_assoc, ← Nat.pow_add]
  rw [e2] at e
  generalize Q * 2 ^ (j + 1) = z at *
  unfold val Wd at *
  omega
theorem quo_low {qh ql Q i : Nat} (hi : i < 64) (e : val qh ql = Q * 2 ^ (i + 1)) : ∃ s, ql = s * 2 ^ (i + 1) := by
  obtain ⟨s, hs⟩ : ∃ s, 64 = i + 1 + s := ⟨63 - i, by omega⟩
  have d1 : 2 ^ (i + 1) ∣ val qh ql := ⟨Q, by rw [e, Nat.mul_comm]⟩
  have d2 : 2 ^ (i + 1) ∣ qh * 18446744073709551616 := by
    rw [show (18446744073709551616 : Nat) = 2 ^ 64 from rfl, hs, Nat.pow_add (2) (i + 1) s]
    exact ⟨qh * 2 ^ s, by grind⟩
  obtain ⟨c, hc⟩ := (Nat.dvd_add_right d2).1 (show 2 ^ (i + 1) ∣ qh * 18446744073709551616 + ql from d1)
  exact ⟨c, by rw [hc, Nat.mul_comm]⟩
theorem or_u64 (a p : Nat) (ha : Wd a) (hp : Wd p) (h : a ||| p = a + p) : bits BinOp.or IntKind.u64 (a : Int) (p : Int) = ((a + p : Nat) : Int) := by
  have e := bits_or_u64_nat a p ha hp
  rw [h] at e
  exact e
end Go.Proofs.YtapfecmdfoobcaaGreatDoor
namespace Go.Proofs.YtapfecmdfoobcaaGreatDoor
set_option linter.unusedVariables false
open Go.ChangeShapes Go.WideShapes Go.ChangeAt Go.RowKit

end Go.Proofs.YtapfecmdfoobcaaGreatDoor
namespace Go.Proofs.YtapfecmdfoobcaaGreatDoor
set_option linter.unusedVariables false
open Go.ChangeShapes Go.WideShapes Go.ChangeAt Go.RowKit

theorem mask32 (v : Nat) (h : Wd v) : bits BinOp.and IntKind.u64 (v : Int) 4294967295 = ((v % 4294967296 : Nat) : Int) := by
  have e := bits_and_u64_nat v 4294967295 h (by omega)
  rw [show (4294967295 : Nat) = 2 ^ 32 - 1 from rfl, Nat.and_two_pow_sub_one_eq_mod] at e
  exact e
/-- A word of 32 bits. -/
def Hw (a : Nat) : Prop := a < 4294967296
theorem hw_mul {a b : Nat} (ha : Hw a) (hb : Hw b) : a * b ≤ 4294967295 * 4294967295 := Nat.mul_le_mul (by unfold Hw at ha; omega) (by unfold Hw at hb; omega)
end Go.Proofs.YtapfecmdfoobcaaGreatDoor
namespace Go.Proofs.YtapfecmdfoobcaaGreatDoor
set_option linter.unusedVariables false
open Go.ChangeShapes Go.WideShapes Go.ChangeAt Go.RowKit

theorem or_words (x y : Nat) (hx : Hw x) (hy : Hw y) : bits BinOp.or IntKind.u64 (x : Int) ((y * 4294967296 : Nat) : Int) = ((x + y * 4294967296 : Nat) : Int) := by
  refine or_u64 x (y * 4294967296) (by unfold Hw at hx; unfold Wd; omega) (by unfold Hw at hy; unfold Wd; omega) ?_
  have h := Nat.two_pow_add_eq_or_of_lt (i := 32) (b := x) (by unfold Hw at hx; omega) y
  rw [show 2 ^ 32 * y = y * 4294967296 by omega] at h
  rw [Nat.or_comm, ← h, Nat.add_comm]
end Go.Proofs.YtapfecmdfoobcaaGreatDoor
namespace Go.Proofs.YtapfecmdfoobcaaGreatDoor
set_option linter.unusedVariables false
open Go.ChangeShapes Go.WideShapes Go.ChangeAt Go.RowKit

end Go.Proofs.YtapfecmdfoobcaaGreatDoor
namespace Go.Proofs.YtapfecmdfoobcaaGreatDoor
set_option linter.unusedVariables false
open Go.ChangeShapes Go.WideShapes Go.ChangeAt Go.RowKit

end Go.Proofs.YtapfecmdfoobcaaGreatDoor
