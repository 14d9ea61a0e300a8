/- bits of a number, spread over a number twice as long: plain facts -/
namespace Go.Proofs.YtldlpbfncgcimaaDoor.Cv
set_option linter.unusedVariables false

/-- The lowest k bits of n, the i-th at the 2 i-th place. -/
def spr (n : Nat) : Nat → Nat
  | 0 => 0
  | k + 1 => spr n k + n / 2 ^ k % 2 * 4 ^ k
theorem spr_low (n k : Nat) : spr n (k + 1) = n % 2 + 4 * spr (n / 2) k := by
  induction k with
  | zero => simp [spr]
  | succ k ih =>
    rw [spr, ih, spr, Nat.div_div_eq_div_mul, Nat.mul_add, Nat.pow_succ 4 k, Nat.pow_succ 2 k, Nat.mul_comm 2]
    rw [Nat.add_assoc]
    congr 2
    rw [Nat.mul_comm (4 ^ k) 4, Nat.mul_left_comm]
theorem spr_lt (n k : Nat) : 3 * spr n k + 1 ≤ 4 ^ k := by
  induction k with
  | zero => simp [spr]
  | succ k ih =>
    rw [spr, Nat.pow_succ]
    have : n / 2 ^ k % 2 * 4 ^ k ≤ 1 * 4 ^ k := Nat.mul_le_mul_right _ (by omega)
    omega
theorem spr_mono {k : Nat} : ∀ {n m : Nat}, n < 2 ^ k → m < 2 ^ k → n < m → spr n k < spr m k := by
  induction k with
  | zero => intro n m h1 h2 h; simp at h1 h2; omega
  | succ k ih =>
    intro n m h1 h2 h
    rw [spr_low, spr_low]
    rw [Nat.pow_succ] at h1 h2
    rcases Nat.lt_or_ge (n / 2) (m / 2) with h3 | h3
    · have := ih (n := n / 2) (m := m / 2) (by omega) (by omega) h3
      omega
    · have e : n / 2 = m / 2 := by omega
      rw [e]
      omega
theorem spr_le {k n m : Nat} (h1 : n < 2 ^ k) (h2 : m < 2 ^ k) (h : n ≤ m) : spr n k ≤ spr m k := by
  rcases Nat.lt_or_eq_of_le h with h | h
  · exact Nat.le_of_lt (spr_mono h1 h2 h)
  · rw [h]; exact Nat.le_refl _
/-- A point's place. -/
def zv (x y : Nat) : Nat := spr x 31 + 2 * spr y 31
theorem zv_le {x y x' y' : Nat} (h1 : x < 2147483648) (h2 : y < 2147483648) (h3 : x' < 2147483648) (h4 : y' < 2147483648) (a : x ≤ x') (b : y ≤ y') : zv x y ≤ zv x' y' := by
  have := spr_le (k := 31) h1 h3 a
  have := spr_le (k := 31) h2 h4 b
  unfold zv; omega
theorem zv_eq {x y x' y' : Nat} (h1 : x < 2147483648) (h2 : y < 2147483648) (h3 : x' < 2147483648) (h4 : y' < 2147483648) (a : x ≤ x') (b : y ≤ y') : zv x y = zv x' y' ↔ x = x' ∧ y = y' := by
  constructor
  · intro h
    have p := spr_le (k := 31) h1 h3 a
    have q := spr_le (k := 31) h2 h4 b
    unfold zv at h
    constructor
    · rcases Nat.lt_or_eq_of_le a with c | c
      · have := spr_mono (k := 31) h1 h3 c; omega
      · exact c
    · rcases Nat.lt_or_eq_of_le b with c | c
      · have := spr_mono (k := 31) h2 h4 c; omega
      · exact c
  · rintro ⟨rfl, rfl⟩; rfl
theorem zv_lt (x y : Nat) : zv x y < 4611686018427387904 := by
  have := spr_lt x 31
  have := spr_lt y 31
  unfold zv
  rw [show 4 ^ 31 = 4611686018427387904 from rfl] at *
  omega
/-- No bit of one is a bit of twice the other. -/
theorem spr_or (x y : Nat) : ∀ k, spr x k ||| 2 * spr y k = spr x k + 2 * spr y k := by
  intro k
  induction k generalizing x y with
  | zero => simp [spr]
  | succ k ih =>
    rw [spr_low, spr_low]
    have e := ih (x / 2) (y / 2)
    generalize spr (x / 2) k = a at *
    generalize spr (y / 2) k = b at *
    have hx := Nat.mod_lt x (show 0 < 2 by omega)
    have hy := Nat.mod_lt y (show 0 < 2 by omega)
    generalize x % 2 = p at *
    generalize y % 2 = q at *
    have e1 : p + 4 * a ||| 2 * (q + 4 * b) = (p + 2 * q) + 4 * (a ||| 2 * b) := by
      apply Nat.eq_of_testBit_eq
      intro i
      rw [Nat.testBit_or]
      have t : ∀ (c d : Nat), c < 4 → (c + 4 * d).testBit i = if i < 2 then c.testBit i else d.testBit (i - 2) := fun c d hc => by
        rw [Nat.add_comm, show 4 = 2 ^ 2 from rfl, Nat.testBit_two_pow_mul_add _ (by simpa using hc)]
      rw [show 2 * (q + 4 * b) = 2 * q + 4 * (2 * b) by omega, t p a (by omega), t (2 * q) (2 * b) (by omega), t (p + 2 * q) (a ||| 2 * b) (by omega)]
      split
      · rename_i hi
        have : i = 0 ∨ i = 1 := by omega
        rcases (show p = 0 ∨ p = 1 by omega) with rfl | rfl <;> rcases (show q = 0 ∨ q = 1 by omega) with rfl | rfl <;> rcases this with rfl | rfl <;> rfl
      · rw [Nat.testBit_or]
    rw [e1, e]
    omega
end Go.Proofs.YtldlpbfncgcimaaDoor.Cv
