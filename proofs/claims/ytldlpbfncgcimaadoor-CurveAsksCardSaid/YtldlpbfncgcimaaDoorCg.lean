/- the other curve: plain facts -/
namespace Go.Proofs.YtldlpbfncgcimaaDoor.Cv
set_option linter.unusedVariables false

/-- A quarter's number: right or not, up or not. -/
def qd (r u : Nat) : Nat := if r = 0 then (if u = 0 then 0 else 1) else (if u = 0 then 3 else 2)
/-- A point turned as a quarter's curve is. -/
def tX (q s x y : Nat) : Nat := if q = 3 then s - 1 - y else if q = 0 then y else x
def tY (q s x y : Nat) : Nat := if q = 3 then s - 1 - x else if q = 0 then x else y
theorem tX_lt {q s x y : Nat} (hx : x < s) (hy : y < s) : tX q s x y < s := by unfold tX; split <;> (try split) <;> omega
theorem tY_lt {q s x y : Nat} (hx : x < s) (hy : y < s) : tY q s x y < s := by unfold tY; split <;> (try split) <;> omega
theorem t_back {q s x y : Nat} (hx : x < s) (hy : y < s) : tX q s (tX q s x y) (tY q s x y) = x ∧ tY q s (tX q s x y) (tY q s x y) = y := by
  unfold tX tY; by_cases h3 : q = 3 <;> by_cases h0 : q = 0 <;> simp [h3, h0] <;> omega
theorem qd_lt (r u : Nat) : qd r u < 4 := by unfold qd; split <;> split <;> omega
/-- A point's place; the coordinates have j digits. -/
def hil : Nat → Nat → Nat → Nat
  | 0, _, _ => 0
  | j + 1, x, y => qd (x / 2 ^ j) (y / 2 ^ j) * 4 ^ j + hil j (tX (qd (x / 2 ^ j) (y / 2 ^ j)) (2 ^ j) (x % 2 ^ j) (y % 2 ^ j)) (tY (qd (x / 2 ^ j) (y / 2 ^ j)) (2 ^ j) (x % 2 ^ j) (y % 2 ^ j))
theorem hil_lt (j : Nat) : ∀ x y, hil j x y < 4 ^ j := by
  induction j with
  | zero => intro x y; simp [hil]
  | succ j ih =>
    intro x y
    rw [hil, Nat.pow_succ]
    have h1 := ih (tX (qd (x / 2 ^ j) (y / 2 ^ j)) (2 ^ j) (x % 2 ^ j) (y % 2 ^ j)) (tY (qd (x / 2 ^ j) (y / 2 ^ j)) (2 ^ j) (x % 2 ^ j) (y % 2 ^ j))
    have h2 : qd (x / 2 ^ j) (y / 2 ^ j) * 4 ^ j ≤ 3 * 4 ^ j := Nat.mul_le_mul_right _ (by have := qd_lt (x / 2 ^ j) (y / 2 ^ j); omega)
    omega
/-- Which half a quarter is of: to the right, up. -/
def rt (q : Nat) : Nat := q / 2
def up (q : Nat) : Nat := if q = 1 ∨ q = 2 then 1 else 0
/-- A place's point: its lowest j digits. -/
def uX : Nat → Nat → Nat × Nat
  | 0, _ => (0, 0)
  | j + 1, v => (tX (v / 4 ^ j % 4) (2 ^ j) (uX j v).1 (uX j v).2 + rt (v / 4 ^ j % 4) * 2 ^ j, tY (v / 4 ^ j % 4) (2 ^ j) (uX j v).1 (uX j v).2 + up (v / 4 ^ j % 4) * 2 ^ j)
theorem rt_lt {q : Nat} (h : q < 4) : rt q < 2 := by unfold rt; omega
theorem up_lt (q : Nat) : up q < 2 := by unfold up; split <;> omega
theorem uX_lt (j v : Nat) : (uX j v).1 < 2 ^ j ∧ (uX j v).2 < 2 ^ j := by
  induction j with
  | zero => simp [uX]
  | succ j ih =>
    rw [uX, Nat.pow_succ]
    have h1 := tX_lt (q := v / 4 ^ j % 4) ih.1 ih.2
    have h2 := tY_lt (q := v / 4 ^ j % 4) ih.1 ih.2
    have h3 : rt (v / 4 ^ j % 4) * 2 ^ j ≤ 1 * 2 ^ j := Nat.mul_le_mul_right _ (by have := rt_lt (q := v / 4 ^ j % 4) (Nat.mod_lt _ (by omega)); omega)
    have h4 : up (v / 4 ^ j % 4) * 2 ^ j ≤ 1 * 2 ^ j := Nat.mul_le_mul_right _ (by have := up_lt (v / 4 ^ j % 4); omega)
    simp only
    omega
theorem qd_rt {q : Nat} (h : q < 4) : qd (rt q) (up q) = q := by
  rcases (show q = 0 ∨ q = 1 ∨ q = 2 ∨ q = 3 by omega) with rfl | rfl | rfl | rfl <;> rfl
/-- There and back. -/
theorem hil_uX (j v : Nat) : hil j (uX j v).1 (uX j v).2 = v % 4 ^ j := by
  induction j with
  | zero => simp [hil, Nat.mod_one]
  | succ j ih =>
    have hu := uX_lt j v
    have hq : v / 4 ^ j % 4 < 4 := Nat.mod_lt _ (by omega)
    have h1 := tX_lt (q := v / 4 ^ j % 4) hu.1 hu.2
    have h2 := tY_lt (q := v / 4 ^ j % 4) hu.1 hu.2
    have hb := t_back (q := v / 4 ^ j % 4) hu.1 hu.2
    rw [uX]
    generalize hqq : v / 4 ^ j % 4 = q at *
    generalize hxx : tX q (2 ^ j) (uX j v).1 (uX j v).2 = x at *
    generalize hyy : tY q (2 ^ j) (uX j v).1 (uX j v).2 = y at *
    have p : 0 < 2 ^ j := Nat.two_pow_pos j
    have d1 : (x + rt q * 2 ^ j) / 2 ^ j = rt q := by rw [Nat.add_mul_div_right _ _ p, Nat.div_eq_of_lt h1, Nat.zero_add]
    have d2 : (y + up q * 2 ^ j) / 2 ^ j = up q := by rw [Nat.add_mul_div_right _ _ p, Nat.div_eq_of_lt h2, Nat.zero_add]
    have m1 : (x + rt q * 2 ^ j) % 2 ^ j = x := by rw [Nat.add_mul_mod_self_right, Nat.mod_eq_of_lt h1]
    have m2 : (y + up q * 2 ^ j) % 2 ^ j = y := by rw [Nat.add_mul_mod_self_right, Nat.mod_eq_of_lt h2]
    rw [hil]
    simp only
    rw [d1, d2, m1, m2, qd_rt hq, hb.1, hb.2, ih, ← hqq]
    rw [Nat.pow_succ, Nat.mod_mul, Nat.mul_comm (4 ^ j) (v / 4 ^ j % 4), Nat.add_comm]
end Go.Proofs.YtldlpbfncgcimaaDoor.Cv
