/- a segment in two pieces: the plane's arithmetic, with no program -/
import Derived.Test.YthjhhnolkiejpaaZa
namespace Go.Proofs.Ythjhhnolkiejpaa
set_option linter.unusedVariables false
open Go.ChangeShapes Go.WideShapes Go.ChangeAt Go.RowKit

/-- Two fractions in lowest terms that are as great are the same. -/
theorem low_same {a b c d : Nat} (h1 : Nat.gcd a b = 1) (h2 : Nat.gcd c d = 1) (hb : 0 < b) (hd : 0 < d) (e : a * d = c * b) : a = c ∧ b = d := by
  have d1 : b ∣ a * d := ⟨c, by rw [e, Nat.mul_comm]⟩
  have d2 : b ∣ d := (Nat.Coprime.dvd_of_dvd_mul_left (Nat.coprime_comm.1 h1) d1)
  have d3 : d ∣ c * b := ⟨a, by rw [← e, Nat.mul_comm]⟩
  have d4 : d ∣ b := (Nat.Coprime.dvd_of_dvd_mul_left (Nat.coprime_comm.1 h2) d3)
  have ebd : b = d := Nat.dvd_antisymm d2 d4
  subst ebd
  exact ⟨Nat.eq_of_mul_eq_mul_right hb e, rfl⟩
theorem low_cop (n d : Nat) (hd : 0 < d) : Nat.gcd (lowN n d) (lowD n d) = 1 := by
  unfold lowN lowD
  rw [mid_gcd]
  have hg : 0 < Nat.gcd d n := Nat.gcd_pos_of_pos_left _ hd
  rw [Nat.gcd_div (Nat.gcd_dvd_right d n) (Nat.gcd_dvd_left d n), Nat.gcd_comm n d]
  exact Nat.div_self hg
theorem sd_cop (ax ay bx by' px py : Int) : Nat.gcd (sdN ax ay bx by' px py) (sdD ax ay bx by' px py) = 1 ∧ 0 < sdD ax ay bx by' px py := by
  have n1 := sq_nn ax ay bx by'
  unfold sdN sdD
  by_cases h1 : alZ ax ay bx by' px py ≤ 0
  · rw [if_pos h1, if_pos h1]; simp
  · rw [if_neg h1, if_neg h1]
    by_cases h2 : sqZ ax ay bx by' ≤ alZ ax ay bx by' px py
    · rw [if_pos h2, if_pos h2]; simp
    · rw [if_neg h2, if_neg h2]
      have hd : 0 < (sqZ ax ay bx by').toNat := by omega
      exact ⟨low_cop _ _ hd, (mid_parts _ _ hd).2.2.2⟩
theorem low_scale' (n d k : Nat) (hk : 0 < k) : lowN (n * k) (d * k) = lowN n d ∧ lowD (n * k) (d * k) = lowD n d := by
  unfold lowN lowD
  have e : Nat.gcd (d * k) (n * k % (d * k)) = Nat.gcd d (n % d) * k := by
    rw [Nat.mul_mod_mul_right, Nat.gcd_mul_right]
  rw [e]
  exact ⟨Nat.mul_div_mul_right _ _ hk, Nat.mul_div_mul_right _ _ hk⟩
theorem natAbs_sq (x : Int) : ((x.natAbs * x.natAbs : Nat) : Int) = x * x := by
  rw [Int.natCast_mul]
  rcases Int.le_total 0 x with h | h
  · rw [Int.natAbs_of_nonneg h]
  · rw [Int.ofNat_natAbs_of_nonpos h, Int.neg_mul_neg]
/-- The distance by how far along, how long, how far off: for a segment of k steps. -/
def stN (k A L S C : Int) : Nat := if k * A ≤ 0 then S.toNat else if k * L ≤ A then (S - 2 * (k * A) + k * k * L).toNat else lowN (C.natAbs * C.natAbs) L.toNat
def stD (k A L C : Int) : Nat := if k * A ≤ 0 then 1 else if k * L ≤ A then 1 else lowD (C.natAbs * C.natAbs) L.toNat
theorem sd_steps (ax ay x y px py k : Int) (hk : 0 ≤ k) :
    sdN ax ay (ax + k * x) (ay + k * y) px py = stN k (x * (px - ax) + y * (py - ay)) (x * x + y * y) (sqZ ax ay px py) (x * (py - ay) - y * (px - ax)) ∧
    sdD ax ay (ax + k * x) (ay + k * y) px py = stD k (x * (px - ax) + y * (py - ay)) (x * x + y * y) (x * (py - ay) - y * (px - ax)) := by
  have e1 : alZ ax ay (ax + k * x) (ay + k * y) px py = k * (x * (px - ax) + y * (py - ay)) := by unfold alZ; grind
  have e2 : sqZ ax ay (ax + k * x) (ay + k * y) = k * k * (x * x + y * y) := by unfold sqZ; grind
  have e3 : cr ax ay (ax + k * x) (ay + k * y) px py = k * (x * (py - ay) - y * (px - ax)) := by unfold cr; grind
  have e4 : sqZ (ax + k * x) (ay + k * y) px py = sqZ ax ay px py - 2 * (k * (x * (px - ax) + y * (py - ay))) + k * k * (x * x + y * y) := by unfold sqZ; grind
  unfold sdN sdD stN stD
  rw [e1, e2, e3, e4]
  have hL : 0 ≤ x * x + y * y := by have := sq_nonneg x; have := sq_nonneg y; omega
  generalize x * (px - ax) + y * (py - ay) = A
  generalize x * x + y * y = L at *
  generalize x * (py - ay) - y * (px - ax) = C
  generalize sqZ ax ay px py = Sq
  by_cases h1 : k * A ≤ 0
  · rw [if_pos h1, if_pos h1, if_pos h1, if_pos h1]; exact ⟨rfl, rfl⟩
  · rw [if_neg h1, if_neg h1, if_neg h1, if_neg h1]
    have hk0 : 0 < k := by
      rcases Int.lt_or_eq_of_le hk with h | h
      · exact h
      · rw [← h] at h1; simp at h1
    have iff1 : k * k * L ≤ k * A ↔ k * L ≤ A := by
      rw [Int.mul_assoc]
      constructor
      · intro h; exact Int.le_of_mul_le_mul_left h hk0
      · intro h; exact Int.mul_le_mul_of_nonneg_left h hk
    by_cases h2 : k * L ≤ A
    · rw [if_pos (iff1.2 h2), if_pos h2, if_pos (iff1.2 h2), if_pos h2]; exact ⟨rfl, rfl⟩
    · rw [if_neg (fun h => h2 (iff1.1 h)), if_neg h2, if_neg (fun h => h2 (iff1.1 h)), if_neg h2]
      obtain ⟨m, hm⟩ : ∃ m : Nat, (m : Int) = k := ⟨k.toNat, Int.toNat_of_nonneg hk⟩
      obtain ⟨l, hl⟩ : ∃ l : Nat, (l : Int) = L := ⟨L.toNat, Int.toNat_of_nonneg hL⟩
      have f1 : (k * C).natAbs * (k * C).natAbs = (C.natAbs * C.natAbs) * (m * m) := by
        rw [Int.natAbs_mul, show k.natAbs = m by omega]; grind
      have f2 : (k * k * L).toNat = L.toNat * (m * m) := by
        rw [← hm, ← hl, ← Int.natCast_mul, ← Int.natCast_mul, Int.toNat_natCast, Int.toNat_natCast, Nat.mul_comm]
      rw [f1, f2]
      exact low_scale' _ _ _ (Nat.mul_pos (by omega) (by omega))
/-- A segment in two pieces: as far as the nearer one. -/
theorem pieces (ax ay x y px py i j : Int) (hi : 0 ≤ i) (hj : 0 ≤ j) :
    (sdN ax ay (ax + (i + j) * x) (ay + (i + j) * y) px py = sdN ax ay (ax + i * x) (ay + i * y) px py ∧ sdD ax ay (ax + (i + j) * x) (ay + (i + j) * y) px py = sdD ax ay (ax + i * x) (ay + i * y) px py ∧
      sdN ax ay (ax + i * x) (ay + i * y) px py * sdD (ax + i * x) (ay + i * y) (ax + i * x + j * x) (ay + i * y + j * y) px py ≤ sdN (ax + i * x) (ay + i * y) (ax + i * x + j * x) (ay + i * y + j * y) px py * sdD ax ay (ax + i * x) (ay + i * y) px py) ∨
    (sdN ax ay (ax + (i + j) * x) (ay + (i + j) * y) px py = sdN (ax + i * x) (ay + i * y) (ax + i * x + j * x) (ay + i * y + j * y) px py ∧ sdD ax ay (ax + (i + j) * x) (ay + (i + j) * y) px py = sdD (ax + i * x) (ay + i * y) (ax + i * x + j * x) (ay + i * y + j * y) px py ∧
      sdN (ax + i * x) (ay + i * y) (ax + i * x + j * x) (ay + i * y + j * y) px py * sdD ax ay (ax + i * x) (ay + i * y) px py ≤ sdN ax ay (ax + i * x) (ay + i * y) px py * sdD (ax + i * x) (ay + i * y) (ax + i * x + j * x) (ay + i * y + j * y) px py) := by
  obtain ⟨s1, t1⟩ := sd_steps ax ay x y px py i hi
  obtain ⟨s2, t2⟩ := sd_steps (ax + i * x) (ay + i * y) x y px py j hj
  obtain ⟨s3, t3⟩ := sd_steps ax ay x y px py (i + j) (by omega)
  have eA : x * (px - (ax + i * x)) + y * (py - (ay + i * y)) = (x * (px - ax) + y * (py - ay)) - i * (x * x + y * y) := by grind
  have eC : x * (py - (ay + i * y)) - y * (px - (ax + i * x)) = x * (py - ay) - y * (px - ax) := by grind
  have eS : sqZ (ax + i * x) (ay + i * y) px py = sqZ ax ay px py - 2 * (i * (x * (px - ax) + y * (py - ay))) + i * i * (x * x + y * y) := by unfold sqZ; grind
  have lag : (x * x + y * y) * sqZ ax ay px py = (x * (px - ax) + y * (py - ay)) * (x * (px - ax) + y * (py - ay)) + (x * (py - ay) - y * (px - ax)) * (x * (py - ay) - y * (px - ax)) := by unfold sqZ; grind
  have nS := sq_nn ax ay px py
  have nM := sq_nn (ax + i * x) (ay + i * y) px py
  have nB := sq_nn (ax + (i + j) * x) (ay + (i + j) * y) px py
  have eB : sqZ (ax + (i + j) * x) (ay + (i + j) * y) px py = sqZ ax ay px py - 2 * ((i + j) * (x * (px - ax) + y * (py - ay))) + (i + j) * (i + j) * (x * x + y * y) := by unfold sqZ; grind
  rw [eA, eC, eS] at s2
  rw [eA, eC] at t2
  rw [eS] at nM
  rw [eB] at nB
  rw [s1, t1, s2, t2, s3, t3]
  have hL : 0 ≤ x * x + y * y := by have := sq_nonneg x; have := sq_nonneg y; omega
  have hL0 : x * x + y * y = 0 → x * (px - ax) + y * (py - ay) = 0 := by
    intro h
    have h1 := sq_nonneg x
    have h2 := sq_nonneg y
    have e1 : x * x = 0 := by omega
    have e2 : y * y = 0 := by omega
    have := Int.mul_eq_zero.1 e1
    have := Int.mul_eq_zero.1 e2
    have hx : x = 0 := by omega
    have hy : y = 0 := by omega
    rw [hx, hy]; simp
  clear s1 t1 s2 t2 s3 t3 eA eC eS eB
  generalize x * (px - ax) + y * (py - ay) = A at *
  generalize x * x + y * y = L at *
  generalize x * (py - ay) - y * (px - ax) = C at *
  generalize sqZ ax ay px py = Q at *
  unfold stN stD
  have nC := natAbs_sq C
  -- what is left over at the middle
  have lagM : L * (Q - 2 * (i * A) + i * i * L) = (A - i * L) * (A - i * L) + C * C := by grind
  obtain ⟨M, hM⟩ : ∃ M, M = Q - 2 * (i * A) + i * i * L := ⟨_, rfl⟩
  obtain ⟨T, hT⟩ : ∃ T, T = Q - 2 * ((i + j) * A) + (i + j) * (i + j) * L := ⟨_, rfl⟩
  have hTM : T = M - 2 * (j * (A - i * L)) + j * j * L := by rw [hT, hM]; grind
  rw [← hM] at nM lagM ⊢
  rw [← hT] at nB ⊢
  rw [← hTM]
  rcases (Int.lt_or_eq_of_le hL).symm with hL00 | hLp
  · -- no length at all
    have hA := hL0 hL00.symm
    subst hA
    subst hL00
    simp only [Int.mul_zero, Int.sub_zero, Int.le_refl, if_true]
    left
    have : M = Q := by rw [hM]; simp
    rw [this]
    simp
  clear hL0
  have key : ∀ (n : Int) (d : Nat), 0 ≤ n → (C.natAbs * C.natAbs : Nat) ≤ (L * n).toNat → lowN (C.natAbs * C.natAbs) L.toNat ≤ n.toNat * lowD (C.natAbs * C.natAbs) L.toNat := by
    intro n d hn h
    have hd : 0 < L.toNat := by omega
    have e := mid_cross (C.natAbs * C.natAbs) L.toNat hd
    have hmul : (L * n).toNat = L.toNat * n.toNat := by
      obtain ⟨l, rfl⟩ : ∃ l : Nat, L = l := ⟨L.toNat, (Int.toNat_of_nonneg hL).symm⟩
      obtain ⟨m, rfl⟩ : ∃ m : Nat, n = m := ⟨n.toNat, (Int.toNat_of_nonneg hn).symm⟩
      rw [← Int.natCast_mul, Int.toNat_natCast, Int.toNat_natCast, Int.toNat_natCast]
    rw [hmul] at h
    have h6 : lowN (C.natAbs * C.natAbs) L.toNat * L.toNat ≤ (n.toNat * lowD (C.natAbs * C.natAbs) L.toNat) * L.toNat := by
      rw [← e]
      calc C.natAbs * C.natAbs * lowD (C.natAbs * C.natAbs) L.toNat ≤ (L.toNat * n.toNat) * lowD (C.natAbs * C.natAbs) L.toNat := Nat.mul_le_mul_right _ h
        _ = (n.toNat * lowD (C.natAbs * C.natAbs) L.toNat) * L.toNat := by grind
    exact Nat.le_of_mul_le_mul_right h6 hd
  have hMle : (C.natAbs * C.natAbs : Nat) ≤ (L * M).toNat := by
    have := sq_nonneg (A - i * L)
    omega
  have sgn : ∀ k u : Int, 0 < k → (k * u ≤ 0 ↔ u ≤ 0) := by
    intro k u hk
    constructor
    · intro h
      rcases Int.lt_or_le 0 u with g | g
      · have := Int.mul_pos hk g; omega
      · exact g
    · intro h
      exact Int.mul_nonpos_of_nonneg_of_nonpos (by omega) h
  by_cases i0 : i = 0
  · subst i0
    have eM : M = Q := by rw [hM]; simp
    simp only [Int.zero_mul, Int.sub_zero, Int.zero_add, Int.le_refl, if_true] at *
    right
    rw [eM]
    refine ⟨by first | rfl | trivial, by first | rfl | trivial, ?_⟩
    rw [Nat.mul_one]
    by_cases h1 : j * A ≤ 0
    · rw [if_pos h1, if_pos h1]; omega
    · rw [if_neg h1, if_neg h1]
      by_cases h2 : j * L ≤ A
      · rw [if_pos h2, if_pos h2]
        have : j * (j * L) ≤ j * A := Int.mul_le_mul_of_nonneg_left h2 hj
        have e : j * j * L = j * (j * L) := Int.mul_assoc _ _ _
        omega
      · rw [if_neg h2, if_neg h2]
        rw [eM] at hMle
        exact key Q 0 nS hMle
  · by_cases j0 : j = 0
    · subst j0
      simp only [Int.zero_mul, Int.add_zero, Int.le_refl, if_true] at *
      left
      have eT : T = M := by rw [hT, hM]
      rw [eT]
      refine ⟨by first | rfl | trivial, by first | rfl | trivial, ?_⟩
      rw [Nat.mul_one]
      by_cases h1 : i * A ≤ 0
      · rw [if_pos h1, if_pos h1]
        have : 0 ≤ i * i * L := Int.mul_nonneg (Int.mul_nonneg hi hi) hL
        omega
      · rw [if_neg h1, if_neg h1]
        by_cases h2 : i * L ≤ A
        · rw [if_pos h2, if_pos h2]; omega
        · rw [if_neg h2, if_neg h2]
          exact key M 0 nM hMle
    · have ip : 0 < i := by omega
      have jp : 0 < j := by omega
      have a1 : i * L < (i + j) * L := Int.mul_lt_mul_of_pos_right (by omega) hLp
      have a2 : 0 < i * L := Int.mul_pos ip hLp
      have a3 : (i + j) * L = i * L + j * L := Int.add_mul _ _ _
      have g1 := sgn i A ip
      have g2 := sgn j (A - i * L) jp
      have g3 := sgn (i + j) A (by omega)
      by_cases c1 : A ≤ 0
      · -- behind the beginning
        rw [if_pos (g3.2 c1), if_pos (g3.2 c1), if_pos (g1.2 c1), if_pos (g1.2 c1), if_pos (g2.2 (by omega)), if_pos (g2.2 (by omega))]
        left
        refine ⟨rfl, rfl, ?_⟩
        have b1 : i * A ≤ 0 := g1.2 c1
        have b2 : 0 ≤ i * i * L := Int.mul_nonneg (Int.mul_nonneg hi hi) hL
        omega
      · by_cases c2 : A < i * L
        · -- along the first piece
          rw [if_neg (fun h => c1 (g3.1 h)), if_neg (show ¬ (i + j) * L ≤ A by omega), if_neg (fun h => c1 (g3.1 h)), if_neg (show ¬ (i + j) * L ≤ A by omega),
            if_neg (fun h => c1 (g1.1 h)), if_neg (show ¬ i * L ≤ A by omega), if_neg (fun h => c1 (g1.1 h)), if_neg (show ¬ i * L ≤ A by omega), if_pos (g2.2 (by omega)), if_pos (g2.2 (by omega))]
          left
          refine ⟨rfl, rfl, ?_⟩
          rw [Nat.mul_one]
          exact key M 0 nM hMle
        · by_cases c3 : A = i * L
          · -- just at the middle
            rw [if_neg (fun h => c1 (g3.1 h)), if_neg (show ¬ (i + j) * L ≤ A by omega), if_neg (fun h => c1 (g3.1 h)), if_neg (show ¬ (i + j) * L ≤ A by omega),
              if_neg (fun h => c1 (g1.1 h)), if_pos (show i * L ≤ A by omega), if_neg (fun h => c1 (g1.1 h)), if_pos (show i * L ≤ A by omega), if_pos (g2.2 (by omega)), if_pos (g2.2 (by omega))]
            left
            have e0 : A - i * L = 0 := by omega
            rw [e0, Int.mul_zero, Int.zero_add] at lagM
            have e1 : C.natAbs * C.natAbs = M.toNat * L.toNat := by
              obtain ⟨l, rfl⟩ : ∃ l : Nat, L = l := ⟨L.toNat, (Int.toNat_of_nonneg hL).symm⟩
              obtain ⟨m, rfl⟩ : ∃ m : Nat, M = m := ⟨M.toNat, (Int.toNat_of_nonneg nM).symm⟩
              rw [← lagM, ← Int.natCast_mul] at nC
              simp only [Int.toNat_natCast]
              rw [Nat.mul_comm m l]
              omega
            have sc := low_scale' M.toNat 1 L.toNat (by omega)
            rw [Nat.one_mul] at sc
            have l1 : lowN M.toNat 1 = M.toNat ∧ lowD M.toNat 1 = 1 := by unfold lowN lowD; simp
            rw [e1]
            exact ⟨sc.1.trans l1.1, sc.2.trans l1.2, Nat.le_refl _⟩
          · by_cases c4 : A < (i + j) * L
            · -- along the second piece
              rw [if_neg (fun h => c1 (g3.1 h)), if_neg (show ¬ (i + j) * L ≤ A by omega), if_neg (fun h => c1 (g3.1 h)), if_neg (show ¬ (i + j) * L ≤ A by omega),
                if_neg (fun h => c1 (g1.1 h)), if_pos (show i * L ≤ A by omega), if_neg (fun h => c1 (g1.1 h)), if_pos (show i * L ≤ A by omega),
                if_neg (fun h => by have := g2.1 h; omega), if_neg (show ¬ j * L ≤ A - i * L by omega), if_neg (fun h => by have := g2.1 h; omega), if_neg (show ¬ j * L ≤ A - i * L by omega)]
              right
              refine ⟨rfl, rfl, ?_⟩
              rw [Nat.mul_one]
              exact key M 0 nM hMle
            · -- behind the end
              rw [if_neg (fun h => c1 (g3.1 h)), if_pos (show (i + j) * L ≤ A by omega), if_neg (fun h => c1 (g3.1 h)), if_pos (show (i + j) * L ≤ A by omega),
                if_neg (fun h => c1 (g1.1 h)), if_pos (show i * L ≤ A by omega), if_neg (fun h => c1 (g1.1 h)), if_pos (show i * L ≤ A by omega),
                if_neg (fun h => by have := g2.1 h; omega), if_pos (show j * L ≤ A - i * L by omega), if_neg (fun h => by have := g2.1 h; omega), if_pos (show j * L ≤ A - i * L by omega)]
              right
              refine ⟨rfl, rfl, ?_⟩
              have b1 : j * (j * L) ≤ j * (A - i * L) := Int.mul_le_mul_of_nonneg_left (by omega) hj
              have b2 : j * j * L = j * (j * L) := Int.mul_assoc _ _ _
              have b3 : 0 ≤ j * (j * L) := Int.mul_nonneg hj (Int.mul_nonneg hj hL)
              omega
end Go.Proofs.Ythjhhnolkiejpaa
