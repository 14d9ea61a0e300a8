/- segments: the plane's arithmetic, with no program; segments and boxes: the plane's arithmetic, with no program -/
import Derived.Test.YtogflfepkddbhaaDoorPa
import Derived.Test.YtogflfepkddbhaaDoorRj
namespace Go.Proofs.YtogflfepkddbhaaDoor
set_option linter.unusedVariables false
open Go.ChangeShapes Go.WideShapes Go.ChangeAt Go.RowKit

/-- The cross product, with no bounds. -/
def cr (ax ay bx by' cx cy : Int) : Int := (bx - ax) * (cy - ay) - (by' - ay) * (cx - ax)
/-- How c lies at the line of a b. -/
def sg (ax ay bx by' cx cy : Int) : Int := cmpZ (cr ax ay bx by' cx cy) 0
/-- In the box of a b. -/
def btw (ax ay bx by' px py : Int) : Bool := decide (minZ ax bx ≤ px) && decide (px ≤ maxZ ax bx) && decide (minZ ay by' ≤ py) && decide (py ≤ maxZ ay by')
/-- On the segment a b. -/
def onF (ax ay bx by' px py : Int) : Bool := btw ax ay bx by' px py && (sg ax ay bx by' px py == 0)
/-- The boxes of two segments have nothing in common. -/
def apF (ax ay bx by' cx cy dx dy : Int) : Bool := decide (maxZ ax bx < minZ cx dx) || decide (maxZ cx dx < minZ ax bx) || decide (maxZ ay by' < minZ cy dy) || decide (maxZ cy dy < minZ ay by')
/-- Each of both has its ends on both sides of the other one. -/
def prF (ax ay bx by' cx cy dx dy : Int) : Bool := (sg ax ay bx by' cx cy * sg ax ay bx by' dx dy == -1) && (sg cx cy dx dy ax ay * sg cx cy dx dy bx by' == -1)
/-- One has an end of the other one. -/
def enF (ax ay bx by' cx cy dx dy : Int) : Bool := onF ax ay bx by' cx cy || onF ax ay bx by' dx dy || onF cx cy dx dy ax ay || onF cx cy dx dy bx by'
/-- Two segments meet. -/
def meF (ax ay bx by' cx cy dx dy : Int) : Bool := prF ax ay bx by' cx cy dx dy || enF ax ay bx by' cx cy dx dy
/-- How both ends lie, by the product of both sides. -/
def sdZ (k : Int) : Int := if k = 1 then 0 else if k = -1 then 1 else 2
theorem sg_cases (ax ay bx by' cx cy : Int) : (sg ax ay bx by' cx cy = -1 ∧ cr ax ay bx by' cx cy < 0) ∨ (sg ax ay bx by' cx cy = 0 ∧ cr ax ay bx by' cx cy = 0) ∨ (sg ax ay bx by' cx cy = 1 ∧ 0 < cr ax ay bx by' cx cy) := by
  unfold sg cmpZ
  split
  · left; exact ⟨rfl, by assumption⟩
  · split
    · right; right; exact ⟨rfl, by assumption⟩
    · right; left; exact ⟨rfl, by omega⟩
theorem le_min {a b c : Int} : a ≤ minZ b c ↔ a ≤ b ∧ a ≤ c := by unfold minZ; split <;> omega
theorem min_le' {a b c : Int} : minZ b c ≤ a ↔ b ≤ a ∨ c ≤ a := by unfold minZ; split <;> omega
theorem max_le {a b c : Int} : maxZ b c ≤ a ↔ b ≤ a ∧ c ≤ a := by unfold maxZ; split <;> omega
theorem le_max {a b c : Int} : a ≤ maxZ b c ↔ a ≤ b ∨ a ≤ c := by unfold maxZ; split <;> omega
theorem max_lt {a b c : Int} : maxZ b c < a ↔ b < a ∧ c < a := by unfold maxZ; split <;> omega
theorem lt_min {a b c : Int} : a < minZ b c ↔ a < b ∧ a < c := by unfold minZ; split <;> omega
theorem btw_iff {ax ay bx by' px py : Int} : btw ax ay bx by' px py = true ↔ ((ax ≤ px ∧ px ≤ bx) ∨ (bx ≤ px ∧ px ≤ ax)) ∧ ((ay ≤ py ∧ py ≤ by') ∨ (by' ≤ py ∧ py ≤ ay)) := by
  unfold btw
  simp only [Bool.and_eq_true, decide_eq_true_eq, min_le', le_max]
  omega
theorem onF_iff {ax ay bx by' px py : Int} : onF ax ay bx by' px py = true ↔ btw ax ay bx by' px py = true ∧ cr ax ay bx by' px py = 0 := by
  unfold onF
  rw [Bool.and_eq_true]
  have := sg_cases ax ay bx by' px py
  constructor
  · rintro ⟨h1, h2⟩
    refine ⟨h1, ?_⟩
    have h3 : sg ax ay bx by' px py = 0 := by simpa using h2
    omega
  · rintro ⟨h1, h2⟩
    exact ⟨h1, by have : sg ax ay bx by' px py = 0 := by omega
                  simpa using this⟩
/-- A segment has nothing strictly on one side of a line through one of its points. -/
theorem one_side {ax ay bx by' cx cy dx dy : Int} (h : onF cx cy dx dy ax ay = true) : 0 ≤ -(cr ax ay bx by' cx cy) * cr ax ay bx by' dx dy := by
  rw [onF_iff, btw_iff] at h
  obtain ⟨⟨h1, h2⟩, h3⟩ := h
  unfold cr at *
  obtain ⟨ux, eux⟩ : ∃ x, x = ax - cx := ⟨_, rfl⟩
  obtain ⟨uy, euy⟩ : ∃ x, x = ay - cy := ⟨_, rfl⟩
  obtain ⟨vx, evx⟩ : ∃ x, x = dx - ax := ⟨_, rfl⟩
  obtain ⟨vy, evy⟩ : ∃ x, x = dy - ay := ⟨_, rfl⟩
  obtain ⟨wx, ewx⟩ : ∃ x, x = bx - ax := ⟨_, rfl⟩
  obtain ⟨wy, ewy⟩ : ∃ x, x = by' - ay := ⟨_, rfl⟩
  have e1 : cx - ax = -ux := by omega
  have e2 : cy - ay = -uy := by omega
  have p1 : 0 ≤ ux * vx := by
    rcases h1 with h1 | h1
    · exact Int.mul_nonneg (by omega) (by omega)
    · exact Int.mul_nonneg_of_nonpos_of_nonpos (by omega) (by omega)
  have p2 : 0 ≤ uy * vy := by
    rcases h2 with h2 | h2
    · exact Int.mul_nonneg (by omega) (by omega)
    · exact Int.mul_nonneg_of_nonpos_of_nonpos (by omega) (by omega)
  have h4 : vx * uy = vy * ux := by
    have : dx - cx = ux + vx := by omega
    have : dy - cy = uy + vy := by omega
    grind
  rw [e1, e2, ← ewx, ← ewy, ← evx, ← evy]
  clear h1 h2 h3 eux euy evx evy ewx ewy e1 e2
  -- (w×u)(w×v)
  have key : -(wx * -uy - wy * -ux) * (wx * vy - wy * vx) = wx * wx * (uy * vy) + wy * wy * (ux * vx) - 2 * (wx * wy) * (vx * uy) := by grind
  rw [key]
  obtain ⟨α, hα⟩ : ∃ x, x = ux * vx := ⟨_, rfl⟩
  obtain ⟨β, hβ⟩ : ∃ x, x = uy * vy := ⟨_, rfl⟩
  obtain ⟨m, hm⟩ : ∃ x, x = vx * uy := ⟨_, rfl⟩
  have hmm : m * m = α * β := by grind
  rw [← hα, ← hβ, ← hm]
  rw [← hα] at p1
  rw [← hβ] at p2
  clear hα hβ key
  rcases Int.lt_or_eq_of_le p1 with h | h
  · -- α > 0
    have sq : α * (wx * wx * β + wy * wy * α - 2 * (wx * wy) * m) = (α * wy - m * wx) * (α * wy - m * wx) := by grind
    have nn := sq_nonneg (α * wy - m * wx)
    rw [← sq] at nn
    rcases Int.lt_or_le (wx * wx * β + wy * wy * α - 2 * (wx * wy) * m) 0 with g | g
    · have := Int.mul_neg_of_pos_of_neg h g
      omega
    · exact g
  · have m0 : m = 0 := by
      have : m * m = 0 := by rw [hmm, ← h]; simp
      simpa using Int.mul_eq_zero.1 this
    rw [m0, ← h]
    have := Int.mul_nonneg (sq_nonneg wx) p2
    simp
    exact this
/-- Two that cross have boxes with something in common: one way. -/
theorem cross_x {ax ay bx by' cx cy dx dy : Int} (h1 : 0 < cr ax ay bx by' cx cy) (h2 : cr ax ay bx by' dx dy < 0) (h3 : cr cx cy dx dy ax ay < 0) (h4 : 0 < cr cx cy dx dy bx by') :
    ¬ (maxZ ax bx < minZ cx dx) ∧ ¬ (maxZ cx dx < minZ ax bx) ∧ ¬ (maxZ ay by' < minZ cy dy) ∧ ¬ (maxZ cy dy < minZ ay by') := by
  have idx : cr ax ay bx by' cx cy * dx - cr ax ay bx by' dx dy * cx = cr cx cy dx dy bx by' * ax - cr cx cy dx dy ax ay * bx := by unfold cr; grind
  have idy : cr ax ay bx by' cx cy * dy - cr ax ay bx by' dx dy * cy = cr cx cy dx dy bx by' * ay - cr cx cy dx dy ax ay * by' := by unfold cr; grind
  have sum : cr ax ay bx by' cx cy - cr ax ay bx by' dx dy = cr cx cy dx dy bx by' - cr cx cy dx dy ax ay := by unfold cr; grind
  generalize cr ax ay bx by' cx cy = p at *
  generalize cr cx cy dx dy bx by' = r at *
  obtain ⟨q, hq⟩ : ∃ q, q = -cr ax ay bx by' dx dy := ⟨_, rfl⟩
  obtain ⟨s, hs⟩ : ∃ s, s = -cr cx cy dx dy ax ay := ⟨_, rfl⟩
  have hq' : cr ax ay bx by' dx dy = -q := by omega
  have hs' : cr cx cy dx dy ax ay = -s := by omega
  rw [hq'] at idx idy sum h2
  rw [hs'] at idx idy sum h3
  clear hq hs hq' hs'
  have core : ∀ u v x y : Int, p * y + q * x = r * u + s * v → ¬ (maxZ u v < minZ x y) ∧ ¬ (maxZ x y < minZ u v) := by
    intro u v x y e
    constructor
    · intro g
      obtain ⟨t, ht⟩ : ∃ t, t = maxZ u v := ⟨_, rfl⟩
      have g1 : u ≤ t ∧ v ≤ t := max_le.1 (by omega)
      have g2 : t < x ∧ t < y := lt_min.1 (by omega)
      have a1 : p * (t + 1) ≤ p * y := Int.mul_le_mul_of_nonneg_left (by omega) (by omega)
      have a2 : q * (t + 1) ≤ q * x := Int.mul_le_mul_of_nonneg_left (by omega) (by omega)
      have a3 : r * u ≤ r * t := Int.mul_le_mul_of_nonneg_left (by omega) (by omega)
      have a4 : s * v ≤ s * t := Int.mul_le_mul_of_nonneg_left (by omega) (by omega)
      have a5 : (p + q) * t = (r + s) * t := by rw [show p + q = r + s by omega]
      have : p * (t + 1) + q * (t + 1) = (p + q) * t + p + q := by grind
      have : r * t + s * t = (r + s) * t := by grind
      omega
    · intro g
      obtain ⟨t, ht⟩ : ∃ t, t = maxZ x y := ⟨_, rfl⟩
      have g1 : x ≤ t ∧ y ≤ t := max_le.1 (by omega)
      have g2 : t < u ∧ t < v := lt_min.1 (by omega)
      have a1 : r * (t + 1) ≤ r * u := Int.mul_le_mul_of_nonneg_left (by omega) (by omega)
      have a2 : s * (t + 1) ≤ s * v := Int.mul_le_mul_of_nonneg_left (by omega) (by omega)
      have a3 : p * y ≤ p * t := Int.mul_le_mul_of_nonneg_left (by omega) (by omega)
      have a4 : q * x ≤ q * t := Int.mul_le_mul_of_nonneg_left (by omega) (by omega)
      have a5 : (p + q) * t = (r + s) * t := by rw [show p + q = r + s by omega]
      have : r * (t + 1) + s * (t + 1) = (r + s) * t + r + s := by grind
      have : p * t + q * t = (p + q) * t := by grind
      omega
  have c1 := core ax bx cx dx (by rw [Int.neg_mul, Int.neg_mul] at idx; omega)
  have c2 := core ay by' cy dy (by rw [Int.neg_mul, Int.neg_mul] at idy; omega)
  exact ⟨c1.1, c1.2, c2.1, c2.2⟩
theorem cr_flip (ax ay bx by' cx cy : Int) : cr bx by' ax ay cx cy = -cr ax ay bx by' cx cy := by unfold cr; grind
theorem sg_flip (ax ay bx by' cx cy : Int) : sg bx by' ax ay cx cy = -sg ax ay bx by' cx cy := by
  unfold sg
  rw [cr_flip]
  unfold cmpZ
  split <;> split <;> (try split) <;> (try split) <;> omega
theorem max_comm' (a b : Int) : maxZ b a = maxZ a b := by unfold maxZ; split <;> split <;> omega
theorem min_comm' (a b : Int) : minZ b a = minZ a b := by unfold minZ; split <;> split <;> omega
theorem prF_iff {ax ay bx by' cx cy dx dy : Int} : prF ax ay bx by' cx cy dx dy = true ↔ ((0 < cr ax ay bx by' cx cy ∧ cr ax ay bx by' dx dy < 0) ∨ (cr ax ay bx by' cx cy < 0 ∧ 0 < cr ax ay bx by' dx dy)) ∧ ((0 < cr cx cy dx dy ax ay ∧ cr cx cy dx dy bx by' < 0) ∨ (cr cx cy dx dy ax ay < 0 ∧ 0 < cr cx cy dx dy bx by')) := by
  unfold prF
  rw [Bool.and_eq_true, beq_iff_eq, beq_iff_eq]
  rcases sg_cases ax ay bx by' cx cy with ⟨a1, a2⟩ | ⟨a1, a2⟩ | ⟨a1, a2⟩ <;> rcases sg_cases ax ay bx by' dx dy with ⟨b1, b2⟩ | ⟨b1, b2⟩ | ⟨b1, b2⟩ <;> rw [a1, b1] <;>
  rcases sg_cases cx cy dx dy ax ay with ⟨c1, c2⟩ | ⟨c1, c2⟩ | ⟨c1, c2⟩ <;> rcases sg_cases cx cy dx dy bx by' with ⟨d1, d2⟩ | ⟨d1, d2⟩ | ⟨d1, d2⟩ <;> rw [c1, d1] <;> simp <;> omega
/-- If the ends of c d lie on unlike sides of a b, then those of a b lie so that one of two forms holds. -/
theorem prF_apart {ax ay bx by' cx cy dx dy : Int} (h : prF ax ay bx by' cx cy dx dy = true) : apF ax ay bx by' cx cy dx dy = false := by
  rw [prF_iff] at h
  have sum : cr ax ay bx by' cx cy - cr ax ay bx by' dx dy = cr cx cy dx dy bx by' - cr cx cy dx dy ax ay := by unfold cr; grind
  unfold apF
  obtain ⟨h1 | h1, h2⟩ := h
  · have g : cr cx cy dx dy ax ay < 0 ∧ 0 < cr cx cy dx dy bx by' := by omega
    have := cross_x h1.1 h1.2 g.1 g.2
    simp [this.1, this.2.1, this.2.2.1, this.2.2.2]
  · have g : 0 < cr cx cy dx dy ax ay ∧ cr cx cy dx dy bx by' < 0 := by omega
    have f1 := cr_flip ax ay bx by' cx cy
    have f2 := cr_flip ax ay bx by' dx dy
    have f3 := cr_flip cx cy dx dy ax ay
    have := cross_x (ax := bx) (ay := by') (bx := ax) (by' := ay) (cx := cx) (cy := cy) (dx := dx) (dy := dy) (by omega) (by omega) (by omega) (by omega)
    rw [max_comm' ax bx, max_comm' ay by', min_comm' ax bx, min_comm' ay by'] at this
    simp [this.1, this.2.1, this.2.2.1, this.2.2.2]
theorem onF_apart {ax ay bx by' cx cy dx dy : Int} (h : enF ax ay bx by' cx cy dx dy = true) : apF ax ay bx by' cx cy dx dy = false := by
  unfold enF at h
  simp only [Bool.or_eq_true, onF_iff, btw_iff] at h
  unfold apF
  simp only [Bool.or_eq_false_iff, decide_eq_false_iff_not]
  rcases h with ((⟨h, -⟩ | ⟨h, -⟩) | ⟨h, -⟩) | ⟨h, -⟩ <;> unfold maxZ minZ <;> (refine ⟨⟨⟨?_, ?_⟩, ?_⟩, ?_⟩) <;> (split <;> split <;> omega)
/-- The answer of the code, from its tests. -/
def meC (ax ay bx by' cx cy dx dy : Int) : Bool :=
  if apF ax ay bx by' cx cy dx dy then false else
  if sdZ (sg ax ay bx by' cx cy * sg ax ay bx by' dx dy) = 0 then false else
  if sdZ (sg ax ay bx by' cx cy * sg ax ay bx by' dx dy) = 1 ∧ sdZ (sg cx cy dx dy ax ay * sg cx cy dx dy bx by') = 1 then true else enF ax ay bx by' cx cy dx dy
theorem sdZ0 {k : Int} : sdZ k = 0 ↔ k = 1 := by unfold sdZ; split <;> (try split) <;> omega
theorem sdZ1 {k : Int} : sdZ k = 1 ↔ k = -1 := by unfold sdZ; split <;> (try split) <;> omega
theorem meC_eq (ax ay bx by' cx cy dx dy : Int) : meC ax ay bx by' cx cy dx dy = meF ax ay bx by' cx cy dx dy := by
  unfold meC meF
  cases h1 : apF ax ay bx by' cx cy dx dy
  · rw [if_neg (by simp)]
    by_cases h2 : sdZ (sg ax ay bx by' cx cy * sg ax ay bx by' dx dy) = 0
    · rw [if_pos h2]
      rw [sdZ0] at h2
      have p : prF ax ay bx by' cx cy dx dy = false := by unfold prF; rw [h2]; rfl
      have same : (0 < cr ax ay bx by' cx cy ∧ 0 < cr ax ay bx by' dx dy) ∨ (cr ax ay bx by' cx cy < 0 ∧ cr ax ay bx by' dx dy < 0) := by
        rcases sg_cases ax ay bx by' cx cy with ⟨a1, a2⟩ | ⟨a1, a2⟩ | ⟨a1, a2⟩ <;> rcases sg_cases ax ay bx by' dx dy with ⟨b1, b2⟩ | ⟨b1, b2⟩ | ⟨b1, b2⟩ <;> rw [a1, b1] at h2 <;> simp at h2 <;> omega
      have pos : 0 < cr ax ay bx by' cx cy * cr ax ay bx by' dx dy := by
        rcases same with ⟨a, b⟩ | ⟨a, b⟩
        · exact Int.mul_pos a b
        · exact Int.mul_pos_of_neg_of_neg a b
      have o1 : onF ax ay bx by' cx cy = false := by
        rw [← Bool.not_eq_true, onF_iff]; omega
      have o2 : onF ax ay bx by' dx dy = false := by
        rw [← Bool.not_eq_true, onF_iff]; omega
      have o3 : onF cx cy dx dy ax ay = false := by
        rw [← Bool.not_eq_true]
        intro h
        have := one_side (bx := bx) (by' := by') h
        rw [Int.neg_mul] at this
        omega
      have o4 : onF cx cy dx dy bx by' = false := by
        rw [← Bool.not_eq_true]
        intro h
        have := one_side (bx := ax) (by' := ay) h
        rw [cr_flip, cr_flip ax ay bx by' dx dy] at this
        rw [Int.neg_neg, Int.mul_neg] at this
        omega
      unfold enF
      rw [p, o1, o2, o3, o4]
      rfl
    · rw [if_neg h2]
      by_cases h3 : sdZ (sg ax ay bx by' cx cy * sg ax ay bx by' dx dy) = 1 ∧ sdZ (sg cx cy dx dy ax ay * sg cx cy dx dy bx by') = 1
      · rw [if_pos h3]
        rw [sdZ1, sdZ1] at h3
        unfold prF
        rw [h3.1, h3.2]
        rfl
      · rw [if_neg h3]
        rw [sdZ1, sdZ1] at h3
        have p : prF ax ay bx by' cx cy dx dy = false := by
          unfold prF
          rw [← Bool.not_eq_true, Bool.and_eq_true, beq_iff_eq, beq_iff_eq]
          exact h3
        rw [p]
        rfl
  · rw [if_pos rfl]
    have p : prF ax ay bx by' cx cy dx dy = false := by
      rw [← Bool.not_eq_true]; intro h; rw [prF_apart h] at h1; cases h1
    have q : enF ax ay bx by' cx cy dx dy = false := by
      rw [← Bool.not_eq_true]; intro h; rw [onF_apart h] at h1; cases h1
    rw [p, q]
    rfl
theorem onF_flip (ax ay bx by' px py : Int) : onF bx by' ax ay px py = onF ax ay bx by' px py := by
  rw [Bool.eq_iff_iff, onF_iff, onF_iff, btw_iff, btw_iff, cr_flip]
  omega
theorem meF_swap (ax ay bx by' cx cy dx dy : Int) : meF cx cy dx dy ax ay bx by' = meF ax ay bx by' cx cy dx dy := by
  unfold meF prF enF
  grind
theorem meF_flip (ax ay bx by' cx cy dx dy : Int) : meF bx by' ax ay cx cy dx dy = meF ax ay bx by' cx cy dx dy := by
  unfold meF prF enF
  rw [onF_flip ax ay bx by', onF_flip ax ay bx by', sg_flip ax ay bx by', sg_flip ax ay bx by', Int.neg_mul_neg, Int.mul_comm (sg cx cy dx dy bx by')]
  grind
theorem meF_flip2 (ax ay bx by' cx cy dx dy : Int) : meF ax ay bx by' dx dy cx cy = meF ax ay bx by' cx cy dx dy := by
  rw [meF_swap, meF_flip, meF_swap]
theorem prF_swap (ax ay bx by' cx cy dx dy : Int) : prF cx cy dx dy bx by' ax ay = prF ax ay bx by' cx cy dx dy := by
  unfold prF
  rw [sg_flip ax ay bx by', sg_flip ax ay bx by', Int.neg_mul_neg, Int.mul_comm (sg cx cy dx dy bx by')]
  grind
/-- How far p is along a b, times its length. -/
def alZ (ax ay bx by' px py : Int) : Int := (bx - ax) * (px - ax) + (by' - ay) * (py - ay)
/-- The distance of p to the segment a b: what stands above, and below. -/
def sdN (ax ay bx by' px py : Int) : Nat :=
  if alZ ax ay bx by' px py ≤ 0 then (sqZ ax ay px py).toNat else if sqZ ax ay bx by' ≤ alZ ax ay bx by' px py then (sqZ bx by' px py).toNat
  else lowN ((cr ax ay bx by' px py).natAbs * (cr ax ay bx by' px py).natAbs) (sqZ ax ay bx by').toNat
def sdD (ax ay bx by' px py : Int) : Nat :=
  if alZ ax ay bx by' px py ≤ 0 then 1 else if sqZ ax ay bx by' ≤ alZ ax ay bx by' px py then 1
  else lowD ((cr ax ay bx by' px py).natAbs * (cr ax ay bx by' px py).natAbs) (sqZ ax ay bx by').toNat
theorem al_flip (ax ay bx by' px py : Int) : alZ bx by' ax ay px py = sqZ ax ay bx by' - alZ ax ay bx by' px py := by unfold alZ sqZ; grind
theorem sq_comm (ax ay bx by' : Int) : sqZ bx by' ax ay = sqZ ax ay bx by' := by unfold sqZ; grind
theorem sq_nn (ax ay bx by' : Int) : 0 ≤ sqZ ax ay bx by' := by
  have a1 := sq_nonneg (bx - ax)
  have a2 := sq_nonneg (by' - ay)
  unfold sqZ; omega
theorem sq_zero_iff (ax ay bx by' : Int) : sqZ ax ay bx by' = 0 ↔ ax = bx ∧ ay = by' := by
  have a1 := sq_nonneg (bx - ax)
  have a2 := sq_nonneg (by' - ay)
  unfold sqZ
  constructor
  · intro h
    have d1 : (bx - ax) * (bx - ax) = 0 := by omega
    have d2 : (by' - ay) * (by' - ay) = 0 := by omega
    have := Int.mul_eq_zero.1 d1
    have := Int.mul_eq_zero.1 d2
    omega
  · rintro ⟨rfl, rfl⟩
    simp
theorem sq_far (ax ay bx by' px py : Int) : sqZ ax ay px py = sqZ bx by' px py + 2 * alZ ax ay bx by' px py - sqZ ax ay bx by' := by unfold sqZ alZ; grind
theorem lagrange (ax ay bx by' px py : Int) : cr ax ay bx by' px py * cr ax ay bx by' px py + alZ ax ay bx by' px py * alZ ax ay bx by' px py = sqZ ax ay bx by' * sqZ ax ay px py := by unfold sqZ alZ cr; grind
theorem sd_flip (ax ay bx by' px py : Int) : sdN bx by' ax ay px py = sdN ax ay bx by' px py ∧ sdD bx by' ax ay px py = sdD ax ay bx by' px py := by
  unfold sdN sdD
  rw [al_flip, sq_comm ax ay bx by', cr_flip, Int.natAbs_neg]
  have n1 := sq_nn ax ay bx by'
  have f := sq_far ax ay bx by' px py
  by_cases h1 : alZ ax ay bx by' px py ≤ 0
  · rw [if_pos h1, if_pos h1]
    by_cases h2 : sqZ ax ay bx by' - alZ ax ay bx by' px py ≤ 0
    · rw [if_pos h2, if_pos h2]
      exact ⟨by congr 1; omega, rfl⟩
    · rw [if_neg h2, if_neg h2, if_pos (by omega), if_pos (by omega)]
      exact ⟨rfl, rfl⟩
  · rw [if_neg h1, if_neg h1]
    by_cases h2 : sqZ ax ay bx by' ≤ alZ ax ay bx by' px py
    · rw [if_pos h2, if_pos h2, if_pos (by omega), if_pos (by omega)]
      exact ⟨rfl, rfl⟩
    · rw [if_neg h2, if_neg h2, if_neg (by omega), if_neg (by omega), if_neg (by omega), if_neg (by omega)]
      exact ⟨rfl, rfl⟩
theorem mid_gcd (d n : Nat) : Nat.gcd d (n % d) = Nat.gcd d n := by
  rw [Nat.gcd_comm, ← Nat.gcd_rec]
theorem mid_parts (n d : Nat) (hd : 0 < d) : n = lowN n d * Nat.gcd d n ∧ d = lowD n d * Nat.gcd d n ∧ 0 < Nat.gcd d n ∧ 0 < lowD n d := by
  unfold lowN lowD
  rw [mid_gcd]
  have hg : 0 < Nat.gcd d n := Nat.gcd_pos_of_pos_left _ hd
  refine ⟨(Nat.div_mul_cancel (Nat.gcd_dvd_right d n)).symm, (Nat.div_mul_cancel (Nat.gcd_dvd_left d n)).symm, hg, ?_⟩
  exact Nat.div_pos (Nat.le_of_dvd hd (Nat.gcd_dvd_left d n)) hg
theorem mid_cross (n d : Nat) (hd : 0 < d) : n * lowD n d = lowN n d * d := by
  obtain ⟨e1, e2, hg, hp⟩ := mid_parts n d hd
  generalize lowN n d = a at *
  generalize lowD n d = b at *
  generalize Nat.gcd d n = g at *
  subst e1 e2
  grind
theorem low_zero (d : Nat) (hd : 0 < d) : lowN 0 d = 0 ∧ lowD 0 d = 1 := by
  unfold lowN lowD
  simp
  exact Nat.div_self hd
theorem mul_bet {x u v : Int} (h : (u ≤ x ∧ x ≤ v) ∨ (v ≤ x ∧ x ≤ u)) : 0 ≤ (v - u) * (x - u) := by
  rcases h with h | h
  · exact Int.mul_nonneg (by omega) (by omega)
  · exact Int.mul_nonneg_of_nonpos_of_nonpos (by omega) (by omega)
theorem al_zero {ax ay bx by' px py : Int} (h : btw ax ay bx by' px py = true) (hal : alZ ax ay bx by' px py ≤ 0) : ax = px ∧ ay = py := by
  rw [btw_iff] at h
  have m1 := mul_bet h.1
  have m2 := mul_bet h.2
  unfold alZ at hal
  have d1 : (bx - ax) * (px - ax) = 0 := by omega
  have d2 : (by' - ay) * (py - ay) = 0 := by omega
  have := Int.mul_eq_zero.1 d1
  have := Int.mul_eq_zero.1 d2
  omega
theorem btw_flip (ax ay bx by' px py : Int) : btw bx by' ax ay px py = btw ax ay bx by' px py := by
  rw [Bool.eq_iff_iff, btw_iff, btw_iff]; omega
theorem bet_of {w a u v : Int} (hw : 0 < w) (h1 : 0 ≤ a) (h2 : a ≤ w) (e : w * v = a * u) : (0 ≤ v ∧ v ≤ u) ∨ (u ≤ v ∧ v ≤ 0) := by
  rcases Int.le_total 0 u with h | h
  · left
    have b1 : 0 ≤ a * u := Int.mul_nonneg h1 h
    have b2 : a * u ≤ w * u := Int.mul_le_mul_of_nonneg_right h2 h
    rw [← e] at b1 b2
    exact ⟨Int.nonneg_of_mul_nonneg_right (a := w) (by omega) hw, Int.le_of_mul_le_mul_left b2 hw⟩
  · right
    have b1 : 0 ≤ a * (-u) := Int.mul_nonneg h1 (by omega)
    have b2 : a * (-u) ≤ w * (-u) := Int.mul_le_mul_of_nonneg_right h2 (by omega)
    have e' : a * (-u) = w * (-v) := by rw [Int.mul_neg, Int.mul_neg, e]
    rw [e'] at b1 b2
    have c1 : 0 ≤ -v := Int.nonneg_of_mul_nonneg_right (a := w) (by omega) hw
    have c2 : -v ≤ -u := Int.le_of_mul_le_mul_left b2 hw
    omega
theorem mid_btw {ax ay bx by' px py : Int} (hc : cr ax ay bx by' px py = 0) (h1 : 0 < alZ ax ay bx by' px py) (h2 : alZ ax ay bx by' px py < sqZ ax ay bx by') : btw ax ay bx by' px py = true := by
  rw [btw_iff]
  have ex : sqZ ax ay bx by' * (px - ax) = alZ ax ay bx by' px py * (bx - ax) - cr ax ay bx by' px py * (by' - ay) := by unfold sqZ alZ cr; grind
  have ey : sqZ ax ay bx by' * (py - ay) = alZ ax ay bx by' px py * (by' - ay) + cr ax ay bx by' px py * (bx - ax) := by unfold sqZ alZ cr; grind
  rw [hc, Int.zero_mul, Int.sub_zero] at ex
  rw [hc, Int.zero_mul, Int.add_zero] at ey
  have b1 := bet_of (by omega) (by omega) (by omega) ex
  have b2 := bet_of (by omega) (by omega) (by omega) ey
  omega
theorem sd_zero (ax ay bx by' px py : Int) : (sdN ax ay bx by' px py = 0 ∧ sdD ax ay bx by' px py = 1) ↔ onF ax ay bx by' px py = true := by
  rw [onF_iff]
  have n1 := sq_nn ax ay bx by'
  unfold sdN sdD
  by_cases h1 : alZ ax ay bx by' px py ≤ 0
  · rw [if_pos h1, if_pos h1]
    have n2 := sq_nn ax ay px py
    have z := sq_zero_iff ax ay px py
    constructor
    · rintro ⟨h, -⟩
      obtain ⟨rfl, rfl⟩ := z.1 (by omega)
      exact ⟨by rw [btw_iff]; omega, by unfold cr; grind⟩
    · rintro ⟨h, -⟩
      have := z.2 (al_zero h h1)
      exact ⟨by omega, rfl⟩
  · rw [if_neg h1, if_neg h1]
    by_cases h2 : sqZ ax ay bx by' ≤ alZ ax ay bx by' px py
    · rw [if_pos h2, if_pos h2]
      have n2 := sq_nn bx by' px py
      have z := sq_zero_iff bx by' px py
      constructor
      · rintro ⟨h, -⟩
        obtain ⟨rfl, rfl⟩ := z.1 (by omega)
        exact ⟨by rw [btw_iff]; omega, by unfold cr; grind⟩
      · rintro ⟨h, -⟩
        have := z.2 (al_zero (ax := bx) (ay := by') (bx := ax) (by' := ay) (by rw [btw_flip]; exact h) (by rw [al_flip]; omega))
        exact ⟨by omega, rfl⟩
    · rw [if_neg h2, if_neg h2]
      have hd : 0 < (sqZ ax ay bx by').toNat := by omega
      constructor
      · rintro ⟨h, -⟩
        have e := (mid_parts ((cr ax ay bx by' px py).natAbs * (cr ax ay bx by' px py).natAbs) _ hd).1
        rw [h, Nat.zero_mul] at e
        have : (cr ax ay bx by' px py).natAbs = 0 := by simpa using Nat.mul_eq_zero.1 e
        have hc : cr ax ay bx by' px py = 0 := by omega
        exact ⟨mid_btw hc (by omega) (by omega), hc⟩
      · rintro ⟨-, h⟩
        rw [h]
        exact low_zero _ hd
theorem sd_le (ax ay bx by' px py : Int) : sdN ax ay bx by' px py ≤ (sqZ ax ay px py).toNat * sdD ax ay bx by' px py := by
  have n1 := sq_nn ax ay bx by'
  have n2 := sq_nn ax ay px py
  have f := sq_far ax ay bx by' px py
  have L := lagrange ax ay bx by' px py
  unfold sdN sdD
  by_cases h1 : alZ ax ay bx by' px py ≤ 0
  · rw [if_pos h1, if_pos h1]; omega
  · rw [if_neg h1, if_neg h1]
    by_cases h2 : sqZ ax ay bx by' ≤ alZ ax ay bx by' px py
    · rw [if_pos h2, if_pos h2]
      omega
    · rw [if_neg h2, if_neg h2]
      have hd : 0 < (sqZ ax ay bx by').toNat := by omega
      have e := mid_cross ((cr ax ay bx by' px py).natAbs * (cr ax ay bx by' px py).natAbs) _ hd
      have hN : (cr ax ay bx by' px py).natAbs * (cr ax ay bx by' px py).natAbs ≤ (sqZ ax ay bx by').toNat * (sqZ ax ay px py).toNat := by
        have h3 : (((cr ax ay bx by' px py).natAbs * (cr ax ay bx by' px py).natAbs : Nat) : Int) = cr ax ay bx by' px py * cr ax ay bx by' px py := by
          rw [Int.natCast_mul]
          rcases Int.le_total 0 (cr ax ay bx by' px py) with h | h
          · rw [Int.natAbs_of_nonneg h]
          · rw [Int.ofNat_natAbs_of_nonpos h, Int.neg_mul_neg]
        have h4 := sq_nonneg (alZ ax ay bx by' px py)
        have h5 : (((sqZ ax ay bx by').toNat * (sqZ ax ay px py).toNat : Nat) : Int) = sqZ ax ay bx by' * sqZ ax ay px py := by
          rw [Int.natCast_mul, Int.toNat_of_nonneg n1, Int.toNat_of_nonneg n2]
        omega
      generalize (cr ax ay bx by' px py).natAbs * (cr ax ay bx by' px py).natAbs = N at *
      generalize (sqZ ax ay bx by').toNat = D at *
      generalize (sqZ ax ay px py).toNat = S at *
      have h6 : lowN N D * D ≤ (S * lowD N D) * D := by
        rw [← e]
        calc N * lowD N D ≤ (D * S) * lowD N D := Nat.mul_le_mul_right _ hN
          _ = (S * lowD N D) * D := by grind
      exact Nat.le_of_mul_le_mul_right h6 hd
theorem sd_le2 (ax ay bx by' px py : Int) : sdN ax ay bx by' px py ≤ (sqZ bx by' px py).toNat * sdD ax ay bx by' px py := by
  have h := sd_le bx by' ax ay px py
  rw [(sd_flip ax ay bx by' px py).1, (sd_flip ax ay bx by' px py).2] at h
  exact h
theorem sd_same (ax ay px py : Int) : sdN ax ay ax ay px py = (sqZ ax ay px py).toNat ∧ sdD ax ay ax ay px py = 1 := by
  have e : alZ ax ay ax ay px py = 0 := by unfold alZ; simp
  unfold sdN sdD
  rw [e]
  exact ⟨rfl, rfl⟩
theorem cr_move (ax ay bx by' cx cy x y : Int) : cr (ax + x) (ay + y) (bx + x) (by' + y) (cx + x) (cy + y) = cr ax ay bx by' cx cy := by
  unfold cr; grind
theorem sq_move (ax ay bx by' x y : Int) : sqZ (ax + x) (ay + y) (bx + x) (by' + y) = sqZ ax ay bx by' := by unfold sqZ; grind
theorem al_move (ax ay bx by' cx cy x y : Int) : alZ (ax + x) (ay + y) (bx + x) (by' + y) (cx + x) (cy + y) = alZ ax ay bx by' cx cy := by
  unfold alZ; grind
theorem onF_move (ax ay bx by' cx cy x y : Int) : onF (ax + x) (ay + y) (bx + x) (by' + y) (cx + x) (cy + y) = onF ax ay bx by' cx cy := by
  rw [Bool.eq_iff_iff, onF_iff, onF_iff, btw_iff, btw_iff, cr_move]; omega
theorem sg_move (ax ay bx by' cx cy x y : Int) : sg (ax + x) (ay + y) (bx + x) (by' + y) (cx + x) (cy + y) = sg ax ay bx by' cx cy := by
  unfold sg; rw [cr_move]
theorem meF_move (ax ay bx by' cx cy dx dy x y : Int) : meF (ax + x) (ay + y) (bx + x) (by' + y) (cx + x) (cy + y) (dx + x) (dy + y) = meF ax ay bx by' cx cy dx dy := by
  unfold meF prF enF
  simp only [onF_move, sg_move]
theorem sd_move (ax ay bx by' cx cy x y : Int) : sdN (ax + x) (ay + y) (bx + x) (by' + y) (cx + x) (cy + y) = sdN ax ay bx by' cx cy ∧ sdD (ax + x) (ay + y) (bx + x) (by' + y) (cx + x) (cy + y) = sdD ax ay bx by' cx cy := by
  unfold sdN sdD
  simp only [al_move, sq_move, cr_move, and_self]
theorem on_self (ax ay bx by' : Int) : onF ax ay bx by' ax ay = true ∧ onF ax ay bx by' bx by' = true := by
  rw [onF_iff, onF_iff, btw_iff, btw_iff]
  refine ⟨⟨by omega, by unfold cr; grind⟩, ⟨by omega, by unfold cr; grind⟩⟩
theorem meF_point (ax ay bx by' px py : Int) : meF ax ay bx by' px py px py = onF ax ay bx by' px py := by
  unfold meF
  have p : prF ax ay bx by' px py px py = false := by
    rw [← Bool.not_eq_true, prF_iff]; omega
  rw [p, Bool.false_or]
  unfold enF
  cases h : onF ax ay bx by' px py
  · have o : ∀ ux uy, (ux = ax ∧ uy = ay) ∨ (ux = bx ∧ uy = by') → onF px py px py ux uy = false := by
      intro ux uy hu
      rw [← Bool.not_eq_true, onF_iff, btw_iff]
      rintro ⟨⟨g1, g2⟩, -⟩
      have s := on_self ax ay bx by'
      have e1 : ux = px := by omega
      have e2 : uy = py := by omega
      rw [e1, e2] at hu
      rcases hu with ⟨rfl, rfl⟩ | ⟨rfl, rfl⟩
      · rw [s.1] at h; cases h
      · rw [s.2] at h; cases h
    rw [o ax ay (Or.inl ⟨rfl, rfl⟩), o bx by' (Or.inr ⟨rfl, rfl⟩)]
    rfl
  · rfl
/-- If both cross, no end is on the other one. -/
theorem pr_en {ax ay bx by' cx cy dx dy : Int} (h : prF ax ay bx by' cx cy dx dy = true) : enF ax ay bx by' cx cy dx dy = false := by
  rw [prF_iff] at h
  unfold enF
  have o1 : onF ax ay bx by' cx cy = false := by rw [← Bool.not_eq_true, onF_iff]; omega
  have o2 : onF ax ay bx by' dx dy = false := by rw [← Bool.not_eq_true, onF_iff]; omega
  have o3 : onF cx cy dx dy ax ay = false := by rw [← Bool.not_eq_true, onF_iff]; omega
  have o4 : onF cx cy dx dy bx by' = false := by rw [← Bool.not_eq_true, onF_iff]; omega
  rw [o1, o2, o3, o4]
  rfl
theorem dot_al (ax ay bx by' px py : Int) : alZ bx by' ax ay px py ≤ 0 ↔ sqZ ax ay bx by' ≤ alZ ax ay bx by' px py := by rw [al_flip]; omega
end Go.Proofs.YtogflfepkddbhaaDoor
namespace Go.Proofs.YtogflfepkddbhaaDoor
set_option linter.unusedVariables false
open Go.ChangeShapes Go.WideShapes Go.ChangeAt Go.RowKit

/-- In a box. -/
def inP (lx ly hx hy px py : Int) : Prop := lx ≤ px ∧ px ≤ hx ∧ ly ≤ py ∧ py ≤ hy
/-- The box of a b and another one have something in common. -/
def ovP (lx ly hx hy ax ay bx by' : Int) : Prop := (ax ≤ hx ∨ bx ≤ hx) ∧ (lx ≤ ax ∨ lx ≤ bx) ∧ (ay ≤ hy ∨ by' ≤ hy) ∧ (ly ≤ ay ∨ ly ≤ by')
theorem ovP_flip {lx ly hx hy ax ay bx by' : Int} (h : ovP lx ly hx hy ax ay bx by') : ovP lx ly hx hy bx by' ax ay := by
  unfold ovP at *; omega
theorem me_opp {ax ay bx by' px py qx qy : Int} (h : meF ax ay bx by' px py qx qy = true) : ¬ (0 < cr ax ay bx by' px py ∧ 0 < cr ax ay bx by' qx qy) ∧ ¬ (cr ax ay bx by' px py < 0 ∧ cr ax ay bx by' qx qy < 0) := by
  rw [← meC_eq] at h
  unfold meC at h
  rcases sg_cases ax ay bx by' px py with ⟨a1, a2⟩ | ⟨a1, a2⟩ | ⟨a1, a2⟩ <;> rcases sg_cases ax ay bx by' qx qy with ⟨b1, b2⟩ | ⟨b1, b2⟩ | ⟨b1, b2⟩ <;> rw [a1, b1] at h <;> simp [sdZ] at h <;> omega
theorem me_ap {ax ay bx by' px py qx qy : Int} (h : meF ax ay bx by' px py qx qy = true) : apF ax ay bx by' px py qx qy = false := by
  unfold meF at h
  rw [Bool.or_eq_true] at h
  rcases h with h | h
  · exact prF_apart h
  · exact onF_apart h
theorem me_ov {lx ly hx hy ax ay bx by' px py qx qy : Int} (h : meF ax ay bx by' px py qx qy = true) (h1 : inP lx ly hx hy px py) (h2 : inP lx ly hx hy qx qy) : ovP lx ly hx hy ax ay bx by' := by
  have g := me_ap h
  unfold apF at g
  simp only [Bool.or_eq_false_iff, decide_eq_false_iff_not, max_lt, lt_min] at g
  unfold inP at *
  unfold ovP
  omega
/-- Both straddle, one strictly: they meet. -/
theorem both_straddle {ax ay bx by' px py qx qy : Int} (h1 : cr ax ay bx by' px py ≤ 0) (h2 : 0 ≤ cr ax ay bx by' qx qy) (hD : cr ax ay bx by' px py < cr ax ay bx by' qx qy)
    (g1 : 0 ≤ cr px py qx qy ax ay) (g2 : cr px py qx qy bx by' ≤ 0) : meF ax ay bx by' px py qx qy = true := by
  have sum : cr ax ay bx by' px py - cr ax ay bx by' qx qy = cr px py qx qy bx by' - cr px py qx qy ax ay := by unfold cr; grind
  unfold meF
  rw [Bool.or_eq_true]
  by_cases hp : prF ax ay bx by' px py qx qy = true
  · exact Or.inl hp
  right
  have hz : cr ax ay bx by' px py = 0 ∨ cr ax ay bx by' qx qy = 0 ∨ cr px py qx qy ax ay = 0 ∨ cr px py qx qy bx by' = 0 := by
    rw [prF_iff] at hp
    omega
  unfold enF
  have e1x : (cr px py qx qy ax ay - cr px py qx qy bx by') * (px - ax) = cr px py qx qy ax ay * (bx - ax) + cr ax ay bx by' px py * (qx - px) := by unfold cr; grind
  have e1y : (cr px py qx qy ax ay - cr px py qx qy bx by') * (py - ay) = cr px py qx qy ax ay * (by' - ay) + cr ax ay bx by' px py * (qy - py) := by unfold cr; grind
  have e2x : (cr px py qx qy ax ay - cr px py qx qy bx by') * (qx - ax) = cr px py qx qy ax ay * (bx - ax) + cr ax ay bx by' qx qy * (qx - px) := by unfold cr; grind
  have e2y : (cr px py qx qy ax ay - cr px py qx qy bx by') * (qy - ay) = cr px py qx qy ax ay * (by' - ay) + cr ax ay bx by' qx qy * (qy - py) := by unfold cr; grind
  have e3x : (cr ax ay bx by' qx qy - cr ax ay bx by' px py) * (ax - px) = -cr ax ay bx by' px py * (qx - px) - cr px py qx qy ax ay * (bx - ax) := by unfold cr; grind
  have e3y : (cr ax ay bx by' qx qy - cr ax ay bx by' px py) * (ay - py) = -cr ax ay bx by' px py * (qy - py) - cr px py qx qy ax ay * (by' - ay) := by unfold cr; grind
  have e4x : (cr ax ay bx by' qx qy - cr ax ay bx by' px py) * (bx - px) = -cr ax ay bx by' px py * (qx - px) - cr px py qx qy bx by' * (bx - ax) := by unfold cr; grind
  have e4y : (cr ax ay bx by' qx qy - cr ax ay bx by' px py) * (by' - py) = -cr ax ay bx by' px py * (qy - py) - cr px py qx qy bx by' * (by' - ay) := by unfold cr; grind
  rcases hz with hz | hz | hz | hz
  · rw [hz, Int.zero_mul, Int.add_zero] at e1x e1y
    have b1 := bet_of (by omega) g1 (by omega) e1x
    have b2 := bet_of (by omega) g1 (by omega) e1y
    have : onF ax ay bx by' px py = true := onF_iff.2 ⟨btw_iff.2 (by omega), hz⟩
    simp [this]
  · rw [hz, Int.zero_mul, Int.add_zero] at e2x e2y
    have b1 := bet_of (by omega) g1 (by omega) e2x
    have b2 := bet_of (by omega) g1 (by omega) e2y
    have : onF ax ay bx by' qx qy = true := onF_iff.2 ⟨btw_iff.2 (by omega), hz⟩
    simp [this]
  · rw [hz, Int.zero_mul, Int.sub_zero] at e3x e3y
    have b1 := bet_of (by omega) (by omega) (by omega) e3x
    have b2 := bet_of (by omega) (by omega) (by omega) e3y
    have : onF px py qx qy ax ay = true := onF_iff.2 ⟨btw_iff.2 (by omega), hz⟩
    simp [this]
  · rw [hz, Int.zero_mul, Int.sub_zero] at e4x e4y
    have b1 := bet_of (by omega) (by omega) (by omega) e4x
    have b2 := bet_of (by omega) (by omega) (by omega) e4y
    have : onF px py qx qy bx by' = true := onF_iff.2 ⟨btw_iff.2 (by omega), hz⟩
    simp [this]
/-- One coordinate of what a line and a segment have in common, where the line's other points are off it to one side. -/
theorem off_side {f1 f2 g1 g2 u v p q lo hi : Int} (e : f2 * p - f1 * q = g2 * u - g1 * v) (hf1 : f1 ≤ 0) (hf2 : 0 ≤ f2) (hs : f2 - f1 = g2 - g1) (hg : 0 < g1) (hgg : g1 < g2)
    (hp : lo ≤ p ∧ p ≤ hi) (hq : lo ≤ q ∧ q ≤ hi) (ho1 : u ≤ hi ∨ v ≤ hi) (ho2 : lo ≤ u ∨ lo ≤ v) : lo ≤ u ∧ u ≤ hi := by
  constructor
  · rcases Int.lt_or_le u lo with h | h
    · exfalso
      have hv : lo ≤ v := by omega
      have a1 : f2 * lo ≤ f2 * p := Int.mul_le_mul_of_nonneg_left hp.1 hf2
      have a2 : (-f1) * lo ≤ (-f1) * q := Int.mul_le_mul_of_nonneg_left hq.1 (by omega)
      have a3 : g2 * (u + 1) ≤ g2 * lo := Int.mul_le_mul_of_nonneg_left (by omega) (by omega)
      have a4 : g1 * lo ≤ g1 * v := Int.mul_le_mul_of_nonneg_left hv (by omega)
      have a5 : (f2 - f1) * lo = (g2 - g1) * lo := by rw [hs]
      have a6 : (f2 - f1) * lo = f2 * lo + (-f1) * lo := by grind
      have a7 : (g2 - g1) * lo = g2 * lo - g1 * lo := by grind
      have a8 : g2 * (u + 1) = g2 * u + g2 := by grind
      rw [Int.neg_mul, Int.neg_mul] at a2
      rw [Int.neg_mul] at a6
      omega
    · exact h
  · rcases Int.lt_or_le hi u with h | h
    · exfalso
      have hv : v ≤ hi := by omega
      have a1 : f2 * p ≤ f2 * hi := Int.mul_le_mul_of_nonneg_left hp.2 hf2
      have a2 : (-f1) * q ≤ (-f1) * hi := Int.mul_le_mul_of_nonneg_left hq.2 (by omega)
      have a3 : g2 * (hi + 1) ≤ g2 * u := Int.mul_le_mul_of_nonneg_left (by omega) (by omega)
      have a4 : g1 * v ≤ g1 * hi := Int.mul_le_mul_of_nonneg_left hv (by omega)
      have a5 : (f2 - f1) * hi = (g2 - g1) * hi := by rw [hs]
      have a6 : (f2 - f1) * hi = f2 * hi + (-f1) * hi := by grind
      have a7 : (g2 - g1) * hi = g2 * hi - g1 * hi := by grind
      have a8 : g2 * (hi + 1) = g2 * hi + g2 := by grind
      rw [Int.neg_mul, Int.neg_mul] at a2
      rw [Int.neg_mul] at a6
      omega
    · exact h
/-- A line that parts two points of a box strictly: the segment meets theirs, if its ends are not in the box and its own box is not off. -/
theorem line_parts {lx ly hx hy ax ay bx by' px py qx qy : Int} (hp : inP lx ly hx hy px py) (hq : inP lx ly hx hy qx qy) (ho : ovP lx ly hx hy ax ay bx by')
    (na : ¬ inP lx ly hx hy ax ay) (nb : ¬ inP lx ly hx hy bx by') (h1 : cr ax ay bx by' px py ≤ 0) (h2 : 0 ≤ cr ax ay bx by' qx qy) (hD : cr ax ay bx by' px py < cr ax ay bx by' qx qy) :
    meF ax ay bx by' px py qx qy = true := by
  have sum : cr ax ay bx by' qx qy - cr ax ay bx by' px py = cr px py qx qy ax ay - cr px py qx qy bx by' := by unfold cr; grind
  have idx : cr ax ay bx by' qx qy * px - cr ax ay bx by' px py * qx = cr px py qx qy ax ay * bx - cr px py qx qy bx by' * ax := by unfold cr; grind
  have idy : cr ax ay bx by' qx qy * py - cr ax ay bx by' px py * qy = cr px py qx qy ax ay * by' - cr px py qx qy bx by' * ay := by unfold cr; grind
  unfold inP ovP at *
  by_cases g1 : 0 ≤ cr px py qx qy ax ay
  · by_cases g2 : cr px py qx qy bx by' ≤ 0
    · exact both_straddle h1 h2 hD g1 g2
    · exfalso
      -- both above: b is the nearer one
      have o1 := off_side (u := bx) (v := ax) (lo := lx) (hi := hx) idx h1 h2 sum (by omega) (by omega) ⟨hp.1, hp.2.1⟩ ⟨hq.1, hq.2.1⟩ (by omega) (by omega)
      have o2 := off_side (u := by') (v := ay) (lo := ly) (hi := hy) idy h1 h2 sum (by omega) (by omega) hp.2.2 hq.2.2 (by omega) (by omega)
      omega
  · exfalso
    have sum' : cr ax ay bx by' qx qy - cr ax ay bx by' px py = -cr px py qx qy bx by' - -cr px py qx qy ax ay := by omega
    have idx' : cr ax ay bx by' qx qy * px - cr ax ay bx by' px py * qx = -cr px py qx qy bx by' * ax - -cr px py qx qy ax ay * bx := by rw [Int.neg_mul, Int.neg_mul]; omega
    have idy' : cr ax ay bx by' qx qy * py - cr ax ay bx by' px py * qy = -cr px py qx qy bx by' * ay - -cr px py qx qy ax ay * by' := by rw [Int.neg_mul, Int.neg_mul]; omega
    have o1 := off_side (u := ax) (v := bx) (lo := lx) (hi := hx) idx' h1 h2 sum' (by omega) (by omega) ⟨hp.1, hp.2.1⟩ ⟨hq.1, hq.2.1⟩ (by omega) (by omega)
    have o2 := off_side (u := ay) (v := by') (lo := ly) (hi := hy) idy' h1 h2 sum' (by omega) (by omega) hp.2.2 hq.2.2 (by omega) (by omega)
    omega
theorem line_parts2 {lx ly hx hy ax ay bx by' px py qx qy : Int} (hp : inP lx ly hx hy px py) (hq : inP lx ly hx hy qx qy) (ho : ovP lx ly hx hy ax ay bx by')
    (na : ¬ inP lx ly hx hy ax ay) (nb : ¬ inP lx ly hx hy bx by') (h : (cr ax ay bx by' px py ≤ 0 ∧ 0 ≤ cr ax ay bx by' qx qy) ∨ (cr ax ay bx by' qx qy ≤ 0 ∧ 0 ≤ cr ax ay bx by' px py)) (hD : cr ax ay bx by' px py ≠ cr ax ay bx by' qx qy) :
    meF ax ay bx by' px py qx qy = true := by
  rcases h with h | h
  · exact line_parts hp hq ho na nb h.1 h.2 (by omega)
  · rw [meF_flip2]
    exact line_parts hq hp ho na nb h.1 h.2 (by omega)
/-- A corner on the line is on the segment. -/
theorem on_line {lx ly hx hy ax ay bx by' px py : Int} (hp : inP lx ly hx hy px py) (ho : ovP lx ly hx hy ax ay bx by')
    (na : ¬ inP lx ly hx hy ax ay) (nb : ¬ inP lx ly hx hy bx by') (h : cr ax ay bx by' px py = 0) : onF ax ay bx by' px py = true := by
  rw [onF_iff, btw_iff]
  refine ⟨?_, h⟩
  unfold inP ovP at *
  have n1 := sq_nn ax ay bx by'
  have z := sq_zero_iff ax ay bx by'
  have ex : sqZ ax ay bx by' * (px - ax) = alZ ax ay bx by' px py * (bx - ax) - cr ax ay bx by' px py * (by' - ay) := by unfold sqZ alZ cr; grind
  have ey : sqZ ax ay bx by' * (py - ay) = alZ ax ay bx by' px py * (by' - ay) + cr ax ay bx by' px py * (bx - ax) := by unfold sqZ alZ cr; grind
  have fx : sqZ ax ay bx by' * (px - bx) = (alZ ax ay bx by' px py - sqZ ax ay bx by') * (bx - ax) - cr ax ay bx by' px py * (by' - ay) := by unfold sqZ alZ cr; grind
  have fy : sqZ ax ay bx by' * (py - by') = (alZ ax ay bx by' px py - sqZ ax ay bx by') * (by' - ay) + cr ax ay bx by' px py * (bx - ax) := by unfold sqZ alZ cr; grind
  rw [h, Int.zero_mul] at ex ey fx fy
  rw [Int.sub_zero] at ex fx
  rw [Int.add_zero] at ey fy
  generalize alZ ax ay bx by' px py = α at *
  generalize sqZ ax ay bx by' = w at *
  have hw : 0 < w := by
    rcases Int.lt_or_eq_of_le n1 with g | g
    · exact g
    · obtain ⟨rfl, rfl⟩ := z.1 g.symm
      omega
  -- signs
  have sgn : ∀ k u v : Int, w * v = k * u → (k < 0 → (0 < v → u < 0) ∧ (v < 0 → 0 < u)) ∧ (0 < k → (0 < v → 0 < u) ∧ (v < 0 → u < 0)) := by
    intro k u v e
    refine ⟨fun hk => ⟨fun hv => ?_, fun hv => ?_⟩, fun hk => ⟨fun hv => ?_, fun hv => ?_⟩⟩
    · have : 0 < k * u := by rw [← e]; exact Int.mul_pos hw hv
      rcases Int.lt_or_le u 0 with g | g
      · exact g
      · have := Int.mul_nonpos_of_nonpos_of_nonneg (a := k) (b := u) (by omega) g; omega
    · have : k * u < 0 := by rw [← e]; exact Int.mul_neg_of_pos_of_neg hw hv
      rcases Int.lt_or_le 0 u with g | g
      · exact g
      · have := Int.mul_nonneg_of_nonpos_of_nonpos (a := k) (b := u) (by omega) g; omega
    · have : 0 < k * u := by rw [← e]; exact Int.mul_pos hw hv
      rcases Int.lt_or_le 0 u with g | g
      · exact g
      · have := Int.mul_nonpos_of_nonneg_of_nonpos (a := k) (b := u) (by omega) g; omega
    · have : k * u < 0 := by rw [← e]; exact Int.mul_neg_of_pos_of_neg hw hv
      rcases Int.lt_or_le u 0 with g | g
      · exact g
      · have := Int.mul_nonneg (a := k) (b := u) (by omega) g; omega
  by_cases h0 : α < 0
  · exfalso
    have s1 := (sgn _ _ _ ex).1 h0
    have s2 := (sgn _ _ _ ey).1 h0
    omega
  · by_cases h1 : α ≤ w
    · have b1 := bet_of hw (by omega) h1 ex
      have b2 := bet_of hw (by omega) h1 ey
      omega
    · exfalso
      have s1 := (sgn _ _ _ fx).2 (by omega)
      have s2 := (sgn _ _ _ fy).2 (by omega)
      omega
/-- Some side is met. -/
def siF (lx ly hx hy ax ay bx by' : Int) : Bool := meF ax ay bx by' lx ly hx ly || meF ax ay bx by' hx ly hx hy || meF ax ay bx by' hx hy lx hy || meF ax ay bx by' lx hy lx ly
/-- Some diagonal is met. -/
def diF (lx ly hx hy ax ay bx by' : Int) : Bool := meF ax ay bx by' lx ly hx hy || meF ax ay bx by' lx hy hx ly
/-- Both outside: a side is met just if a diagonal is. -/
theorem sides_diag {lx ly hx hy ax ay bx by' : Int} (hb : lx ≤ hx ∧ ly ≤ hy) (ho : ovP lx ly hx hy ax ay bx by') (na : ¬ inP lx ly hx hy ax ay) (nb : ¬ inP lx ly hx hy bx by') :
    siF lx ly hx hy ax ay bx by' = diF lx ly hx hy ax ay bx by' := by
  have i0 : inP lx ly hx hy lx ly := by unfold inP; omega
  have i1 : inP lx ly hx hy hx ly := by unfold inP; omega
  have i2 : inP lx ly hx hy hx hy := by unfold inP; omega
  have i3 : inP lx ly hx hy lx hy := by unfold inP; omega
  have par : cr ax ay bx by' lx ly + cr ax ay bx by' hx hy = cr ax ay bx by' hx ly + cr ax ay bx by' lx hy := by unfold cr; grind
  unfold siF diF
  rw [Bool.eq_iff_iff]
  simp only [Bool.or_eq_true]
  constructor
  · intro h
    have T : ¬ (0 < cr ax ay bx by' lx ly ∧ 0 < cr ax ay bx by' hx hy ∧ 0 < cr ax ay bx by' hx ly ∧ 0 < cr ax ay bx by' lx hy) ∧ ¬ (cr ax ay bx by' lx ly < 0 ∧ cr ax ay bx by' hx hy < 0 ∧ cr ax ay bx by' hx ly < 0 ∧ cr ax ay bx by' lx hy < 0) := by
      rcases h with ((h | h) | h) | h <;> (have := me_opp h; omega)
    by_cases z : cr ax ay bx by' lx ly = 0 ∧ cr ax ay bx by' hx hy = 0
    · left
      have := on_line i0 ho na nb z.1
      unfold meF enF
      simp [this]
    · by_cases c : ((cr ax ay bx by' lx ly ≤ 0 ∧ 0 ≤ cr ax ay bx by' hx hy) ∨ (cr ax ay bx by' hx hy ≤ 0 ∧ 0 ≤ cr ax ay bx by' lx ly)) ∧ cr ax ay bx by' lx ly ≠ cr ax ay bx by' hx hy
      · left; exact line_parts2 i0 i2 ho na nb c.1 c.2
      · right
        exact line_parts2 i3 i1 ho na nb (by omega) (by omega)
  · intro h
    have T : ¬ (0 < cr ax ay bx by' lx ly ∧ 0 < cr ax ay bx by' hx hy ∧ 0 < cr ax ay bx by' hx ly ∧ 0 < cr ax ay bx by' lx hy) ∧ ¬ (cr ax ay bx by' lx ly < 0 ∧ cr ax ay bx by' hx hy < 0 ∧ cr ax ay bx by' hx ly < 0 ∧ cr ax ay bx by' lx hy < 0) := by
      rcases h with h | h <;> (have := me_opp h; omega)
    by_cases z : cr ax ay bx by' lx ly = 0
    · left; left; left
      have := on_line i0 ho na nb z
      unfold meF enF
      simp [this]
    · by_cases c1 : ((cr ax ay bx by' lx ly ≤ 0 ∧ 0 ≤ cr ax ay bx by' hx ly) ∨ (cr ax ay bx by' hx ly ≤ 0 ∧ 0 ≤ cr ax ay bx by' lx ly)) ∧ cr ax ay bx by' lx ly ≠ cr ax ay bx by' hx ly
      · left; left; left; exact line_parts2 i0 i1 ho na nb c1.1 c1.2
      · by_cases c2 : ((cr ax ay bx by' hx ly ≤ 0 ∧ 0 ≤ cr ax ay bx by' hx hy) ∨ (cr ax ay bx by' hx hy ≤ 0 ∧ 0 ≤ cr ax ay bx by' hx ly)) ∧ cr ax ay bx by' hx ly ≠ cr ax ay bx by' hx hy
        · left; left; right; exact line_parts2 i1 i2 ho na nb c2.1 c2.2
        · by_cases c3 : ((cr ax ay bx by' hx hy ≤ 0 ∧ 0 ≤ cr ax ay bx by' lx hy) ∨ (cr ax ay bx by' lx hy ≤ 0 ∧ 0 ≤ cr ax ay bx by' hx hy)) ∧ cr ax ay bx by' hx hy ≠ cr ax ay bx by' lx hy
          · left; right; exact line_parts2 i2 i3 ho na nb c3.1 c3.2
          · right; exact line_parts2 i3 i0 ho na nb (by omega) (by omega)
theorem si_ov {lx ly hx hy ax ay bx by' : Int} (hb : lx ≤ hx ∧ ly ≤ hy) (h : siF lx ly hx hy ax ay bx by' = true) : ovP lx ly hx hy ax ay bx by' := by
  have i0 : inP lx ly hx hy lx ly := by unfold inP; omega
  have i1 : inP lx ly hx hy hx ly := by unfold inP; omega
  have i2 : inP lx ly hx hy hx hy := by unfold inP; omega
  have i3 : inP lx ly hx hy lx hy := by unfold inP; omega
  unfold siF at h
  simp only [Bool.or_eq_true] at h
  rcases h with ((h | h) | h) | h
  · exact me_ov h i0 i1
  · exact me_ov h i1 i2
  · exact me_ov h i2 i3
  · exact me_ov h i3 i0
/-- From outside, from the left, to inside: a side is met. -/
theorem enters_left {lx ly hx hy ax ay bx by' : Int} (ib : inP lx ly hx hy bx by') (ha : ax < lx) :
    meF ax ay bx by' lx ly lx hy = true ∨ meF ax ay bx by' lx ly hx ly = true ∨ meF ax ay bx by' lx hy hx hy = true := by
  unfold inP at ib
  obtain ⟨b1, b2, b3, b4⟩ := ib
  have gA0 : cr lx ly lx hy ax ay = (hy - ly) * (lx - ax) := by unfold cr; grind
  have gB0 : cr lx ly lx hy bx by' = -((hy - ly) * (bx - lx)) := by unfold cr; grind
  have f03 : cr ax ay bx by' lx hy = cr ax ay bx by' lx ly + (bx - ax) * (hy - ly) := by unfold cr; grind
  have f01 : cr ax ay bx by' hx ly = cr ax ay bx by' lx ly - (by' - ay) * (hx - lx) := by unfold cr; grind
  have p1 : 0 ≤ (hy - ly) * (lx - ax) := Int.mul_nonneg (by omega) (by omega)
  have p2 : 0 ≤ (hy - ly) * (bx - lx) := Int.mul_nonneg (by omega) (by omega)
  have p3 : 0 ≤ (bx - ax) * (hy - ly) := Int.mul_nonneg (by omega) (by omega)
  by_cases c0 : cr ax ay bx by' lx ly ≤ 0
  · by_cases c3 : 0 ≤ cr ax ay bx by' lx hy
    · left
      by_cases hD : cr ax ay bx by' lx ly < cr ax ay bx by' lx hy
      · exact both_straddle c0 c3 hD (by omega) (by omega)
      · -- the side is one point, on the line
        have e : (bx - ax) * (hy - ly) = 0 := by omega
        have e2 : hy = ly := by
          rcases Int.mul_eq_zero.1 e with g | g <;> omega
        subst e2
        have z : cr ax ay bx by' lx hy = 0 := by omega
        have hby : by' = hy := by omega
        subst hby
        have z2 : (bx - lx) * (by' - ay) = 0 := by
          have : cr ax ay bx by' lx by' = (bx - lx) * (by' - ay) := by unfold cr; grind
          omega
        have : onF ax ay bx by' lx by' = true := by
          rw [onF_iff, btw_iff]
          exact ⟨by omega, z⟩
        unfold meF enF
        simp [this]
    · -- the line is above at the left side
      right; right
      have q : cr ax ay bx by' lx hy < 0 := by omega
      have e : cr ax ay bx by' lx hy = (bx - ax) * (hy - ay) - (by' - ay) * (lx - ax) := by unfold cr; rfl
      have k1 : by' ≤ ay := by
        rcases Int.lt_or_le ay by' with g | g
        · exfalso
          have m1 : (by' - ay) * (lx - ax) ≤ (by' - ay) * (bx - ax) := Int.mul_le_mul_of_nonneg_left (by omega) (by omega)
          have m2 : (bx - ax) * (by' - ay) ≤ (bx - ax) * (hy - ay) := Int.mul_le_mul_of_nonneg_left (by omega) (by omega)
          have m3 : (by' - ay) * (bx - ax) = (bx - ax) * (by' - ay) := Int.mul_comm _ _
          omega
        · exact g
      have k2 : hy < ay := by
        rcases Int.lt_or_le hy ay with g | g
        · exact g
        · exfalso
          have m1 : 0 ≤ (bx - ax) * (hy - ay) := Int.mul_nonneg (by omega) (by omega)
          have m2 : 0 ≤ (ay - by') * (lx - ax) := Int.mul_nonneg (by omega) (by omega)
          have m3 : (by' - ay) * (lx - ax) = -((ay - by') * (lx - ax)) := by grind
          omega
      have e2 : cr ax ay bx by' hx hy = (bx - ax) * (hy - ay) - (by' - ay) * (hx - ax) := by unfold cr; rfl
      have k3 : 0 ≤ cr ax ay bx by' hx hy := by
        have m1 : (bx - ax) * (ay - hy) ≤ (bx - ax) * (ay - by') := Int.mul_le_mul_of_nonneg_left (by omega) (by omega)
        have m2 : (ay - by') * (bx - ax) ≤ (ay - by') * (hx - ax) := Int.mul_le_mul_of_nonneg_left (by omega) (by omega)
        have m3 : (bx - ax) * (hy - ay) = -((bx - ax) * (ay - hy)) := by grind
        have m4 : (by' - ay) * (hx - ax) = -((ay - by') * (hx - ax)) := by grind
        have m5 : (ay - by') * (bx - ax) = (bx - ax) * (ay - by') := Int.mul_comm _ _
        omega
      have gA : cr lx hy hx hy ax ay = (hx - lx) * (ay - hy) := by unfold cr; grind
      have gB : cr lx hy hx hy bx by' = -((hx - lx) * (hy - by')) := by unfold cr; grind
      have n1 : 0 ≤ (hx - lx) * (ay - hy) := Int.mul_nonneg (by omega) (by omega)
      have n2 : 0 ≤ (hx - lx) * (hy - by') := Int.mul_nonneg (by omega) (by omega)
      exact both_straddle (by omega) k3 (by omega) (by omega) (by omega)
  · -- the line is below at the left side
    right; left
    have q : 0 < cr ax ay bx by' lx ly := by omega
    have e : cr ax ay bx by' lx ly = (bx - ax) * (ly - ay) - (by' - ay) * (lx - ax) := by unfold cr; rfl
    have k1 : ay ≤ by' := by
      rcases Int.lt_or_le by' ay with g | g
      · exfalso
        have m1 : (ay - by') * (lx - ax) ≤ (ay - by') * (bx - ax) := Int.mul_le_mul_of_nonneg_left (by omega) (by omega)
        have m2 : (bx - ax) * (ay - by') ≤ (bx - ax) * (ay - ly) := Int.mul_le_mul_of_nonneg_left (by omega) (by omega)
        have m3 : (ay - by') * (bx - ax) = (bx - ax) * (ay - by') := Int.mul_comm _ _
        have m4 : (bx - ax) * (ly - ay) = -((bx - ax) * (ay - ly)) := by grind
        have m5 : (by' - ay) * (lx - ax) = -((ay - by') * (lx - ax)) := by grind
        omega
      · exact g
    have k2 : ay < ly := by
      rcases Int.lt_or_le ay ly with g | g
      · exact g
      · exfalso
        have m1 : 0 ≤ (bx - ax) * (ay - ly) := Int.mul_nonneg (by omega) (by omega)
        have m2 : 0 ≤ (by' - ay) * (lx - ax) := Int.mul_nonneg (by omega) (by omega)
        have m4 : (bx - ax) * (ly - ay) = -((bx - ax) * (ay - ly)) := by grind
        omega
    have e2 : cr ax ay bx by' hx ly = (bx - ax) * (ly - ay) - (by' - ay) * (hx - ax) := by unfold cr; rfl
    have k3 : cr ax ay bx by' hx ly ≤ 0 := by
      have m1 : (bx - ax) * (ly - ay) ≤ (bx - ax) * (by' - ay) := Int.mul_le_mul_of_nonneg_left (by omega) (by omega)
      have m2 : (by' - ay) * (bx - ax) ≤ (by' - ay) * (hx - ax) := Int.mul_le_mul_of_nonneg_left (by omega) (by omega)
      have m5 : (by' - ay) * (bx - ax) = (bx - ax) * (by' - ay) := Int.mul_comm _ _
      omega
    have gA : cr hx ly lx ly ax ay = (hx - lx) * (ly - ay) := by unfold cr; grind
    have gB : cr hx ly lx ly bx by' = -((hx - lx) * (by' - ly)) := by unfold cr; grind
    have n1 : 0 ≤ (hx - lx) * (ly - ay) := Int.mul_nonneg (by omega) (by omega)
    have n2 : 0 ≤ (hx - lx) * (by' - ly) := Int.mul_nonneg (by omega) (by omega)
    rw [meF_flip2]
    exact both_straddle k3 (by omega) (by omega) (by omega) (by omega)
/-- Left and right turned. -/
theorem cr_mx (ax ay bx by' cx cy : Int) : cr (-ax) ay (-bx) by' (-cx) cy = -cr ax ay bx by' cx cy := by unfold cr; grind
theorem cr_sw (ax ay bx by' cx cy : Int) : cr ay ax by' bx cy cx = -cr ax ay bx by' cx cy := by unfold cr; grind
theorem onF_mx (ax ay bx by' cx cy : Int) : onF (-ax) ay (-bx) by' (-cx) cy = onF ax ay bx by' cx cy := by
  rw [Bool.eq_iff_iff, onF_iff, onF_iff, btw_iff, btw_iff, cr_mx]; omega
theorem onF_sw (ax ay bx by' cx cy : Int) : onF ay ax by' bx cy cx = onF ax ay bx by' cx cy := by
  rw [Bool.eq_iff_iff, onF_iff, onF_iff, btw_iff, btw_iff, cr_sw]; omega
theorem meF_mx (ax ay bx by' cx cy dx dy : Int) : meF (-ax) ay (-bx) by' (-cx) cy (-dx) dy = meF ax ay bx by' cx cy dx dy := by
  unfold meF enF
  rw [onF_mx, onF_mx, onF_mx, onF_mx]
  congr 1
  rw [Bool.eq_iff_iff, prF_iff, prF_iff, cr_mx, cr_mx, cr_mx, cr_mx]
  omega
theorem meF_sw (ax ay bx by' cx cy dx dy : Int) : meF ay ax by' bx cy cx dy dx = meF ax ay bx by' cx cy dx dy := by
  unfold meF enF
  rw [onF_sw ax ay bx by' cx cy, onF_sw ax ay bx by' dx dy, onF_sw cx cy dx dy ax ay, onF_sw cx cy dx dy bx by']
  congr 1
  rw [Bool.eq_iff_iff, prF_iff, prF_iff, cr_sw ax ay bx by' cx cy, cr_sw ax ay bx by' dx dy, cr_sw cx cy dx dy ax ay, cr_sw cx cy dx dy bx by']
  omega
/-- From outside to inside: a side is met. -/
theorem enters {lx ly hx hy ax ay bx by' : Int} (ib : inP lx ly hx hy bx by') (na : ¬ inP lx ly hx hy ax ay) : siF lx ly hx hy ax ay bx by' = true := by
  unfold siF
  simp only [Bool.or_eq_true]
  have hc : ax < lx ∨ hx < ax ∨ ay < ly ∨ hy < ay := by unfold inP at na; omega
  rcases hc with h | h | h | h
  · rcases enters_left ib h with g | g | g
    · right; rw [meF_flip2]; exact g
    · left; left; left; exact g
    · left; right; rw [meF_flip2]; exact g
  · have := enters_left (lx := -hx) (hx := -lx) (ly := ly) (hy := hy) (ax := -ax) (ay := ay) (bx := -bx) (by' := by') (by unfold inP at *; omega) (by omega)
    rw [meF_mx, meF_mx, meF_mx] at this
    rcases this with g | g | g
    · left; left; right; exact g
    · left; left; left; rw [meF_flip2]; exact g
    · left; right; exact g
  · have := enters_left (lx := ly) (hx := hy) (ly := lx) (hy := hx) (ax := ay) (ay := ax) (bx := by') (by' := bx) (by unfold inP at *; omega) h
    rw [meF_sw ax ay bx by' lx ly hx ly, meF_sw ax ay bx by' lx ly lx hy, meF_sw ax ay bx by' hx ly hx hy] at this
    rcases this with g | g | g
    · left; left; left; exact g
    · right; rw [meF_flip2]; exact g
    · left; left; right; exact g
  · have := enters_left (lx := -hy) (hx := -ly) (ly := lx) (hy := hx) (ax := -ay) (ay := ax) (bx := -by') (by' := bx) (by unfold inP at *; omega) (by omega)
    rw [meF_mx, meF_mx, meF_mx, meF_sw ax ay bx by' lx hy hx hy, meF_sw ax ay bx by' lx hy lx ly, meF_sw ax ay bx by' hx hy hx ly] at this
    rcases this with g | g | g
    · left; right; rw [meF_flip2]; exact g
    · right; exact g
    · left; left; right; rw [meF_flip2]; exact g
end Go.Proofs.YtogflfepkddbhaaDoor
