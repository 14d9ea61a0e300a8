/- segments: the plane's arithmetic, with no program; segments and boxes: the plane's arithmetic, with no program -/
import Derived.Test.YtpomllpplpalkaaGreatDoorPa
import Derived.Test.YtpomllpplpalkaaGreatDoorK
import Derived.Test.YtpomllpplpalkaaGreatDoorH
namespace Go.Proofs.YtpomllpplpalkaaGreatDoor
set_option linter.unusedVariables false
open Go.ChangeShapes Go.WideShapes Go.ChangeAt Go.RowKit

def cr (ax ay bx by' cx cy : Int) : Int := (bx - ax) * (cy - ay) - (by' - ay) * (cx - ax)
def sg (ax ay bx by' cx cy : Int) : Int := cmpZ (cr ax ay bx by' cx cy) 0
def btw (ax ay bx by' px py : Int) : Bool := decide (minZ ax bx ≤ px) && decide (px ≤ maxZ ax bx) && decide (minZ ay by' ≤ py) && decide (py ≤ maxZ ay by')
def onF (ax ay bx by' px py : Int) : Bool := btw ax ay bx by' px py && (sg ax ay bx by' px py == 0)
def apF (ax ay bx by' cx cy dx dy : Int) : Bool := decide (maxZ ax bx < minZ cx dx) || decide (maxZ cx dx < minZ ax bx) || decide (maxZ ay by' < minZ cy dy) || decide (maxZ cy dy < minZ ay by')
def prF (ax ay bx by' cx cy dx dy : Int) : Bool := (sg ax ay bx by' cx cy * sg ax ay bx by' dx dy == -1) && (sg cx cy dx dy ax ay * sg cx cy dx dy bx by' == -1)
def enF (ax ay bx by' cx cy dx dy : Int) : Bool := onF ax ay bx by' cx cy || onF ax ay bx by' dx dy || onF cx cy dx dy ax ay || onF cx cy dx dy bx by'
def meF (ax ay bx by' cx cy dx dy : Int) : Bool := prF ax ay bx by' cx cy dx dy || enF ax ay bx by' cx cy dx dy
def sdZ (k : Int) : Int := if k = 1 then 0 else if k = -1 then 1 else 2
theorem sg_cases (ax ay bx by' cx cy : Int) : (sg ax ay bx by' cx cy = -1 ∧ cr ax ay bx by' cx cy < 0) ∨ (sg ax ay bx by' cx cy = 0 ∧ cr ax ay bx by' cx cy = 0) ∨ (sg ax ay bx by' cx cy = 1 ∧ 0 < cr ax ay bx by' cx cy) := by
  unfold sg cmpZ
  split
  · left; exact ⟨rfl, by assumption⟩
  · split
    · right; right; exact ⟨rfl, by assumption⟩
    · right; left; exact ⟨rfl, by omega⟩
theorem min_le' {a b c : Int} : minZ b c ≤ a ↔ b ≤ a ∨ c ≤ a := by unfold minZ; split <;> omega
theorem max_le {a b c : Int} : maxZ b c ≤ a ↔ b ≤ a ∧ c ≤ a := by unfold maxZ; split <;> omega
theorem le_max {a b c : Int} : a ≤ maxZ b c ↔ a ≤ b ∨ a ≤ c := by unfold maxZ; split <;> omega
theorem lt_min {a b c : Int} : a < minZ b c ↔ a < b ∧ a < c := by unfold minZ; split <;> omega
theorem btw_iff {ax ay bx by' px py : Int} : btw ax ay bx by' px py = true ↔ ((ax ≤ px ∧ px ≤ bx) ∨ (bx ≤ px ∧ px ≤ ax)) ∧ ((ay ≤ py ∧ py ≤ by') ∨ (by' ≤ py ∧ py ≤ ay)) := by
  unfold btw
  simp only [Bool.and_eq_true, decide_eq_true_eq, min_le', le_max]
  omega
theorem onF_iff {ax ay bx by' px py : Int} : onF ax ay bx by' px py = true ↔ btw ax ay bx by' px py = true ∧ cr ax ay bx by' px py = 0 := by
  unfold onF
  rw [Bool.and_eq_true]
  have := sg_cases ax ay bx by' px py
  constructor
  · rintro ⟨h1, h2⟩
    refine ⟨h1, ?_⟩
    have h3 : sg ax ay bx by' px py = 0 := by simpa using h2
    omega
  · rintro ⟨h1, h2⟩
    exact ⟨h1, by have : sg ax ay bx by' px py = 0 := by omega
                  simpa using this⟩
theorem one_side {ax ay bx by' cx cy dx dy : Int} (h : onF cx cy dx dy ax ay = true) : 0 ≤ -(cr ax ay bx by' cx cy) * cr ax ay bx by' dx dy := by
  rw [onF_iff, btw_iff] at h
  obtain ⟨⟨h1, h2⟩, h3⟩ := h
  unfold cr at *
  obtain ⟨ux, eux⟩ : ∃ x, x = ax - cx := ⟨_, rfl⟩
  obtain ⟨uy, euy⟩ : ∃ x, x = ay - cy := ⟨_, rfl⟩
  obtain ⟨vx, evx⟩ : ∃ x, x = dx - ax := ⟨_, rfl⟩
  obtain ⟨vy, evy⟩ : ∃ x, x = dy - ay := ⟨_, rfl⟩
  obtain ⟨wx, ewx⟩ : ∃ x, x = bx - ax := ⟨_, rfl⟩
  obtain ⟨wy, ewy⟩ : ∃ x, x = by' - ay := ⟨_, rfl⟩
  have e1 : cx - ax = -ux := by omega
  have e2 : cy - ay = -uy := by omega
  have p1 : 0 ≤ ux * vx := by
    rcases h1 with h1 | h1
    · exact Int.mul_nonneg (by omega) (by omega)
    · exact Int.mul_nonneg_of_nonpos_of_nonpos (by omega) (by omega)
  have p2 : 0 ≤ uy * vy := by
    rcases h2 with h2 | h2
    · exact Int.mul_nonneg (by omega) (by omega)
    · exact Int.mul_nonneg_of_nonpos_of_nonpos (by omega) (by omega)
  have h4 : vx * uy = vy * ux := by
    have : dx - cx = ux + vx := by omega
    have : dy - cy = uy + vy := by omega
    grind
  rw [e1, e2, ← ewx, ← ewy, ← evx, ← evy]
  clear h1 h2 h3 eux euy evx evy ewx ewy e1 e2
  -- (w×u)(w×v)
  have key : -(wx * -uy - wy * -ux) * (wx * vy - wy * vx) = wx * wx * (uy * vy) + wy * wy * (ux * vx) - 2 * (wx * wy) * (vx * uy) := by grind
  rw [key]
  obtain ⟨α, hα⟩ : ∃ x, x = ux * vx := ⟨_, rfl⟩
  obtain ⟨β, hβ⟩ : ∃ x, x = uy * vy := ⟨_, rfl⟩
  obtain ⟨m, hm⟩ : ∃ x, x = vx * uy := ⟨_, rfl⟩
  have hmm : m * m = α * β := by grind
  rw [← hα, ← hβ, ← hm]
  rw [← hα] at p1
  rw [← hβ] at p2
  clear hα hβ key
  rcases Int.lt_or_eq_of_le p1 with h | h
  · -- α > 0
    have sq : α * (wx * wx * β + wy * wy * α - 2 * (wx * wy) * m) = (α * wy - m * wx) * (α * wy - m * wx) := by grind
    have nn := sq_nonneg (α * wy - m * wx)
    rw [← sq] at nn
    rcases Int.lt_or_le (wx * wx * β + wy * wy * α - 2 * (wx * wy) * m) 0 with g | g
    · have := Int.mul_neg_of_pos_of_neg h g
      omega
    · exact g
  · have m0 : m = 0 := by
      have : m * m = 0 := by rw [hmm, ← h]; simp
      simpa using Int.mul_eq_zero.1 this
    rw [m0, ← h]
    have := Int.mul_nonneg (sq_nonneg wx) p2
    simp
    exact this
theorem cross_x {ax ay bx by' cx cy dx dy : Int} (h1 : 0 < cr ax ay bx by' cx cy) (h2 : cr ax ay bx by' dx dy < 0) (h3 : cr cx cy dx dy ax ay < 0) (h4 : 0 < cr cx cy dx dy bx by') :
    ¬ (maxZ ax bx < minZ cx dx) ∧ ¬ (maxZ cx dx < minZ ax bx) ∧ ¬ (maxZ ay by' < minZ cy dy) ∧ ¬ (maxZ cy dy < minZ ay by') := by
  have idx : cr ax ay bx by' cx cy * dx - cr ax ay bx by' dx dy * cx = cr cx cy dx dy bx by' * ax - cr cx cy dx dy ax ay * bx := by unfold cr; grind
  have idy : cr ax ay bx by' cx cy * dy - cr ax ay bx by' dx dy * cy = cr cx cy dx dy bx by' * ay - cr cx cy dx dy ax ay * by' := by unfold cr; grind
  have sum : cr ax ay bx by' cx cy - cr ax ay bx by' dx dy = cr cx cy dx dy bx by' - cr cx cy dx dy ax ay := by unfold cr; grind
  generalize cr ax ay bx by' cx cy = p at *
  generalize cr cx cy dx dy bx by' = r at *
  obtain ⟨q, hq⟩ : ∃ q, q = -cr ax ay bx by' dx dy := ⟨_, rfl⟩
  obtain ⟨s, hs⟩ : ∃ s, s = -cr cx cy dx dy ax ay := ⟨_, rfl⟩
  have hq' : cr ax ay bx by' dx dy = -q := by omega
  have hs' : cr cx cy dx dy ax ay = -s := by omega
  rw [hq'] at idx idy sum h2
  rw [hs'] at idx idy sum h3
  clear hq hs hq' hs'
  have core : ∀ u v x y : Int, p * y + q * x = r * u + s * v → ¬ (maxZ u v < minZ x y) ∧ ¬ (maxZ x y < minZ u v) := by
    intro u v x y e
    constructor
    · intro g
      obtain ⟨t, ht⟩ : ∃ t, t = maxZ u v := ⟨_, rfl⟩
      have g1 : u ≤ t ∧ v ≤ t := max_le.1 (by omega)
      have g2 : t < x ∧ t < y := lt_min.1 (by omega)
      have a1 : p * (t + 1) ≤ p * y := Int.mul_le_mul_of_nonneg_left (by omega) (by omega)
      have a2 : q * (t + 1) ≤ q * x := Int.mul_le_mul_of_nonneg_left (by omega) (by omega)
      have a3 : r * u ≤ r * t := Int.mul_le_mul_of_nonneg_left (by omega) (by omega)
      have a4 : s * v ≤ s * t := Int.mul_le_mul_of_nonneg_left (by omega) (by omega)
      have a5 : (p + q) * t = (r + s) * t := by rw [show p + q = r + s by omega]
      have : p * (t + 1) + q * (t + 1) = (p + q) * t + p + q := by grind
      have : r * t + s * t = (r + s) * t := by grind
      omega
    · intro g
      obtain ⟨t, ht⟩ : ∃ t, t = maxZ x y := ⟨_, rfl⟩
      have g1 : x ≤ t ∧ y ≤ t := max_le.1 (by omega)
      have g2 : t < u ∧ t < v := lt_min.1 (by omega)
      have a1 : r * (t + 1) ≤ r * u := Int.mul_le_mul_of_nonneg_left (by omega) (by omega)
      have a2 : s * (t + 1) ≤ s * v := Int.mul_le_mul_of_nonneg_left (by omega) (by omega)
      have a3 : p * y ≤ p * t := Int.mul_le_mul_of_nonneg_left (by omega) (by omega)
      have a4 : q * x ≤ q * t := Int.mul_le_mul_of_nonneg_left (by omega) (by omega)
      have a5 : (p + q) * t = (r + s) * t := by rw [show p + q = r + s by omega]
      have : r * (t + 1) + s * (t + 1) = (r + s) * t + r + s := by grind
      have : p * t + q * t = (p + q) * t := by grind
      omega
  have c1 := core ax bx cx dx (by rw [Int.neg_mul, Int.neg_mul] at idx; omega)
  have c2 := core ay by' cy dy (by rw [Int.neg_mul, Int.neg_mul] at idy; omega)
  exact ⟨c1.1, c1.2, c2.1, c2.2⟩
theorem cr_flip (ax ay bx by' cx cy : Int) : cr bx by' ax ay cx cy = -cr ax ay bx by' cx cy := by unfold cr; grind
theorem max_comm' (a b : Int) : maxZ b a = maxZ a b := by unfold maxZ; split <;> split <;> omega
theorem min_comm' (a b : Int) : minZ b a = minZ a b := by unfold minZ; split <;> split <;> omega
theorem prF_iff {ax ay bx by' cx cy dx dy : Int} : prF ax ay bx by' cx cy dx dy = true ↔ ((0 < cr ax ay bx by' cx cy ∧ cr ax ay bx by' dx dy < 0) ∨ (cr ax ay bx by' cx cy < 0 ∧ 0 < cr ax ay bx by' dx dy)) ∧ ((0 < cr cx cy dx dy ax ay ∧ cr cx cy dx dy bx by' < 0) ∨ (cr cx cy dx dy ax ay < 0 ∧ 0 < cr cx cy dx dy bx by')) := by
  unfold prF
  rw [Bool.and_eq_true, beq_iff_eq, beq_iff_eq]
  rcases sg_cases ax ay bx by' cx cy with ⟨a1, a2⟩ | ⟨a1, a2⟩ | ⟨a1, a2⟩ <;> rcases sg_cases ax ay bx by' dx dy with ⟨b1, b2⟩ | ⟨b1, b2⟩ | ⟨b1, b2⟩ <;> rw [a1, b1] <;>
  rcases sg_cases cx cy dx dy ax ay with ⟨c1, c2⟩ | ⟨c1, c2⟩ | ⟨c1, c2⟩ <;> rcases sg_cases cx cy dx dy bx by' with ⟨d1, d2⟩ | ⟨d1, d2⟩ | ⟨d1, d2⟩ <;> rw [c1, d1] <;> simp <;> omega
theorem prF_apart {ax ay bx by' cx cy dx dy : Int} (h : prF ax ay bx by' cx cy dx dy = true) : apF ax ay bx by' cx cy dx dy = false := by
  rw [prF_iff] at h
  have sum : cr ax ay bx by' cx cy - cr ax ay bx by' dx dy = cr cx cy dx dy bx by' - cr cx cy dx dy ax ay := by unfold cr; grind
  unfold apF
  obtain ⟨h1 | h1, h2⟩ := h
  · have g : cr cx cy dx dy ax ay < 0 ∧ 0 < cr cx cy dx dy bx by' := by omega
    have := cross_x h1.1 h1.2 g.1 g.2
    simp [this.1, this.2.1, this.2.2.1, this.2.2.2]
  · have g : 0 < cr cx cy dx dy ax ay ∧ cr cx cy dx dy bx by' < 0 := by omega
    have f1 := cr_flip ax ay bx by' cx cy
    have f2 := cr_flip ax ay bx by' dx dy
    have f3 := cr_flip cx cy dx dy ax ay
    have := cross_x (ax := bx) (ay := by') (bx := ax) (by' := ay) (cx := cx) (cy := cy) (dx := dx) (dy := dy) (by omega) (by omega) (by omega) (by omega)
    rw [max_comm' ax bx, max_comm' ay by', min_comm' ax bx, min_comm' ay by'] at this
    simp [this.1, this.2.1, this.2.2.1, this.2.2.2]
theorem onF_apart {ax ay bx by' cx cy dx dy : Int} (h : enF ax ay bx by' cx cy dx dy = true) : apF ax ay bx by' cx cy dx dy = false := by
  unfold enF at h
  simp only [Bool.or_eq_true, onF_iff, btw_iff] at h
  unfold apF
  simp only [Bool.or_eq_false_iff, decide_eq_false_iff_not]
  rcases h with ((⟨h, -⟩ | ⟨h, -⟩) | ⟨h, -⟩) | ⟨h, -⟩ <;> unfold maxZ minZ <;> (refine ⟨⟨⟨?_, ?_⟩, ?_⟩, ?_⟩) <;> (split <;> split <;> omega)
def meC (ax ay bx by' cx cy dx dy : Int) : Bool :=
  if apF ax ay bx by' cx cy dx dy then false else
  if sdZ (sg ax ay bx by' cx cy * sg ax ay bx by' dx dy) = 0 then false else
  if sdZ (sg ax ay bx by' cx cy * sg ax ay bx by' dx dy) = 1 ∧ sdZ (sg cx cy dx dy ax ay * sg cx cy dx dy bx by') = 1 then true else enF ax ay bx by' cx cy dx dy
theorem sdZ0 {k : Int} : sdZ k = 0 ↔ k = 1 := by unfold sdZ; split <;> (try split) <;> omega
theorem sdZ1 {k : Int} : sdZ k = 1 ↔ k = -1 := by unfold sdZ; split <;> (try split) <;> omega
theorem meC_eq (ax ay bx by' cx cy dx dy : Int) : meC ax ay bx by' cx cy dx dy = meF ax ay bx by' cx cy dx dy := by
  unfold meC meF
  cases h1 : apF ax ay bx by' cx cy dx dy
  · rw [if_neg (by simp)]
    by_cases h2 : sdZ (sg ax ay bx by' cx cy * sg ax ay bx by' dx dy) = 0
    · rw [if_pos h2]
      rw [sdZ0] at h2
      have p : prF ax ay bx by' cx cy dx dy = false := by unfold prF; rw [h2]; rfl
      have same : (0 < cr ax ay bx by' cx cy ∧ 0 < cr ax ay bx by' dx dy) ∨ (cr ax ay bx by' cx cy < 0 ∧ cr ax ay bx by' dx dy < 0) := by
        rcases sg_cases ax ay bx by' cx cy with ⟨a1, a2⟩ | ⟨a1, a2⟩ | ⟨a1, a2⟩ <;> rcases sg_cases ax ay bx by' dx dy with ⟨b1, b2⟩ | ⟨b1, b2⟩ | ⟨b1, b2⟩ <;> rw [a1, b1] at h2 <;> simp at h2 <;> omega
      have pos : 0 < cr ax ay bx by' cx cy * cr ax ay bx by' dx dy := by
        rcases same with ⟨a, b⟩ | ⟨a, b⟩
        · exact Int.mul_pos a b
        · exact Int.mul_pos_of_neg_of_neg a b
      have o1 : onF ax ay bx by' cx cy = false := by
        rw [← Bool.not_eq_true, onF_iff]; omega
      have o2 : onF ax ay bx by' dx dy = false := by
        rw [← Bool.not_eq_true, onF_iff]; omega
      have o3 : onF cx cy dx dy ax ay = false := by
        rw [← Bool.not_eq_true]
        intro h
        have := one_side (bx := bx) (by' := by') h
        rw [Int.neg_mul] at this
        omega
      have o4 : onF cx cy dx dy bx by' = false := by
        rw [← Bool.not_eq_true]
        intro h
        have := one_side (bx := ax) (by' := ay) h
        rw [cr_flip, cr_flip ax ay bx by' dx dy] at this
        rw [Int.neg_neg, Int.mul_neg] at this
        omega
      unfold enF
      rw [p, o1, o2, o3, o4]
      rfl
    · rw [if_neg h2]
      by_cases h3 : sdZ (sg ax ay bx by' cx cy * sg ax ay bx by' dx dy) = 1 ∧ sdZ (sg cx cy dx dy ax ay * sg cx cy dx dy bx by') = 1
      · rw [if_pos h3]
        rw [sdZ1, sdZ1] at h3
        unfold prF
        rw [h3.1, h3.2]
        rfl
      · rw [if_neg h3]
        rw [sdZ1, sdZ1] at h3
        have p : prF ax ay bx by' cx cy dx dy = false := by
          unfold prF
          rw [← Bool.not_eq_true, Bool.and_eq_true, beq_iff_eq, beq_iff_eq]
          exact h3
        rw [p]
        rfl
  · rw [if_pos rfl]
    have p : prF ax ay bx by' cx cy dx dy = false := by
      rw [← Bool.not_eq_true]; intro h; rw [prF_apart h] at h1; cases h1
    have q : enF ax ay bx by' cx cy dx dy = false := by
      rw [← Bool.not_eq_true]; intro h; rw [onF_apart h] at h1; cases h1
    rw [p, q]
    rfl
def alZ (ax ay bx by' px py : Int) : Int := (bx - ax) * (px - ax) + (by' - ay) * (py - ay)
end Go.Proofs.YtpomllpplpalkaaGreatDoor
namespace Go.Proofs.YtpomllpplpalkaaGreatDoor
set_option linter.unusedVariables false
open Go.ChangeShapes Go.WideShapes Go.ChangeAt Go.RowKit

def diF (lx ly hx hy ax ay bx by' : Int) : Bool := meF ax ay bx by' lx ly hx hy || meF ax ay bx by' lx hy hx ly
end Go.Proofs.YtpomllpplpalkaaGreatDoor
