/- segments and boxes: the plane's arithmetic, with no program -/
import Derived.Test.YtfamocpbmbhmbaaDoorZa
namespace Go.Proofs.YtfamocpbmbhmbaaDoor
set_option linter.unusedVariables false
open Go.ChangeShapes Go.WideShapes Go.ChangeAt Go.RowKit

/-- In a box. -/
def inP (lx ly hx hy px py : Int) : Prop := lx ≤ px ∧ px ≤ hx ∧ ly ≤ py ∧ py ≤ hy
/-- The box of a b and another one have something in common. -/
def ovP (lx ly hx hy ax ay bx by' : Int) : Prop := (ax ≤ hx ∨ bx ≤ hx) ∧ (lx ≤ ax ∨ lx ≤ bx) ∧ (ay ≤ hy ∨ by' ≤ hy) ∧ (ly ≤ ay ∨ ly ≤ by')
theorem ovP_flip {lx ly hx hy ax ay bx by' : Int} (h : ovP lx ly hx hy ax ay bx by') : ovP lx ly hx hy bx by' ax ay := by
  unfold ovP at *; omega
theorem me_opp {ax ay bx by' px py qx qy : Int} (h : meF ax ay bx by' px py qx qy = true) : ¬ (0 < cr ax ay bx by' px py ∧ 0 < cr ax ay bx by' qx qy) ∧ ¬ (cr ax ay bx by' px py < 0 ∧ cr ax ay bx by' qx qy < 0) := by
  rw [← meC_eq] at h
  unfold meC at h
  rcases sg_cases ax ay bx by' px py with ⟨a1, a2⟩ | ⟨a1, a2⟩ | ⟨a1, a2⟩ <;> rcases sg_cases ax ay bx by' qx qy with ⟨b1, b2⟩ | ⟨b1, b2⟩ | ⟨b1, b2⟩ <;> rw [a1, b1] at h <;> simp [sdZ] at h <;> omega
theorem me_ap {ax ay bx by' px py qx qy : Int} (h : meF ax ay bx by' px py qx qy = true) : apF ax ay bx by' px py qx qy = false := by
  unfold meF at h
  rw [Bool.or_eq_true] at h
  rcases h with h | h
  · exact prF_apart h
  · exact onF_apart h
theorem me_ov {lx ly hx hy ax ay bx by' px py qx qy : Int} (h : meF ax ay bx by' px py qx qy = true) (h1 : inP lx ly hx hy px py) (h2 : inP lx ly hx hy qx qy) : ovP lx ly hx hy ax ay bx by' := by
  have g := me_ap h
  unfold apF at g
  simp only [Bool.or_eq_false_iff, decide_eq_false_iff_not, max_lt, lt_min] at g
  unfold inP at *
  unfold ovP
  omega
/-- Both straddle, one strictly: they meet. -/
theorem both_straddle {ax ay bx by' px py qx qy : Int} (h1 : cr ax ay bx by' px py ≤ 0) (h2 : 0 ≤ cr ax ay bx by' qx qy) (hD : cr ax ay bx by' px py < cr ax ay bx by' qx qy)
    (g1 : 0 ≤ cr px py qx qy ax ay) (g2 : cr px py qx qy bx by' ≤ 0) : meF ax ay bx by' px py qx qy = true := by
  have sum : cr ax ay bx by' px py - cr ax ay bx by' qx qy = cr px py qx qy bx by' - cr px py qx qy ax ay := by unfold cr; grind
  unfold meF
  rw [Bool.or_eq_true]
  by_cases hp : prF ax ay bx by' px py qx qy = true
  · exact Or.inl hp
  right
  have hz : cr ax ay bx by' px py = 0 ∨ cr ax ay bx by' qx qy = 0 ∨ cr px py qx qy ax ay = 0 ∨ cr px py qx qy bx by' = 0 := by
    rw [prF_iff] at hp
    omega
  unfold enF
  have e1x : (cr px py qx qy ax ay - cr px py qx qy bx by') * (px - ax) = cr px py qx qy ax ay * (bx - ax) + cr ax ay bx by' px py * (qx - px) := by unfold cr; grind
  have e1y : (cr px py qx qy ax ay - cr px py qx qy bx by') * (py - ay) = cr px py qx qy ax ay * (by' - ay) + cr ax ay bx by' px py * (qy - py) := by unfold cr; grind
  have e2x : (cr px py qx qy ax ay - cr px py qx qy bx by') * (qx - ax) = cr px py qx qy ax ay * (bx - ax) + cr ax ay bx by' qx qy * (qx - px) := by unfold cr; grind
  have e2y : (cr px py qx qy ax ay - cr px py qx qy bx by') * (qy - ay) = cr px py qx qy ax ay * (by' - ay) + cr ax ay bx by' qx qy * (qy - py) := by unfold cr; grind
  have e3x : (cr ax ay bx by' qx qy - cr ax ay bx by' px py) * (ax - px) = -cr ax ay bx by' px py * (qx - px) - cr px py qx qy ax ay * (bx - ax) := by unfold cr; grind
  have e3y : (cr ax ay bx by' qx qy - cr ax ay bx by' px py) * (ay - py) = -cr ax ay bx by' px py * (qy - py) - cr px py qx qy ax ay * (by' - ay) := by unfold cr; grind
  have e4x : (cr ax ay bx by' qx qy - cr ax ay bx by' px py) * (bx - px) = -cr ax ay bx by' px py * (qx - px) - cr px py qx qy bx by' * (bx - ax) := by unfold cr; grind
  have e4y : (cr ax ay bx by' qx qy - cr ax ay bx by' px py) * (by' - py) = -cr ax ay bx by' px py * (qy - py) - cr px py qx qy bx by' * (by' - ay) := by unfold cr; grind
  rcases hz with hz | hz | hz | hz
  · rw [hz, Int.zero_mul, Int.add_zero] at e1x e1y
    have b1 := bet_of (by omega) g1 (by omega) e1x
    have b2 := bet_of (by omega) g1 (by omega) e1y
    have : onF ax ay bx by' px py = true := onF_iff.2 ⟨btw_iff.2 (by omega), hz⟩
    simp [this]
  · rw [hz, Int.zero_mul, Int.add_zero] at e2x e2y
    have b1 := bet_of (by omega) g1 (by omega) e2x
    have b2 := bet_of (by omega) g1 (by omega) e2y
    have : onF ax ay bx by' qx qy = true := onF_iff.2 ⟨btw_iff.2 (by omega), hz⟩
    simp [this]
  · rw [hz, Int.zero_mul, Int.sub_zero] at e3x e3y
    have b1 := bet_of (by omega) (by omega) (by omega) e3x
    have b2 := bet_of (by omega) (by omega) (by omega) e3y
    have : onF px py qx qy ax ay = true := onF_iff.2 ⟨btw_iff.2 (by omega), hz⟩
    simp [this]
  · rw [hz, Int.zero_mul, Int.sub_zero] at e4x e4y
    have b1 := bet_of (by omega) (by omega) (by omega) e4x
    have b2 := bet_of (by omega) (by omega) (by omega) e4y
    have : onF px py qx qy bx by' = true := onF_iff.2 ⟨btw_iff.2 (by omega), hz⟩
    simp [this]
/-- One coordinate of what a line and a segment have in common, where the line's other points are off it to one side. -/
theorem off_side {f1 f2 g1 g2 u v p q lo hi : Int} (e : f2 * p - f1 * q = g2 * u - g1 * v) (hf1 : f1 ≤ 0) (hf2 : 0 ≤ f2) (hs : f2 - f1 = g2 - g1) (hg : 0 < g1) (hgg : g1 < g2)
    (hp : lo ≤ p ∧ p ≤ hi) (hq : lo ≤ q ∧ q ≤ hi) (ho1 : u ≤ hi ∨ v ≤ hi) (ho2 : lo ≤ u ∨ lo ≤ v) : lo ≤ u ∧ u ≤ hi := by
  constructor
  · rcases Int.lt_or_le u lo with h | h
    · exfalso
      have hv : lo ≤ v := by omega
      have a1 : f2 * lo ≤ f2 * p := Int.mul_le_mul_of_nonneg_left hp.1 hf2
      have a2 : (-f1) * lo ≤ (-f1) * q := Int.mul_le_mul_of_nonneg_left hq.1 (by omega)
      have a3 : g2 * (u + 1) ≤ g2 * lo := Int.mul_le_mul_of_nonneg_left (by omega) (by omega)
      have a4 : g1 * lo ≤ g1 * v := Int.mul_le_mul_of_nonneg_left hv (by omega)
      have a5 : (f2 - f1) * lo = (g2 - g1) * lo := by rw [hs]
      have a6 : (f2 - f1) * lo = f2 * lo + (-f1) * lo := by grind
      have a7 : (g2 - g1) * lo = g2 * lo - g1 * lo := by grind
      have a8 : g2 * (u + 1) = g2 * u + g2 := by grind
      rw [Int.neg_mul, Int.neg_mul] at a2
      rw [Int.neg_mul] at a6
      omega
    · exact h
  · rcases Int.lt_or_le hi u with h | h
    · exfalso
      have hv : v ≤ hi := by omega
      have a1 : f2 * p ≤ f2 * hi := Int.mul_le_mul_of_nonneg_left hp.2 hf2
      have a2 : (-f1) * q ≤ (-f1) * hi := Int.mul_le_mul_of_nonneg_left hq.2 (by omega)
      have a3 : g2 * (hi + 1) ≤ g2 * u := Int.mul_le_mul_of_nonneg_left (by omega) (by omega)
      have a4 : g1 * v ≤ g1 * hi := Int.mul_le_mul_of_nonneg_left hv (by omega)
      have a5 : (f2 - f1) * hi = (g2 - g1) * hi := by rw [hs]
      have a6 : (f2 - f1) * hi = f2 * hi + (-f1) * hi := by grind
      have a7 : (g2 - g1) * hi = g2 * hi - g1 * hi := by grind
      have a8 : g2 * (hi + 1) = g2 * hi + g2 := by grind
      rw [Int.neg_mul, Int.neg_mul] at a2
      rw [Int.neg_mul] at a6
      omega
    · exact h
/-- A line that parts two points of a box strictly: the segment meets theirs, if its ends are not in the box and its own box is not off. -/
theorem line_parts {lx ly hx hy ax ay bx by' px py qx qy : Int} (hp : inP lx ly hx hy px py) (hq : inP lx ly hx hy qx qy) (ho : ovP lx ly hx hy ax ay bx by')
    (na : ¬ inP lx ly hx hy ax ay) (nb : ¬ inP lx ly hx hy bx by') (h1 : cr ax ay bx by' px py ≤ 0) (h2 : 0 ≤ cr ax ay bx by' qx qy) (hD : cr ax ay bx by' px py < cr ax ay bx by' qx qy) :
    meF ax ay bx by' px py qx qy = true := by
  have sum : cr ax ay bx by' qx qy - cr ax ay bx by' px py = cr px py qx qy ax ay - cr px py qx qy bx by' := by unfold cr; grind
  have idx : cr ax ay bx by' qx qy * px - cr ax ay bx by' px py * qx = cr px py qx qy ax ay * bx - cr px py qx qy bx by' * ax := by unfold cr; grind
  have idy : cr ax ay bx by' qx qy * py - cr ax ay bx by' px py * qy = cr px py qx qy ax ay * by' - cr px py qx qy bx by' * ay := by unfold cr; grind
  unfold inP ovP at *
  by_cases g1 : 0 ≤ cr px py qx qy ax ay
  · by_cases g2 : cr px py qx qy bx by' ≤ 0
    · exact both_straddle h1 h2 hD g1 g2
    · exfalso
      -- both above: b is the nearer one
      have o1 := off_side (u := bx) (v := ax) (lo := lx) (hi := hx) idx h1 h2 sum (by omega) (by omega) ⟨hp.1, hp.2.1⟩ ⟨hq.1, hq.2.1⟩ (by omega) (by omega)
      have o2 := off_side (u := by') (v := ay) (lo := ly) (hi := hy) idy h1 h2 sum (by omega) (by omega) hp.2.2 hq.2.2 (by omega) (by omega)
      omega
  · exfalso
    have sum' : cr ax ay bx by' qx qy - cr ax ay bx by' px py = -cr px py qx qy bx by' - -cr px py qx qy ax ay := by omega
    have idx' : cr ax ay bx by' qx qy * px - cr ax ay bx by' px py * qx = -cr px py qx qy bx by' * ax - -cr px py qx qy ax ay * bx := by rw [Int.neg_mul, Int.neg_mul]; omega
    have idy' : cr ax ay bx by' qx qy * py - cr ax ay bx by' px py * qy = -cr px py qx qy bx by' * ay - -cr px py qx qy ax ay * by' := by rw [Int.neg_mul, Int.neg_mul]; omega
    have o1 := off_side (u := ax) (v := bx) (lo := lx) (hi := hx) idx' h1 h2 sum' (by omega) (by omega) ⟨hp.1, hp.2.1⟩ ⟨hq.1, hq.2.1⟩ (by omega) (by omega)
    have o2 := off_side (u := ay) (v := by') (lo := ly) (hi := hy) idy' h1 h2 sum' (by omega) (by omega) hp.2.2 hq.2.2 (by omega) (by omega)
    omega
theorem line_parts2 {lx ly hx hy ax ay bx by' px py qx qy : Int} (hp : inP lx ly hx hy px py) (hq : inP lx ly hx hy qx qy) (ho : ovP lx ly hx hy ax ay bx by')
    (na : ¬ inP lx ly hx hy ax ay) (nb : ¬ inP lx ly hx hy bx by') (h : (cr ax ay bx by' px py ≤ 0 ∧ 0 ≤ cr ax ay bx by' qx qy) ∨ (cr ax ay bx by' qx qy ≤ 0 ∧ 0 ≤ cr ax ay bx by' px py)) (hD : cr ax ay bx by' px py ≠ cr ax ay bx by' qx qy) :
    meF ax ay bx by' px py qx qy = true := by
  rcases h with h | h
  · exact line_parts hp hq ho na nb h.1 h.2 (by omega)
  · rw [meF_flip2]
    exact line_parts hq hp ho na nb h.1 h.2 (by omega)
/-- A corner on the line is on the segment. -/
theorem on_line {lx ly hx hy ax ay bx by' px py : Int} (hp : inP lx ly hx hy px py) (ho : ovP lx ly hx hy ax ay bx by')
    (na : ¬ inP lx ly hx hy ax ay) (nb : ¬ inP lx ly hx hy bx by') (h : cr ax ay bx by' px py = 0) : onF ax ay bx by' px py = true := by
  rw [onF_iff, btw_iff]
  refine ⟨?_, h⟩
  unfold inP ovP at *
  have n1 := sq_nn ax ay bx by'
  have z := sq_zero_iff ax ay bx by'
  have ex : sqZ ax ay bx by' * (px - ax) = alZ ax ay bx by' px py * (bx - ax) - cr ax ay bx by' px py * (by' - ay) := by unfold sqZ alZ cr; grind
  have ey : sqZ ax ay bx by' * (py - ay) = alZ ax ay bx by' px py * (by' - ay) + cr ax ay bx by' px py * (bx - ax) := by unfold sqZ alZ cr; grind
  have fx : sqZ ax ay bx by' * (px - bx) = (alZ ax ay bx by' px py - sqZ ax ay bx by') * (bx - ax) - cr ax ay bx by' px py * (by' - ay) := by unfold sqZ alZ cr; grind
  have fy : sqZ ax ay bx by' * (py - by') = (alZ ax ay bx by' px py - sqZ ax ay bx by') * (by' - ay) + cr ax ay bx by' px py * (bx - ax) := by unfold sqZ alZ cr; grind
  rw [h, Int.zero_mul] at ex ey fx fy
  rw [Int.sub_zero] at ex fx
  rw [Int.add_zero] at ey fy
  generalize alZ ax ay bx by' px py = α at *
  generalize sqZ ax ay bx by' = w at *
  have hw : 0 < w := by
    rcases Int.lt_or_eq_of_le n1 with g | g
    · exact g
    · obtain ⟨rfl, rfl⟩ := z.1 g.symm
      omega
  -- signs
  have sgn : ∀ k u v : Int, w * v = k * u → (k < 0 → (0 < v → u < 0) ∧ (v < 0 → 0 < u)) ∧ (0 < k → (0 < v → 0 < u) ∧ (v < 0 → u < 0)) := by
    intro k u v e
    refine ⟨fun hk => ⟨fun hv => ?_, fun hv => ?_⟩, fun hk => ⟨fun hv => ?_, fun hv => ?_⟩⟩
    · have : 0 < k * u := by rw [← e]; exact Int.mul_pos hw hv
      rcases Int.lt_or_le u 0 with g | g
      · exact g
      · have := Int.mul_nonpos_of_nonpos_of_nonneg (a := k) (b := u) (by omega) g; omega
    · have : k * u < 0 := by rw [← e]; exact Int.mul_neg_of_pos_of_neg hw hv
      rcases Int.lt_or_le 0 u with g | g
      · exact g
      · have := Int.mul_nonneg_of_nonpos_of_nonpos (a := k) (b := u) (by omega) g; omega
    · have : 0 < k * u := by rw [← e]; exact Int.mul_pos hw hv
      rcases Int.lt_or_le 0 u with g | g
      · exact g
      · have := Int.mul_nonpos_of_nonneg_of_nonpos (a := k) (b := u) (by omega) g; omega
    · have : k * u < 0 := by rw [← e]; exact Int.mul_neg_of_pos_of_neg hw hv
      rcases Int.lt_or_le u 0 with g | g
      · exact g
      · have := Int.mul_nonneg (a := k) (b := u) (by omega) g; omega
  by_cases h0 : α < 0
  · exfalso
    have s1 := (sgn _ _ _ ex).1 h0
    have s2 := (sgn _ _ _ ey).1 h0
    omega
  · by_cases h1 : α ≤ w
    · have b1 := bet_of hw (by omega) h1 ex
      have b2 := bet_of hw (by omega) h1 ey
      omega
    · exfalso
      have s1 := (sgn _ _ _ fx).2 (by omega)
      have s2 := (sgn _ _ _ fy).2 (by omega)
      omega
/-- Some side is met. -/
def siF (lx ly hx hy ax ay bx by' : Int) : Bool := meF ax ay bx by' lx ly hx ly || meF ax ay bx by' hx ly hx hy || meF ax ay bx by' hx hy lx hy || meF ax ay bx by' lx hy lx ly
/-- Some diagonal is met. -/
def diF (lx ly hx hy ax ay bx by' : Int) : Bool := meF ax ay bx by' lx ly hx hy || meF ax ay bx by' lx hy hx ly
/-- Both outside: a side is met just if a diagonal is. -/
theorem sides_diag {lx ly hx hy ax ay bx by' : Int} (hb : lx ≤ hx ∧ ly ≤ hy) (ho : ovP lx ly hx hy ax ay bx by') (na : ¬ inP lx ly hx hy ax ay) (nb : ¬ inP lx ly hx hy bx by') :
    siF lx ly hx hy ax ay bx by' = diF lx ly hx hy ax ay bx by' := by
  have i0 : inP lx ly hx hy lx ly := by unfold inP; omega
  have i1 : inP lx ly hx hy hx ly := by unfold inP; omega
  have i2 : inP lx ly hx hy hx hy := by unfold inP; omega
  have i3 : inP lx ly hx hy lx hy := by unfold inP; omega
  have par : cr ax ay bx by' lx ly + cr ax ay bx by' hx hy = cr ax ay bx by' hx ly + cr ax ay bx by' lx hy := by unfold cr; grind
  unfold siF diF
  rw [Bool.eq_iff_iff]
  simp only [Bool.or_eq_true]
  constructor
  · intro h
    have T : ¬ (0 < cr ax ay bx by' lx ly ∧ 0 < cr ax ay bx by' hx hy ∧ 0 < cr ax ay bx by' hx ly ∧ 0 < cr ax ay bx by' lx hy) ∧ ¬ (cr ax ay bx by' lx ly < 0 ∧ cr ax ay bx by' hx hy < 0 ∧ cr ax ay bx by' hx ly < 0 ∧ cr ax ay bx by' lx hy < 0) := by
      rcases h with ((h | h) | h) | h <;> (have := me_opp h; omega)
    by_cases z : cr ax ay bx by' lx ly = 0 ∧ cr ax ay bx by' hx hy = 0
    · left
      have := on_line i0 ho na nb z.1
      unfold meF enF
      simp [this]
    · by_cases c : ((cr ax ay bx by' lx ly ≤ 0 ∧ 0 ≤ cr ax ay bx by' hx hy) ∨ (cr ax ay bx by' hx hy ≤ 0 ∧ 0 ≤ cr ax ay bx by' lx ly)) ∧ cr ax ay bx by' lx ly ≠ cr ax ay bx by' hx hy
      · left; exact line_parts2 i0 i2 ho na nb c.1 c.2
      · right
        exact line_parts2 i3 i1 ho na nb (by omega) (by omega)
  · intro h
    have T : ¬ (0 < cr ax ay bx by' lx ly ∧ 0 < cr ax ay bx by' hx hy ∧ 0 < cr ax ay bx by' hx ly ∧ 0 < cr ax ay bx by' lx hy) ∧ ¬ (cr ax ay bx by' lx ly < 0 ∧ cr ax ay bx by' hx hy < 0 ∧ cr ax ay bx by' hx ly < 0 ∧ cr ax ay bx by' lx hy < 0) := by
      rcases h with h | h <;> (have := me_opp h; omega)
    by_cases z : cr ax ay bx by' lx ly = 0
    · left; left; left
      have := on_line i0 ho na nb z
      unfold meF enF
      simp [this]
    · by_cases c1 : ((cr ax ay bx by' lx ly ≤ 0 ∧ 0 ≤ cr ax ay bx by' hx ly) ∨ (cr ax ay bx by' hx ly ≤ 0 ∧ 0 ≤ cr ax ay bx by' lx ly)) ∧ cr ax ay bx by' lx ly ≠ cr ax ay bx by' hx ly
      · left; left; left; exact line_parts2 i0 i1 ho na nb c1.1 c1.2
      · by_cases c2 : ((cr ax ay bx by' hx ly ≤ 0 ∧ 0 ≤ cr ax ay bx by' hx hy) ∨ (cr ax ay bx by' hx hy ≤ 0 ∧ 0 ≤ cr ax ay bx by' hx ly)) ∧ cr ax ay bx by' hx ly ≠ cr ax ay bx by' hx hy
        · left; left; right; exact line_parts2 i1 i2 ho na nb c2.1 c2.2
        · by_cases c3 : ((cr ax ay bx by' hx hy ≤ 0 ∧ 0 ≤ cr ax ay bx by' lx hy) ∨ (cr ax ay bx by' lx hy ≤ 0 ∧ 0 ≤ cr ax ay bx by' hx hy)) ∧ cr ax ay bx by' hx hy ≠ cr ax ay bx by' lx hy
          · left; right; exact line_parts2 i2 i3 ho na nb c3.1 c3.2
          · right; exact line_parts2 i3 i0 ho na nb (by omega) (by omega)
theorem si_ov {lx ly hx hy ax ay bx by' : Int} (hb : lx ≤ hx ∧ ly ≤ hy) (h : siF lx ly hx hy ax ay bx by' = true) : ovP lx ly hx hy ax ay bx by' := by
  have i0 : inP lx ly hx hy lx ly := by unfold inP; omega
  have i1 : inP lx ly hx hy hx ly := by unfold inP; omega
  have i2 : inP lx ly hx hy hx hy := by unfold inP; omega
  have i3 : inP lx ly hx hy lx hy := by unfold inP; omega
  unfold siF at h
  simp only [Bool.or_eq_true] at h
  rcases h with ((h | h) | h) | h
  · exact me_ov h i0 i1
  · exact me_ov h i1 i2
  · exact me_ov h i2 i3
  · exact me_ov h i3 i0
/-- From outside, from the left, to inside: a side is met. -/
theorem enters_left {lx ly hx hy ax ay bx by' : Int} (ib : inP lx ly hx hy bx by') (ha : ax < lx) :
    meF ax ay bx by' lx ly lx hy = true ∨ meF ax ay bx by' lx ly hx ly = true ∨ meF ax ay bx by' lx hy hx hy = true := by
  unfold inP at ib
  obtain ⟨b1, b2, b3, b4⟩ := ib
  have gA0 : cr lx ly lx hy ax ay = (hy - ly) * (lx - ax) := by unfold cr; grind
  have gB0 : cr lx ly lx hy bx by' = -((hy - ly) * (bx - lx)) := by unfold cr; grind
  have f03 : cr ax ay bx by' lx hy = cr ax ay bx by' lx ly + (bx - ax) * (hy - ly) := by unfold cr; grind
  have f01 : cr ax ay bx by' hx ly = cr ax ay bx by' lx ly - (by' - ay) * (hx - lx) := by unfold cr; grind
  have p1 : 0 ≤ (hy - ly) * (lx - ax) := Int.mul_nonneg (by omega) (by omega)
  have p2 : 0 ≤ (hy - ly) * (bx - lx) := Int.mul_nonneg (by omega) (by omega)
  have p3 : 0 ≤ (bx - ax) * (hy - ly) := Int.mul_nonneg (by omega) (by omega)
  by_cases c0 : cr ax ay bx by' lx ly ≤ 0
  · by_cases c3 : 0 ≤ cr ax ay bx by' lx hy
    · left
      by_cases hD : cr ax ay bx by' lx ly < cr ax ay bx by' lx hy
      · exact both_straddle c0 c3 hD (by omega) (by omega)
      · -- the side is one point, on the line
        have e : (bx - ax) * (hy - ly) = 0 := by omega
        have e2 : hy = ly := by
          rcases Int.mul_eq_zero.1 e with g | g <;> omega
        subst e2
        have z : cr ax ay bx by' lx hy = 0 := by omega
        have hby : by' = hy := by omega
        subst hby
        have z2 : (bx - lx) * (by' - ay) = 0 := by
          have : cr ax ay bx by' lx by' = (bx - lx) * (by' - ay) := by unfold cr; grind
          omega
        have : onF ax ay bx by' lx by' = true := by
          rw [onF_iff, btw_iff]
          exact ⟨by omega, z⟩
        unfold meF enF
        simp [this]
    · -- the line is above at the left side
      right; right
      have q : cr ax ay bx by' lx hy < 0 := by omega
      have e : cr ax ay bx by' lx hy = (bx - ax) * (hy - ay) - (by' - ay) * (lx - ax) := by unfold cr; rfl
      have k1 : by' ≤ ay := by
        rcases Int.lt_or_le ay by' with g | g
        · exfalso
          have m1 : (by' - ay) * (lx - ax) ≤ (by' - ay) * (bx - ax) := Int.mul_le_mul_of_nonneg_left (by omega) (by omega)
          have m2 : (bx - ax) * (by' - ay) ≤ (bx - ax) * (hy - ay) := Int.mul_le_mul_of_nonneg_left (by omega) (by omega)
          have m3 : (by' - ay) * (bx - ax) = (bx - ax) * (by' - ay) := Int.mul_comm _ _
          omega
        · exact g
      have k2 : hy < ay := by
        rcases Int.lt_or_le hy ay with g | g
        · exact g
        · exfalso
          have m1 : 0 ≤ (bx - ax) * (hy - ay) := Int.mul_nonneg (by omega) (by omega)
          have m2 : 0 ≤ (ay - by') * (lx - ax) := Int.mul_nonneg (by omega) (by omega)
          have m3 : (by' - ay) * (lx - ax) = -((ay - by') * (lx - ax)) := by grind
          omega
      have e2 : cr ax ay bx by' hx hy = (bx - ax) * (hy - ay) - (by' - ay) * (hx - ax) := by unfold cr; rfl
      have k3 : 0 ≤ cr ax ay bx by' hx hy := by
        have m1 : (bx - ax) * (ay - hy) ≤ (bx - ax) * (ay - by') := Int.mul_le_mul_of_nonneg_left (by omega) (by omega)
        have m2 : (ay - by') * (bx - ax) ≤ (ay - by') * (hx - ax) := Int.mul_le_mul_of_nonneg_left (by omega) (by omega)
        have m3 : (bx - ax) * (hy - ay) = -((bx - ax) * (ay - hy)) := by grind
        have m4 : (by' - ay) * (hx - ax) = -((ay - by') * (hx - ax)) := by grind
        have m5 : (ay - by') * (bx - ax) = (bx - ax) * (ay - by') := Int.mul_comm _ _
        omega
      have gA : cr lx hy hx hy ax ay = (hx - lx) * (ay - hy) := by unfold cr; grind
      have gB : cr lx hy hx hy bx by' = -((hx - lx) * (hy - by')) := by unfold cr; grind
      have n1 : 0 ≤ (hx - lx) * (ay - hy) := Int.mul_nonneg (by omega) (by omega)
      have n2 : 0 ≤ (hx - lx) * (hy - by') := Int.mul_nonneg (by omega) (by omega)
      exact both_straddle (by omega) k3 (by omega) (by omega) (by omega)
  · -- the line is below at the left side
    right; left
    have q : 0 < cr ax ay bx by' lx ly := by omega
    have e : cr ax ay bx by' lx ly = (bx - ax) * (ly - ay) - (by' - ay) * (lx - ax) := by unfold cr; rfl
    have k1 : ay ≤ by' := by
      rcases Int.lt_or_le by' ay with g | g
      · exfalso
        have m1 : (ay - by') * (lx - ax) ≤ (ay - by') * (bx - ax) := Int.mul_le_mul_of_nonneg_left (by omega) (by omega)
        have m2 : (bx - ax) * (ay - by') ≤ (bx - ax) * (ay - ly) := Int.mul_le_mul_of_nonneg_left (by omega) (by omega)
        have m3 : (ay - by') * (bx - ax) = (bx - ax) * (ay - by') := Int.mul_comm _ _
        have m4 : (bx - ax) * (ly - ay) = -((bx - ax) * (ay - ly)) := by grind
        have m5 : (by' - ay) * (lx - ax) = -((ay - by') * (lx - ax)) := by grind
        omega
      · exact g
    have k2 : ay < ly := by
      rcases Int.lt_or_le ay ly with g | g
      · exact g
      · exfalso
        have m1 : 0 ≤ (bx - ax) * (ay - ly) := Int.mul_nonneg (by omega) (by omega)
        have m2 : 0 ≤ (by' - ay) * (lx - ax) := Int.mul_nonneg (by omega) (by omega)
        have m4 : (bx - ax) * (ly - ay) = -((bx - ax) * (ay - ly)) := by grind
        omega
    have e2 : cr ax ay bx by' hx ly = (bx - ax) * (ly - ay) - (by' - ay) * (hx - ax) := by unfold cr; rfl
    have k3 : cr ax ay bx by' hx ly ≤ 0 := by
      have m1 : (bx - ax) * (ly - ay) ≤ (bx - ax) * (by' - ay) := Int.mul_le_mul_of_nonneg_left (by omega) (by omega)
      have m2 : (by' - ay) * (bx - ax) ≤ (by' - ay) * (hx - ax) := Int.mul_le_mul_of_nonneg_left (by omega) (by omega)
      have m5 : (by' - ay) * (bx - ax) = (bx - ax) * (by' - ay) := Int.mul_comm _ _
      omega
    have gA : cr hx ly lx ly ax ay = (hx - lx) * (ly - ay) := by unfold cr; grind
    have gB : cr hx ly lx ly bx by' = -((hx - lx) * (by' - ly)) := by unfold cr; grind
    have n1 : 0 ≤ (hx - lx) * (ly - ay) := Int.mul_nonneg (by omega) (by omega)
    have n2 : 0 ≤ (hx - lx) * (by' - ly) := Int.mul_nonneg (by omega) (by omega)
    rw [meF_flip2]
    exact both_straddle k3 (by omega) (by omega) (by omega) (by omega)
/-- Left and right turned. -/
theorem cr_mx (ax ay bx by' cx cy : Int) : cr (-ax) ay (-bx) by' (-cx) cy = -cr ax ay bx by' cx cy := by unfold cr; grind
theorem cr_sw (ax ay bx by' cx cy : Int) : cr ay ax by' bx cy cx = -cr ax ay bx by' cx cy := by unfold cr; grind
theorem onF_mx (ax ay bx by' cx cy : Int) : onF (-ax) ay (-bx) by' (-cx) cy = onF ax ay bx by' cx cy := by
  rw [Bool.eq_iff_iff, onF_iff, onF_iff, btw_iff, btw_iff, cr_mx]; omega
theorem onF_sw (ax ay bx by' cx cy : Int) : onF ay ax by' bx cy cx = onF ax ay bx by' cx cy := by
  rw [Bool.eq_iff_iff, onF_iff, onF_iff, btw_iff, btw_iff, cr_sw]; omega
theorem meF_mx (ax ay bx by' cx cy dx dy : Int) : meF (-ax) ay (-bx) by' (-cx) cy (-dx) dy = meF ax ay bx by' cx cy dx dy := by
  unfold meF enF
  rw [onF_mx, onF_mx, onF_mx, onF_mx]
  congr 1
  rw [Bool.eq_iff_iff, prF_iff, prF_iff, cr_mx, cr_mx, cr_mx, cr_mx]
  omega
theorem meF_sw (ax ay bx by' cx cy dx dy : Int) : meF ay ax by' bx cy cx dy dx = meF ax ay bx by' cx cy dx dy := by
  unfold meF enF
  rw [onF_sw ax ay bx by' cx cy, onF_sw ax ay bx by' dx dy, onF_sw cx cy dx dy ax ay, onF_sw cx cy dx dy bx by']
  congr 1
  rw [Bool.eq_iff_iff, prF_iff, prF_iff, cr_sw ax ay bx by' cx cy, cr_sw ax ay bx by' dx dy, cr_sw cx cy dx dy ax ay, cr_sw cx cy dx dy bx by']
  omega
/-- From outside to inside: a side is met. -/
theorem enters {lx ly hx hy ax ay bx by' : Int} (ib : inP lx ly hx hy bx by') (na : ¬ inP lx ly hx hy ax ay) : siF lx ly hx hy ax ay bx by' = true := by
  unfold siF
  simp only [Bool.or_eq_true]
  have hc : ax < lx ∨ hx < ax ∨ ay < ly ∨ hy < ay := by unfold inP at na; omega
  rcases hc with h | h | h | h
  · rcases enters_left ib h with g | g | g
    · right; rw [meF_flip2]; exact g
    · left; left; left; exact g
    · left; right; rw [meF_flip2]; exact g
  · have := enters_left (lx := -hx) (hx := -lx) (ly := ly) (hy := hy) (ax := -ax) (ay := ay) (bx := -bx) (by' := by') (by unfold inP at *; omega) (by omega)
    rw [meF_mx, meF_mx, meF_mx] at this
    rcases this with g | g | g
    · left; left; right; exact g
    · left; left; left; rw [meF_flip2]; exact g
    · left; right; exact g
  · have := enters_left (lx := ly) (hx := hy) (ly := lx) (hy := hx) (ax := ay) (ay := ax) (bx := by') (by' := bx) (by unfold inP at *; omega) h
    rw [meF_sw ax ay bx by' lx ly hx ly, meF_sw ax ay bx by' lx ly lx hy, meF_sw ax ay bx by' hx ly hx hy] at this
    rcases this with g | g | g
    · left; left; left; exact g
    · right; rw [meF_flip2]; exact g
    · left; left; right; exact g
  · have := enters_left (lx := -hy) (hx := -ly) (ly := lx) (hy := hx) (ax := -ay) (ay := ax) (bx := -by') (by' := bx) (by unfold inP at *; omega) (by omega)
    rw [meF_mx, meF_mx, meF_mx, meF_sw ax ay bx by' lx hy hx hy, meF_sw ax ay bx by' lx hy lx ly, meF_sw ax ay bx by' hx hy hx ly] at this
    rcases this with g | g | g
    · left; right; rw [meF_flip2]; exact g
    · right; exact g
    · left; left; right; rw [meF_flip2]; exact g
end Go.Proofs.YtfamocpbmbhmbaaDoor
