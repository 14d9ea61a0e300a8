/- What RelTouches leans on: Ia Ib Gs Gt Gu If Ig Ic Ih Ii Ob Ud -/
import Derived.Test.YtfobmlgpjhghdaaGreatDoorCRelTouches3
import Derived.WalkSmall
import Derived.Lib.SmallJoins
namespace Go.Proofs.YtfobmlgpjhghdaaGreatDoor
set_option linter.unusedVariables false
set_option linter.unusedSimpArgs false
section
variable {lx ly hx hy ax ay bx by' px py qx qy : Int}
theorem corner_lo (h : inP lx ly hx hy px py) : ∃ cx cy, (cx = lx ∨ cx = hx) ∧ (cy = ly ∨ cy = hy) ∧ cr ax ay bx by' cx cy ≤ cr ax ay bx by' px py := by
  have e : ∀ cx cy, cr ax ay bx by' cx cy = cr ax ay bx by' px py + (bx - ax) * (cy - py) - (by' - ay) * (cx - px) := fun cx cy => by unfold cr; grind
  unfold inP at h
  have h1 : ∃ cy, (cy = ly ∨ cy = hy) ∧ (bx - ax) * (cy - py) ≤ 0 := by
    by_cases g : 0 ≤ bx - ax
    · exact ⟨ly, Or.inl rfl, Int.mul_nonpos_of_nonneg_of_nonpos g (by omega)⟩
    · exact ⟨hy, Or.inr rfl, Int.mul_nonpos_of_nonpos_of_nonneg (by omega) (by omega)⟩
  have h2 : ∃ cx, (cx = lx ∨ cx = hx) ∧ 0 ≤ (by' - ay) * (cx - px) := by
    by_cases g : 0 ≤ by' - ay
    · exact ⟨hx, Or.inr rfl, Int.mul_nonneg g (by omega)⟩
    · exact ⟨lx, Or.inl rfl, Int.mul_nonneg_of_nonpos_of_nonpos (by omega) (by omega)⟩
  obtain ⟨cy, k1, k2⟩ := h1
  obtain ⟨cx, k3, k4⟩ := h2
  exact ⟨cx, cy, k3, k1, by rw [e]; omega⟩
theorem corner_hi (h : inP lx ly hx hy px py) : ∃ cx cy, (cx = lx ∨ cx = hx) ∧ (cy = ly ∨ cy = hy) ∧ cr ax ay bx by' px py ≤ cr ax ay bx by' cx cy := by
  obtain ⟨cx, cy, e1, e2, e3⟩ := corner_lo (ax := bx) (ay := by') (bx := ax) (by' := ay) h
  rw [cr_flip, cr_flip ax ay bx by' px py] at e3
  exact ⟨cx, cy, e1, e2, by omega⟩
def stP (lx ly hx hy ax ay bx by' : Int) : Prop := ovP lx ly hx hy ax ay bx by' ∧ ∃ px py qx qy, inP lx ly hx hy px py ∧ inP lx ly hx hy qx qy ∧ cr ax ay bx by' px py ≤ 0 ∧ 0 ≤ cr ax ay bx by' qx qy
theorem stP_flip (h : stP lx ly hx hy ax ay bx by') : stP lx ly hx hy bx by' ax ay := by
  obtain ⟨ho, p, q, r, s, h1, h2, h3, h4⟩ := h
  exact ⟨ovP_flip ho, r, s, p, q, h2, h1, by rw [cr_flip]; omega, by rw [cr_flip]; omega⟩
theorem cr_a (ax ay bx by' : Int) : cr ax ay bx by' ax ay = 0 := by unfold cr; grind
theorem stP_a (h : inP lx ly hx hy ax ay) : stP lx ly hx hy ax ay bx by' :=
  ⟨by unfold inP at h; unfold ovP; omega, ax, ay, ax, ay, h, h, by rw [cr_a]; omega, by rw [cr_a]; omega⟩
theorem stP_b (h : inP lx ly hx hy bx by') : stP lx ly hx hy ax ay bx by' := stP_flip (stP_a h)
theorem me_on1 (h : onF ax ay bx by' px py = true) : meF ax ay bx by' px py qx qy = true := by unfold meF enF; simp [h]
theorem me_on2 (h : onF ax ay bx by' qx qy = true) : meF ax ay bx by' px py qx qy = true := by unfold meF enF; simp [h]
theorem st_di (hb : lx ≤ hx ∧ ly ≤ hy) (h : stP lx ly hx hy ax ay bx by') (na : ¬ inP lx ly hx hy ax ay) (nb : ¬ inP lx ly hx hy bx by') : diF lx ly hx hy ax ay bx by' = true := by
  obtain ⟨ho, p, q, r, s, h1, h2, h3, h4⟩ := h
  obtain ⟨c1, c2, e1, e2, e3⟩ := corner_lo (ax := ax) (ay := ay) (bx := bx) (by' := by') h1
  obtain ⟨d1, d2, f1, f2, f3⟩ := corner_hi (ax := ax) (ay := ay) (bx := bx) (by' := by') h2
  have i0 : inP lx ly hx hy lx ly := by unfold inP; omega
  have i1 : inP lx ly hx hy hx ly := by unfold inP; omega
  have i2 : inP lx ly hx hy hx hy := by unfold inP; omega
  have i3 : inP lx ly hx hy lx hy := by unfold inP; omega
  have sum : cr ax ay bx by' lx ly + cr ax ay bx by' hx hy = cr ax ay bx by' hx ly + cr ax ay bx by' lx hy := by unfold cr; grind
  unfold diF
  rw [Bool.or_eq_true]
  by_cases A0 : cr ax ay bx by' lx ly = 0
  · exact Or.inl (me_on1 (on_line i0 ho na nb A0))
  by_cases C0 : cr ax ay bx by' hx hy = 0
  · exact Or.inl (me_on2 (on_line i2 ho na nb C0))
  by_cases D0 : cr ax ay bx by' lx hy = 0
  · exact Or.inr (me_on1 (on_line i3 ho na nb D0))
  by_cases B0 : cr ax ay bx by' hx ly = 0
  · exact Or.inr (me_on2 (on_line i1 ho na nb B0))
  by_cases s1 : (cr ax ay bx by' lx ly ≤ 0 ∧ 0 ≤ cr ax ay bx by' hx hy) ∨ (cr ax ay bx by' hx hy ≤ 0 ∧ 0 ≤ cr ax ay bx by' lx ly)
  · exact Or.inl (line_parts2 i0 i2 ho na nb s1 (by omega))
  · refine Or.inr (line_parts2 i3 i1 ho na nb ?_ ?_)
    · rcases e1 with rfl | rfl <;> rcases e2 with rfl | rfl <;> rcases f1 with rfl | rfl <;> rcases f2 with rfl | rfl <;> omega
    · rcases e1 with rfl | rfl <;> rcases e2 with rfl | rfl <;> rcases f1 with rfl | rfl <;> rcases f2 with rfl | rfl <;> omega
theorem me_parts (h : meF ax ay bx by' px py qx qy = true) (h1 : inP lx ly hx hy px py) (h2 : inP lx ly hx hy qx qy) : stP lx ly hx hy ax ay bx by' := by
  have o := me_opp h
  refine ⟨me_ov h h1 h2, ?_⟩
  by_cases c : cr ax ay bx by' px py ≤ 0 ∧ 0 ≤ cr ax ay bx by' qx qy
  · exact ⟨px, py, qx, qy, h1, h2, c.1, c.2⟩
  · exact ⟨qx, qy, px, py, h2, h1, by omega, by omega⟩
theorem mb_st (hb : lx ≤ hx ∧ ly ≤ hy) : mbF ax ay bx by' lx ly hx hy = true ↔ stP lx ly hx hy ax ay bx by' := by
  unfold mbF
  rw [Bool.and_eq_true, Bool.or_eq_true, Bool.or_eq_true, ovB_iff, inB_P, inB_P]
  constructor
  · rintro ⟨ho, (h | h) | h⟩
    · exact stP_a h
    · exact stP_b h
    · unfold diF at h
      rw [Bool.or_eq_true] at h
      rcases h with h | h
      · exact me_parts h (by unfold inP; omega) (by unfold inP; omega)
      · exact me_parts h (by unfold inP; omega) (by unfold inP; omega)
  · intro h
    refine ⟨h.1, ?_⟩
    by_cases na : inP lx ly hx hy ax ay
    · exact Or.inl (Or.inl na)
    by_cases nb : inP lx ly hx hy bx by'
    · exact Or.inl (Or.inr nb)
    exact Or.inr (st_di hb h na nb)
theorem up_l (h : ay < by') (h1 : ay ≤ py) (h2 : py ≤ by') (ha : px < ax) (hb : px < bx) : 0 < cr ax ay bx by' px py := by
  have e : cr ax ay bx by' px py = (bx - px) * (py - ay) + (ax - px) * (by' - py) := by unfold cr; grind
  rw [e]
  have k1 : 0 ≤ (bx - px) * (py - ay) := Int.mul_nonneg (by omega) (by omega)
  have k2 : 0 ≤ (ax - px) * (by' - py) := Int.mul_nonneg (by omega) (by omega)
  rcases (by omega : ay < py ∨ py < by') with g | g
  · have : 0 < (bx - px) * (py - ay) := Int.mul_pos (by omega) (by omega); omega
  · have : 0 < (ax - px) * (by' - py) := Int.mul_pos (by omega) (by omega); omega
theorem up_r (h : ay < by') (h1 : ay ≤ py) (h2 : py ≤ by') (ha : ax < px) (hb : bx < px) : cr ax ay bx by' px py < 0 := by
  have e : cr ax ay bx by' px py = -((px - bx) * (py - ay) + (px - ax) * (by' - py)) := by unfold cr; grind
  rw [e]
  have k1 : 0 ≤ (px - bx) * (py - ay) := Int.mul_nonneg (by omega) (by omega)
  have k2 : 0 ≤ (px - ax) * (by' - py) := Int.mul_nonneg (by omega) (by omega)
  rcases (by omega : ay < py ∨ py < by') with g | g
  · have : 0 < (px - bx) * (py - ay) := Int.mul_pos (by omega) (by omega); omega
  · have : 0 < (px - ax) * (by' - py) := Int.mul_pos (by omega) (by omega); omega
theorem ovR_up (h : ay ≤ by') : Rg.ovR ax ay bx by' px py = (decide (ay ≤ py ∧ py < by') && decide (0 < cr ax ay bx by' px py)) := by
  unfold Rg.ovR
  rw [if_neg (by omega)]
  by_cases c : ay ≤ py ∧ py < by'
  · rw [if_pos c, decide_eq_true c, Bool.true_and]
  · rw [if_neg c, decide_eq_false c, Bool.false_and]
theorem ovR_swap : Rg.ovR bx by' ax ay px py = Rg.ovR ax ay bx by' px py := by
  unfold Rg.ovR
  by_cases c : by' ≤ py ∧ py < ay
  · rw [if_neg (by omega), if_pos c, if_pos c]
  · rw [if_neg c]
    by_cases d : ay ≤ py ∧ py < by'
    · rw [if_pos d, if_neg c]
    · rw [if_neg d, if_neg c]
theorem bool_iff {a b : Bool} (h : a = true ↔ b = true) : a = b := by cases a <;> cases b <;> simp_all
end
def xorN (f : Nat → Bool) : Nat → Bool
  | 0 => false
  | k + 1 => xorN f k != f k
theorem xor_tel {n : Nat} {f g : Nat → Bool} (hn : 1 ≤ n) (h : ∀ i, i < n → f i = (g i != g (Rg.nx1 n i))) : xorN f n = false := by
  have part : ∀ k, k < n → xorN f k = (g 0 != g k) := by
    intro k
    induction k with
    | zero => intro _; simp [xorN]
    | succ k ih =>
      intro hk
      simp only [xorN]
      rw [ih (by omega), h k (by omega), show Rg.nx1 n k = k + 1 by unfold Rg.nx1; rw [if_neg (by omega)]]
      cases g 0 <;> cases g k <;> cases g (k + 1) <;> rfl
  obtain ⟨k, rfl⟩ : ∃ k, n = k + 1 := ⟨n - 1, by omega⟩
  simp only [xorN]
  rw [part k (by omega), h k (by omega), show Rg.nx1 (k + 1) k = 0 by unfold Rg.nx1; rw [if_pos rfl]]
  cases g 0 <;> cases g k <;> rfl
theorem od_xor (n : Nat) (X Y : Nat → Int) (px py : Int) : ∀ k, Rg.odN n X Y px py k = xorN (fun i => Rg.ovR (X i) (Y i) (X (Rg.nx1 n i)) (Y (Rg.nx1 n i)) px py) k := by
  intro k
  induction k with
  | zero => rfl
  | succ k ih => simp only [Rg.odN, xorN]; rw [ih]
section
variable {n : Nat} {X Y : Nat → Int} {lx ly hx hy px py qx qy : Int}
theorem mn_le (F : Nat → Int) : ∀ n k, k < n → mnN F n ≤ F k := by
  intro n
  induction n with
  | zero => intro k hk; omega
  | succ n ih =>
    intro k hk
    by_cases h : n = 0
    · rw [mnN_0 F h]; obtain rfl : k = n := by omega
      exact Int.le_refl _
    · rw [mnN_s F h]
      rcases (by omega : k < n ∨ k = n) with g | rfl
      · exact min_le'.2 (Or.inl (ih k g))
      · exact min_le'.2 (Or.inr (Int.le_refl _))
theorem le_mx (F : Nat → Int) : ∀ n k, k < n → F k ≤ mxN F n := by
  intro n
  induction n with
  | zero => intro k hk; omega
  | succ n ih =>
    intro k hk
    by_cases h : n = 0
    · rw [mxN_0 F h]; obtain rfl : k = n := by omega
      exact Int.le_refl _
    · rw [mxN_s F h]
      rcases (by omega : k < n ∨ k = n) with g | rfl
      · exact le_max.2 (Or.inl (ih k g))
      · exact le_max.2 (Or.inr (Int.le_refl _))
theorem nxl_of (hn : 1 ≤ n) {i : Nat} (hi : i < n) : Rg.nx1 n i < n := by unfold Rg.nx1; split <;> omega
theorem has_box (hn : 1 ≤ n) (h : Rg.hasN n X Y px py = true) : inP (mnN X n) (mnN Y n) (mxN X n) (mxN Y n) px py := by
  have bd : ∀ i, i < n → mnN X n ≤ X i ∧ X i ≤ mxN X n ∧ mnN Y n ≤ Y i ∧ Y i ≤ mxN Y n := fun i hi => ⟨mn_le X n i hi, le_mx X n i hi, mn_le Y n i hi, le_mx Y n i hi⟩
  unfold Rg.hasN at h
  rw [Bool.or_eq_true] at h
  unfold inP
  rcases h with h | h
  · obtain ⟨i, hi, h⟩ := (Rg.onN_iff n).1 h
    unfold onG at h
    rw [Bool.and_eq_true] at h
    have b := btw_iff.1 (onF_iff.1 h.2).1
    have b1 := bd i hi
    have b2 := bd _ (nxl_of hn hi)
    omega
  ·
    have some_edge : ∀ k, k ≤ n → Rg.odN n X Y px py k = true → ∃ i, i < n ∧ Rg.ovR (X i) (Y i) (X (Rg.nx1 n i)) (Y (Rg.nx1 n i)) px py = true := by
      intro k
      induction k with
      | zero => intro _ h; cases h
      | succ k ih =>
        intro hk h
        simp only [Rg.odN] at h
        cases e : Rg.ovR (X k) (Y k) (X (Rg.nx1 n k)) (Y (Rg.nx1 n k)) px py
        · rw [e] at h
          exact ih (by omega) (by simpa using h)
        · exact ⟨k, hk, e⟩
    obtain ⟨i, hi, hv⟩ := some_edge n (Nat.le_refl _) h
    have b1 := bd i hi
    have b2 := bd _ (nxl_of hn hi)
    have hl : mnN X n ≤ px := by
      rcases Int.lt_or_le px (mnN X n) with g | g
      · exfalso
        have : Rg.odN n X Y px py n = false := by
          rw [od_xor]
          refine xor_tel (g := fun i => decide (Y i ≤ py)) hn fun i hi => ?_
          have c1 := bd i hi
          have c2 := bd _ (nxl_of hn hi)
          have up : ∀ ax ay bx by' : Int, px < ax → px < bx → ay ≤ by' → Rg.ovR ax ay bx by' px py = (decide (ay ≤ py) != decide (by' ≤ py)) := fun ax ay bx by' h1 h2 h3 => by
            rw [ovR_up h3]
            by_cases c : ay ≤ py ∧ py < by'
            · rw [decide_eq_true c, decide_eq_true (up_l (by omega) c.1 (by omega) h1 h2), decide_eq_true c.1, decide_eq_false (p := by' ≤ py) (by omega)]; rfl
            · rw [decide_eq_false c]
              by_cases d : ay ≤ py
              · rw [decide_eq_true d, decide_eq_true (p := by' ≤ py) (by omega)]; rfl
              · rw [decide_eq_false d, decide_eq_false (p := by' ≤ py) (by omega)]; rfl
          by_cases hu : Y i ≤ Y (Rg.nx1 n i)
          · exact up _ _ _ _ (by omega) (by omega) hu
          · show Rg.ovR (X i) (Y i) (X (Rg.nx1 n i)) (Y (Rg.nx1 n i)) px py = _
            rw [← ovR_swap, up _ _ _ _ (by omega) (by omega) (by omega)]
            cases decide (Y i ≤ py) <;> cases decide (Y (Rg.nx1 n i) ≤ py) <;> rfl
        rw [this] at h; cases h
      · exact g
    have up : ∀ ax ay bx by' : Int, ay ≤ by' → Rg.ovR ax ay bx by' px py = true → ay ≤ py ∧ py < by' ∧ (px ≤ ax ∨ px ≤ bx) := fun ax ay bx by' h3 h => by
      rw [ovR_up h3, Bool.and_eq_true, decide_eq_true_eq, decide_eq_true_eq] at h
      refine ⟨h.1.1, h.1.2, ?_⟩
      rcases (by omega : (px ≤ ax ∨ px ≤ bx) ∨ (ax < px ∧ bx < px)) with g | g
      · exact g
      · have := up_r (px := px) (py := py) (by omega : ay < by') h.1.1 (by omega) g.1 g.2
        omega
    by_cases hu : Y i ≤ Y (Rg.nx1 n i)
    · have := up _ _ _ _ hu hv
      omega
    · rw [← ovR_swap] at hv
      have := up _ _ _ _ (by omega) hv
      omega
end
end Go.Proofs.YtfobmlgpjhghdaaGreatDoor
namespace Go.Proofs.YtfobmlgpjhghdaaGreatDoor
set_option linter.unusedVariables false
set_option linter.unusedSimpArgs false
theorem mbG_st {ax ay bx by' lx ly hx hy : Int} (ha : nearB ax ay = true) (hb' : nearB bx by' = true) (hb : boxB lx ly hx hy = true) : mbG ax ay bx by' lx ly hx hy = true ↔ stP lx ly hx hy ax ay bx by' := by
  unfold mbG
  rw [ha, hb', hb]
  simp only [Bool.true_and]
  exact mb_st (boxB_iff.1 hb).2
section
variable {n : Nat} {X Y : Nat → Int} {lx ly hx hy : Int}
theorem mbW_iff : mbW n X Y lx ly hx hy (List.range n) = true ↔ ∃ i, i < n ∧ mbG (X i) (Y i) (X (Rg.nx1 n i)) (Y (Rg.nx1 n i)) lx ly hx hy = true := by
  unfold mbW
  rw [List.any_eq_true]
  constructor
  · rintro ⟨i, hi, h⟩; exact ⟨i, List.mem_range.1 hi, h⟩
  · rintro ⟨i, hi, h⟩; exact ⟨i, List.mem_range.2 hi, h⟩
def rmD (n : Nat) (X Y : Nat → Int) (lx ly hx hy : Int) : Bool := Rg.hasN n X Y lx ly || mbW n X Y lx ly hx hy (List.range n)
theorem rmD_iff (h0 : (Rg.ringC n X Y).1 = 0) (hb : boxB lx ly hx hy = true) : rmD n X Y lx ly hx hy = true ↔ Rg.hasN n X Y lx ly = true ∨ ∃ i, i < n ∧ stP lx ly hx hy (X i) (Y i) (X (Rg.nx1 n i)) (Y (Rg.nx1 n i)) := by
  obtain ⟨h1, h2, -⟩ := Rg.ringC_ok h0
  unfold rmD
  rw [Bool.or_eq_true, mbW_iff]
  constructor
  · rintro (h | ⟨i, hi, h⟩)
    · exact Or.inl h
    · exact Or.inr ⟨i, hi, (mbG_st (h2 i hi) (h2 _ (nxl_of (by omega) hi)) hb).1 h⟩
  · rintro (h | ⟨i, hi, h⟩)
    · exact Or.inl h
    · exact Or.inr ⟨i, hi, (mbG_st (h2 i hi) (h2 _ (nxl_of (by omega) hi)) hb).2 h⟩
theorem bd_mm (n : Nat) (X Y : Nat → Int) (i : Nat) (hi : i < n) : mnN X n ≤ X i ∧ X i ≤ mxN X n ∧ mnN Y n ≤ Y i ∧ Y i ≤ mxN Y n := ⟨mn_le X n i hi, le_mx X n i hi, mn_le Y n i hi, le_mx Y n i hi⟩
theorem rmD_ov (h0 : (Rg.ringC n X Y).1 = 0) (hb : boxB lx ly hx hy = true) (h : rmD n X Y lx ly hx hy = true) : mnN X n ≤ hx ∧ lx ≤ mxN X n ∧ mnN Y n ≤ hy ∧ ly ≤ mxN Y n := by
  obtain ⟨h1, h2, -⟩ := Rg.ringC_ok h0
  have hl := (boxB_iff.1 hb).2
  rcases (rmD_iff h0 hb).1 h with g | ⟨i, hi, g⟩
  · have := has_box (by omega) g
    unfold inP at this
    omega
  · have b1 := bd_mm n X Y i hi
    have b2 := bd_mm n X Y _ (nxl_of (by omega) hi)
    have := g.1
    unfold ovP at this
    omega
theorem ring_box (h0 : (Rg.ringC n X Y).1 = 0) : boxB (mnN X n) (mnN Y n) (mxN X n) (mxN Y n) = true := by
  obtain ⟨h1, h2, -⟩ := Rg.ringC_ok h0
  exact near_box h2 (by omega)
theorem rm_doc (h0 : (Rg.ringC n X Y).1 = 0) (hb : boxB lx ly hx hy = true) : rmV n X Y lx ly hx hy = rmD n X Y lx ly hx hy := by
  have hn := (boxB_iff.1 hb).1.1
  have ov := rmD_ov h0 hb
  have rb := ring_box h0
  unfold rmV arM rmbV
  rw [rb, hb, hn]
  by_cases c : mnN X n ≤ hx ∧ lx ≤ mxN X n ∧ mnN Y n ≤ hy ∧ ly ≤ mxN Y n
  · rw [decide_eq_true c.1, decide_eq_true c.2.1, decide_eq_true c.2.2.1, decide_eq_true c.2.2.2]
    simp only [Bool.true_and]
    unfold rmD
    exact Bool.or_comm _ _
  · have e : rmD n X Y lx ly hx hy = false := by
      cases h : rmD n X Y lx ly hx hy
      · rfl
      · exact absurd (ov h) c
    rw [e]
    have : (decide (mnN X n ≤ hx) && decide (lx ≤ mxN X n) && decide (mnN Y n ≤ hy) && decide (ly ≤ mxN Y n)) = false := by
      rw [← Bool.not_eq_true]
      simp only [Bool.and_eq_true, decide_eq_true_eq, and_assoc]
      exact c
    simp only [Bool.true_and]
    rw [this]
    rfl
end
theorem emW_iff {n : Nat} {X Y : Nat → Int} {px py qx qy : Int} : emW n X Y px py qx qy (List.range n) = true ↔ ∃ i, i < n ∧ meG px py qx qy (X i) (Y i) (X (Rg.nx1 n i)) (Y (Rg.nx1 n i)) = true := by
  unfold emW
  rw [List.any_eq_true]
  constructor
  · rintro ⟨i, hi, h⟩; exact ⟨i, List.mem_range.1 hi, h⟩
  · rintro ⟨i, hi, h⟩; exact ⟨i, List.mem_range.2 hi, h⟩
def rgD (n : Nat) (X Y : Nat → Int) (m : Nat) (P Q : Nat → Int) : Bool :=
  Rg.hasN n X Y (P 0) (Q 0) || Rg.hasN m P Q (X 0) (Y 0) || (List.range n).any fun i => emW m P Q (X i) (Y i) (X (Rg.nx1 n i)) (Y (Rg.nx1 n i)) (List.range m)
section
variable {n m : Nat} {X Y P Q : Nat → Int}
theorem rgD_iff : rgD n X Y m P Q = true ↔ Rg.hasN n X Y (P 0) (Q 0) = true ∨ Rg.hasN m P Q (X 0) (Y 0) = true ∨ ∃ i k, i < n ∧ k < m ∧ meG (X i) (Y i) (X (Rg.nx1 n i)) (Y (Rg.nx1 n i)) (P k) (Q k) (P (Rg.nx1 m k)) (Q (Rg.nx1 m k)) = true := by
  unfold rgD
  rw [Bool.or_eq_true, Bool.or_eq_true, List.any_eq_true, or_assoc]
  constructor
  · rintro (h | h | ⟨i, hi, h⟩)
    · exact Or.inl h
    · exact Or.inr (Or.inl h)
    · obtain ⟨k, hk, h⟩ := emW_iff.1 h
      exact Or.inr (Or.inr ⟨i, k, List.mem_range.1 hi, hk, h⟩)
  · rintro (h | h | ⟨i, k, hi, hk, h⟩)
    · exact Or.inl h
    · exact Or.inr (Or.inl h)
    · exact Or.inr (Or.inr ⟨i, List.mem_range.2 hi, emW_iff.2 ⟨k, hk, h⟩⟩)
theorem meG_swap (ax ay bx by' cx cy dx dy : Int) : meG cx cy dx dy ax ay bx by' = meG ax ay bx by' cx cy dx dy := by
  unfold meG
  rw [meF_swap, all4_swap]
theorem rgD_comm : rgD m P Q n X Y = rgD n X Y m P Q := by
  refine bool_iff ?_
  rw [rgD_iff, rgD_iff]
  constructor
  · rintro (h | h | ⟨i, k, hi, hk, h⟩)
    · exact Or.inr (Or.inl h)
    · exact Or.inl h
    · exact Or.inr (Or.inr ⟨k, i, hk, hi, by rw [meG_swap] at h; exact h⟩)
  · rintro (h | h | ⟨i, k, hi, hk, h⟩)
    · exact Or.inr (Or.inl h)
    · exact Or.inl h
    · exact Or.inr (Or.inr ⟨k, i, hk, hi, by rw [meG_swap] at h; exact h⟩)
theorem meG_F {ax ay bx by' cx cy dx dy : Int} (h : meG ax ay bx by' cx cy dx dy = true) : meF ax ay bx by' cx cy dx dy = true := by
  unfold meG at h
  rw [Bool.and_eq_true] at h
  exact h.2
theorem rg_doc (h0 : (Rg.ringC n X Y).1 = 0) (h9 : (Rg.ringC m P Q).1 = 0) : rgV n X Y m P Q = rgD n X Y m P Q := by
  obtain ⟨h1, h2, -⟩ := Rg.ringC_ok h0
  obtain ⟨k1, k2, -⟩ := Rg.ringC_ok h9
  have rb := ring_box h0
  have rc := ring_box h9
  have hbb := (boxB_iff.1 rc).2
  have edge : ∀ i k, i < n → k < m → meG (X i) (Y i) (X (Rg.nx1 n i)) (Y (Rg.nx1 n i)) (P k) (Q k) (P (Rg.nx1 m k)) (Q (Rg.nx1 m k)) = true → mbG (X i) (Y i) (X (Rg.nx1 n i)) (Y (Rg.nx1 n i)) (mnN P m) (mnN Q m) (mxN P m) (mxN Q m) = true := fun i k hi hk h => by
    rw [mbG_st (h2 i hi) (h2 _ (nxl_of (by omega) hi)) rc]
    have c1 := bd_mm m P Q k hk
    have c2 := bd_mm m P Q _ (nxl_of (by omega) hk)
    exact me_parts (meG_F h) (by unfold inP; omega) (by unfold inP; omega)
  have e1 : rmW n X Y m P Q (mnN P m) (mnN Q m) (mxN P m) (mxN Q m) (List.range n) = (List.range n).any fun i => emW m P Q (X i) (Y i) (X (Rg.nx1 n i)) (Y (Rg.nx1 n i)) (List.range m) := by
    unfold rmW rmE
    refine bool_iff ?_
    rw [List.any_eq_true, List.any_eq_true]
    constructor
    · rintro ⟨i, hi, h⟩
      rw [Bool.and_eq_true] at h
      exact ⟨i, hi, h.2⟩
    · rintro ⟨i, hi, h⟩
      obtain ⟨k, hk, g⟩ := emW_iff.1 h
      exact ⟨i, hi, by rw [Bool.and_eq_true]; exact ⟨edge i k (List.mem_range.1 hi) hk g, h⟩⟩
  unfold rgV
  rw [e1, h2 0 (by omega), k2 0 (by omega)]
  simp only [Bool.true_and]
  have e2 : ((List.range n).any (fun i => emW m P Q (X i) (Y i) (X (Rg.nx1 n i)) (Y (Rg.nx1 n i)) (List.range m)) || (Rg.hasN n X Y (P 0) (Q 0) || Rg.hasN m P Q (X 0) (Y 0))) = rgD n X Y m P Q := by
    unfold rgD
    rw [Bool.or_comm]
  rw [e2]
  unfold arM
  rw [rb, rc]
  by_cases c : mnN X n ≤ mxN P m ∧ mnN P m ≤ mxN X n ∧ mnN Y n ≤ mxN Q m ∧ mnN Q m ≤ mxN Y n
  · rw [decide_eq_true c.1, decide_eq_true c.2.1, decide_eq_true c.2.2.1, decide_eq_true c.2.2.2]
    rfl
  · have e : rgD n X Y m P Q = false := by
      cases h : rgD n X Y m P Q
      · rfl
      · exfalso
        have p0 := bd_mm m P Q 0 (by omega)
        have x0 := bd_mm n X Y 0 (by omega)
        rcases rgD_iff.1 h with g | g | ⟨i, k, hi, hk, g⟩
        · have := has_box (by omega) g
          unfold inP at this
          omega
        · have := has_box (by omega) g
          unfold inP at this
          omega
        · have := me_ap (meG_F g)
          unfold apF at this
          simp only [Bool.or_eq_false_iff, decide_eq_false_iff_not, max_lt, lt_min] at this
          have c1 := bd_mm m P Q k hk
          have c2 := bd_mm m P Q _ (nxl_of (by omega) hk)
          have d1 := bd_mm n X Y i hi
          have d2 := bd_mm n X Y _ (nxl_of (by omega) hi)
          omega
    rw [e, Bool.and_false]
end
end Go.Proofs.YtfobmlgpjhghdaaGreatDoor
namespace Go.Proofs.YtfobmlgpjhghdaaGreatDoor
set_option linter.unusedVariables false
set_option linter.unusedSimpArgs false
open Go.ChangeShapes Go.WideShapes Go.ChangeAt Go.RowKit
set_option maxHeartbeats 4000000 in
set_option maxRecDepth 100000 in
theorem c_redge {n : Nat} {X Y : Nat → Int} {v : Value} (W : World) (h : Pts W v n X Y) (hn : n ≤ 1000) (px py : Int) : Calls Tryz.prog 80 #[v, .agg #[.int .i64 px, .int .i64 py]] W fun e w' => e = .returned (.bool (Rg.onN n X Y px py n)) ∧ Gr W w' := by
  obtain ⟨ad, cap, B, off, rfl, h1, h2, h3, h4⟩ := h
  have H3 := Lib.hid h3
  have H4 := Lib.hid h4
  have hn9 : (n : Int) ≤ 1000 := by omega
  clear h3 h4
  go_enter Tryz.func80, Tryz.ntmps80
  go_wp2_with fail
  go_loopg [5] n (fun k u wr => ∃ i : Nat, u = .int .i64 i ∧ i ≤ n ∧ k = n - i ∧ Rg.onN n X Y px py i = false ∧ wr.cell? ⟨W.heap.size, 0, none⟩ = some (.int .i64 px) ∧ wr.cell? ⟨W.heap.size, 1, none⟩ = some (.int .i64 py) ∧ Gr W wr)
  case atStart => exact ⟨0, rfl, Nat.zero_le _, by omega, rfl, by go_simp, by go_simp, by go_grown⟩
  case round =>
    obtain ⟨i, rfl, hi, hk, ho, c0, c1, gwr⟩ := hrel
    have zp : W.heap.size < wr.heap.size := World.block_lt_of_cell? _ _ c0
    have HO := Lib.hid ho
    clear ho
    by_cases hlt : i < n
    · have ti : decide ((i : Int) < (n : Int)) = true := decide_eq_true (by omega)
      have ti2 : decide (i < n) = true := decide_eq_true hlt
      have hii : (i : Int) ≤ 1000 := by omega
      have hmm : n - (i + 1) < gk := by omega
      have hnx := nx_lt hlt
      obtain ⟨k0, k1⟩ := H4.out i hlt
      obtain ⟨m0, m1⟩ := H4.out _ hnx
      obtain rfl := H3.out (by omega)
      have s0 := cell_gr gwr k0
      have s1 := cell_gr gwr k1
      have r0 := cell_gr gwr m0
      have r1 := cell_gr gwr m1
      have zB : B < wr.heap.size := World.block_lt_of_cell? _ _ s0
      have hrem := nx_rem hlt (by omega : n ≤ 1000000)
      have CO := c_rOn (X i) (Y i) (X (Rg.nx1 n i)) (Y (Rg.nx1 n i)) px py
      have EO : Rg.onN n X Y px py (i + 1) = (Rg.onN n X Y px py i || onG (X i) (Y i) (X (Rg.nx1 n i)) (Y (Rg.nx1 n i)) px py) := rfl
      rw [HO.out, Bool.false_or] at EO
      have EM : Rg.onN n X Y px py (i + 1) = true → Rg.onN n X Y px py n = true := fun h => by
        obtain ⟨j, hj, hh⟩ := (Rg.onN_iff _).1 h
        exact (Rg.onN_iff _).2 ⟨j, by omega, hh⟩
      have HEM := Lib.hid EM
      generalize X (Rg.nx1 n i) = xj at *
      generalize Y (Rg.nx1 n i) = yj at *
      generalize X i = xi at *
      generalize Y i = yi at *
      generalize Rg.nx1 n i = j at *
      generalize onG xi yi xj yj px py = og at CO EO
      have HCO := Lib.hid CO
      have HEO := Lib.hid EO
      have hj9 : (j : Int) ≤ 1000 := by omega
      have tj : decide ((j : Int) < (n : Int)) = true := decide_eq_true (by omega)
      have tj3 : (j : Int) < (n : Int) := by omega
      have ti3 : (i : Int) < (n : Int) := by omega
      have nz : ((n : Int) == 0) = false := by simp; omega
      have nz2 : (n : Int) ≠ 0 := by omega
      have nz3 : (0 : Int) < n := by omega
      have q1 := hrem.1
      have q2 := hrem.2
      have w1 : IntKind.i64.wrap ((i : Int) + 1) = (i : Int) + 1 := IntWalk.i64_in _ (by omega)
      have w2 : IntKind.i64.wrap (j : Int) = (j : Int) := IntWalk.i64_in _ (by omega)
      clear EM CO EO k0 k1 m0 m1 hk hrem
      go_wp2_with fail
      try simp only [List.append]
      refine Od.wp_region_ord [(0, false), (1, false), (2, false), (3, false), (4, false), (5, false), (6, false), (7, false), (8, false), (9, false), (10, false), (11, false), (12, false), (13, true)] (by kernel_rfl) (by kernel_rfl) ?_
      intro wa hwa KQ hKQ
      have cwa_0_0 : wa.cell? ⟨W.heap.size, 0, none⟩ = some (.int .i64 px) := cell_gr hwa (by go_simp)
      have cwa_0_1 : wa.cell? ⟨W.heap.size, 1, none⟩ = some (.int .i64 py) := cell_gr hwa (by go_simp)
      have zwa_0 : W.heap.size < wa.heap.size := World.block_lt_of_cell? _ _ cwa_0_0
      have cwa_1_0 : wa.cell? ⟨B, off + i * 2, none⟩ = some (.int .i64 xi) := cell_gr hwa (by go_simp)
      have cwa_1_1 : wa.cell? ⟨B, off + i * 2 + 1, none⟩ = some (.int .i64 yi) := cell_gr hwa (by go_simp)
      have cwa_1_2 : wa.cell? ⟨B, off + j * 2, none⟩ = some (.int .i64 xj) := cell_gr hwa (by go_simp)
      have cwa_1_3 : wa.cell? ⟨B, off + j * 2 + 1, none⟩ = some (.int .i64 yj) := cell_gr hwa (by go_simp)
      have zwa_1 : B < wa.heap.size := World.block_lt_of_cell? _ _ cwa_1_0
      have gwa : Gr W wa := Gr.trans (by have gg := gwr; have gs := gg.size; go_grown) hwa
      clear gwr
      clear hwa
      repeat (first | (refine Od.wpO_skip (by simp only [List.getElem?_toArray, List.getElem?_cons_succ, List.getElem?_cons_zero] <;> rfl) rfl ?_; simp only [Act.put, List.setIfInBounds_toArray, List.set_cons_zero, List.set_cons_succ]) | (refine Od.wpO_pure (by simp only [List.getElem?_toArray, List.getElem?_cons_succ, List.getElem?_cons_zero] <;> rfl) rfl ?_; apply Exists.intro; refine ⟨?_, ?_⟩; (· intro wx gx; obtain ⟨mx, rfl⟩ := spread_of_gr gx; clear gx; all_goals (apply Od.pAt_of_quiet; intro K hK; go_big_quiet_op; first | exact hK _ rfl | (apply Exists.intro; refine ⟨fun _ => ?_, ?_⟩; (· fail); exact hK _ rfl))); try simp only [Act.put, List.setIfInBounds_toArray, List.set_cons_zero, List.set_cons_succ]))
      refine Od.wpO_call (by simp only [List.getElem?_toArray, List.getElem?_cons_succ, List.getElem?_cons_zero] <;> rfl) rfl ?_
      intro QS hQS
      go_wp2_with fail
      go_at_call 106
      (with_reducible refine ((HCO.out _)).mono ?_)
      rintro e wb ⟨rfl, hwb⟩
      go_wp2_with fail
      apply Exists.intro
      refine ⟨?_, hwb, ?_⟩
      · simp only [Act.put, List.setIfInBounds_toArray, List.set_cons_zero, List.set_cons_succ]; rfl
      have cwb_0_0 : wb.cell? ⟨W.heap.size, 0, none⟩ = some (.int .i64 px) := cell_gr hwb (by go_simp)
      have cwb_0_1 : wb.cell? ⟨W.heap.size, 1, none⟩ = some (.int .i64 py) := cell_gr hwb (by go_simp)
      have zwb_0 : W.heap.size < wb.heap.size := World.block_lt_of_cell? _ _ cwb_0_0
      have cwb_1_0 : wb.cell? ⟨B, off + i * 2, none⟩ = some (.int .i64 xi) := cell_gr hwb (by go_simp)
      have cwb_1_1 : wb.cell? ⟨B, off + i * 2 + 1, none⟩ = some (.int .i64 yi) := cell_gr hwb (by go_simp)
      have cwb_1_2 : wb.cell? ⟨B, off + j * 2, none⟩ = some (.int .i64 xj) := cell_gr hwb (by go_simp)
      have cwb_1_3 : wb.cell? ⟨B, off + j * 2 + 1, none⟩ = some (.int .i64 yj) := cell_gr hwb (by go_simp)
      have zwb_1 : B < wb.heap.size := World.block_lt_of_cell? _ _ cwb_1_0
      have gwb : Gr W wb := Gr.trans (by have gg := gwa; have gs := gg.size; go_grown) hwb
      clear gwa zwa_0 cwa_0_0 cwa_0_1 zwa_1 cwa_1_0 cwa_1_1 cwa_1_2 cwa_1_3
      clear hwb
      try simp only [Act.put, List.setIfInBounds_toArray, List.set_cons_zero, List.set_cons_succ]
      repeat (first | (refine Od.wpO_skip (by simp only [List.getElem?_toArray, List.getElem?_cons_succ, List.getElem?_cons_zero] <;> rfl) rfl ?_; simp only [Act.put, List.setIfInBounds_toArray, List.set_cons_zero, List.set_cons_succ]) | (refine Od.wpO_pure (by simp only [List.getElem?_toArray, List.getElem?_cons_succ, List.getElem?_cons_zero] <;> rfl) rfl ?_; apply Exists.intro; refine ⟨?_, ?_⟩; (· intro wx gx; obtain ⟨mx, rfl⟩ := spread_of_gr gx; clear gx; all_goals (apply Od.pAt_of_quiet; intro K hK; go_big_quiet_op; first | exact hK _ rfl | (apply Exists.intro; refine ⟨fun _ => ?_, ?_⟩; (· fail); exact hK _ rfl))); try simp only [Act.put, List.setIfInBounds_toArray, List.set_cons_zero, List.set_cons_succ]))
      refine Od.wpO_nil (hKQ _ _ ?_)
      clear hKQ KQ
      cases og
      · go_wp2_with fail
        go_roundg (n - (i + 1))
        case measure => exact hmm
        case rel => exact ⟨i + 1, by go_num, hlt, rfl, HEO.out, cwb_0_0, cwb_0_1, gwb⟩
      · go_wp2_with fail
        go_ret
        exact ⟨by rw [HEM.out HEO.out]; rfl, gwb⟩
    · obtain rfl : i = n := by omega
      have ti : decide ((i : Int) < (i : Int)) = false := decide_eq_false (by omega)
      have ti2 : decide (i < i) = false := decide_eq_false (by omega)
      clear hk
      go_wp2_with fail
      go_ret
      exact ⟨by rw [HO.out]; rfl, gwr⟩
theorem ovR_sw {ax ay bx by' px py : Int} (h : by' < ay) : Rg.ovR ax ay bx by' px py = (decide (by' ≤ py) && decide (py < ay) && decide (0 < cr bx by' ax ay px py)) := by
  unfold Rg.ovR
  by_cases c : by' ≤ py ∧ py < ay
  · rw [if_pos c, decide_eq_true c.1, decide_eq_true c.2]; rfl
  · rw [if_neg c, if_neg (by omega)]
    by_cases d : by' ≤ py
    · rw [decide_eq_true d, decide_eq_false (by omega : ¬ py < ay)]; rfl
    · rw [decide_eq_false d]; rfl
theorem ovR_ns {ax ay bx by' px py : Int} (h : ¬ by' < ay) : Rg.ovR ax ay bx by' px py = (decide (ay ≤ py) && decide (py < by') && decide (0 < cr ax ay bx by' px py)) := by
  unfold Rg.ovR
  rw [if_neg (by omega)]
  by_cases c : ay ≤ py ∧ py < by'
  · rw [if_pos c, decide_eq_true c.1, decide_eq_true c.2]; rfl
  · rw [if_neg c]
    by_cases d : ay ≤ py
    · rw [decide_eq_true d, decide_eq_false (by omega : ¬ py < by')]; rfl
    · rw [decide_eq_false d]; rfl
theorem c_rCr {ax ay bx by' cx cy : Int} (h1 : nearB ax ay = true) (h2 : nearB bx by' = true) (h3 : nearB cx cy = true) (W : World) : Calls Tryz.prog 81 #[.agg #[.int .i64 ax, .int .i64 ay], .agg #[.int .i64 bx, .int .i64 by'], .agg #[.int .i64 cx, .int .i64 cy]] W fun e w' => e = .returned (.int .i64 (cr ax ay bx by' cx cy)) ∧ Gr W w' := by
  have h := c_rCross ax ay bx by' cx cy W
  have e : crossZ ax ay bx by' cx cy = cr ax ay bx by' cx cy := by unfold crossZ cr; rw [h1, h2, h3]; rfl
  rwa [e] at h
set_option maxHeartbeats 8000000 in
set_option maxRecDepth 100000 in
theorem c_rhas {n : Nat} {X Y : Nat → Int} {v : Value} (W : World) (h : Pts W v n X Y) (hn : n ≤ 1000) (hnr : ∀ k, k < n → nearB (X k) (Y k) = true) (px py : Int) (hp : nearB px py = true) : Calls Tryz.prog 47 #[v, .agg #[.int .i64 px, .int .i64 py]] W fun e w' => e = .returned (.bool (Rg.hasN n X Y px py)) ∧ Gr W w' := by
  have CE : ∀ w, Gr W w → _ := fun w g => c_redge w (pts_gr h g) hn px py
  obtain ⟨ad, cap, B, off, rfl, h1, h2, h3, h4⟩ := h
  have H3 := Lib.hid h3
  have H4 := Lib.hid h4
  have hn9 : (n : Int) ≤ 1000 := by omega
  have HNR := Lib.hid hnr
  have HP := Lib.hid hp
  have HH := Lib.hid (show Rg.hasN n X Y px py = (Rg.onN n X Y px py n || Rg.odN n X Y px py n) from rfl)
  generalize Rg.hasN n X Y px py = hs at HH ⊢
  generalize Rg.onN n X Y px py n = on at CE HH
  have HCE := Lib.hid CE
  clear h3 h4 CE hnr hp
  cases on
  · go_enter Tryz.func47, Tryz.ntmps47
    go_wp2_with fail
    go_at_call 80
    refine ((HCE.out _ (by go_grown))).mono ?_
    rintro e w1 ⟨rfl, hw1⟩
    have cw1_0_0 : w1.cell? ⟨W.heap.size, 0, none⟩ = some (.int .i64 px) := cell_gr hw1 (by go_simp)
    have cw1_0_1 : w1.cell? ⟨W.heap.size, 1, none⟩ = some (.int .i64 py) := cell_gr hw1 (by go_simp)
    have zw1_0 : W.heap.size < w1.heap.size := World.block_lt_of_cell? _ _ cw1_0_0
    have gw1 : Gr W w1 := Gr.trans (by go_grown) hw1
    clear hw1
    go_wp2_with fail
    go_loopg [5, 6] n (fun k z u wr => ∃ i : Nat, u = .int .i64 i ∧ i ≤ n ∧ k = n - i ∧ z = .bool (Rg.odN n X Y px py i) ∧ wr.cell? ⟨W.heap.size, 0, none⟩ = some (.int .i64 px) ∧ wr.cell? ⟨W.heap.size, 1, none⟩ = some (.int .i64 py) ∧ Gr W wr)
    case atStart => exact ⟨0, rfl, Nat.zero_le _, by omega, rfl, cw1_0_0, cw1_0_1, gw1⟩
    case round =>
      obtain ⟨i, rfl, hi, hk, rfl, c0, c1, gwr⟩ := hrel
      have zp : W.heap.size < wr.heap.size := World.block_lt_of_cell? _ _ c0
      clear gw1 cw1_0_0 cw1_0_1 zw1_0
      by_cases hlt : i < n
      · have ti : decide ((i : Int) < (n : Int)) = true := decide_eq_true (by omega)
        have ti2 : decide (i < n) = true := decide_eq_true hlt
        have hii : (i : Int) ≤ 1000 := by omega
        have hmm : n - (i + 1) < gk := by omega
        have hnx := nx_lt hlt
        obtain ⟨k0, k1⟩ := H4.out i hlt
        obtain ⟨m0, m1⟩ := H4.out _ hnx
        obtain rfl := H3.out (by omega)
        have s0 := cell_gr gwr k0
        have s1 := cell_gr gwr k1
        have r0 := cell_gr gwr m0
        have r1 := cell_gr gwr m1
        have zB : B < W.heap.size := World.block_lt_of_cell? _ _ k0
        have zB2 : B < wr.heap.size := by omega
        have nB : ¬ B = W.heap.size := by omega
        have hrem := nx_rem hlt (by omega : n ≤ 1000000)
        have EO : Rg.odN n X Y px py (i + 1) = (Rg.odN n X Y px py i != Rg.ovR (X i) (Y i) (X (Rg.nx1 n i)) (Y (Rg.nx1 n i)) px py) := rfl
        have n1 := HNR.out i hlt
        have n2 := HNR.out _ hnx
        generalize X (Rg.nx1 n i) = xj at *
        generalize Y (Rg.nx1 n i) = yj at *
        generalize X i = xi at *
        generalize Y i = yi at *
        generalize Rg.nx1 n i = j at *
        have A1 := c_rCr n1 n2 HP.out
        have A2 := c_rCr n2 n1 HP.out
        have HEO := Lib.hid EO
        generalize Rg.odN n X Y px py i = bz at *
        have hj9 : (j : Int) ≤ 1000 := by omega
        have tj : decide ((j : Int) < (n : Int)) = true := decide_eq_true (by omega)
        have tj3 : (j : Int) < (n : Int) := by omega
        have ti3 : (i : Int) < (n : Int) := by omega
        have nz : ((n : Int) == 0) = false := by simp; omega
        have nz2 : (n : Int) ≠ 0 := by omega
        have nz3 : (0 : Int) < n := by omega
        have q1 := hrem.1
        have q2 := hrem.2
        have FR : ∀ (b : Bool), Rg.ovR xi yi xj yj px py = b → Hid (Rg.odN n X Y px py (i + 1) = (bz != b)) := fun b hb => by
          have := HEO.out
          rw [hb] at this
          exact Lib.hid this
        have w1 : IntKind.i64.wrap ((i : Int) + 1) = (i : Int) + 1 := IntWalk.i64_in _ (by omega)
        have w2 : IntKind.i64.wrap (j : Int) = (j : Int) := IntWalk.i64_in _ (by omega)
        clear EO k0 k1 m0 m1 hk hrem n1 n2 HEO
        by_cases sw : yj < yi
        · have EV := ovR_sw sw (ax := xi) (bx := xj) (px := px) (py := py)
          have u1 : decide (yj < yi) = true := decide_eq_true sw
          by_cases d1 : yj ≤ py
          · have v1 : decide (yj ≤ py) = true := decide_eq_true d1
            by_cases d2 : py < yi
            · have v2 : decide (py < yi) = true := decide_eq_true d2
              rw [v1, v2] at EV
              simp only [Bool.true_and] at EV
              have HA := Lib.hid A2
              by_cases d3 : 0 < cr xj yj xi yi px py
              · have F := FR true (by rw [EV]; exact decide_eq_true d3)
                have v3 : decide (0 < cr xj yj xi yi px py) = true := decide_eq_true d3
                generalize cr xj yj xi yi px py = cz at HA d3 v3
                clear EV FR A1 A2
                go_wp2_with fail
                go_at_call 81
                refine ((HA.out _)).mono ?_
                rintro e wb ⟨rfl, hwb⟩
                have cwb_0_0 : wb.cell? ⟨W.heap.size, 0, none⟩ = some (.int .i64 px) := cell_gr hwb (by go_simp)
                have cwb_0_1 : wb.cell? ⟨W.heap.size, 1, none⟩ = some (.int .i64 py) := cell_gr hwb (by go_simp)
                have zwb_0 : W.heap.size < wb.heap.size := World.block_lt_of_cell? _ _ cwb_0_0
                have cwb_1_0 : wb.cell? ⟨B, off + i * 2, none⟩ = some (.int .i64 xi) := cell_gr hwb (by go_simp)
                have cwb_1_1 : wb.cell? ⟨B, off + i * 2 + 1, none⟩ = some (.int .i64 yi) := cell_gr hwb (by go_simp)
                have cwb_1_2 : wb.cell? ⟨B, off + j * 2, none⟩ = some (.int .i64 xj) := cell_gr hwb (by go_simp)
                have cwb_1_3 : wb.cell? ⟨B, off + j * 2 + 1, none⟩ = some (.int .i64 yj) := cell_gr hwb (by go_simp)
                have zwb_1 : B < wb.heap.size := World.block_lt_of_cell? _ _ cwb_1_0
                have gwb : Gr W wb := Gr.trans (by have gg := gwr; have gs := gg.size; go_grown) hwb
                clear hwb gwr
                go_wp2_with fail
                go_roundg (n - (i + 1))
                case measure => exact hmm
                case rel => exact ⟨i + 1, by go_num, hlt, rfl, by rw [F.out]; cases bz <;> rfl, by go_simp, by go_simp, gwb⟩
              · have F := FR false (by rw [EV]; exact decide_eq_false d3)
                have v3 : decide (0 < cr xj yj xi yi px py) = false := decide_eq_false d3
                generalize cr xj yj xi yi px py = cz at HA d3 v3
                clear EV FR A1 A2
                go_wp2_with fail
                go_at_call 81
                refine ((HA.out _)).mono ?_
                rintro e wb ⟨rfl, hwb⟩
                have cwb_0_0 : wb.cell? ⟨W.heap.size, 0, none⟩ = some (.int .i64 px) := cell_gr hwb (by go_simp)
                have cwb_0_1 : wb.cell? ⟨W.heap.size, 1, none⟩ = some (.int .i64 py) := cell_gr hwb (by go_simp)
                have zwb_0 : W.heap.size < wb.heap.size := World.block_lt_of_cell? _ _ cwb_0_0
                have cwb_1_0 : wb.cell? ⟨B, off + i * 2, none⟩ = some (.int .i64 xi) := cell_gr hwb (by go_simp)
                have cwb_1_1 : wb.cell? ⟨B, off + i * 2 + 1, none⟩ = some (.int .i64 yi) := cell_gr hwb (by go_simp)
                have cwb_1_2 : wb.cell? ⟨B, off + j * 2, none⟩ = some (.int .i64 xj) := cell_gr hwb (by go_simp)
                have cwb_1_3 : wb.cell? ⟨B, off + j * 2 + 1, none⟩ = some (.int .i64 yj) := cell_gr hwb (by go_simp)
                have zwb_1 : B < wb.heap.size := World.block_lt_of_cell? _ _ cwb_1_0
                have gwb : Gr W wb := Gr.trans (by have gg := gwr; have gs := gg.size; go_grown) hwb
                clear hwb gwr
                go_wp2_with fail
                go_roundg (n - (i + 1))
                case measure => exact hmm
                case rel => exact ⟨i + 1, by go_num, hlt, rfl, by rw [F.out]; cases bz <;> rfl, by go_simp, by go_simp, gwb⟩
            · have v2 : decide (py < yi) = false := decide_eq_false d2
              rw [v1, v2] at EV
              have F := FR false (by rw [EV]; rfl)
              clear EV FR A1 A2
              go_wp2_with fail
              go_roundg (n - (i + 1))
              case measure => exact hmm
              case rel => exact ⟨i + 1, by go_num, hlt, rfl, by rw [F.out]; cases bz <;> rfl, by go_simp, by go_simp, by have gg := gwr; have gs := gg.size; go_grown⟩
          · have v1 : decide (yj ≤ py) = false := decide_eq_false d1
            rw [v1] at EV
            have F := FR false (by rw [EV]; rfl)
            clear EV FR A1 A2
            go_wp2_with fail
            go_roundg (n - (i + 1))
            case measure => exact hmm
            case rel => exact ⟨i + 1, by go_num, hlt, rfl, by rw [F.out]; cases bz <;> rfl, by go_simp, by go_simp, by have gg := gwr; have gs := gg.size; go_grown⟩
        · have EV := ovR_ns sw (ax := xi) (bx := xj) (px := px) (py := py)
          have u1 : decide (yj < yi) = false := decide_eq_false sw
          by_cases d1 : yi ≤ py
          · have v1 : decide (yi ≤ py) = true := decide_eq_true d1
            by_cases d2 : py < yj
            · have v2 : decide (py < yj) = true := decide_eq_true d2
              rw [v1, v2] at EV
              simp only [Bool.true_and] at EV
              have HA := Lib.hid A1
              by_cases d3 : 0 < cr xi yi xj yj px py
              · have F := FR true (by rw [EV]; exact decide_eq_true d3)
                have v3 : decide (0 < cr xi yi xj yj px py) = true := decide_eq_true d3
                generalize cr xi yi xj yj px py = cz at HA d3 v3
                clear EV FR A1 A2
                go_wp2_with fail
                go_at_call 81
                refine ((HA.out _)).mono ?_
                rintro e wb ⟨rfl, hwb⟩
                have cwb_0_0 : wb.cell? ⟨W.heap.size, 0, none⟩ = some (.int .i64 px) := cell_gr hwb (by go_simp)
                have cwb_0_1 : wb.cell? ⟨W.heap.size, 1, none⟩ = some (.int .i64 py) := cell_gr hwb (by go_simp)
                have zwb_0 : W.heap.size < wb.heap.size := World.block_lt_of_cell? _ _ cwb_0_0
                have cwb_1_0 : wb.cell? ⟨B, off + i * 2, none⟩ = some (.int .i64 xi) := cell_gr hwb (by go_simp)
                have cwb_1_1 : wb.cell? ⟨B, off + i * 2 + 1, none⟩ = some (.int .i64 yi) := cell_gr hwb (by go_simp)
                have cwb_1_2 : wb.cell? ⟨B, off + j * 2, none⟩ = some (.int .i64 xj) := cell_gr hwb (by go_simp)
                have cwb_1_3 : wb.cell? ⟨B, off + j * 2 + 1, none⟩ = some (.int .i64 yj) := cell_gr hwb (by go_simp)
                have zwb_1 : B < wb.heap.size := World.block_lt_of_cell? _ _ cwb_1_0
                have gwb : Gr W wb := Gr.trans (by have gg := gwr; have gs := gg.size; go_grown) hwb
                clear hwb gwr
                go_wp2_with fail
                go_roundg (n - (i + 1))
                case measure => exact hmm
                case rel => exact ⟨i + 1, by go_num, hlt, rfl, by rw [F.out]; cases bz <;> rfl, by go_simp, by go_simp, gwb⟩
              · have F := FR false (by rw [EV]; exact decide_eq_false d3)
                have v3 : decide (0 < cr xi yi xj yj px py) = false := decide_eq_false d3
                generalize cr xi yi xj yj px py = cz at HA d3 v3
                clear EV FR A1 A2
                go_wp2_with fail
                go_at_call 81
                refine ((HA.out _)).mono ?_
                rintro e wb ⟨rfl, hwb⟩
                have cwb_0_0 : wb.cell? ⟨W.heap.size, 0, none⟩ = some (.int .i64 px) := cell_gr hwb (by go_simp)
                have cwb_0_1 : wb.cell? ⟨W.heap.size, 1, none⟩ = some (.int .i64 py) := cell_gr hwb (by go_simp)
                have zwb_0 : W.heap.size < wb.heap.size := World.block_lt_of_cell? _ _ cwb_0_0
                have cwb_1_0 : wb.cell? ⟨B, off + i * 2, none⟩ = some (.int .i64 xi) := cell_gr hwb (by go_simp)
                have cwb_1_1 : wb.cell? ⟨B, off + i * 2 + 1, none⟩ = some (.int .i64 yi) := cell_gr hwb (by go_simp)
                have cwb_1_2 : wb.cell? ⟨B, off + j * 2, none⟩ = some (.int .i64 xj) := cell_gr hwb (by go_simp)
                have cwb_1_3 : wb.cell? ⟨B, off + j * 2 + 1, none⟩ = some (.int .i64 yj) := cell_gr hwb (by go_simp)
                have zwb_1 : B < wb.heap.size := World.block_lt_of_cell? _ _ cwb_1_0
                have gwb : Gr W wb := Gr.trans (by have gg := gwr; have gs := gg.size; go_grown) hwb
                clear hwb gwr
                go_wp2_with fail
                go_roundg (n - (i + 1))
                case measure => exact hmm
                case rel => exact ⟨i + 1, by go_num, hlt, rfl, by rw [F.out]; cases bz <;> rfl, by go_simp, by go_simp, gwb⟩
            · have v2 : decide (py < yj) = false := decide_eq_false d2
              rw [v1, v2] at EV
              have F := FR false (by rw [EV]; rfl)
              clear EV FR A1 A2
              go_wp2_with fail
              go_roundg (n - (i + 1))
              case measure => exact hmm
              case rel => exact ⟨i + 1, by go_num, hlt, rfl, by rw [F.out]; cases bz <;> rfl, by go_simp, by go_simp, by have gg := gwr; have gs := gg.size; go_grown⟩
          · have v1 : decide (yi ≤ py) = false := decide_eq_false d1
            rw [v1] at EV
            have F := FR false (by rw [EV]; rfl)
            clear EV FR A1 A2
            go_wp2_with fail
            go_roundg (n - (i + 1))
            case measure => exact hmm
            case rel => exact ⟨i + 1, by go_num, hlt, rfl, by rw [F.out]; cases bz <;> rfl, by go_simp, by go_simp, by have gg := gwr; have gs := gg.size; go_grown⟩
      · obtain rfl : i = n := by omega
        have ti : decide ((i : Int) < (i : Int)) = false := decide_eq_false (by omega)
        have ti2 : decide (i < i) = false := decide_eq_false (by omega)
        clear hk
        go_wp2_with fail
        go_ret
        exact ⟨by rw [HH.out]; rfl, gwr⟩
  · go_enter Tryz.func47, Tryz.ntmps47
    go_wp2_with fail
    go_at_call 80
    refine ((HCE.out _ (by go_grown))).mono ?_
    rintro e w1 ⟨rfl, hw1⟩
    have cw1_0_0 : w1.cell? ⟨W.heap.size, 0, none⟩ = some (.int .i64 px) := cell_gr hw1 (by go_simp)
    have cw1_0_1 : w1.cell? ⟨W.heap.size, 1, none⟩ = some (.int .i64 py) := cell_gr hw1 (by go_simp)
    have zw1_0 : W.heap.size < w1.heap.size := World.block_lt_of_cell? _ _ cw1_0_0
    have gw1 : Gr W w1 := Gr.trans (by go_grown) hw1
    clear hw1
    go_wp2_with fail
    go_ret
    exact ⟨by rw [HH.out]; rfl, gw1⟩
end Go.Proofs.YtfobmlgpjhghdaaGreatDoor
namespace Go.Proofs.YtfobmlgpjhghdaaGreatDoor
set_option linter.unusedVariables false
set_option linter.unusedSimpArgs false
open Go.ChangeShapes Go.WideShapes Go.ChangeAt Go.RowKit
theorem r_ok {n : Nat} {X Y : Nat → Int} {v : Value} (W : World) (h : Pts W v n X Y) : ∀ w, Gr W w → Calls Tryz.prog 54 #[v] w fun e w' => e = .returned (.tuple #[.int .i64 ((Rg.ringC n X Y).1 : Nat), .int .i64 ((Rg.ringC n X Y).2 : Nat)]) ∧ Gr w w' := fun w g => c_CheckRing w (pts_gr h g)
end Go.Proofs.YtfobmlgpjhghdaaGreatDoor
namespace Go.Proofs.YtfobmlgpjhghdaaGreatDoor
set_option linter.unusedVariables false
set_option linter.unusedSimpArgs false
open Go.ChangeShapes Go.WideShapes Go.ChangeAt Go.RowKit
theorem acc_mn (F : Nat → Int) : ∀ n, 1 ≤ n → accMin F n = mnN F n
  | 0, h => absurd h (by omega)
  | 1, _ => by
    rw [mnN_0 F rfl]
    show minZ (F 0) (F 0) = F 0
    unfold minZ; split <;> rfl
  | n + 2, _ => by
    rw [mnN_s F (by omega), ← acc_mn F (n + 1) (by omega)]; rfl
theorem acc_mx (F : Nat → Int) : ∀ n, 1 ≤ n → accMax F n = mxN F n
  | 0, h => absurd h (by omega)
  | 1, _ => by
    rw [mxN_0 F rfl]
    show maxZ (F 0) (F 0) = F 0
    unfold maxZ; split <;> rfl
  | n + 2, _ => by
    rw [mxN_s F (by omega), ← acc_mx F (n + 1) (by omega)]; rfl
def rowB (X Y : Nat → Int) : Nat → List Value
  | 0 => []
  | n + 1 => rowB X Y n ++ [.int .i64 (X n), .int .i64 (Y n), .int .i64 (X n), .int .i64 (Y n)]
theorem rowB_len (X Y : Nat → Int) : ∀ n, (rowB X Y n).length = n * 4
  | 0 => rfl
  | n + 1 => by simp only [rowB, List.length_append, rowB_len X Y n, List.length_cons, List.length_nil]; omega
theorem rowB_at (X Y : Nat → Int) : ∀ n k, k < n → (rowB X Y n)[k * 4]? = some (.int .i64 (X k)) ∧ (rowB X Y n)[k * 4 + 1]? = some (.int .i64 (Y k)) ∧ (rowB X Y n)[k * 4 + 2]? = some (.int .i64 (X k)) ∧ (rowB X Y n)[k * 4 + 3]? = some (.int .i64 (Y k))
  | 0, k, h => absurd h (by omega)
  | n + 1, k, h => by
    have hl := rowB_len X Y n
    simp only [rowB]
    by_cases hk : k < n
    · rw [List.getElem?_append_left (by omega), List.getElem?_append_left (by omega), List.getElem?_append_left (by omega), List.getElem?_append_left (by omega)]
      exact rowB_at X Y n k hk
    · obtain rfl : k = n := by omega
      rw [List.getElem?_append_right (by omega), List.getElem?_append_right (by omega), List.getElem?_append_right (by omega), List.getElem?_append_right (by omega), hl, Nat.sub_self, show k * 4 + 1 - k * 4 = 1 by omega, show k * 4 + 2 - k * 4 = 2 by omega, show k * 4 + 3 - k * 4 = 3 by omega]
      exact ⟨rfl, rfl, rfl, rfl⟩
theorem c_rUnionP {n : Nat} {X Y : Nat → Int} {e : TypeId} {v : Value} {base : Nat} (w : World) (hn : 1 ≤ n) (hn2 : n ≤ 200) (hnr : ∀ k, k < n → nearB (X k) (Y k) = true) (h : w.ownsRow base e 4 v n (rowB X Y n)) :
    Calls Tryz.prog 63 #[v] w fun e w' => e = .returned (.tuple #[.agg #[.int .i64 (mnN X n), .int .i64 (mnN Y n), .int .i64 (mxN X n), .int .i64 (mxN Y n)], .int .i64 0]) ∧ Gr w w' := by
  obtain ⟨g, cap, rfl, hg1, hg2, hc1, hc2⟩ := row_form h (by omega)
  rw [← acc_mn X n hn, ← acc_mn Y n hn, ← acc_mx X n hn, ← acc_mx Y n hn]
  refine c_rUnionN n cap X Y X Y g 0 w hn hn2 _ (fun k hk => ?_) (fun j hj _ h2 => ?_) (fun _ => rfl)
  · rw [Nat.zero_add]
    obtain ⟨r0, r1, r2, r3⟩ := rowB_at X Y n k hk
    exact ⟨by rw [h.cellAt (k * 4) (by omega)]; exact r0, by rw [h.cellAt (k * 4 + 1) (by omega)]; exact r1, by rw [h.cellAt (k * 4 + 2) (by omega)]; exact r2, by rw [h.cellAt (k * 4 + 3) (by omega)]; exact r3⟩
  · rw [boxB_iff.2 ⟨⟨hnr j hj, hnr j hj⟩, Int.le_refl _, Int.le_refl _⟩] at h2
    cases h2
theorem Grown.frozen {a b : World} {u v : Value} (h : Grown a b u v) {p : Addr} (hp : p.block < a.heap.size) (hn : ∀ k, u.ownBlock = some k → k ≠ p.block) : b.frozen? p = a.frozen? p :=
  World.frozen?_of_block (w := a) (h.1.block p.block hp (fun e => hn p.block e.symm rfl))
theorem ones4 (a b c d : Int) : ∀ u ∈ [Value.int .i64 a, .int .i64 b, .int .i64 c, .int .i64 d], u.oneCell' = true := by
  intro u hu
  simp only [List.mem_cons, List.not_mem_nil, or_false] at hu
  rcases hu with rfl | rfl | rfl | rfl <;> rfl
theorem news4 {w : World} {B : Nat} {a b c d : Value} (h0 : w.cell? ⟨B, 0, none⟩ = some a) (h1 : w.cell? ⟨B, 1, none⟩ = some b) (h2 : w.cell? ⟨B, 2, none⟩ = some c) (h3 : w.cell? ⟨B, 3, none⟩ = some d) :
    ∀ j u, [a, b, c, d][j]? = some u → w.cell? ((⟨B, 0, none⟩ : Addr).add j) = some u := by
  intro j u hj
  have e : (⟨B, 0, none⟩ : Addr).add j = ⟨B, j, none⟩ := by unfold Addr.add; split <;> simp_all
  rw [e]
  match j, hj with
  | 0, hj => simp at hj; subst hj; exact h0
  | 1, hj => simp at hj; subst hj; exact h1
  | 2, hj => simp at hj; subst hj; exact h2
  | 3, hj => simp at hj; subst hj; exact h3
  | j + 4, hj => simp at hj
set_option maxHeartbeats 8000000 in
set_option maxRecDepth 100000 in
theorem c_rRingBox_ok {n : Nat} {X Y : Nat → Int} {v : Value} (W : World) (h : Pts W v n X Y) (h0 : Rg.ringC n X Y = (0, 0)) :
    Calls Tryz.prog 37 #[v] W fun e w' => e = .returned (.tuple #[.agg #[.int .i64 (mnN X n), .int .i64 (mnN Y n), .int .i64 (mxN X n), .int .i64 (mxN Y n)], .int .i64 0, .int .i64 0]) ∧ Gr W w' := by
  obtain ⟨hh, hnr, _, _⟩ := Rg.ringC_ok (show (Rg.ringC n X Y).1 = 0 by rw [h0])
  have A1 := r_ok W h
  rw [h0] at A1
  have A2 : ∀ (w : World) v', w.ownsRow (W.heap.size + 1) 28 4 v' n (rowB X Y n) → _ := fun w v' ho => c_rUnionP (X := X) (Y := Y) w (by omega) (by omega) hnr ho
  generalize mnN X n = m1 at A2 ⊢
  generalize mnN Y n = m2 at A2 ⊢
  generalize mxN X n = m3 at A2 ⊢
  generalize mxN Y n = m4 at A2 ⊢
  obtain ⟨i0, hi0, hz0, hz1, hz2⟩ := info_parts (P := Tryz.prog) (e := 28) (z := .agg #[.int .i64 0, .int .i64 0, .int .i64 0, .int .i64 0]) (size := 4) (bytes := 32) (by kernel_rfl)
  have HI := Lib.hid (And.intro hi0 (And.intro hz0 (And.intro hz1 hz2)))
  have hn64 : n ≤ 64 := by omega
  have hn9 : (n : Int) ≤ 64 := by omega
  obtain ⟨ad, cap, B, off, rfl, h1, h2, h3, h4⟩ := h
  have H3 := Lib.hid h3
  have H4 := Lib.hid h4
  have H1 := Lib.hid A1
  clear A1
  have HA2 := Lib.hid A2
  clear h3 h4 h0 hh hnr A2 hi0 hz0 hz1 hz2
  go_enter Tryz.func37, Tryz.ntmps37
  go_wp2_with fail
  go_at_call 54
  refine ((H1.out _ (by go_grown))).mono ?_
  rintro e w1 ⟨rfl, hw1⟩
  have cw1_0_0 : w1.cell? ⟨W.heap.size, 0, none⟩ = some (.int .i64 0) := cell_gr hw1 (by go_simp)
  have fw1_0_0 : w1.frozen? ⟨W.heap.size, 0, none⟩ = false := frozen_gr (v := .int .i64 0) hw1 (by go_simp) (by go_simp)
  have cw1_0_1 : w1.cell? ⟨W.heap.size, 1, none⟩ = some (.int .i64 0) := cell_gr hw1 (by go_simp)
  have fw1_0_1 : w1.frozen? ⟨W.heap.size, 1, none⟩ = false := frozen_gr (v := .int .i64 0) hw1 (by go_simp) (by go_simp)
  have cw1_0_2 : w1.cell? ⟨W.heap.size, 2, none⟩ = some (.int .i64 0) := cell_gr hw1 (by go_simp)
  have fw1_0_2 : w1.frozen? ⟨W.heap.size, 2, none⟩ = false := frozen_gr (v := .int .i64 0) hw1 (by go_simp) (by go_simp)
  have cw1_0_3 : w1.cell? ⟨W.heap.size, 3, none⟩ = some (.int .i64 0) := cell_gr hw1 (by go_simp)
  have fw1_0_3 : w1.frozen? ⟨W.heap.size, 3, none⟩ = false := frozen_gr (v := .int .i64 0) hw1 (by go_simp) (by go_simp)
  have zw1_0 : W.heap.size < w1.heap.size := World.block_lt_of_cell? _ _ cw1_0_0
  have gw1 : Gr W w1 := Gr.trans (by go_grown) hw1
  clear hw1
  go_wp2_with fail
  go_loopg [7, 8] n (fun k x u wr => ∃ i : Nat, u = .int .i64 i ∧ i ≤ n ∧ k = n - i ∧ wr.ownsRow (W.heap.size + 1) 28 4 x i (rowB X Y i) ∧ wr.cell? ⟨W.heap.size, 0, none⟩ = some (.int .i64 0) ∧ wr.cell? ⟨W.heap.size, 1, none⟩ = some (.int .i64 0) ∧ wr.cell? ⟨W.heap.size, 2, none⟩ = some (.int .i64 0) ∧ wr.cell? ⟨W.heap.size, 3, none⟩ = some (.int .i64 0) ∧
    wr.frozen? ⟨W.heap.size, 0, none⟩ = false ∧ wr.frozen? ⟨W.heap.size, 1, none⟩ = false ∧ wr.frozen? ⟨W.heap.size, 2, none⟩ = false ∧ wr.frozen? ⟨W.heap.size, 3, none⟩ = false ∧ Gr W wr)
  case atStart => exact ⟨0, rfl, Nat.zero_le _, by omega, World.ownsRow_nil _ _ _ _, cw1_0_0, cw1_0_1, cw1_0_2, cw1_0_3, fw1_0_0, fw1_0_1, fw1_0_2, fw1_0_3, gw1⟩
  case round =>
    obtain ⟨i, rfl, hi, hk, hO, c0, c1, c2, c3, f0, f1, f2, f3, gwr⟩ := hrel
    have HO := Lib.hid hO
    have zwr0 : W.heap.size < wr.heap.size := World.block_lt_of_cell? _ _ c0
    clear hO gw1 cw1_0_0 cw1_0_1 cw1_0_2 cw1_0_3 fw1_0_0 fw1_0_1 fw1_0_2 fw1_0_3 zw1_0
    by_cases hlt : i < n
    · have ti : decide ((i : Int) < (n : Int)) = true := decide_eq_true (by omega)
      have ti2 : decide (i < n) = true := decide_eq_true hlt
      have ti3 : (i : Int) < (n : Int) := by omega
      have hii : (i : Int) ≤ 64 := by omega
      have hmm : n - (i + 1) < gk := by omega
      obtain ⟨k0, k1⟩ := H4.out i hlt
      obtain rfl := H3.out (by omega)
      have s0 := cell_gr gwr k0
      have s1 := cell_gr gwr k1
      have zB : B < W.heap.size := World.block_lt_of_cell? _ _ k0
      have hrw : rowB X Y (i + 1) = rowB X Y i ++ [.int .i64 (X i), .int .i64 (Y i), .int .i64 (X i), .int .i64 (Y i)] := rfl
      have HR := Lib.hid hrw
      generalize X i = xi at s0 HR
      generalize Y i = yi at s1 HR
      clear hk k0 k1 hrw
      go_wp2_with fail
      try simp only [List.append]
      refine Od.wp_region_ordT 11 [(0, false), (1, false), (2, false), (3, false), (4, false), (5, false), (6, false), (7, false), (8, false), (9, false), (10, true)] (by kernel_rfl) (by kernel_rfl) ?_
      intro w4 hw4 KQ hKQ
      have cw4_0_0 : w4.cell? ⟨W.heap.size, 0, none⟩ = some (.int .i64 0) := cell_gr hw4 (by go_simp)
      have fw4_0_0 : w4.frozen? ⟨W.heap.size, 0, none⟩ = false := frozen_gr (v := .int .i64 0) hw4 (by go_simp) (by go_simp)
      have cw4_0_1 : w4.cell? ⟨W.heap.size, 1, none⟩ = some (.int .i64 0) := cell_gr hw4 (by go_simp)
      have fw4_0_1 : w4.frozen? ⟨W.heap.size, 1, none⟩ = false := frozen_gr (v := .int .i64 0) hw4 (by go_simp) (by go_simp)
      have cw4_0_2 : w4.cell? ⟨W.heap.size, 2, none⟩ = some (.int .i64 0) := cell_gr hw4 (by go_simp)
      have fw4_0_2 : w4.frozen? ⟨W.heap.size, 2, none⟩ = false := frozen_gr (v := .int .i64 0) hw4 (by go_simp) (by go_simp)
      have cw4_0_3 : w4.cell? ⟨W.heap.size, 3, none⟩ = some (.int .i64 0) := cell_gr hw4 (by go_simp)
      have fw4_0_3 : w4.frozen? ⟨W.heap.size, 3, none⟩ = false := frozen_gr (v := .int .i64 0) hw4 (by go_simp) (by go_simp)
      have zw4_0 : W.heap.size < w4.heap.size := World.block_lt_of_cell? _ _ cw4_0_0
      have cw4_1_0 : w4.cell? ⟨B, off + i * 2, none⟩ = some (.int .i64 xi) := cell_gr hw4 (by go_simp)
      have cw4_1_1 : w4.cell? ⟨B, off + i * 2 + 1, none⟩ = some (.int .i64 yi) := cell_gr hw4 (by go_simp)
      have zw4_1 : B < w4.heap.size := World.block_lt_of_cell? _ _ cw4_1_0
      have gw4 : Gr wr w4 := Gr.trans (by go_grown) hw4
      skip
      clear hw4
      repeat (first | (refine Od.wpO_skip (by simp only [List.getElem?_toArray, List.getElem?_cons_succ, List.getElem?_cons_zero] <;> rfl) rfl ?_; simp only [Act.put, List.setIfInBounds_toArray, List.set_cons_zero, List.set_cons_succ]) | (refine Od.wpO_pure (by simp only [List.getElem?_toArray, List.getElem?_cons_succ, List.getElem?_cons_zero] <;> rfl) rfl ?_; apply Exists.intro; refine ⟨?_, ?_⟩; (· intro wx gx; obtain ⟨mx, rfl⟩ := spread_of_gr gx; clear gx; all_goals (apply Od.pAt_of_quiet; intro K hK; go_big_quiet_op; first | exact hK _ rfl | (apply Exists.intro; refine ⟨fun _ => ?_, ?_⟩; (· fail); exact hK _ rfl))); try simp only [Act.put, List.setIfInBounds_toArray, List.set_cons_zero, List.set_cons_succ]))
      refine Od.wpO_call (by simp only [List.getElem?_toArray, List.getElem?_cons_succ, List.getElem?_cons_zero] <;> rfl) rfl ?_
      intro QS hQS
      go_wp2_with fail
      first | (apply Exists.intro; refine ⟨?_, (by go_grown), ?_⟩; (· simp only [Act.put, List.setIfInBounds_toArray, List.set_cons_zero, List.set_cons_succ]; rfl)) | (refine ⟨(by go_grown), ?_⟩)
      generalize hhw5 : (w4.alloc (.cells #[.int .i64 xi, .int .i64 yi, .int .i64 xi, .int .i64 yi] 28)) = w5
      have hw5 : Gr w4 w5 := by subst hhw5; go_grown
      have cw5_0_0 : w5.cell? ⟨W.heap.size, 0, none⟩ = some (.int .i64 0) := by subst hhw5; go_simp
      have fw5_0_0 : w5.frozen? ⟨W.heap.size, 0, none⟩ = false := by subst hhw5; go_simp
      have cw5_0_1 : w5.cell? ⟨W.heap.size, 1, none⟩ = some (.int .i64 0) := by subst hhw5; go_simp
      have fw5_0_1 : w5.frozen? ⟨W.heap.size, 1, none⟩ = false := by subst hhw5; go_simp
      have cw5_0_2 : w5.cell? ⟨W.heap.size, 2, none⟩ = some (.int .i64 0) := by subst hhw5; go_simp
      have fw5_0_2 : w5.frozen? ⟨W.heap.size, 2, none⟩ = false := by subst hhw5; go_simp
      have cw5_0_3 : w5.cell? ⟨W.heap.size, 3, none⟩ = some (.int .i64 0) := by subst hhw5; go_simp
      have fw5_0_3 : w5.frozen? ⟨W.heap.size, 3, none⟩ = false := by subst hhw5; go_simp
      have zw5_0 : W.heap.size < w5.heap.size := World.block_lt_of_cell? _ _ cw5_0_0
      have cw5_1_0 : w5.cell? ⟨B, off + i * 2, none⟩ = some (.int .i64 xi) := by subst hhw5; go_simp
      have cw5_1_1 : w5.cell? ⟨B, off + i * 2 + 1, none⟩ = some (.int .i64 yi) := by subst hhw5; go_simp
      have zw5_1 : B < w5.heap.size := World.block_lt_of_cell? _ _ cw5_1_0
      have cw5_2_0 : w5.cell? ⟨w4.heap.size, 0, none⟩ = some (.int .i64 xi) := by subst hhw5; go_simp
      have cw5_2_1 : w5.cell? ⟨w4.heap.size, 1, none⟩ = some (.int .i64 yi) := by subst hhw5; go_simp
      have cw5_2_2 : w5.cell? ⟨w4.heap.size, 2, none⟩ = some (.int .i64 xi) := by subst hhw5; go_simp
      have cw5_2_3 : w5.cell? ⟨w4.heap.size, 3, none⟩ = some (.int .i64 yi) := by subst hhw5; go_simp
      have zw5_2 : w4.heap.size < w5.heap.size := World.block_lt_of_cell? _ _ cw5_2_0
      have gw5 : Gr wr w5 := Gr.trans (by have gg := gw4; have gs := gg.size; go_grown) hw5
      clear hhw5 hw5 gw4 zw4_0 cw4_0_0 fw4_0_0 cw4_0_1 fw4_0_1 cw4_0_2 fw4_0_2 cw4_0_3 fw4_0_3 zw4_1 cw4_1_0 cw4_1_1
      try simp only [Act.put, List.setIfInBounds_toArray, List.set_cons_zero, List.set_cons_succ]
      repeat (first | (refine Od.wpO_skip (by simp only [List.getElem?_toArray, List.getElem?_cons_succ, List.getElem?_cons_zero] <;> rfl) rfl ?_; simp only [Act.put, List.setIfInBounds_toArray, List.set_cons_zero, List.set_cons_succ]) | (refine Od.wpO_pure (by simp only [List.getElem?_toArray, List.getElem?_cons_succ, List.getElem?_cons_zero] <;> rfl) rfl ?_; apply Exists.intro; refine ⟨?_, ?_⟩; (· intro wx gx; obtain ⟨mx, rfl⟩ := spread_of_gr gx; clear gx; all_goals (apply Od.pAt_of_quiet; intro K hK; go_big_quiet_op; first | exact hK _ rfl | (apply Exists.intro; refine ⟨fun _ => ?_, ?_⟩; (· fail); exact hK _ rfl))); try simp only [Act.put, List.setIfInBounds_toArray, List.set_cons_zero, List.set_cons_succ]))
      refine Od.wpO_nil (hKQ _ _ ?_)
      clear hKQ KQ
      have O5 := rowOwn_gr HO.out gw5
      have hne : ∀ k, u7.ownBlock = some k → W.heap.size + 1 ≤ k := fun k hk => (World.ownsRow.lt HO.out k hk).1
      have HNE := Lib.hid hne
      have sz5 := gw5.size
      have N5 := news4 cw5_2_0 cw5_2_1 cw5_2_2 cw5_2_3
      have HN5 := Lib.hid N5
      have HO5 := Lib.hid O5
      clear hne N5 O5
      refine wpList_append_own2 _ rfl (.tmp 27) (.tmp 37) 90 rfl (W.heap.size + 1) 28 i0 (.agg #[.int .i64 0, .int .i64 0, .int .i64 0, .int .i64 0]) 4 32 Tryz.underlying90 HI.out.1 HI.out.2.1 HI.out.2.2.1 HI.out.2.2.2 rfl (by decide) u7 i (rowB X Y i) rfl HO5.out ⟨w4.heap.size, 0, none⟩ 1 1 [.int .i64 xi, .int .i64 yi, .int .i64 xi, .int .i64 yi] rfl rfl HN5.out (ones4 _ _ _ _) (by unfold maxLen; omega) (by omega) (by omega) ?_
      intro v3 w3 own3 gr3
      go_wp2_with fail
      have own4 : w3.ownsRow (W.heap.size + 1) 28 4 v3 (i + 1) (rowB X Y (i + 1)) := by rw [HR.out]; exact own3
      have nb : ∀ k, u7.ownBlock = some k → k ≠ W.heap.size := fun k hk => by have := HNE.out k hk; omega
      have G3 : Gr W w3 := gr3.gr (Gr.trans gwr gw5) (fun k hk => by have := HNE.out k hk; omega)
      go_roundg (n - (i + 1))
      case measure => exact hmm
      case rel => exact ⟨i + 1, by go_num, hlt, rfl, own4, gr3.cell cw5_0_0 nb, gr3.cell cw5_0_1 nb, gr3.cell cw5_0_2 nb, gr3.cell cw5_0_3 nb, (gr3.frozen zw5_0 nb).trans fw5_0_0, (gr3.frozen zw5_0 nb).trans fw5_0_1, (gr3.frozen zw5_0 nb).trans fw5_0_2, (gr3.frozen zw5_0 nb).trans fw5_0_3, G3⟩
    · obtain rfl : i = n := by omega
      have ti : decide ((i : Int) < (i : Int)) = false := decide_eq_false (by omega)
      have ti2 : decide (i < i) = false := decide_eq_false (by omega)
      have A2 := fun (w : World) (g : Gr wr w) => HA2.out w _ (rowOwn_gr HO.out g)
      have H2 := Lib.hid A2
      clear A2 hk
      go_wp2_with fail
      go_at_call 63
      refine ((H2.out _ (by go_grown))).mono ?_
      rintro e w6 ⟨rfl, hw6⟩
      have cw6_0_0 : w6.cell? ⟨W.heap.size, 0, none⟩ = some (.int .i64 0) := cell_gr hw6 (by go_simp)
      have fw6_0_0 : w6.frozen? ⟨W.heap.size, 0, none⟩ = false := frozen_gr (v := .int .i64 0) hw6 (by go_simp) (by go_simp)
      have cw6_0_1 : w6.cell? ⟨W.heap.size, 1, none⟩ = some (.int .i64 0) := cell_gr hw6 (by go_simp)
      have fw6_0_1 : w6.frozen? ⟨W.heap.size, 1, none⟩ = false := frozen_gr (v := .int .i64 0) hw6 (by go_simp) (by go_simp)
      have cw6_0_2 : w6.cell? ⟨W.heap.size, 2, none⟩ = some (.int .i64 0) := cell_gr hw6 (by go_simp)
      have fw6_0_2 : w6.frozen? ⟨W.heap.size, 2, none⟩ = false := frozen_gr (v := .int .i64 0) hw6 (by go_simp) (by go_simp)
      have cw6_0_3 : w6.cell? ⟨W.heap.size, 3, none⟩ = some (.int .i64 0) := cell_gr hw6 (by go_simp)
      have fw6_0_3 : w6.frozen? ⟨W.heap.size, 3, none⟩ = false := frozen_gr (v := .int .i64 0) hw6 (by go_simp) (by go_simp)
      have zw6_0 : W.heap.size < w6.heap.size := World.block_lt_of_cell? _ _ cw6_0_0
      have gw6 : Gr wr w6 := Gr.trans (by go_grown) hw6
      clear hw6
      go_wp2_with fail
      refine bodyPost_ret (v := .tuple #[.agg #[.int .i64 m1, .int .i64 m2, .int .i64 m3, .int .i64 m4], .int .i64 0, .int .i64 0]) (by simp [results, Tryz.results37, go_sem, *]) rfl ⟨rfl, by have gg := Gr.trans gwr gw6; have gs := gg.size; go_grown⟩
end Go.Proofs.YtfobmlgpjhghdaaGreatDoor
namespace Go.Proofs.YtfobmlgpjhghdaaGreatDoor
set_option linter.unusedVariables false
set_option linter.unusedSimpArgs false
open Go.ChangeShapes Go.WideShapes Go.ChangeAt Go.RowKit
section
variable {B off cap : Nat}
set_option maxHeartbeats 4000000 in
set_option maxRecDepth 100000 in
theorem rb_1 (x y : Int) (W : World) (A1 : ∀ w, Gr W w → Calls Tryz.prog 33 #[.agg #[.int .i64 1, .slice (some ⟨B, off, none⟩) 1 cap]] w fun e w' => e = .returned (.int .i64 0) ∧ Gr w w')
    (p0 : W.cell? ⟨B, off, none⟩ = some (.int .i64 x)) (p1 : W.cell? ⟨B, off + 1, none⟩ = some (.int .i64 y)) (hB : B < W.heap.size) :
    Calls Tryz.prog 11 #[.agg #[.int .i64 1, .slice (some ⟨B, off, none⟩) 1 cap]] W fun e w' => e = .returned (.tuple #[.agg #[.int .i64 x, .int .i64 y, .int .i64 x, .int .i64 y], .int .i64 0]) ∧ Gr W w' := by
  have nB : ¬ B = W.heap.size := by omega
  have nB1 : ¬ B = W.heap.size + 1 := by omega
  have H1 := Lib.hid A1
  clear A1
  go_enter Tryz.func11, Tryz.ntmps11
  go_wp2_with fail
  go_at_call 33
  refine ((H1.out _ (by go_grown))).mono ?_
  rintro e w1 ⟨rfl, hw1⟩
  have cw1_0_0 : w1.cell? ⟨W.heap.size, 0, none⟩ = some (.int .i64 1) := cell_gr hw1 (by go_simp)
  have cw1_0_1 : w1.cell? ⟨W.heap.size, 1, none⟩ = some (.slice (some ⟨B, off, none⟩) 1 cap) := cell_gr hw1 (by go_simp)
  have zw1_0 : W.heap.size < w1.heap.size := World.block_lt_of_cell? _ _ cw1_0_0
  have cw1_1_0 : w1.cell? ⟨W.heap.size + 1, 0, none⟩ = some (.int .i64 0) := cell_gr hw1 (by go_simp)
  have fw1_1_0 : w1.frozen? ⟨W.heap.size + 1, 0, none⟩ = false := frozen_gr (v := .int .i64 0) hw1 (by go_simp) (by go_simp)
  have cw1_1_1 : w1.cell? ⟨W.heap.size + 1, 1, none⟩ = some (.int .i64 0) := cell_gr hw1 (by go_simp)
  have fw1_1_1 : w1.frozen? ⟨W.heap.size + 1, 1, none⟩ = false := frozen_gr (v := .int .i64 0) hw1 (by go_simp) (by go_simp)
  have cw1_1_2 : w1.cell? ⟨W.heap.size + 1, 2, none⟩ = some (.int .i64 0) := cell_gr hw1 (by go_simp)
  have fw1_1_2 : w1.frozen? ⟨W.heap.size + 1, 2, none⟩ = false := frozen_gr (v := .int .i64 0) hw1 (by go_simp) (by go_simp)
  have cw1_1_3 : w1.cell? ⟨W.heap.size + 1, 3, none⟩ = some (.int .i64 0) := cell_gr hw1 (by go_simp)
  have fw1_1_3 : w1.frozen? ⟨W.heap.size + 1, 3, none⟩ = false := frozen_gr (v := .int .i64 0) hw1 (by go_simp) (by go_simp)
  have zw1_1 : W.heap.size + 1 < w1.heap.size := World.block_lt_of_cell? _ _ cw1_1_0
  have cw1_2_0 : w1.cell? ⟨B, off, none⟩ = some (.int .i64 x) := cell_gr hw1 (by go_simp)
  have cw1_2_1 : w1.cell? ⟨B, off + 1, none⟩ = some (.int .i64 y) := cell_gr hw1 (by go_simp)
  have zw1_2 : B < w1.heap.size := World.block_lt_of_cell? _ _ cw1_2_0
  have gw1 : Gr W w1 := Gr.trans (by go_grown) hw1
  clear hw1
  have GS := gw1.size
  have nb : ¬ W.heap.size + 1 = w1.heap.size := by omega
  have nb2 : ¬ w1.heap.size = W.heap.size + 1 := by omega
  go_wp2_with fail
  refine bodyPost_ret (v := .tuple #[.agg #[.int .i64 x, .int .i64 y, .int .i64 x, .int .i64 y], .int .i64 0]) (by simp [results, Tryz.results11, go_sem, *]) rfl ⟨rfl, by go_grown⟩
set_option maxHeartbeats 4000000 in
set_option maxRecDepth 100000 in
theorem rb_2 (x y : Int) (W : World) (A1 : ∀ w, Gr W w → Calls Tryz.prog 33 #[.agg #[.int .i64 2, .slice (some ⟨B, off, none⟩) 1 cap]] w fun e w' => e = .returned (.int .i64 0) ∧ Gr w w')
    (p0 : W.cell? ⟨B, off, none⟩ = some (.int .i64 x)) (p1 : W.cell? ⟨B, off + 1, none⟩ = some (.int .i64 y)) (hB : B < W.heap.size) :
    Calls Tryz.prog 11 #[.agg #[.int .i64 2, .slice (some ⟨B, off, none⟩) 1 cap]] W fun e w' => e = .returned (.tuple #[.agg #[.int .i64 x, .int .i64 0, .int .i64 y, .int .i64 0], .int .i64 0]) ∧ Gr W w' := by
  have nB : ¬ B = W.heap.size := by omega
  have nB1 : ¬ B = W.heap.size + 1 := by omega
  have H1 := Lib.hid A1
  clear A1
  go_enter Tryz.func11, Tryz.ntmps11
  go_wp2_with fail
  go_at_call 33
  refine ((H1.out _ (by go_grown))).mono ?_
  rintro e w1 ⟨rfl, hw1⟩
  have cw1_0_0 : w1.cell? ⟨W.heap.size, 0, none⟩ = some (.int .i64 2) := cell_gr hw1 (by go_simp)
  have cw1_0_1 : w1.cell? ⟨W.heap.size, 1, none⟩ = some (.slice (some ⟨B, off, none⟩) 1 cap) := cell_gr hw1 (by go_simp)
  have zw1_0 : W.heap.size < w1.heap.size := World.block_lt_of_cell? _ _ cw1_0_0
  have cw1_1_0 : w1.cell? ⟨W.heap.size + 1, 0, none⟩ = some (.int .i64 0) := cell_gr hw1 (by go_simp)
  have fw1_1_0 : w1.frozen? ⟨W.heap.size + 1, 0, none⟩ = false := frozen_gr (v := .int .i64 0) hw1 (by go_simp) (by go_simp)
  have cw1_1_1 : w1.cell? ⟨W.heap.size + 1, 1, none⟩ = some (.int .i64 0) := cell_gr hw1 (by go_simp)
  have fw1_1_1 : w1.frozen? ⟨W.heap.size + 1, 1, none⟩ = false := frozen_gr (v := .int .i64 0) hw1 (by go_simp) (by go_simp)
  have cw1_1_2 : w1.cell? ⟨W.heap.size + 1, 2, none⟩ = some (.int .i64 0) := cell_gr hw1 (by go_simp)
  have fw1_1_2 : w1.frozen? ⟨W.heap.size + 1, 2, none⟩ = false := frozen_gr (v := .int .i64 0) hw1 (by go_simp) (by go_simp)
  have cw1_1_3 : w1.cell? ⟨W.heap.size + 1, 3, none⟩ = some (.int .i64 0) := cell_gr hw1 (by go_simp)
  have fw1_1_3 : w1.frozen? ⟨W.heap.size + 1, 3, none⟩ = false := frozen_gr (v := .int .i64 0) hw1 (by go_simp) (by go_simp)
  have zw1_1 : W.heap.size + 1 < w1.heap.size := World.block_lt_of_cell? _ _ cw1_1_0
  have cw1_2_0 : w1.cell? ⟨B, off, none⟩ = some (.int .i64 x) := cell_gr hw1 (by go_simp)
  have cw1_2_1 : w1.cell? ⟨B, off + 1, none⟩ = some (.int .i64 y) := cell_gr hw1 (by go_simp)
  have zw1_2 : B < w1.heap.size := World.block_lt_of_cell? _ _ cw1_2_0
  have gw1 : Gr W w1 := Gr.trans (by go_grown) hw1
  clear hw1
  have GS := gw1.size
  have nb : ¬ W.heap.size + 1 = w1.heap.size := by omega
  have nb2 : ¬ w1.heap.size = W.heap.size + 1 := by omega
  go_wp2_with fail
  refine bodyPost_ret (v := .tuple #[.agg #[.int .i64 x, .int .i64 0, .int .i64 y, .int .i64 0], .int .i64 0]) (by simp [results, Tryz.results11, go_sem, *]) rfl ⟨rfl, by go_grown⟩
set_option maxHeartbeats 4000000 in
set_option maxRecDepth 100000 in
theorem rb_3 (x y z u : Int) (W : World) (A1 : ∀ w, Gr W w → Calls Tryz.prog 33 #[.agg #[.int .i64 3, .slice (some ⟨B, off, none⟩) 2 cap]] w fun e w' => e = .returned (.int .i64 0) ∧ Gr w w')
    (p0 : W.cell? ⟨B, off, none⟩ = some (.int .i64 x)) (p1 : W.cell? ⟨B, off + 1, none⟩ = some (.int .i64 y)) (p2 : W.cell? ⟨B, off + 2, none⟩ = some (.int .i64 z)) (p3 : W.cell? ⟨B, off + 2 + 1, none⟩ = some (.int .i64 u)) (hB : B < W.heap.size) :
    Calls Tryz.prog 11 #[.agg #[.int .i64 3, .slice (some ⟨B, off, none⟩) 2 cap]] W fun e w' => e = .returned (.tuple #[.agg #[.int .i64 x, .int .i64 y, .int .i64 z, .int .i64 u], .int .i64 0]) ∧ Gr W w' := by
  have nB : ¬ B = W.heap.size := by omega
  have nB1 : ¬ B = W.heap.size + 1 := by omega
  have H1 := Lib.hid A1
  clear A1
  go_enter Tryz.func11, Tryz.ntmps11
  go_wp2_with fail
  go_at_call 33
  refine ((H1.out _ (by go_grown))).mono ?_
  rintro e w1 ⟨rfl, hw1⟩
  have cw1_0_0 : w1.cell? ⟨W.heap.size, 0, none⟩ = some (.int .i64 3) := cell_gr hw1 (by go_simp)
  have cw1_0_1 : w1.cell? ⟨W.heap.size, 1, none⟩ = some (.slice (some ⟨B, off, none⟩) 2 cap) := cell_gr hw1 (by go_simp)
  have zw1_0 : W.heap.size < w1.heap.size := World.block_lt_of_cell? _ _ cw1_0_0
  have cw1_1_0 : w1.cell? ⟨W.heap.size + 1, 0, none⟩ = some (.int .i64 0) := cell_gr hw1 (by go_simp)
  have fw1_1_0 : w1.frozen? ⟨W.heap.size + 1, 0, none⟩ = false := frozen_gr (v := .int .i64 0) hw1 (by go_simp) (by go_simp)
  have cw1_1_1 : w1.cell? ⟨W.heap.size + 1, 1, none⟩ = some (.int .i64 0) := cell_gr hw1 (by go_simp)
  have fw1_1_1 : w1.frozen? ⟨W.heap.size + 1, 1, none⟩ = false := frozen_gr (v := .int .i64 0) hw1 (by go_simp) (by go_simp)
  have cw1_1_2 : w1.cell? ⟨W.heap.size + 1, 2, none⟩ = some (.int .i64 0) := cell_gr hw1 (by go_simp)
  have fw1_1_2 : w1.frozen? ⟨W.heap.size + 1, 2, none⟩ = false := frozen_gr (v := .int .i64 0) hw1 (by go_simp) (by go_simp)
  have cw1_1_3 : w1.cell? ⟨W.heap.size + 1, 3, none⟩ = some (.int .i64 0) := cell_gr hw1 (by go_simp)
  have fw1_1_3 : w1.frozen? ⟨W.heap.size + 1, 3, none⟩ = false := frozen_gr (v := .int .i64 0) hw1 (by go_simp) (by go_simp)
  have zw1_1 : W.heap.size + 1 < w1.heap.size := World.block_lt_of_cell? _ _ cw1_1_0
  have cw1_2_0 : w1.cell? ⟨B, off, none⟩ = some (.int .i64 x) := cell_gr hw1 (by go_simp)
  have cw1_2_1 : w1.cell? ⟨B, off + 1, none⟩ = some (.int .i64 y) := cell_gr hw1 (by go_simp)
  have cw1_2_2 : w1.cell? ⟨B, off + 2, none⟩ = some (.int .i64 z) := cell_gr hw1 (by go_simp)
  have cw1_2_3 : w1.cell? ⟨B, off + 2 + 1, none⟩ = some (.int .i64 u) := cell_gr hw1 (by go_simp)
  have zw1_2 : B < w1.heap.size := World.block_lt_of_cell? _ _ cw1_2_0
  have gw1 : Gr W w1 := Gr.trans (by go_grown) hw1
  clear hw1
  have GS := gw1.size
  have nb : ¬ W.heap.size + 1 = w1.heap.size := by omega
  have nb2 : ¬ w1.heap.size = W.heap.size + 1 := by omega
  go_wp2_with fail
  generalize hhw2 : (w1.alloc (.cells #[.int .i64 x, .int .i64 y] 26)) = w2
  have cw2_0_0 : w2.cell? ⟨W.heap.size, 0, none⟩ = some (.int .i64 3) := by subst hhw2; go_simp
  have cw2_0_1 : w2.cell? ⟨W.heap.size, 1, none⟩ = some (.slice (some ⟨B, off, none⟩) 2 cap) := by subst hhw2; go_simp
  have zw2_0 : W.heap.size < w2.heap.size := World.block_lt_of_cell? _ _ cw2_0_0
  have cw2_1_0 : w2.cell? ⟨W.heap.size + 1, 0, none⟩ = some (.int .i64 0) := by subst hhw2; go_simp
  have fw2_1_0 : w2.frozen? ⟨W.heap.size + 1, 0, none⟩ = false := by subst hhw2; go_simp
  have cw2_1_1 : w2.cell? ⟨W.heap.size + 1, 1, none⟩ = some (.int .i64 0) := by subst hhw2; go_simp
  have fw2_1_1 : w2.frozen? ⟨W.heap.size + 1, 1, none⟩ = false := by subst hhw2; go_simp
  have cw2_1_2 : w2.cell? ⟨W.heap.size + 1, 2, none⟩ = some (.int .i64 0) := by subst hhw2; go_simp
  have fw2_1_2 : w2.frozen? ⟨W.heap.size + 1, 2, none⟩ = false := by subst hhw2; go_simp
  have cw2_1_3 : w2.cell? ⟨W.heap.size + 1, 3, none⟩ = some (.int .i64 0) := by subst hhw2; go_simp
  have fw2_1_3 : w2.frozen? ⟨W.heap.size + 1, 3, none⟩ = false := by subst hhw2; go_simp
  have zw2_1 : W.heap.size + 1 < w2.heap.size := World.block_lt_of_cell? _ _ cw2_1_0
  have cw2_2_0 : w2.cell? ⟨B, off, none⟩ = some (.int .i64 x) := by subst hhw2; go_simp
  have cw2_2_1 : w2.cell? ⟨B, off + 1, none⟩ = some (.int .i64 y) := by subst hhw2; go_simp
  have cw2_2_2 : w2.cell? ⟨B, off + 2, none⟩ = some (.int .i64 z) := by subst hhw2; go_simp
  have cw2_2_3 : w2.cell? ⟨B, off + 2 + 1, none⟩ = some (.int .i64 u) := by subst hhw2; go_simp
  have zw2_2 : B < w2.heap.size := World.block_lt_of_cell? _ _ cw2_2_0
  have cw2_3_0 : w2.cell? ⟨w1.heap.size, 0, none⟩ = some (.int .i64 x) := by subst hhw2; go_simp
  have cw2_3_1 : w2.cell? ⟨w1.heap.size, 1, none⟩ = some (.int .i64 y) := by subst hhw2; go_simp
  have zw2_3 : w1.heap.size < w2.heap.size := World.block_lt_of_cell? _ _ cw2_3_0
  have gw2 : Gr W w2 := by subst hhw2; have gg := gw1; have gs := gg.size; go_grown
  clear hhw2 gw1 zw1_0 cw1_0_0 cw1_0_1 zw1_1 cw1_1_0 fw1_1_0 cw1_1_1 fw1_1_1 cw1_1_2 fw1_1_2 cw1_1_3 fw1_1_3 zw1_2 cw1_2_0 cw1_2_1 cw1_2_2 cw1_2_3
  go_wp2_with fail
  refine Hd.wp_region_tail 6 (by kernel_rfl) (by kernel_rfl) ?_
  intro KQ hKQ
  repeat (first | (refine Hd.wpG_skip (by decide) rfl ?_; simp only [Act.put, List.setIfInBounds_toArray, List.set_cons_zero, List.set_cons_succ]) | (refine Hd.wpG_want (by decide) rfl ?_; apply Exists.intro; refine ⟨?_, ?_⟩; (· intro wx gx; (obtain ⟨mx, rfl⟩ := gx); all_goals (apply Hd.gAt_of_quiet; intro K hK; go_big_quiet_op; first | exact hK _ rfl | (apply Exists.intro; refine ⟨fun _ => ?_, ?_⟩; (· fail); exact hK _ rfl))); try simp only [Act.put, List.setIfInBounds_toArray, List.set_cons_zero, List.set_cons_succ]))
  refine Hd.wpG_nil (hKQ _ ?_)
  clear hKQ KQ
  intro w3 hhw3
  have hw3 := Hd.gr_of_spread hhw3
  have cw3_0_0 : w3.cell? ⟨W.heap.size, 0, none⟩ = some (.int .i64 3) := cell_gr hw3 (by go_simp)
  have cw3_0_1 : w3.cell? ⟨W.heap.size, 1, none⟩ = some (.slice (some ⟨B, off, none⟩) 2 cap) := cell_gr hw3 (by go_simp)
  have zw3_0 : W.heap.size < w3.heap.size := World.block_lt_of_cell? _ _ cw3_0_0
  have cw3_1_0 : w3.cell? ⟨W.heap.size + 1, 0, none⟩ = some (.int .i64 0) := cell_gr hw3 (by go_simp)
  have fw3_1_0 : w3.frozen? ⟨W.heap.size + 1, 0, none⟩ = false := frozen_gr (v := .int .i64 0) hw3 (by go_simp) (by go_simp)
  have cw3_1_1 : w3.cell? ⟨W.heap.size + 1, 1, none⟩ = some (.int .i64 0) := cell_gr hw3 (by go_simp)
  have fw3_1_1 : w3.frozen? ⟨W.heap.size + 1, 1, none⟩ = false := frozen_gr (v := .int .i64 0) hw3 (by go_simp) (by go_simp)
  have cw3_1_2 : w3.cell? ⟨W.heap.size + 1, 2, none⟩ = some (.int .i64 0) := cell_gr hw3 (by go_simp)
  have fw3_1_2 : w3.frozen? ⟨W.heap.size + 1, 2, none⟩ = false := frozen_gr (v := .int .i64 0) hw3 (by go_simp) (by go_simp)
  have cw3_1_3 : w3.cell? ⟨W.heap.size + 1, 3, none⟩ = some (.int .i64 0) := cell_gr hw3 (by go_simp)
  have fw3_1_3 : w3.frozen? ⟨W.heap.size + 1, 3, none⟩ = false := frozen_gr (v := .int .i64 0) hw3 (by go_simp) (by go_simp)
  have zw3_1 : W.heap.size + 1 < w3.heap.size := World.block_lt_of_cell? _ _ cw3_1_0
  have cw3_2_0 : w3.cell? ⟨B, off, none⟩ = some (.int .i64 x) := cell_gr hw3 (by go_simp)
  have cw3_2_1 : w3.cell? ⟨B, off + 1, none⟩ = some (.int .i64 y) := cell_gr hw3 (by go_simp)
  have cw3_2_2 : w3.cell? ⟨B, off + 2, none⟩ = some (.int .i64 z) := cell_gr hw3 (by go_simp)
  have cw3_2_3 : w3.cell? ⟨B, off + 2 + 1, none⟩ = some (.int .i64 u) := cell_gr hw3 (by go_simp)
  have zw3_2 : B < w3.heap.size := World.block_lt_of_cell? _ _ cw3_2_0
  have cw3_3_0 : w3.cell? ⟨w1.heap.size, 0, none⟩ = some (.int .i64 x) := cell_gr hw3 (by go_simp)
  have cw3_3_1 : w3.cell? ⟨w1.heap.size, 1, none⟩ = some (.int .i64 y) := cell_gr hw3 (by go_simp)
  have zw3_3 : w1.heap.size < w3.heap.size := World.block_lt_of_cell? _ _ cw3_3_0
  have gw3 : Gr W w3 := Gr.trans (by have gg := gw2; have gs := gg.size; go_grown) hw3
  clear hw3 hhw3 gw2 zw2_0 cw2_0_0 cw2_0_1 zw2_1 cw2_1_0 fw2_1_0 cw2_1_1 fw2_1_1 cw2_1_2 fw2_1_2 cw2_1_3 fw2_1_3 zw2_2 cw2_2_0 cw2_2_1 cw2_2_2 cw2_2_3 zw2_3 cw2_3_0 cw2_3_1
  go_wp2_with fail
  refine bodyPost_ret (v := .tuple #[.agg #[.int .i64 x, .int .i64 y, .int .i64 z, .int .i64 u], .int .i64 0]) (by simp [results, Tryz.results11, go_sem, *]) rfl ⟨rfl, by go_grown⟩
set_option maxHeartbeats 4000000 in
set_option maxRecDepth 100000 in
theorem rb_4 {n : Nat} (x y m1 m2 m3 m4 : Int) (W : World) (hn : 1 ≤ n) (A1 : ∀ w, Gr W w → Calls Tryz.prog 33 #[.agg #[.int .i64 4, .slice (some ⟨B, off, none⟩) n cap]] w fun e w' => e = .returned (.int .i64 0) ∧ Gr w w')
    (A2 : ∀ w, Gr W w → Calls Tryz.prog 37 #[.slice (some ⟨B, off, none⟩) n cap] w fun e w' => e = .returned (.tuple #[.agg #[.int .i64 m1, .int .i64 m2, .int .i64 m3, .int .i64 m4], .int .i64 0, .int .i64 0]) ∧ Gr w w')
    (p0 : W.cell? ⟨B, off, none⟩ = some (.int .i64 x)) (p1 : W.cell? ⟨B, off + 1, none⟩ = some (.int .i64 y)) (hB : B < W.heap.size) :
    Calls Tryz.prog 11 #[.agg #[.int .i64 4, .slice (some ⟨B, off, none⟩) n cap]] W fun e w' => e = .returned (.tuple #[.agg #[.int .i64 m1, .int .i64 m2, .int .i64 m3, .int .i64 m4], .int .i64 0]) ∧ Gr W w' := by
  have nB : ¬ B = W.heap.size := by omega
  have nB1 : ¬ B = W.heap.size + 1 := by omega
  have hn3 : (0 : Int) < n := by omega
  have hn4 : 0 < n := by omega
  have H1 := Lib.hid A1
  have H2 := Lib.hid A2
  clear A1 A2
  go_enter Tryz.func11, Tryz.ntmps11
  go_wp2_with fail
  go_at_call 33
  refine ((H1.out _ (by go_grown))).mono ?_
  rintro e w1 ⟨rfl, hw1⟩
  have cw1_0_0 : w1.cell? ⟨W.heap.size, 0, none⟩ = some (.int .i64 4) := cell_gr hw1 (by go_simp)
  have cw1_0_1 : w1.cell? ⟨W.heap.size, 1, none⟩ = some (.slice (some ⟨B, off, none⟩) n cap) := cell_gr hw1 (by go_simp)
  have zw1_0 : W.heap.size < w1.heap.size := World.block_lt_of_cell? _ _ cw1_0_0
  have cw1_1_0 : w1.cell? ⟨W.heap.size + 1, 0, none⟩ = some (.int .i64 0) := cell_gr hw1 (by go_simp)
  have fw1_1_0 : w1.frozen? ⟨W.heap.size + 1, 0, none⟩ = false := frozen_gr (v := .int .i64 0) hw1 (by go_simp) (by go_simp)
  have cw1_1_1 : w1.cell? ⟨W.heap.size + 1, 1, none⟩ = some (.int .i64 0) := cell_gr hw1 (by go_simp)
  have fw1_1_1 : w1.frozen? ⟨W.heap.size + 1, 1, none⟩ = false := frozen_gr (v := .int .i64 0) hw1 (by go_simp) (by go_simp)
  have cw1_1_2 : w1.cell? ⟨W.heap.size + 1, 2, none⟩ = some (.int .i64 0) := cell_gr hw1 (by go_simp)
  have fw1_1_2 : w1.frozen? ⟨W.heap.size + 1, 2, none⟩ = false := frozen_gr (v := .int .i64 0) hw1 (by go_simp) (by go_simp)
  have cw1_1_3 : w1.cell? ⟨W.heap.size + 1, 3, none⟩ = some (.int .i64 0) := cell_gr hw1 (by go_simp)
  have fw1_1_3 : w1.frozen? ⟨W.heap.size + 1, 3, none⟩ = false := frozen_gr (v := .int .i64 0) hw1 (by go_simp) (by go_simp)
  have zw1_1 : W.heap.size + 1 < w1.heap.size := World.block_lt_of_cell? _ _ cw1_1_0
  have cw1_2_0 : w1.cell? ⟨B, off, none⟩ = some (.int .i64 x) := cell_gr hw1 (by go_simp)
  have cw1_2_1 : w1.cell? ⟨B, off + 1, none⟩ = some (.int .i64 y) := cell_gr hw1 (by go_simp)
  have zw1_2 : B < w1.heap.size := World.block_lt_of_cell? _ _ cw1_2_0
  have gw1 : Gr W w1 := Gr.trans (by go_grown) hw1
  clear hw1
  have GS := gw1.size
  have nb : ¬ W.heap.size + 1 = w1.heap.size := by omega
  have nb2 : ¬ w1.heap.size = W.heap.size + 1 := by omega
  go_wp2_with fail
  go_at_call 37
  refine ((H2.out _ (by have gg := gw1; have gs := gg.size; go_grown))).mono ?_
  rintro e w2 ⟨rfl, hw2⟩
  have cw2_0_0 : w2.cell? ⟨W.heap.size, 0, none⟩ = some (.int .i64 4) := cell_gr hw2 (by go_simp)
  have cw2_0_1 : w2.cell? ⟨W.heap.size, 1, none⟩ = some (.slice (some ⟨B, off, none⟩) n cap) := cell_gr hw2 (by go_simp)
  have zw2_0 : W.heap.size < w2.heap.size := World.block_lt_of_cell? _ _ cw2_0_0
  have cw2_1_0 : w2.cell? ⟨W.heap.size + 1, 0, none⟩ = some (.int .i64 0) := cell_gr hw2 (by go_simp)
  have fw2_1_0 : w2.frozen? ⟨W.heap.size + 1, 0, none⟩ = false := frozen_gr (v := .int .i64 0) hw2 (by go_simp) (by go_simp)
  have cw2_1_1 : w2.cell? ⟨W.heap.size + 1, 1, none⟩ = some (.int .i64 0) := cell_gr hw2 (by go_simp)
  have fw2_1_1 : w2.frozen? ⟨W.heap.size + 1, 1, none⟩ = false := frozen_gr (v := .int .i64 0) hw2 (by go_simp) (by go_simp)
  have cw2_1_2 : w2.cell? ⟨W.heap.size + 1, 2, none⟩ = some (.int .i64 0) := cell_gr hw2 (by go_simp)
  have fw2_1_2 : w2.frozen? ⟨W.heap.size + 1, 2, none⟩ = false := frozen_gr (v := .int .i64 0) hw2 (by go_simp) (by go_simp)
  have cw2_1_3 : w2.cell? ⟨W.heap.size + 1, 3, none⟩ = some (.int .i64 0) := cell_gr hw2 (by go_simp)
  have fw2_1_3 : w2.frozen? ⟨W.heap.size + 1, 3, none⟩ = false := frozen_gr (v := .int .i64 0) hw2 (by go_simp) (by go_simp)
  have zw2_1 : W.heap.size + 1 < w2.heap.size := World.block_lt_of_cell? _ _ cw2_1_0
  have cw2_2_0 : w2.cell? ⟨B, off, none⟩ = some (.int .i64 x) := cell_gr hw2 (by go_simp)
  have cw2_2_1 : w2.cell? ⟨B, off + 1, none⟩ = some (.int .i64 y) := cell_gr hw2 (by go_simp)
  have zw2_2 : B < w2.heap.size := World.block_lt_of_cell? _ _ cw2_2_0
  have gw2 : Gr W w2 := Gr.trans (by have gg := gw1; have gs := gg.size; go_grown) hw2
  clear hw2 gw1 zw1_0 cw1_0_0 cw1_0_1 zw1_1 cw1_1_0 fw1_1_0 cw1_1_1 fw1_1_1 cw1_1_2 fw1_1_2 cw1_1_3 fw1_1_3 zw1_2 cw1_2_0 cw1_2_1
  have GS2 := gw2.size
  have nc : ¬ W.heap.size + 1 = w2.heap.size := by omega
  have nc2 : ¬ w2.heap.size = W.heap.size + 1 := by omega
  go_wp2_with fail
  refine bodyPost_ret (v := .tuple #[.agg #[.int .i64 m1, .int .i64 m2, .int .i64 m3, .int .i64 m4], .int .i64 0]) (by simp [results, Tryz.results11, go_sem, *]) rfl ⟨rfl, by go_grown⟩
end
set_option maxHeartbeats 4000000 in
set_option maxRecDepth 100000 in
theorem rb_no (k : Int) (ad : Option Addr) (n cap c : Nat) (W : World) (hc : c ≠ 0) (A1 : ∀ w, Gr W w → Calls Tryz.prog 33 #[.agg #[.int .i64 k, .slice ad n cap]] w fun e w' => e = .returned (.int .i64 (c : Nat)) ∧ Gr w w') :
    Calls Tryz.prog 11 #[.agg #[.int .i64 k, .slice ad n cap]] W fun e w' => e = .returned (.tuple #[.agg #[.int .i64 0, .int .i64 0, .int .i64 0, .int .i64 0], .int .i64 (c : Nat)]) ∧ Gr W w' := by
  have e1 : ((c : Int) != 0) = true := by simp; omega
  have e2 : (c != 0) = true := by simp; omega
  have H1 := Lib.hid A1
  clear A1
  clear hc
  go_enter Tryz.func11, Tryz.ntmps11
  go_wp2_with fail
  go_at_call 33
  refine ((H1.out _ (by go_grown))).mono ?_
  rintro e w1 ⟨rfl, hw1⟩
  have cw1_0_0 : w1.cell? ⟨W.heap.size, 0, none⟩ = some (.int .i64 k) := cell_gr hw1 (by go_simp)
  have cw1_0_1 : w1.cell? ⟨W.heap.size, 1, none⟩ = some (.slice ad n cap) := cell_gr hw1 (by go_simp)
  have zw1_0 : W.heap.size < w1.heap.size := World.block_lt_of_cell? _ _ cw1_0_0
  have cw1_1_0 : w1.cell? ⟨W.heap.size + 1, 0, none⟩ = some (.int .i64 0) := cell_gr hw1 (by go_simp)
  have fw1_1_0 : w1.frozen? ⟨W.heap.size + 1, 0, none⟩ = false := frozen_gr (v := .int .i64 0) hw1 (by go_simp) (by go_simp)
  have cw1_1_1 : w1.cell? ⟨W.heap.size + 1, 1, none⟩ = some (.int .i64 0) := cell_gr hw1 (by go_simp)
  have fw1_1_1 : w1.frozen? ⟨W.heap.size + 1, 1, none⟩ = false := frozen_gr (v := .int .i64 0) hw1 (by go_simp) (by go_simp)
  have cw1_1_2 : w1.cell? ⟨W.heap.size + 1, 2, none⟩ = some (.int .i64 0) := cell_gr hw1 (by go_simp)
  have fw1_1_2 : w1.frozen? ⟨W.heap.size + 1, 2, none⟩ = false := frozen_gr (v := .int .i64 0) hw1 (by go_simp) (by go_simp)
  have cw1_1_3 : w1.cell? ⟨W.heap.size + 1, 3, none⟩ = some (.int .i64 0) := cell_gr hw1 (by go_simp)
  have fw1_1_3 : w1.frozen? ⟨W.heap.size + 1, 3, none⟩ = false := frozen_gr (v := .int .i64 0) hw1 (by go_simp) (by go_simp)
  have zw1_1 : W.heap.size + 1 < w1.heap.size := World.block_lt_of_cell? _ _ cw1_1_0
  have gw1 : Gr W w1 := Gr.trans (by go_grown) hw1
  clear hw1
  have GS := gw1.size
  go_wp2_with fail
  refine bodyPost_ret (v := .tuple #[.agg #[.int .i64 0, .int .i64 0, .int .i64 0, .int .i64 0], .int .i64 (c : Nat)]) (by simp [results, Tryz.results11, go_sem, *]) rfl ⟨rfl, by go_grown⟩
section
variable {k : Int} {n : Nat} {X Y : Nat → Int} {v : Value}
theorem c_rBoundsOk (W : World) (h : Pts W v n X Y) (hc : objC k n X Y = 0) : Calls Tryz.prog 11 #[.agg #[.int .i64 k, v]] W fun e w' => e = .returned (.tuple #[.agg #[.int .i64 (bLx k n X), .int .i64 (bLy k n Y), .int .i64 (bHx k n X Y), .int .i64 (bHy k n Y)], .int .i64 0]) ∧ Gr W w' := by
  have A1 : ∀ w, Gr W w → Calls Tryz.prog 33 #[.agg #[.int .i64 k, v]] w fun e w' => e = .returned (.int .i64 0) ∧ Gr w w' := fun w g => by
    have := c_rCheck k w (pts_gr h g)
    rw [hc] at this
    exact this
  have hh := h
  obtain ⟨ad, cap, B, off, rfl, q1, q2, q3, q4⟩ := h
  by_cases k4 : k = 4
  · unfold bLx bLy bHx bHy
    rw [if_pos k4, if_pos k4, if_pos k4, if_pos k4]
    subst k4
    rw [objC_4] at hc
    have h3 := (Rg.ringC_ok hc).1
    obtain rfl := q3 (by omega)
    obtain ⟨c0, c1⟩ := q4 0 (by omega)
    rw [Nat.zero_mul, Nat.add_zero] at c0 c1
    exact rb_4 (X 0) (Y 0) _ _ _ _ W (by omega) A1 (fun w g => c_rRingBox_ok w (pts_gr hh g) (Rg.ringC_ok hc).2.2.2) c0 c1 (World.block_lt_of_cell? _ _ c0)
  · unfold bLx bLy bHx bHy
    rw [if_neg k4, if_neg k4, if_neg k4, if_neg k4]
    obtain ⟨hk, -, -⟩ := obj_box hc k4
    unfold oLy oHx oHy
    rcases hk with ⟨rfl, rfl⟩ | ⟨rfl, rfl⟩ | ⟨rfl, rfl⟩
    · obtain rfl := q3 (by omega)
      obtain ⟨c0, c1⟩ := q4 0 (by omega)
      rw [Nat.zero_mul, Nat.add_zero] at c0 c1
      exact rb_1 (X 0) (Y 0) W A1 c0 c1 (World.block_lt_of_cell? _ _ c0)
    · obtain rfl := q3 (by omega)
      obtain ⟨c0, c1⟩ := q4 0 (by omega)
      rw [Nat.zero_mul, Nat.add_zero] at c0 c1
      exact rb_2 (X 0) (Y 0) W A1 c0 c1 (World.block_lt_of_cell? _ _ c0)
    · obtain rfl := q3 (by omega)
      obtain ⟨c0, c1⟩ := q4 0 (by omega)
      obtain ⟨c2, c3⟩ := q4 1 (by omega)
      rw [Nat.zero_mul, Nat.add_zero] at c0 c1
      rw [Nat.one_mul] at c2 c3
      exact rb_3 (X 0) (Y 0) (X 1) (Y 1) W A1 c0 c1 c2 c3 (World.block_lt_of_cell? _ _ c0)
theorem c_rBoundsNo (W : World) (h : Pts W v n X Y) (hc : objC k n X Y ≠ 0) : Calls Tryz.prog 11 #[.agg #[.int .i64 k, v]] W fun e w' => e = .returned (.tuple #[.agg #[.int .i64 0, .int .i64 0, .int .i64 0, .int .i64 0], .int .i64 (objC k n X Y : Nat)]) ∧ Gr W w' := by
  have A1 := fun w (g : Gr W w) => c_rCheck k w (pts_gr h g)
  obtain ⟨ad, cap, B, off, rfl, -⟩ := h
  exact rb_no k ad n cap _ W hc A1
end
set_option maxHeartbeats 8000000 in
set_option maxRecDepth 100000 in
theorem c_rringBox {n : Nat} {X Y : Nat → Int} {v : Value} (lx ly hx hy : Int) (W : World) (h : Pts W v n X Y) (h0 : (Rg.ringC n X Y).1 = 0) (hb : boxB lx ly hx hy = true) :
    Calls Tryz.prog 44 #[v, .agg #[.int .i64 lx, .int .i64 ly, .int .i64 hx, .int .i64 hy]] W fun e w' => e = .returned (.bool (rmD n X Y lx ly hx hy)) ∧ Gr W w' := by
  obtain ⟨hn0, hnr, -⟩ := Rg.ringC_ok h0
  have A1 : ∀ w, Gr W w → _ := fun w g => c_rhas w (pts_gr h g) (by omega) hnr lx ly (boxB_iff.1 hb).1.1
  have E : rmD n X Y lx ly hx hy = true ↔ Rg.hasN n X Y lx ly = true ∨ ∃ i, i < n ∧ mbG (X i) (Y i) (X (Rg.nx1 n i)) (Y (Rg.nx1 n i)) lx ly hx hy = true := by unfold rmD; rw [Bool.or_eq_true, mbW_iff]
  generalize rmD n X Y lx ly hx hy = z at E ⊢
  generalize Rg.hasN n X Y lx ly = t at A1 E
  have HE := Lib.hid E
  have hn9 : (n : Int) ≤ 64 := by omega
  have hn8 : n ≤ 64 := by omega
  obtain ⟨ad, cap, B, off, rfl, q1, q2, h3, h4⟩ := h
  have H3 := Lib.hid h3
  have H4 := Lib.hid h4
  have HA := Lib.hid A1
  clear h3 h4 A1 E hnr h0 hb hn0
  cases t
  · go_enter Tryz.func44, Tryz.ntmps44
    go_wp2_with fail
    go_at_call 47
    refine ((HA.out _ (by go_grown))).mono ?_
    rintro e w1 ⟨rfl, hw1⟩
    have cw1_0_0 : w1.cell? ⟨W.heap.size, 0, none⟩ = some (.int .i64 lx) := cell_gr hw1 (by go_simp)
    have cw1_0_1 : w1.cell? ⟨W.heap.size, 1, none⟩ = some (.int .i64 ly) := cell_gr hw1 (by go_simp)
    have cw1_0_2 : w1.cell? ⟨W.heap.size, 2, none⟩ = some (.int .i64 hx) := cell_gr hw1 (by go_simp)
    have cw1_0_3 : w1.cell? ⟨W.heap.size, 3, none⟩ = some (.int .i64 hy) := cell_gr hw1 (by go_simp)
    have zw1_0 : W.heap.size < w1.heap.size := World.block_lt_of_cell? _ _ cw1_0_0
    have gw1 : Gr W w1 := Gr.trans (by go_grown) hw1
    clear hw1
    go_wp2_with fail
    go_loopg [5] n (fun k u wr => ∃ i : Nat, u = .int .i64 i ∧ i ≤ n ∧ k = n - i ∧ Hid (∀ j, j < i → mbG (X j) (Y j) (X (Rg.nx1 n j)) (Y (Rg.nx1 n j)) lx ly hx hy = false) ∧ wr.cell? ⟨W.heap.size, 0, none⟩ = some (.int .i64 lx) ∧ wr.cell? ⟨W.heap.size, 1, none⟩ = some (.int .i64 ly) ∧ wr.cell? ⟨W.heap.size, 2, none⟩ = some (.int .i64 hx) ∧ wr.cell? ⟨W.heap.size, 3, none⟩ = some (.int .i64 hy) ∧ Gr W wr)
    case atStart => exact ⟨0, rfl, Nat.zero_le _, by omega, Lib.hid (fun j hj => absurd hj (by omega)), cw1_0_0, cw1_0_1, cw1_0_2, cw1_0_3, gw1⟩
    case round =>
      obtain ⟨i, rfl, hi, hk, HO, c0, c1, c2, c3, gwr⟩ := hrel
      have zp : W.heap.size < wr.heap.size := World.block_lt_of_cell? _ _ c0
      clear gw1 cw1_0_0 cw1_0_1 cw1_0_2 cw1_0_3 zw1_0
      by_cases hlt : i < n
      · have ti : decide ((i : Int) < (n : Int)) = true := decide_eq_true (by omega)
        have ti2 : decide (i < n) = true := decide_eq_true hlt
        have hii : (i : Int) ≤ 1000 := by omega
        have hmm : n - (i + 1) < gk := by omega
        have hnx := nx_lt hlt
        obtain ⟨k0, k1⟩ := H4.out i hlt
        obtain ⟨m0, m1⟩ := H4.out _ hnx
        obtain rfl := H3.out (by omega)
        have s0 := cell_gr gwr k0
        have s1 := cell_gr gwr k1
        have r0 := cell_gr gwr m0
        have r1 := cell_gr gwr m1
        have zB : B < wr.heap.size := World.block_lt_of_cell? _ _ s0
        have hrem := nx_rem hlt (by omega : n ≤ 1000000)
        have CO := c_rMeetsBox (X i) (Y i) (X (Rg.nx1 n i)) (Y (Rg.nx1 n i)) lx ly hx hy
        have HM := Lib.hid (show mbG (X i) (Y i) (X (Rg.nx1 n i)) (Y (Rg.nx1 n i)) lx ly hx hy = true → z = true from fun q => HE.out.2 (Or.inr ⟨i, hlt, q⟩))
        have HN := Lib.hid (show mbG (X i) (Y i) (X (Rg.nx1 n i)) (Y (Rg.nx1 n i)) lx ly hx hy = false → Hid (∀ j, j < i + 1 → mbG (X j) (Y j) (X (Rg.nx1 n j)) (Y (Rg.nx1 n j)) lx ly hx hy = false) from fun q => Lib.hid (fun j hj => by
          rcases Nat.lt_or_ge j i with g | g
          · exact HO.out j g
          · obtain rfl : j = i := by omega
            exact q))
        generalize mbG (X i) (Y i) (X (Rg.nx1 n i)) (Y (Rg.nx1 n i)) lx ly hx hy = og at CO HM HN
        generalize X (Rg.nx1 n i) = xj at *
        generalize Y (Rg.nx1 n i) = yj at *
        generalize X i = xi at *
        generalize Y i = yi at *
        generalize Rg.nx1 n i = j at *
        have HCO := Lib.hid CO
        have hj9 : (j : Int) ≤ 1000 := by omega
        have tj : decide ((j : Int) < (n : Int)) = true := decide_eq_true (by omega)
        have tj3 : (j : Int) < (n : Int) := by omega
        have ti3 : (i : Int) < (n : Int) := by omega
        have nz : ((n : Int) == 0) = false := by simp; omega
        have nz2 : (n : Int) ≠ 0 := by omega
        have nz3 : (0 : Int) < n := by omega
        have q1 := hrem.1
        have q2 := hrem.2
        have w1 : IntKind.i64.wrap ((i : Int) + 1) = (i : Int) + 1 := IntWalk.i64_in _ (by omega)
        have w2 : IntKind.i64.wrap (j : Int) = (j : Int) := IntWalk.i64_in _ (by omega)
        clear CO k0 k1 m0 m1 hk hrem
        go_wp2_with fail
        try simp only [List.append]
        refine Od.wp_region_ord [(0, false), (1, false), (2, false), (3, false), (4, false), (5, false), (6, false), (7, false), (8, false), (9, false), (10, false), (11, false), (12, false), (13, true)] (by kernel_rfl) (by kernel_rfl) ?_
        intro wa hwa KQ hKQ
        have cwa_0_0 : wa.cell? ⟨W.heap.size, 0, none⟩ = some (.int .i64 lx) := cell_gr hwa (by go_simp)
        have cwa_0_1 : wa.cell? ⟨W.heap.size, 1, none⟩ = some (.int .i64 ly) := cell_gr hwa (by go_simp)
        have cwa_0_2 : wa.cell? ⟨W.heap.size, 2, none⟩ = some (.int .i64 hx) := cell_gr hwa (by go_simp)
        have cwa_0_3 : wa.cell? ⟨W.heap.size, 3, none⟩ = some (.int .i64 hy) := cell_gr hwa (by go_simp)
        have zwa_0 : W.heap.size < wa.heap.size := World.block_lt_of_cell? _ _ cwa_0_0
        have cwa_1_0 : wa.cell? ⟨B, off + i * 2, none⟩ = some (.int .i64 xi) := cell_gr hwa (by go_simp)
        have cwa_1_1 : wa.cell? ⟨B, off + i * 2 + 1, none⟩ = some (.int .i64 yi) := cell_gr hwa (by go_simp)
        have cwa_1_2 : wa.cell? ⟨B, off + j * 2, none⟩ = some (.int .i64 xj) := cell_gr hwa (by go_simp)
        have cwa_1_3 : wa.cell? ⟨B, off + j * 2 + 1, none⟩ = some (.int .i64 yj) := cell_gr hwa (by go_simp)
        have zwa_1 : B < wa.heap.size := World.block_lt_of_cell? _ _ cwa_1_0
        have gwa : Gr W wa := Gr.trans (by have gg := gwr; have gs := gg.size; go_grown) hwa
        clear gwr
        clear hwa
        repeat (first | (refine Od.wpO_skip (by simp only [List.getElem?_toArray, List.getElem?_cons_succ, List.getElem?_cons_zero] <;> rfl) rfl ?_; simp only [Act.put, List.setIfInBounds_toArray, List.set_cons_zero, List.set_cons_succ]) | (refine Od.wpO_pure (by simp only [List.getElem?_toArray, List.getElem?_cons_succ, List.getElem?_cons_zero] <;> rfl) rfl ?_; apply Exists.intro; refine ⟨?_, ?_⟩; (· intro wx gx; obtain ⟨mx, rfl⟩ := spread_of_gr gx; clear gx; all_goals (apply Od.pAt_of_quiet; intro K hK; go_big_quiet_op; first | exact hK _ rfl | (apply Exists.intro; refine ⟨fun _ => ?_, ?_⟩; (· fail); exact hK _ rfl))); try simp only [Act.put, List.setIfInBounds_toArray, List.set_cons_zero, List.set_cons_succ]))
        refine Od.wpO_call (by simp only [List.getElem?_toArray, List.getElem?_cons_succ, List.getElem?_cons_zero] <;> rfl) rfl ?_
        intro QS hQS
        go_wp2_with fail
        go_at_call 71
        (with_reducible refine ((HCO.out _)).mono ?_)
        rintro e wb ⟨rfl, hwb⟩
        go_wp2_with fail
        apply Exists.intro
        refine ⟨?_, hwb, ?_⟩
        · simp only [Act.put, List.setIfInBounds_toArray, List.set_cons_zero, List.set_cons_succ]; rfl
        have cwb_0_0 : wb.cell? ⟨W.heap.size, 0, none⟩ = some (.int .i64 lx) := cell_gr hwb (by go_simp)
        have cwb_0_1 : wb.cell? ⟨W.heap.size, 1, none⟩ = some (.int .i64 ly) := cell_gr hwb (by go_simp)
        have cwb_0_2 : wb.cell? ⟨W.heap.size, 2, none⟩ = some (.int .i64 hx) := cell_gr hwb (by go_simp)
        have cwb_0_3 : wb.cell? ⟨W.heap.size, 3, none⟩ = some (.int .i64 hy) := cell_gr hwb (by go_simp)
        have zwb_0 : W.heap.size < wb.heap.size := World.block_lt_of_cell? _ _ cwb_0_0
        have cwb_1_0 : wb.cell? ⟨B, off + i * 2, none⟩ = some (.int .i64 xi) := cell_gr hwb (by go_simp)
        have cwb_1_1 : wb.cell? ⟨B, off + i * 2 + 1, none⟩ = some (.int .i64 yi) := cell_gr hwb (by go_simp)
        have cwb_1_2 : wb.cell? ⟨B, off + j * 2, none⟩ = some (.int .i64 xj) := cell_gr hwb (by go_simp)
        have cwb_1_3 : wb.cell? ⟨B, off + j * 2 + 1, none⟩ = some (.int .i64 yj) := cell_gr hwb (by go_simp)
        have zwb_1 : B < wb.heap.size := World.block_lt_of_cell? _ _ cwb_1_0
        have gwb : Gr W wb := Gr.trans (by have gg := gwa; have gs := gg.size; go_grown) hwb
        clear gwa zwa_0 cwa_0_0 cwa_0_1 cwa_0_2 cwa_0_3 zwa_1 cwa_1_0 cwa_1_1 cwa_1_2 cwa_1_3
        clear hwb
        try simp only [Act.put, List.setIfInBounds_toArray, List.set_cons_zero, List.set_cons_succ]
        repeat (first | (refine Od.wpO_skip (by simp only [List.getElem?_toArray, List.getElem?_cons_succ, List.getElem?_cons_zero] <;> rfl) rfl ?_; simp only [Act.put, List.setIfInBounds_toArray, List.set_cons_zero, List.set_cons_succ]) | (refine Od.wpO_pure (by simp only [List.getElem?_toArray, List.getElem?_cons_succ, List.getElem?_cons_zero] <;> rfl) rfl ?_; apply Exists.intro; refine ⟨?_, ?_⟩; (· intro wx gx; obtain ⟨mx, rfl⟩ := spread_of_gr gx; clear gx; all_goals (apply Od.pAt_of_quiet; intro K hK; go_big_quiet_op; first | exact hK _ rfl | (apply Exists.intro; refine ⟨fun _ => ?_, ?_⟩; (· fail); exact hK _ rfl))); try simp only [Act.put, List.setIfInBounds_toArray, List.set_cons_zero, List.set_cons_succ]))
        refine Od.wpO_nil (hKQ _ _ ?_)
        clear hKQ KQ
        cases og
        · go_wp2_with fail
          go_roundg (n - (i + 1))
          case measure => exact hmm
          case rel => exact ⟨i + 1, by go_num, hlt, rfl, HN.out (by first | trivial | rfl), cwb_0_0, cwb_0_1, cwb_0_2, cwb_0_3, gwb⟩
        · go_wp2_with fail
          go_ret
          exact ⟨by rw [HM.out (by first | trivial | rfl)]; rfl, gwb⟩
      · obtain rfl : i = n := by omega
        have ti : decide ((i : Int) < (i : Int)) = false := decide_eq_false (by omega)
        have ti2 : decide (i < i) = false := decide_eq_false (by omega)
        obtain rfl : z = false := by
          cases z
          · rfl
          · exfalso
            rcases HE.out.1 rfl with g | ⟨j, hj, g⟩
            · cases g
            · rw [HO.out j hj] at g; cases g
        clear hk HO
        go_wp2_with fail
        go_ret
        exact ⟨rfl, gwr⟩
  · obtain rfl : z = true := HE.out.2 (Or.inl rfl)
    go_enter Tryz.func44, Tryz.ntmps44
    go_wp2_with fail
    go_at_call 47
    refine ((HA.out _ (by go_grown))).mono ?_
    rintro e w1 ⟨rfl, hw1⟩
    have cw1_0_0 : w1.cell? ⟨W.heap.size, 0, none⟩ = some (.int .i64 lx) := cell_gr hw1 (by go_simp)
    have cw1_0_1 : w1.cell? ⟨W.heap.size, 1, none⟩ = some (.int .i64 ly) := cell_gr hw1 (by go_simp)
    have cw1_0_2 : w1.cell? ⟨W.heap.size, 2, none⟩ = some (.int .i64 hx) := cell_gr hw1 (by go_simp)
    have cw1_0_3 : w1.cell? ⟨W.heap.size, 3, none⟩ = some (.int .i64 hy) := cell_gr hw1 (by go_simp)
    have zw1_0 : W.heap.size < w1.heap.size := World.block_lt_of_cell? _ _ cw1_0_0
    have gw1 : Gr W w1 := Gr.trans (by go_grown) hw1
    clear hw1
    go_wp2_with fail
    go_ret
    exact ⟨rfl, gw1⟩
end Go.Proofs.YtfobmlgpjhghdaaGreatDoor
namespace Go.Proofs.YtfobmlgpjhghdaaGreatDoor
set_option linter.unusedVariables false
set_option linter.unusedSimpArgs false
open Go.ChangeShapes Go.WideShapes Go.ChangeAt Go.RowKit
set_option maxHeartbeats 8000000 in
set_option maxRecDepth 100000 in
theorem rrings_no {n m B off cap C oc bcap : Nat} {X Y P Q : Nat → Int} (z : Bool) (W : World) (hn0 : 1 ≤ n) (hn8 : n ≤ 64) (hm0 : 1 ≤ m) (hm8 : m ≤ 64)
    (h4 : ∀ k, k < n → W.cell? ⟨B, off + k * 2, none⟩ = some (.int .i64 (X k)) ∧ W.cell? ⟨B, off + k * 2 + 1, none⟩ = some (.int .i64 (Y k)))
    (r4 : ∀ k, k < m → W.cell? ⟨C, oc + k * 2, none⟩ = some (.int .i64 (P k)) ∧ W.cell? ⟨C, oc + k * 2 + 1, none⟩ = some (.int .i64 (Q k)))
    (A1 : ∀ w, Gr W w → Calls Tryz.prog 47 #[.slice (some ⟨B, off, none⟩) n cap, .agg #[.int .i64 (P 0), .int .i64 (Q 0)]] w fun e w' => e = .returned (.bool false) ∧ Gr w w')
    (A2 : ∀ w, Gr W w → Calls Tryz.prog 47 #[.slice (some ⟨C, oc, none⟩) m bcap, .agg #[.int .i64 (X 0), .int .i64 (Y 0)]] w fun e w' => e = .returned (.bool false) ∧ Gr w w')
    (E : z = true ↔ ∃ i k, i < n ∧ k < m ∧ meG (X i) (Y i) (X (Rg.nx1 n i)) (Y (Rg.nx1 n i)) (P k) (Q k) (P (Rg.nx1 m k)) (Q (Rg.nx1 m k)) = true) :
    Calls Tryz.prog 43 #[.slice (some ⟨B, off, none⟩) n cap, .slice (some ⟨C, oc, none⟩) m bcap] W fun e w' => e = .returned (.bool z) ∧ Gr W w' := by
  have HE := Lib.hid E
  have H4 := Lib.hid h4
  have R4 := Lib.hid r4
  obtain ⟨a0, a1⟩ := h4 0 (by omega)
  obtain ⟨b0, b1⟩ := r4 0 (by omega)
  rw [Nat.zero_mul, Nat.add_zero] at a0 a1 b0 b1
  have hn9 : (n : Int) ≤ 64 := by omega
  have hm9 : (m : Int) ≤ 64 := by omega
  have hn3 : (0 : Int) < n := by omega
  have hm3 : (0 : Int) < m := by omega
  have hn4 : 0 < n := by omega
  have hm4 : 0 < m := by omega
  have zB0 : B < W.heap.size := World.block_lt_of_cell? _ _ a0
  have zC0 : C < W.heap.size := World.block_lt_of_cell? _ _ b0
  generalize hx0 : X 0 = x0 at a0 A2
  generalize hy0 : Y 0 = y0 at a1 A2
  generalize hp0 : P 0 = p0 at b0 A1
  generalize hq0 : Q 0 = q0 at b1 A1
  clear hx0 hy0 hp0 hq0
  have H1 := Lib.hid A1
  have H2 := Lib.hid A2
  clear A1 A2
  clear h4 r4 E
  go_enter Tryz.func43, Tryz.ntmps43
  go_wp2_with fail
  go_at_call 47
  refine ((H1.out _ (by go_grown))).mono ?_
  rintro e w1 ⟨rfl, hw1⟩
  have cw1_0_0 : w1.cell? ⟨B, off, none⟩ = some (.int .i64 x0) := cell_gr hw1 (by go_simp)
  have cw1_0_1 : w1.cell? ⟨B, off + 1, none⟩ = some (.int .i64 y0) := cell_gr hw1 (by go_simp)
  have zw1_0 : B < w1.heap.size := World.block_lt_of_cell? _ _ cw1_0_0
  have cw1_1_0 : w1.cell? ⟨C, oc, none⟩ = some (.int .i64 p0) := cell_gr hw1 (by go_simp)
  have cw1_1_1 : w1.cell? ⟨C, oc + 1, none⟩ = some (.int .i64 q0) := cell_gr hw1 (by go_simp)
  have zw1_1 : C < w1.heap.size := World.block_lt_of_cell? _ _ cw1_1_0
  have gw1 : Gr W w1 := Gr.trans (by go_grown) hw1
  clear hw1
  go_wp2_with fail
  go_at_call 47
  refine ((H2.out _ gw1)).mono ?_
  rintro e w2 ⟨rfl, hw2⟩
  have cw2_0_0 : w2.cell? ⟨B, off, none⟩ = some (.int .i64 x0) := cell_gr hw2 (by go_simp)
  have cw2_0_1 : w2.cell? ⟨B, off + 1, none⟩ = some (.int .i64 y0) := cell_gr hw2 (by go_simp)
  have zw2_0 : B < w2.heap.size := World.block_lt_of_cell? _ _ cw2_0_0
  have cw2_1_0 : w2.cell? ⟨C, oc, none⟩ = some (.int .i64 p0) := cell_gr hw2 (by go_simp)
  have cw2_1_1 : w2.cell? ⟨C, oc + 1, none⟩ = some (.int .i64 q0) := cell_gr hw2 (by go_simp)
  have zw2_1 : C < w2.heap.size := World.block_lt_of_cell? _ _ cw2_1_0
  have gw2 : Gr W w2 := Gr.trans (by have gg := gw1; have gs := gg.size; go_grown) hw2
  clear hw2 gw1 zw1_0 cw1_0_0 cw1_0_1 zw1_1 cw1_1_0 cw1_1_1
  clear a0 a1 b0 b1 H1 H2 cw2_0_0 cw2_0_1 cw2_1_0 cw2_1_1 zw2_0 zw2_1
  go_wp2_with fail
  go_loopg [5] n (fun g u wr => ∃ i : Nat, u = .int .i64 i ∧ i ≤ n ∧ g = n - i ∧ Hid (∀ a b, a < i → b < m → meG (X a) (Y a) (X (Rg.nx1 n a)) (Y (Rg.nx1 n a)) (P b) (Q b) (P (Rg.nx1 m b)) (Q (Rg.nx1 m b)) = false) ∧ Gr W wr)
  case atStart => exact ⟨0, rfl, Nat.zero_le _, by omega, Lib.hid (fun a b ha => absurd ha (by omega)), gw2⟩
  case round =>
    obtain ⟨i, rfl, hi, hgk, HO, gwr⟩ := hrel
    clear gw2
    by_cases hlt : i < n
    · have ti : decide ((i : Int) < (n : Int)) = true := decide_eq_true (by omega)
      have ti2 : decide (i < n) = true := decide_eq_true hlt
      have hmm : n - (i + 1) < gk := by omega
      clear hgk
      go_wp2_with fail
      go_loopg [6] m (fun g u wt => ∃ k : Nat, u = .int .i64 k ∧ k ≤ m ∧ g = m - k ∧ Hid (∀ b, b < k → meG (X i) (Y i) (X (Rg.nx1 n i)) (Y (Rg.nx1 n i)) (P b) (Q b) (P (Rg.nx1 m b)) (Q (Rg.nx1 m b)) = false) ∧ Gr W wt)
      case atStart => exact ⟨0, rfl, Nat.zero_le _, by omega, Lib.hid (fun b hb => absurd hb (by omega)), gwr⟩
      case round =>
        obtain ⟨k, rfl, hk, hgj, HP, gwt⟩ := hrel
        by_cases hlk : k < m
        · have tk : decide ((k : Int) < (m : Int)) = true := decide_eq_true (by omega)
          have tk2 : decide (k < m) = true := decide_eq_true hlk
          have hkm : m - (k + 1) < gk := by omega
          have hii : (i : Int) ≤ 1000 := by omega
          have hkk : (k : Int) ≤ 1000 := by omega
          have hnx := nx_lt hlt
          have hny := nx_lt hlk
          obtain ⟨k0, k1⟩ := H4.out i hlt
          obtain ⟨m0, m1⟩ := H4.out _ hnx
          obtain ⟨l0, l1⟩ := R4.out k hlk
          obtain ⟨o0, o1⟩ := R4.out _ hny
          have s0 := cell_gr gwt k0
          have s1 := cell_gr gwt k1
          have r0 := cell_gr gwt m0
          have r1 := cell_gr gwt m1
          have t0 := cell_gr gwt l0
          have t1 := cell_gr gwt l1
          have u0 := cell_gr gwt o0
          have u1 := cell_gr gwt o1
          have zB : B < wr.heap.size := World.block_lt_of_cell? _ _ s0
          have zC : C < wr.heap.size := World.block_lt_of_cell? _ _ t0
          have hrem := nx_rem hlt (by omega : n ≤ 1000000)
          have hren := nx_rem hlk (by omega : m ≤ 1000000)
          have CO := c_rMeet (X i) (Y i) (X (Rg.nx1 n i)) (Y (Rg.nx1 n i)) (P k) (Q k) (P (Rg.nx1 m k)) (Q (Rg.nx1 m k))
          have HM := Lib.hid (show meG (X i) (Y i) (X (Rg.nx1 n i)) (Y (Rg.nx1 n i)) (P k) (Q k) (P (Rg.nx1 m k)) (Q (Rg.nx1 m k)) = true → z = true from fun q => HE.out.2 ⟨i, k, hlt, hlk, q⟩)
          have HN := Lib.hid (show meG (X i) (Y i) (X (Rg.nx1 n i)) (Y (Rg.nx1 n i)) (P k) (Q k) (P (Rg.nx1 m k)) (Q (Rg.nx1 m k)) = false → Hid (∀ b, b < k + 1 → meG (X i) (Y i) (X (Rg.nx1 n i)) (Y (Rg.nx1 n i)) (P b) (Q b) (P (Rg.nx1 m b)) (Q (Rg.nx1 m b)) = false) from fun q => Lib.hid (fun b hb => by
            rcases Nat.lt_or_ge b k with g | g
            · exact HP.out b g
            · obtain rfl : b = k := by omega
              exact q))
          generalize meG (X i) (Y i) (X (Rg.nx1 n i)) (Y (Rg.nx1 n i)) (P k) (Q k) (P (Rg.nx1 m k)) (Q (Rg.nx1 m k)) = og at CO HM HN
          clear HP HO
          generalize X (Rg.nx1 n i) = xj at CO r0
          generalize Y (Rg.nx1 n i) = yj at CO r1
          generalize X i = xi at CO s0
          generalize Y i = yi at CO s1
          generalize P (Rg.nx1 m k) = pj at CO u0
          generalize Q (Rg.nx1 m k) = qj at CO u1
          generalize P k = pk at CO t0
          generalize Q k = qk at CO t1
          generalize Rg.nx1 n i = j at r0 r1 hnx hrem
          generalize Rg.nx1 m k = l at u0 u1 hny hren
          have HCO := Lib.hid CO
          have hj9 : (j : Int) ≤ 1000 := by omega
          have hl9 : (l : Int) ≤ 1000 := by omega
          have tj : decide ((j : Int) < (n : Int)) = true := decide_eq_true (by omega)
          have tj3 : (j : Int) < (n : Int) := by omega
          have ti3 : (i : Int) < (n : Int) := by omega
          have tl : decide ((l : Int) < (m : Int)) = true := decide_eq_true (by omega)
          have tl3 : (l : Int) < (m : Int) := by omega
          have tk3 : (k : Int) < (m : Int) := by omega
          have nz : ((n : Int) == 0) = false := by simp; omega
          have nz2 : (n : Int) ≠ 0 := by omega
          have mz : ((m : Int) == 0) = false := by simp; omega
          have mz2 : (m : Int) ≠ 0 := by omega
          have q1 := hrem.1
          have q2 := hrem.2
          have q3 := hren.1
          have q4 := hren.2
          have w1 : IntKind.i64.wrap ((i : Int) + 1) = (i : Int) + 1 := IntWalk.i64_in _ (by omega)
          have w2 : IntKind.i64.wrap (j : Int) = (j : Int) := IntWalk.i64_in _ (by omega)
          have w3 : IntKind.i64.wrap ((k : Int) + 1) = (k : Int) + 1 := IntWalk.i64_in _ (by omega)
          have w4 : IntKind.i64.wrap (l : Int) = (l : Int) := IntWalk.i64_in _ (by omega)
          clear CO k0 k1 m0 m1 l0 l1 o0 o1 hgj hrem hren
          go_wp2_with fail
          try simp only [List.append]
          refine Od.wp_region_ord [(0, false), (1, false), (2, false), (3, false), (4, false), (5, false), (6, false), (7, false), (8, false), (9, false), (10, false), (11, false), (12, false), (13, false), (14, false), (15, false), (16, false), (17, false), (18, false), (19, false), (20, false), (21, false), (22, false), (23, false), (24, true)] (by kernel_rfl) (by kernel_rfl) ?_
          intro wa hwa KQ hKQ
          have cwa_0_0 : wa.cell? ⟨B, off + i * 2, none⟩ = some (.int .i64 xi) := cell_gr hwa (by go_simp)
          have cwa_0_1 : wa.cell? ⟨B, off + i * 2 + 1, none⟩ = some (.int .i64 yi) := cell_gr hwa (by go_simp)
          have cwa_0_2 : wa.cell? ⟨B, off + j * 2, none⟩ = some (.int .i64 xj) := cell_gr hwa (by go_simp)
          have cwa_0_3 : wa.cell? ⟨B, off + j * 2 + 1, none⟩ = some (.int .i64 yj) := cell_gr hwa (by go_simp)
          have zwa_0 : B < wa.heap.size := World.block_lt_of_cell? _ _ cwa_0_0
          have cwa_1_0 : wa.cell? ⟨C, oc + k * 2, none⟩ = some (.int .i64 pk) := cell_gr hwa (by go_simp)
          have cwa_1_1 : wa.cell? ⟨C, oc + k * 2 + 1, none⟩ = some (.int .i64 qk) := cell_gr hwa (by go_simp)
          have cwa_1_2 : wa.cell? ⟨C, oc + l * 2, none⟩ = some (.int .i64 pj) := cell_gr hwa (by go_simp)
          have cwa_1_3 : wa.cell? ⟨C, oc + l * 2 + 1, none⟩ = some (.int .i64 qj) := cell_gr hwa (by go_simp)
          have zwa_1 : C < wa.heap.size := World.block_lt_of_cell? _ _ cwa_1_0
          have gwa : Gr W wa := Gr.trans (by have gg := gwr; have gs := gg.size; go_grown) hwa
          clear gwr
          clear hwa
          repeat (first | (refine Od.wpO_skip (by simp only [List.getElem?_toArray, List.getElem?_cons_succ, List.getElem?_cons_zero] <;> rfl) rfl ?_; simp only [Act.put, List.setIfInBounds_toArray, List.set_cons_zero, List.set_cons_succ]) | (refine Od.wpO_pure (by simp only [List.getElem?_toArray, List.getElem?_cons_succ, List.getElem?_cons_zero] <;> rfl) rfl ?_; apply Exists.intro; refine ⟨?_, ?_⟩; (· intro wx gx; obtain ⟨mx, rfl⟩ := spread_of_gr gx; clear gx; all_goals (apply Od.pAt_of_quiet; intro K hK; go_big_quiet_op; first | exact hK _ rfl | (apply Exists.intro; refine ⟨fun _ => ?_, ?_⟩; (· fail); exact hK _ rfl))); try simp only [Act.put, List.setIfInBounds_toArray, List.set_cons_zero, List.set_cons_succ]))
          refine Od.wpO_call (by simp only [List.getElem?_toArray, List.getElem?_cons_succ, List.getElem?_cons_zero] <;> rfl) rfl ?_
          intro QS hQS
          go_wp2_with fail
          go_at_call 70
          (with_reducible refine ((HCO.out _)).mono ?_)
          rintro e wb ⟨rfl, hwb⟩
          go_wp2_with fail
          apply Exists.intro
          refine ⟨?_, hwb, ?_⟩
          · simp only [Act.put, List.setIfInBounds_toArray, List.set_cons_zero, List.set_cons_succ]; rfl
          have cwb_0_0 : wb.cell? ⟨B, off + i * 2, none⟩ = some (.int .i64 xi) := cell_gr hwb (by go_simp)
          have cwb_0_1 : wb.cell? ⟨B, off + i * 2 + 1, none⟩ = some (.int .i64 yi) := cell_gr hwb (by go_simp)
          have cwb_0_2 : wb.cell? ⟨B, off + j * 2, none⟩ = some (.int .i64 xj) := cell_gr hwb (by go_simp)
          have cwb_0_3 : wb.cell? ⟨B, off + j * 2 + 1, none⟩ = some (.int .i64 yj) := cell_gr hwb (by go_simp)
          have zwb_0 : B < wb.heap.size := World.block_lt_of_cell? _ _ cwb_0_0
          have cwb_1_0 : wb.cell? ⟨C, oc + k * 2, none⟩ = some (.int .i64 pk) := cell_gr hwb (by go_simp)
          have cwb_1_1 : wb.cell? ⟨C, oc + k * 2 + 1, none⟩ = some (.int .i64 qk) := cell_gr hwb (by go_simp)
          have cwb_1_2 : wb.cell? ⟨C, oc + l * 2, none⟩ = some (.int .i64 pj) := cell_gr hwb (by go_simp)
          have cwb_1_3 : wb.cell? ⟨C, oc + l * 2 + 1, none⟩ = some (.int .i64 qj) := cell_gr hwb (by go_simp)
          have zwb_1 : C < wb.heap.size := World.block_lt_of_cell? _ _ cwb_1_0
          have gwb : Gr W wb := Gr.trans (by have gg := gwa; have gs := gg.size; go_grown) hwb
          clear gwa zwa_0 cwa_0_0 cwa_0_1 cwa_0_2 cwa_0_3 zwa_1 cwa_1_0 cwa_1_1 cwa_1_2 cwa_1_3
          clear hwb
          try simp only [Act.put, List.setIfInBounds_toArray, List.set_cons_zero, List.set_cons_succ]
          repeat (first | (refine Od.wpO_skip (by simp only [List.getElem?_toArray, List.getElem?_cons_succ, List.getElem?_cons_zero] <;> rfl) rfl ?_; simp only [Act.put, List.setIfInBounds_toArray, List.set_cons_zero, List.set_cons_succ]) | (refine Od.wpO_pure (by simp only [List.getElem?_toArray, List.getElem?_cons_succ, List.getElem?_cons_zero] <;> rfl) rfl ?_; apply Exists.intro; refine ⟨?_, ?_⟩; (· intro wx gx; obtain ⟨mx, rfl⟩ := spread_of_gr gx; clear gx; all_goals (apply Od.pAt_of_quiet; intro K hK; go_big_quiet_op; first | exact hK _ rfl | (apply Exists.intro; refine ⟨fun _ => ?_, ?_⟩; (· fail); exact hK _ rfl))); try simp only [Act.put, List.setIfInBounds_toArray, List.set_cons_zero, List.set_cons_succ]))
          refine Od.wpO_nil (hKQ _ _ ?_)
          clear hKQ KQ
          cases og
          · go_wp2_with fail
            go_roundg (m - (k + 1))
            case measure => exact hkm
            case rel => exact ⟨k + 1, by go_num, hlk, rfl, HN.out (by first | trivial | rfl), gwb⟩
          · go_wp2_with fail
            go_ret
            exact ⟨by rw [HM.out (by first | trivial | rfl)]; rfl, gwb⟩
        · obtain rfl : k = m := by omega
          have tk : decide ((k : Int) < (k : Int)) = false := decide_eq_false (by omega)
          have tk2 : decide (k < k) = false := decide_eq_false (by omega)
          have HQ := Lib.hid (show Hid (∀ a b, a < i + 1 → b < k → meG (X a) (Y a) (X (Rg.nx1 n a)) (Y (Rg.nx1 n a)) (P b) (Q b) (P (Rg.nx1 k b)) (Q (Rg.nx1 k b)) = false) from Lib.hid (fun a b ha hb => by
            rcases Nat.lt_or_ge a i with g | g
            · exact HO.out a b g hb
            · obtain rfl : a = i := by omega
              exact HP.out b hb))
          clear hgj HP HO
          go_wp2_with fail
          go_roundg (n - (i + 1))
          case measure => exact hmm
          case rel => exact ⟨i + 1, by go_num, hlt, rfl, HQ.out, gwt⟩
    · obtain rfl : i = n := by omega
      have ti : decide ((i : Int) < (i : Int)) = false := decide_eq_false (by omega)
      have ti2 : decide (i < i) = false := decide_eq_false (by omega)
      obtain rfl : z = false := by
        cases z
        · rfl
        · exfalso
          obtain ⟨a, b, ha, hb, g⟩ := HE.out.1 rfl
          rw [HO.out a b ha hb] at g
          cases g
      clear hgk HO
      go_wp2_with fail
      go_ret
      exact ⟨rfl, gwr⟩
set_option maxHeartbeats 8000000 in
set_option maxRecDepth 100000 in
theorem rrings_yes {n m B off cap C oc bcap : Nat} {x0 y0 p0 q0 : Int} (t1 t2 : Bool) (W : World) (hn0 : 1 ≤ n) (hm0 : 1 ≤ m) (ht : t1 = true ∨ t2 = true)
    (a0 : W.cell? ⟨B, off, none⟩ = some (.int .i64 x0)) (a1 : W.cell? ⟨B, off + 1, none⟩ = some (.int .i64 y0)) (b0 : W.cell? ⟨C, oc, none⟩ = some (.int .i64 p0)) (b1 : W.cell? ⟨C, oc + 1, none⟩ = some (.int .i64 q0))
    (A1 : ∀ w, Gr W w → Calls Tryz.prog 47 #[.slice (some ⟨B, off, none⟩) n cap, .agg #[.int .i64 p0, .int .i64 q0]] w fun e w' => e = .returned (.bool t1) ∧ Gr w w')
    (A2 : ∀ w, Gr W w → Calls Tryz.prog 47 #[.slice (some ⟨C, oc, none⟩) m bcap, .agg #[.int .i64 x0, .int .i64 y0]] w fun e w' => e = .returned (.bool t2) ∧ Gr w w') :
    Calls Tryz.prog 43 #[.slice (some ⟨B, off, none⟩) n cap, .slice (some ⟨C, oc, none⟩) m bcap] W fun e w' => e = .returned (.bool true) ∧ Gr W w' := by
  have hn3 : (0 : Int) < n := by omega
  have hm3 : (0 : Int) < m := by omega
  have hn4 : 0 < n := by omega
  have hm4 : 0 < m := by omega
  have zB0 : B < W.heap.size := World.block_lt_of_cell? _ _ a0
  have zC0 : C < W.heap.size := World.block_lt_of_cell? _ _ b0
  have H1 := Lib.hid A1
  have H2 := Lib.hid A2
  clear A1 A2
  cases t1
  · obtain rfl : t2 = true := ht.resolve_left (by decide)
    go_enter Tryz.func43, Tryz.ntmps43
    go_wp2_with fail
    go_at_call 47
    refine ((H1.out _ (by go_grown))).mono ?_
    rintro e w1 ⟨rfl, hw1⟩
    have cw1_0_0 : w1.cell? ⟨B, off, none⟩ = some (.int .i64 x0) := cell_gr hw1 (by go_simp)
    have cw1_0_1 : w1.cell? ⟨B, off + 1, none⟩ = some (.int .i64 y0) := cell_gr hw1 (by go_simp)
    have zw1_0 : B < w1.heap.size := World.block_lt_of_cell? _ _ cw1_0_0
    have cw1_1_0 : w1.cell? ⟨C, oc, none⟩ = some (.int .i64 p0) := cell_gr hw1 (by go_simp)
    have cw1_1_1 : w1.cell? ⟨C, oc + 1, none⟩ = some (.int .i64 q0) := cell_gr hw1 (by go_simp)
    have zw1_1 : C < w1.heap.size := World.block_lt_of_cell? _ _ cw1_1_0
    have gw1 : Gr W w1 := Gr.trans (by go_grown) hw1
    clear hw1
    go_wp2_with fail
    go_at_call 47
    refine ((H2.out _ gw1)).mono ?_
    rintro e w2 ⟨rfl, hw2⟩
    have cw2_0_0 : w2.cell? ⟨B, off, none⟩ = some (.int .i64 x0) := cell_gr hw2 (by go_simp)
    have cw2_0_1 : w2.cell? ⟨B, off + 1, none⟩ = some (.int .i64 y0) := cell_gr hw2 (by go_simp)
    have zw2_0 : B < w2.heap.size := World.block_lt_of_cell? _ _ cw2_0_0
    have cw2_1_0 : w2.cell? ⟨C, oc, none⟩ = some (.int .i64 p0) := cell_gr hw2 (by go_simp)
    have cw2_1_1 : w2.cell? ⟨C, oc + 1, none⟩ = some (.int .i64 q0) := cell_gr hw2 (by go_simp)
    have zw2_1 : C < w2.heap.size := World.block_lt_of_cell? _ _ cw2_1_0
    have gw2 : Gr W w2 := Gr.trans (by have gg := gw1; have gs := gg.size; go_grown) hw2
    clear hw2 gw1 zw1_0 cw1_0_0 cw1_0_1 zw1_1 cw1_1_0 cw1_1_1
    go_wp2_with fail
    go_ret
    exact ⟨rfl, gw2⟩
  · clear H2 ht
    go_enter Tryz.func43, Tryz.ntmps43
    go_wp2_with fail
    go_at_call 47
    refine ((H1.out _ (by go_grown))).mono ?_
    rintro e w1 ⟨rfl, hw1⟩
    have cw1_0_0 : w1.cell? ⟨B, off, none⟩ = some (.int .i64 x0) := cell_gr hw1 (by go_simp)
    have cw1_0_1 : w1.cell? ⟨B, off + 1, none⟩ = some (.int .i64 y0) := cell_gr hw1 (by go_simp)
    have zw1_0 : B < w1.heap.size := World.block_lt_of_cell? _ _ cw1_0_0
    have cw1_1_0 : w1.cell? ⟨C, oc, none⟩ = some (.int .i64 p0) := cell_gr hw1 (by go_simp)
    have cw1_1_1 : w1.cell? ⟨C, oc + 1, none⟩ = some (.int .i64 q0) := cell_gr hw1 (by go_simp)
    have zw1_1 : C < w1.heap.size := World.block_lt_of_cell? _ _ cw1_1_0
    have gw1 : Gr W w1 := Gr.trans (by go_grown) hw1
    clear hw1
    go_wp2_with fail
    go_ret
    exact ⟨rfl, gw1⟩
theorem c_rrings {n m : Nat} {X Y P Q : Nat → Int} {v u : Value} (W : World) (h : Pts W v n X Y) (hu : Pts W u m P Q) (h0 : (Rg.ringC n X Y).1 = 0) (h9 : (Rg.ringC m P Q).1 = 0) : Calls Tryz.prog 43 #[v, u] W fun e w' => e = .returned (.bool (rgD n X Y m P Q)) ∧ Gr W w' := by
  obtain ⟨hn0, hnr, -⟩ := Rg.ringC_ok h0
  obtain ⟨hm0, hmr, -⟩ := Rg.ringC_ok h9
  have A1 : ∀ w, Gr W w → _ := fun w g => c_rhas w (pts_gr h g) (by omega) hnr (P 0) (Q 0) (hmr 0 (by omega))
  have A2 : ∀ w, Gr W w → _ := fun w g => c_rhas w (pts_gr hu g) (by omega) hmr (X 0) (Y 0) (hnr 0 (by omega))
  have E := rgD_iff (n := n) (m := m) (X := X) (Y := Y) (P := P) (Q := Q)
  obtain ⟨ad, cap, B, off, rfl, q1, q2, q3, q4⟩ := h
  obtain ⟨bd, bcap, C, oc, rfl, r1, r2, r3, r4⟩ := hu
  obtain rfl := q3 (by omega)
  obtain rfl := r3 (by omega)
  by_cases t : Rg.hasN n X Y (P 0) (Q 0) = true ∨ Rg.hasN m P Q (X 0) (Y 0) = true
  · have e : rgD n X Y m P Q = true := E.2 (by rcases t with t | t <;> simp [t])
    rw [e]
    obtain ⟨a0, a1⟩ := q4 0 (by omega)
    obtain ⟨b0, b1⟩ := r4 0 (by omega)
    rw [Nat.zero_mul, Nat.add_zero] at a0 a1 b0 b1
    exact rrings_yes _ _ W (by omega) (by omega) t a0 a1 b0 b1 A1 A2
  · have t1 : Rg.hasN n X Y (P 0) (Q 0) = false := by
      cases g : Rg.hasN n X Y (P 0) (Q 0)
      · rfl
      · exact absurd (Or.inl g) t
    have t2 : Rg.hasN m P Q (X 0) (Y 0) = false := by
      cases g : Rg.hasN m P Q (X 0) (Y 0)
      · rfl
      · exact absurd (Or.inr g) t
    rw [t1] at A1
    rw [t2] at A2
    refine rrings_no (rgD n X Y m P Q) W (by omega) (by omega) (by omega) (by omega) q4 r4 A1 A2 ?_
    rw [E, t1, t2]
    simp
theorem meV_m (lx ly hx hy mx my nx ny : Int) : meV lx ly hx hy mx my nx ny = (boxB lx ly hx hy && boxB mx my nx ny && meetB lx ly hx hy mx my nx ny) := by
  unfold meV meetB
  simp only [Bool.and_assoc]
end Go.Proofs.YtfobmlgpjhghdaaGreatDoor
namespace Go.Proofs.YtfobmlgpjhghdaaGreatDoor
set_option linter.unusedVariables false
set_option linter.unusedSimpArgs false
open Go.ChangeShapes Go.WideShapes Go.ChangeAt Go.RowKit
def tcA (k : Int) (n : Nat) (X Y : Nat → Int) (j : Int) (m : Nat) (P Q : Nat → Int) : Bool :=
  if j = 4 then (if k = 4 then rgV n X Y m P Q else rmV m P Q (X 0) (oLy k Y) (oHx k X Y) (oHy k Y))
  else (if k = 4 then rmV n X Y (P 0) (oLy j Q) (oHx j P Q) (oHy j Q) else meV (X 0) (oLy k Y) (oHx k X Y) (oHy k Y) (P 0) (oLy j Q) (oHx j P Q) (oHy j Q))
section
variable {k j : Int} {n m : Nat} {X Y P Q : Nat → Int} {v u : Value}
set_option maxHeartbeats 4000000 in
set_option maxRecDepth 100000 in
theorem c_MeetAny (W : World) (h : Pts W v n X Y) (hu : Pts W u m P Q) (hc : objC k n X Y = 0) (hd : objC j m P Q = 0) :
    Calls Tryz.prog 49 #[.agg #[.int .i64 k, v], .agg #[.int .i64 j, u]] W fun e w' => e = .returned (.bool (tcA k n X Y j m P Q)) ∧ Gr W w' := by
  unfold tcA
  by_cases j4 : j = 4
  · rw [if_pos j4]
    have A1 : ∀ w, Gr W w → Calls Tryz.prog 69 #[.agg #[.int .i64 k, v], u] w fun e w' => e = .returned (.bool (if k = 4 then rgV n X Y m P Q else rmV m P Q (X 0) (oLy k Y) (oHx k X Y) (oHy k Y))) ∧ Gr w w' := fun w g => by
      subst j4
      rw [objC_4] at hd
      by_cases k4 : k = 4
      · subst k4
        rw [if_pos rfl]
        rw [objC_4] at hc
        exact c_meetsRingA w (pts_gr h g) hc (pts_gr hu g) hd
      · rw [if_neg k4]
        exact c_meetsRingB w (bl_of (pts_gr h g) hc k4).1 (pts_gr hu g) hd
    generalize (if k = 4 then rgV n X Y m P Q else rmV m P Q (X 0) (oLy k Y) (oHx k X Y) (oHy k Y)) = z at A1 ⊢
    subst j4
    obtain ⟨ad, cap, _, _, rfl, -⟩ := h
    obtain ⟨bd, bcap, _, _, rfl, -⟩ := hu
    have H1 := Lib.hid A1
    clear A1
    clear hc hd
    go_enter Tryz.func49, Tryz.ntmps49
    go_wp2_with fail
    go_at_call 69
    refine ((H1.out _ (by go_grown))).mono ?_
    rintro e w1 ⟨rfl, hw1⟩
    have cw1_0_0 : w1.cell? ⟨W.heap.size, 0, none⟩ = some (.int .i64 k) := cell_gr hw1 (by go_simp)
    have cw1_0_1 : w1.cell? ⟨W.heap.size, 1, none⟩ = some (.slice ad n cap) := cell_gr hw1 (by go_simp)
    have zw1_0 : W.heap.size < w1.heap.size := World.block_lt_of_cell? _ _ cw1_0_0
    have cw1_1_0 : w1.cell? ⟨W.heap.size + 1, 0, none⟩ = some (.int .i64 4) := cell_gr hw1 (by go_simp)
    have cw1_1_1 : w1.cell? ⟨W.heap.size + 1, 1, none⟩ = some (.slice bd m bcap) := cell_gr hw1 (by go_simp)
    have zw1_1 : W.heap.size + 1 < w1.heap.size := World.block_lt_of_cell? _ _ cw1_1_0
    have gw1 : Gr W w1 := Gr.trans (by go_grown) hw1
    clear hw1
    go_wp2_with fail
    go_ret
    exact ⟨rfl, gw1⟩
  · rw [if_neg j4]
    have b4 : (j == 4) = false := by simp; omega
    have A2 : ∀ w, Gr W w → Calls Tryz.prog 36 #[.agg #[.int .i64 j, u]] w fun e w' => e = .returned (.agg #[.int .i64 (P 0), .int .i64 (oLy j Q), .int .i64 (oHx j P Q), .int .i64 (oHy j Q)]) ∧ Gr w w' := (bl_of hu hd j4).1.2.2
    generalize P 0 = m1 at A2 ⊢
    generalize oLy j Q = m2 at A2 ⊢
    generalize oHx j P Q = m3 at A2 ⊢
    generalize oHy j Q = m4 at A2 ⊢
    have A1 : ∀ w, Gr W w → Calls Tryz.prog 68 #[.agg #[.int .i64 k, v], .agg #[.int .i64 m1, .int .i64 m2, .int .i64 m3, .int .i64 m4]] w fun e w' => e = .returned (.bool (if k = 4 then rmV n X Y m1 m2 m3 m4 else meV (X 0) (oLy k Y) (oHx k X Y) (oHy k Y) m1 m2 m3 m4)) ∧ Gr w w' := fun w g => by
      by_cases k4 : k = 4
      · subst k4
        rw [if_pos rfl]
        rw [objC_4] at hc
        exact c_meetsBoxA m1 m2 m3 m4 w (pts_gr h g) hc
      · rw [if_neg k4]
        exact c_meetsBoxB m1 m2 m3 m4 w (bl_of (pts_gr h g) hc k4).1
    generalize (if k = 4 then rmV n X Y m1 m2 m3 m4 else meV (X 0) (oLy k Y) (oHx k X Y) (oHy k Y) m1 m2 m3 m4) = z at A1 ⊢
    obtain ⟨ad, cap, _, _, rfl, -⟩ := h
    obtain ⟨bd, bcap, _, _, rfl, -⟩ := hu
    have H1 := Lib.hid A1
    have H2 := Lib.hid A2
    clear A1 A2
    clear hc hd j4
    go_enter Tryz.func49, Tryz.ntmps49
    go_wp2_with fail
    go_wp2_with fail
    refine wp_region_spread (by kernel_rfl) (by kernel_rfl) ?_
    try simp only [List.append]
    repeat (first | go_big_quiet_skip | (go_big_quiet_want; go_big_quiet_op; (first | go_big_quiet_on | (apply Exists.intro; refine ⟨fun _ => ?_, ?_⟩; (· (first | (go_at_call 36; first | ((with_reducible refine ((H2.out _ (Gr.trans (by go_grown) (gr_spread _ _)))).mono ?_); rintro e w' ⟨rfl, hg⟩; exact ⟨rfl, spread_gr hg⟩)) | (go_at_call 68; first | ((with_reducible refine ((H1.out _ (Gr.trans (by go_grown) (gr_spread _ _)))).mono ?_); rintro e w' ⟨rfl, hg⟩; exact ⟨rfl, spread_gr hg⟩)))); go_big_quiet_on))))
    refine wpQuiet_nil ?_
    intro w1 hhw1
    have hw1 := Hd.gr_of_spread hhw1
    have cw1_0_0 : w1.cell? ⟨W.heap.size, 0, none⟩ = some (.int .i64 k) := cell_gr hw1 (by go_simp)
    have cw1_0_1 : w1.cell? ⟨W.heap.size, 1, none⟩ = some (.slice ad n cap) := cell_gr hw1 (by go_simp)
    have zw1_0 : W.heap.size < w1.heap.size := World.block_lt_of_cell? _ _ cw1_0_0
    have cw1_1_0 : w1.cell? ⟨W.heap.size + 1, 0, none⟩ = some (.int .i64 j) := cell_gr hw1 (by go_simp)
    have cw1_1_1 : w1.cell? ⟨W.heap.size + 1, 1, none⟩ = some (.slice bd m bcap) := cell_gr hw1 (by go_simp)
    have zw1_1 : W.heap.size + 1 < w1.heap.size := World.block_lt_of_cell? _ _ cw1_1_0
    have gw1 : Gr W w1 := Gr.trans (by go_grown) hw1
    clear hw1 hhw1
    go_wp2_with fail
    go_ret
    exact ⟨rfl, by have gg := gw1; have gs := gg.size; go_grown⟩
end
section
variable {k j : Int}
set_option maxHeartbeats 4000000 in
set_option maxRecDepth 100000 in
theorem touch_core (ad bd : Option Addr) (n cap m bcap c d : Nat) (z : Bool) (W : World) (hE : ErrT W)
    (A1 : ∀ w, Gr W w → Calls Tryz.prog 34 #[.agg #[.int .i64 k, .slice ad n cap]] w fun e w' => ∃ x, e = .returned x ∧ WErr objectS w' x k c ∧ Gr w w')
    (A2 : ∀ w, Gr W w → Calls Tryz.prog 34 #[.agg #[.int .i64 j, .slice bd m bcap]] w fun e w' => ∃ x, e = .returned x ∧ WErr objectS w' x j d ∧ Gr w w')
    (A3 : c = 0 → d = 0 → ∀ w, Gr W w → Calls Tryz.prog 49 #[.agg #[.int .i64 k, .slice ad n cap], .agg #[.int .i64 j, .slice bd m bcap]] w fun e w' => e = .returned (.bool z) ∧ Gr w w') :
    Calls Tryz.prog 17 #[.agg #[.int .i64 k, .slice ad n cap], .agg #[.int .i64 j, .slice bd m bcap]] W fun e w' => e = .returned (.bool (decide (c = 0) && decide (d = 0) && z)) ∧ Gr W w' := by
  have B1 : ∀ w, Gr W w → Calls Tryz.prog 34 #[.agg #[.int .i64 k, .slice ad n cap]] w fun e w' => ∃ x, e = .returned x ∧ (NF x ∧ (x = .nilIface ↔ c = 0)) ∧ Gr w w' := fun w g => (A1 w g).mono (by
    rintro e w' ⟨x, rfl, hx, g'⟩
    exact ⟨x, rfl, werr_nf hx, g'⟩)
  have B2 : ∀ w, Gr W w → Calls Tryz.prog 34 #[.agg #[.int .i64 j, .slice bd m bcap]] w fun e w' => ∃ x, e = .returned x ∧ (NF x ∧ (x = .nilIface ↔ d = 0)) ∧ Gr w w' := fun w g => (A2 w g).mono (by
    rintro e w' ⟨x, rfl, hx, g'⟩
    exact ⟨x, rfl, werr_nf hx, g'⟩)
  have B4 : ∀ (w : World) (D : Nat) (x y : Value) (q : Bool), Gr W w → w.cell? ⟨D, 0, none⟩ = some x → w.cell? ⟨D, 1, none⟩ = some y → NF x → NF y → (q = true ↔ x = .nilIface ∧ y = .nilIface) → Calls Tryz.prog 39 #[.slice (some ⟨D, 0, none⟩) 2 2] w fun e w' => e = .returned (.bool q) ∧ Gr w w' := fun w D x y q g h0 h1 n0 n1 hq =>
    c_allowed (D := D) (n := 2) (cap := 2) (e := fun k => if k = 0 then x else y) w (errT_gr hE g) (by omega) (fun k hk => by match k, hk with | 0, _ => exact h0 | 1, _ => exact h1) (fun k hk => by match k, hk with | 0, _ => exact n0 | 1, _ => exact n1) (World.block_lt_of_cell? _ _ h0) (Nat.le_refl _) q (by
      rw [hq]
      constructor
      · rintro ⟨a, b⟩ k hk
        match k, hk with
        | 0, _ => exact a
        | 1, _ => exact b
      · intro h
        exact ⟨h 0 (by omega), h 1 (by omega)⟩)
  clear A1 A2 hE
  by_cases hc : c = 0
  · rw [decide_eq_true hc, Bool.true_and]
    by_cases hd : d = 0
    · rw [decide_eq_true hd, Bool.true_and]
      have C3 := A3 hc hd
      have C1 : ∀ w, Gr W w → Calls Tryz.prog 34 #[.agg #[.int .i64 k, .slice ad n cap]] w fun e w' => e = .returned .nilIface ∧ Gr w w' := fun w g => (B1 w g).mono (by
        rintro e w' ⟨x, rfl, ⟨-, hx⟩, g'⟩
        obtain rfl := hx.2 hc
        exact ⟨rfl, g'⟩)
      have C2 : ∀ w, Gr W w → Calls Tryz.prog 34 #[.agg #[.int .i64 j, .slice bd m bcap]] w fun e w' => e = .returned .nilIface ∧ Gr w w' := fun w g => (B2 w g).mono (by
        rintro e w' ⟨x, rfl, ⟨-, hx⟩, g'⟩
        obtain rfl := hx.2 hd
        exact ⟨rfl, g'⟩)
      have H1 := Lib.hid C1
      have H2 := Lib.hid C2
      have H3 := Lib.hid C3
      have H4 := Lib.hid B4
      clear C1 C2 C3 B4
      clear A3 B1 B2
      go_enter Tryz.func17, Tryz.ntmps17
      go_wp2_with fail
      try simp only [List.append]
      refine Od.wp_region_ord [(0, false), (2, false), (1, true), (3, true), (4, true), (5, true), (6, false), (7, false), (8, false), (9, true), (10, false), (11, false)] (by kernel_rfl) (by kernel_rfl) ?_
      intro w0 hw0 KQ hKQ
      have cw0_0_0 : w0.cell? ⟨W.heap.size, 0, none⟩ = some (.int .i64 k) := cell_gr hw0 (by go_simp)
      have cw0_0_1 : w0.cell? ⟨W.heap.size, 1, none⟩ = some (.slice ad n cap) := cell_gr hw0 (by go_simp)
      have zw0_0 : W.heap.size < w0.heap.size := World.block_lt_of_cell? _ _ cw0_0_0
      have cw0_1_0 : w0.cell? ⟨W.heap.size + 1, 0, none⟩ = some (.int .i64 j) := cell_gr hw0 (by go_simp)
      have cw0_1_1 : w0.cell? ⟨W.heap.size + 1, 1, none⟩ = some (.slice bd m bcap) := cell_gr hw0 (by go_simp)
      have zw0_1 : W.heap.size + 1 < w0.heap.size := World.block_lt_of_cell? _ _ cw0_1_0
      have gw0 : Gr W w0 := Gr.trans (by go_grown) hw0
      skip
      clear hw0
      repeat (first | (refine Od.wpO_skip (by simp only [List.getElem?_toArray, List.getElem?_cons_succ, List.getElem?_cons_zero] <;> rfl) rfl ?_; simp only [Act.put, List.setIfInBounds_toArray, List.set_cons_zero, List.set_cons_succ]) | (refine Od.wpO_pure (by simp only [List.getElem?_toArray, List.getElem?_cons_succ, List.getElem?_cons_zero] <;> rfl) rfl ?_; apply Exists.intro; refine ⟨?_, ?_⟩; (· intro wx gx; obtain ⟨mx, rfl⟩ := spread_of_gr gx; clear gx; all_goals (apply Od.pAt_of_quiet; intro K hK; go_big_quiet_op; first | exact hK _ rfl | (apply Exists.intro; refine ⟨fun _ => ?_, ?_⟩; (· fail); exact hK _ rfl))); try simp only [Act.put, List.setIfInBounds_toArray, List.set_cons_zero, List.set_cons_succ]))
      refine Od.wpO_call (by simp only [List.getElem?_toArray, List.getElem?_cons_succ, List.getElem?_cons_zero] <;> rfl) rfl ?_
      intro QS hQS
      go_wp2_with fail
      go_at_call 34
      (with_reducible refine ((H1.out _ gw0)).mono ?_)
      rintro e w1 ⟨rfl, hw1⟩
      go_wp2_with fail
      apply Exists.intro
      refine ⟨?_, hw1, ?_⟩
      · simp only [Act.put, List.setIfInBounds_toArray, List.set_cons_zero, List.set_cons_succ]; rfl
      have cw1_0_0 : w1.cell? ⟨W.heap.size, 0, none⟩ = some (.int .i64 k) := cell_gr hw1 (by go_simp)
      have cw1_0_1 : w1.cell? ⟨W.heap.size, 1, none⟩ = some (.slice ad n cap) := cell_gr hw1 (by go_simp)
      have zw1_0 : W.heap.size < w1.heap.size := World.block_lt_of_cell? _ _ cw1_0_0
      have cw1_1_0 : w1.cell? ⟨W.heap.size + 1, 0, none⟩ = some (.int .i64 j) := cell_gr hw1 (by go_simp)
      have cw1_1_1 : w1.cell? ⟨W.heap.size + 1, 1, none⟩ = some (.slice bd m bcap) := cell_gr hw1 (by go_simp)
      have zw1_1 : W.heap.size + 1 < w1.heap.size := World.block_lt_of_cell? _ _ cw1_1_0
      have gw1 : Gr W w1 := Gr.trans (by have gg := gw0; have gs := gg.size; go_grown) hw1
      clear gw0 zw0_0 cw0_0_0 cw0_0_1 zw0_1 cw0_1_0 cw0_1_1
      clear hw1
      try simp only [Act.put, List.setIfInBounds_toArray, List.set_cons_zero, List.set_cons_succ]
      repeat (first | (refine Od.wpO_skip (by simp only [List.getElem?_toArray, List.getElem?_cons_succ, List.getElem?_cons_zero] <;> rfl) rfl ?_; simp only [Act.put, List.setIfInBounds_toArray, List.set_cons_zero, List.set_cons_succ]) | (refine Od.wpO_pure (by simp only [List.getElem?_toArray, List.getElem?_cons_succ, List.getElem?_cons_zero] <;> rfl) rfl ?_; apply Exists.intro; refine ⟨?_, ?_⟩; (· intro wx gx; obtain ⟨mx, rfl⟩ := spread_of_gr gx; clear gx; all_goals (apply Od.pAt_of_quiet; intro K hK; go_big_quiet_op; first | exact hK _ rfl | (apply Exists.intro; refine ⟨fun _ => ?_, ?_⟩; (· fail); exact hK _ rfl))); try simp only [Act.put, List.setIfInBounds_toArray, List.set_cons_zero, List.set_cons_succ]))
      refine Od.wpO_call (by simp only [List.getElem?_toArray, List.getElem?_cons_succ, List.getElem?_cons_zero] <;> rfl) rfl ?_
      intro QS hQS
      go_wp2_with fail
      go_at_call 34
      (with_reducible refine ((H2.out _ gw1)).mono ?_)
      rintro e w2 ⟨rfl, hw2⟩
      go_wp2_with fail
      apply Exists.intro
      refine ⟨?_, hw2, ?_⟩
      · simp only [Act.put, List.setIfInBounds_toArray, List.set_cons_zero, List.set_cons_succ]; rfl
      have cw2_0_0 : w2.cell? ⟨W.heap.size, 0, none⟩ = some (.int .i64 k) := cell_gr hw2 (by go_simp)
      have cw2_0_1 : w2.cell? ⟨W.heap.size, 1, none⟩ = some (.slice ad n cap) := cell_gr hw2 (by go_simp)
      have zw2_0 : W.heap.size < w2.heap.size := World.block_lt_of_cell? _ _ cw2_0_0
      have cw2_1_0 : w2.cell? ⟨W.heap.size + 1, 0, none⟩ = some (.int .i64 j) := cell_gr hw2 (by go_simp)
      have cw2_1_1 : w2.cell? ⟨W.heap.size + 1, 1, none⟩ = some (.slice bd m bcap) := cell_gr hw2 (by go_simp)
      have zw2_1 : W.heap.size + 1 < w2.heap.size := World.block_lt_of_cell? _ _ cw2_1_0
      have gw2 : Gr W w2 := Gr.trans (by have gg := gw1; have gs := gg.size; go_grown) hw2
      clear gw1 zw1_0 cw1_0_0 cw1_0_1 zw1_1 cw1_1_0 cw1_1_1
      clear hw2
      try simp only [Act.put, List.setIfInBounds_toArray, List.set_cons_zero, List.set_cons_succ]
      repeat (first | (refine Od.wpO_skip (by simp only [List.getElem?_toArray, List.getElem?_cons_succ, List.getElem?_cons_zero] <;> rfl) rfl ?_; simp only [Act.put, List.setIfInBounds_toArray, List.set_cons_zero, List.set_cons_succ]) | (refine Od.wpO_pure (by simp only [List.getElem?_toArray, List.getElem?_cons_succ, List.getElem?_cons_zero] <;> rfl) rfl ?_; apply Exists.intro; refine ⟨?_, ?_⟩; (· intro wx gx; obtain ⟨mx, rfl⟩ := spread_of_gr gx; clear gx; all_goals (apply Od.pAt_of_quiet; intro K hK; go_big_quiet_op; first | exact hK _ rfl | (apply Exists.intro; refine ⟨fun _ => ?_, ?_⟩; (· fail); exact hK _ rfl))); try simp only [Act.put, List.setIfInBounds_toArray, List.set_cons_zero, List.set_cons_succ]))
      refine Od.wpO_call (by simp only [List.getElem?_toArray, List.getElem?_cons_succ, List.getElem?_cons_zero] <;> rfl) rfl ?_
      intro QS hQS
      go_wp2_with fail
      first | (apply Exists.intro; refine ⟨?_, (by go_grown), ?_⟩; (· simp only [Act.put, List.setIfInBounds_toArray, List.set_cons_zero, List.set_cons_succ]; rfl)) | (refine ⟨(by go_grown), ?_⟩)
      generalize hhw3 : (w2.alloc (.cells #[.nilIface, .nilIface] 34)) = w3
      have hw3 : Gr w2 w3 := by subst hhw3; go_grown
      have cw3_0_0 : w3.cell? ⟨W.heap.size, 0, none⟩ = some (.int .i64 k) := by subst hhw3; go_simp
      have cw3_0_1 : w3.cell? ⟨W.heap.size, 1, none⟩ = some (.slice ad n cap) := by subst hhw3; go_simp
      have zw3_0 : W.heap.size < w3.heap.size := World.block_lt_of_cell? _ _ cw3_0_0
      have cw3_1_0 : w3.cell? ⟨W.heap.size + 1, 0, none⟩ = some (.int .i64 j) := by subst hhw3; go_simp
      have cw3_1_1 : w3.cell? ⟨W.heap.size + 1, 1, none⟩ = some (.slice bd m bcap) := by subst hhw3; go_simp
      have zw3_1 : W.heap.size + 1 < w3.heap.size := World.block_lt_of_cell? _ _ cw3_1_0
      have cw3_2_0 : w3.cell? ⟨w2.heap.size, 0, none⟩ = some (.nilIface) := by subst hhw3; go_simp
      have cw3_2_1 : w3.cell? ⟨w2.heap.size, 1, none⟩ = some (.nilIface) := by subst hhw3; go_simp
      have zw3_2 : w2.heap.size < w3.heap.size := World.block_lt_of_cell? _ _ cw3_2_0
      have gw3 : Gr W w3 := Gr.trans (by have gg := gw2; have gs := gg.size; go_grown) hw3
      clear hhw3 hw3 gw2 zw2_0 cw2_0_0 cw2_0_1 zw2_1 cw2_1_0 cw2_1_1
      try simp only [Act.put, List.setIfInBounds_toArray, List.set_cons_zero, List.set_cons_succ]
      repeat (first | (refine Od.wpO_skip (by simp only [List.getElem?_toArray, List.getElem?_cons_succ, List.getElem?_cons_zero] <;> rfl) rfl ?_; simp only [Act.put, List.setIfInBounds_toArray, List.set_cons_zero, List.set_cons_succ]) | (refine Od.wpO_pure (by simp only [List.getElem?_toArray, List.getElem?_cons_succ, List.getElem?_cons_zero] <;> rfl) rfl ?_; apply Exists.intro; refine ⟨?_, ?_⟩; (· intro wx gx; obtain ⟨mx, rfl⟩ := spread_of_gr gx; clear gx; all_goals (apply Od.pAt_of_quiet; intro K hK; go_big_quiet_op; first | exact hK _ rfl | (apply Exists.intro; refine ⟨fun _ => ?_, ?_⟩; (· fail); exact hK _ rfl))); try simp only [Act.put, List.setIfInBounds_toArray, List.set_cons_zero, List.set_cons_succ]))
      refine Od.wpO_call (by simp only [List.getElem?_toArray, List.getElem?_cons_succ, List.getElem?_cons_zero] <;> rfl) rfl ?_
      intro QS hQS
      go_wp2_with fail
      go_at_call 39
      (with_reducible refine ((H4.out _ _ _ _ true gw3 cw3_2_0 cw3_2_1 nf_nil nf_nil (by simp))).mono ?_)
      rintro e w4 ⟨rfl, hw4⟩
      go_wp2_with fail
      apply Exists.intro
      refine ⟨?_, hw4, ?_⟩
      · simp only [Act.put, List.setIfInBounds_toArray, List.set_cons_zero, List.set_cons_succ]; rfl
      have cw4_0_0 : w4.cell? ⟨W.heap.size, 0, none⟩ = some (.int .i64 k) := cell_gr hw4 (by go_simp)
      have cw4_0_1 : w4.cell? ⟨W.heap.size, 1, none⟩ = some (.slice ad n cap) := cell_gr hw4 (by go_simp)
      have zw4_0 : W.heap.size < w4.heap.size := World.block_lt_of_cell? _ _ cw4_0_0
      have cw4_1_0 : w4.cell? ⟨W.heap.size + 1, 0, none⟩ = some (.int .i64 j) := cell_gr hw4 (by go_simp)
      have cw4_1_1 : w4.cell? ⟨W.heap.size + 1, 1, none⟩ = some (.slice bd m bcap) := cell_gr hw4 (by go_simp)
      have zw4_1 : W.heap.size + 1 < w4.heap.size := World.block_lt_of_cell? _ _ cw4_1_0
      have cw4_2_0 : w4.cell? ⟨w2.heap.size, 0, none⟩ = some (.nilIface) := cell_gr hw4 (by go_simp)
      have cw4_2_1 : w4.cell? ⟨w2.heap.size, 1, none⟩ = some (.nilIface) := cell_gr hw4 (by go_simp)
      have zw4_2 : w2.heap.size < w4.heap.size := World.block_lt_of_cell? _ _ cw4_2_0
      have gw4 : Gr W w4 := Gr.trans (by have gg := gw3; have gs := gg.size; go_grown) hw4
      clear gw3 zw3_0 cw3_0_0 cw3_0_1 zw3_1 cw3_1_0 cw3_1_1 zw3_2 cw3_2_0 cw3_2_1
      clear hw4
      try simp only [Act.put, List.setIfInBounds_toArray, List.set_cons_zero, List.set_cons_succ]
      repeat (first | (refine Od.wpO_skip (by simp only [List.getElem?_toArray, List.getElem?_cons_succ, List.getElem?_cons_zero] <;> rfl) rfl ?_; simp only [Act.put, List.setIfInBounds_toArray, List.set_cons_zero, List.set_cons_succ]) | (refine Od.wpO_pure (by simp only [List.getElem?_toArray, List.getElem?_cons_succ, List.getElem?_cons_zero] <;> rfl) rfl ?_; apply Exists.intro; refine ⟨?_, ?_⟩; (· intro wx gx; obtain ⟨mx, rfl⟩ := spread_of_gr gx; clear gx; all_goals (apply Od.pAt_of_quiet; intro K hK; go_big_quiet_op; first | exact hK _ rfl | (apply Exists.intro; refine ⟨fun _ => ?_, ?_⟩; (· fail); exact hK _ rfl))); try simp only [Act.put, List.setIfInBounds_toArray, List.set_cons_zero, List.set_cons_succ]))
      refine Od.wpO_call (by simp only [List.getElem?_toArray, List.getElem?_cons_succ, List.getElem?_cons_zero] <;> rfl) rfl ?_
      intro QS hQS
      go_wp2_with fail
      go_at_call 49
      (with_reducible refine ((H3.out _ gw4)).mono ?_)
      rintro e w5 ⟨rfl, hw5⟩
      go_wp2_with fail
      apply Exists.intro
      refine ⟨?_, hw5, ?_⟩
      · simp only [Act.put, List.setIfInBounds_toArray, List.set_cons_zero, List.set_cons_succ]; rfl
      have cw5_0_0 : w5.cell? ⟨W.heap.size, 0, none⟩ = some (.int .i64 k) := cell_gr hw5 (by go_simp)
      have cw5_0_1 : w5.cell? ⟨W.heap.size, 1, none⟩ = some (.slice ad n cap) := cell_gr hw5 (by go_simp)
      have zw5_0 : W.heap.size < w5.heap.size := World.block_lt_of_cell? _ _ cw5_0_0
      have cw5_1_0 : w5.cell? ⟨W.heap.size + 1, 0, none⟩ = some (.int .i64 j) := cell_gr hw5 (by go_simp)
      have cw5_1_1 : w5.cell? ⟨W.heap.size + 1, 1, none⟩ = some (.slice bd m bcap) := cell_gr hw5 (by go_simp)
      have zw5_1 : W.heap.size + 1 < w5.heap.size := World.block_lt_of_cell? _ _ cw5_1_0
      have cw5_2_0 : w5.cell? ⟨w2.heap.size, 0, none⟩ = some (.nilIface) := cell_gr hw5 (by go_simp)
      have cw5_2_1 : w5.cell? ⟨w2.heap.size, 1, none⟩ = some (.nilIface) := cell_gr hw5 (by go_simp)
      have zw5_2 : w2.heap.size < w5.heap.size := World.block_lt_of_cell? _ _ cw5_2_0
      have gw5 : Gr W w5 := Gr.trans (by have gg := gw4; have gs := gg.size; go_grown) hw5
      clear gw4 zw4_0 cw4_0_0 cw4_0_1 zw4_1 cw4_1_0 cw4_1_1 zw4_2 cw4_2_0 cw4_2_1
      clear hw5
      try simp only [Act.put, List.setIfInBounds_toArray, List.set_cons_zero, List.set_cons_succ]
      repeat (first | (refine Od.wpO_skip (by simp only [List.getElem?_toArray, List.getElem?_cons_succ, List.getElem?_cons_zero] <;> rfl) rfl ?_; simp only [Act.put, List.setIfInBounds_toArray, List.set_cons_zero, List.set_cons_succ]) | (refine Od.wpO_pure (by simp only [List.getElem?_toArray, List.getElem?_cons_succ, List.getElem?_cons_zero] <;> rfl) rfl ?_; apply Exists.intro; refine ⟨?_, ?_⟩; (· intro wx gx; obtain ⟨mx, rfl⟩ := spread_of_gr gx; clear gx; all_goals (apply Od.pAt_of_quiet; intro K hK; go_big_quiet_op; first | exact hK _ rfl | (apply Exists.intro; refine ⟨fun _ => ?_, ?_⟩; (· fail); exact hK _ rfl))); try simp only [Act.put, List.setIfInBounds_toArray, List.set_cons_zero, List.set_cons_succ]))
      refine Od.wpO_nil (hKQ _ _ ?_)
      clear hKQ KQ
      go_wp2_with fail
      go_ret
      exact ⟨rfl, gw5⟩
    · rw [decide_eq_false hd, Bool.false_and]
      have C1 : ∀ w, Gr W w → Calls Tryz.prog 34 #[.agg #[.int .i64 k, .slice ad n cap]] w fun e w' => e = .returned .nilIface ∧ Gr w w' := fun w g => (B1 w g).mono (by
        rintro e w' ⟨x, rfl, ⟨-, hx⟩, g'⟩
        obtain rfl := hx.2 hc
        exact ⟨rfl, g'⟩)
      have C2 : ∀ w, Gr W w → Calls Tryz.prog 34 #[.agg #[.int .i64 j, .slice bd m bcap]] w fun e w' => ∃ B, e = .returned (.iface 84 (.pointer (some ⟨B, 0, none⟩))) ∧ Gr w w' := fun w g => (B2 w g).mono (by
        rintro e w' ⟨x, rfl, ⟨hn, hx⟩, g'⟩
        rcases hn with rfl | ⟨B, rfl⟩
        · exact absurd (hx.1 rfl) hd
        · exact ⟨B, rfl, g'⟩)
      have H1 := Lib.hid C1
      have H2 := Lib.hid C2
      have H4 := Lib.hid B4
      clear C1 C2 B4
      clear A3 B1 B2
      go_enter Tryz.func17, Tryz.ntmps17
      go_wp2_with fail
      try simp only [List.append]
      refine Od.wp_region_ord [(0, false), (2, false), (1, true), (3, true), (4, true), (5, true), (6, false), (7, false), (8, false), (9, true), (10, false), (11, false)] (by kernel_rfl) (by kernel_rfl) ?_
      intro w0 hw0 KQ hKQ
      have cw0_0_0 : w0.cell? ⟨W.heap.size, 0, none⟩ = some (.int .i64 k) := cell_gr hw0 (by go_simp)
      have cw0_0_1 : w0.cell? ⟨W.heap.size, 1, none⟩ = some (.slice ad n cap) := cell_gr hw0 (by go_simp)
      have zw0_0 : W.heap.size < w0.heap.size := World.block_lt_of_cell? _ _ cw0_0_0
      have cw0_1_0 : w0.cell? ⟨W.heap.size + 1, 0, none⟩ = some (.int .i64 j) := cell_gr hw0 (by go_simp)
      have cw0_1_1 : w0.cell? ⟨W.heap.size + 1, 1, none⟩ = some (.slice bd m bcap) := cell_gr hw0 (by go_simp)
      have zw0_1 : W.heap.size + 1 < w0.heap.size := World.block_lt_of_cell? _ _ cw0_1_0
      have gw0 : Gr W w0 := Gr.trans (by go_grown) hw0
      skip
      clear hw0
      repeat (first | (refine Od.wpO_skip (by simp only [List.getElem?_toArray, List.getElem?_cons_succ, List.getElem?_cons_zero] <;> rfl) rfl ?_; simp only [Act.put, List.setIfInBounds_toArray, List.set_cons_zero, List.set_cons_succ]) | (refine Od.wpO_pure (by simp only [List.getElem?_toArray, List.getElem?_cons_succ, List.getElem?_cons_zero] <;> rfl) rfl ?_; apply Exists.intro; refine ⟨?_, ?_⟩; (· intro wx gx; obtain ⟨mx, rfl⟩ := spread_of_gr gx; clear gx; all_goals (apply Od.pAt_of_quiet; intro K hK; go_big_quiet_op; first | exact hK _ rfl | (apply Exists.intro; refine ⟨fun _ => ?_, ?_⟩; (· fail); exact hK _ rfl))); try simp only [Act.put, List.setIfInBounds_toArray, List.set_cons_zero, List.set_cons_succ]))
      refine Od.wpO_call (by simp only [List.getElem?_toArray, List.getElem?_cons_succ, List.getElem?_cons_zero] <;> rfl) rfl ?_
      intro QS hQS
      go_wp2_with fail
      go_at_call 34
      (with_reducible refine ((H1.out _ gw0)).mono ?_)
      rintro e w1 ⟨rfl, hw1⟩
      go_wp2_with fail
      apply Exists.intro
      refine ⟨?_, hw1, ?_⟩
      · simp only [Act.put, List.setIfInBounds_toArray, List.set_cons_zero, List.set_cons_succ]; rfl
      have cw1_0_0 : w1.cell? ⟨W.heap.size, 0, none⟩ = some (.int .i64 k) := cell_gr hw1 (by go_simp)
      have cw1_0_1 : w1.cell? ⟨W.heap.size, 1, none⟩ = some (.slice ad n cap) := cell_gr hw1 (by go_simp)
      have zw1_0 : W.heap.size < w1.heap.size := World.block_lt_of_cell? _ _ cw1_0_0
      have cw1_1_0 : w1.cell? ⟨W.heap.size + 1, 0, none⟩ = some (.int .i64 j) := cell_gr hw1 (by go_simp)
      have cw1_1_1 : w1.cell? ⟨W.heap.size + 1, 1, none⟩ = some (.slice bd m bcap) := cell_gr hw1 (by go_simp)
      have zw1_1 : W.heap.size + 1 < w1.heap.size := World.block_lt_of_cell? _ _ cw1_1_0
      have gw1 : Gr W w1 := Gr.trans (by have gg := gw0; have gs := gg.size; go_grown) hw1
      clear gw0 zw0_0 cw0_0_0 cw0_0_1 zw0_1 cw0_1_0 cw0_1_1
      clear hw1
      try simp only [Act.put, List.setIfInBounds_toArray, List.set_cons_zero, List.set_cons_succ]
      repeat (first | (refine Od.wpO_skip (by simp only [List.getElem?_toArray, List.getElem?_cons_succ, List.getElem?_cons_zero] <;> rfl) rfl ?_; simp only [Act.put, List.setIfInBounds_toArray, List.set_cons_zero, List.set_cons_succ]) | (refine Od.wpO_pure (by simp only [List.getElem?_toArray, List.getElem?_cons_succ, List.getElem?_cons_zero] <;> rfl) rfl ?_; apply Exists.intro; refine ⟨?_, ?_⟩; (· intro wx gx; obtain ⟨mx, rfl⟩ := spread_of_gr gx; clear gx; all_goals (apply Od.pAt_of_quiet; intro K hK; go_big_quiet_op; first | exact hK _ rfl | (apply Exists.intro; refine ⟨fun _ => ?_, ?_⟩; (· fail); exact hK _ rfl))); try simp only [Act.put, List.setIfInBounds_toArray, List.set_cons_zero, List.set_cons_succ]))
      refine Od.wpO_call (by simp only [List.getElem?_toArray, List.getElem?_cons_succ, List.getElem?_cons_zero] <;> rfl) rfl ?_
      intro QS hQS
      go_wp2_with fail
      go_at_call 34
      (with_reducible refine ((H2.out _ gw1)).mono ?_)
      rintro e w2 ⟨B2, rfl, hw2⟩
      go_wp2_with fail
      apply Exists.intro
      refine ⟨?_, hw2, ?_⟩
      · simp only [Act.put, List.setIfInBounds_toArray, List.set_cons_zero, List.set_cons_succ]; rfl
      have cw2_0_0 : w2.cell? ⟨W.heap.size, 0, none⟩ = some (.int .i64 k) := cell_gr hw2 (by go_simp)
      have cw2_0_1 : w2.cell? ⟨W.heap.size, 1, none⟩ = some (.slice ad n cap) := cell_gr hw2 (by go_simp)
      have zw2_0 : W.heap.size < w2.heap.size := World.block_lt_of_cell? _ _ cw2_0_0
      have cw2_1_0 : w2.cell? ⟨W.heap.size + 1, 0, none⟩ = some (.int .i64 j) := cell_gr hw2 (by go_simp)
      have cw2_1_1 : w2.cell? ⟨W.heap.size + 1, 1, none⟩ = some (.slice bd m bcap) := cell_gr hw2 (by go_simp)
      have zw2_1 : W.heap.size + 1 < w2.heap.size := World.block_lt_of_cell? _ _ cw2_1_0
      have gw2 : Gr W w2 := Gr.trans (by have gg := gw1; have gs := gg.size; go_grown) hw2
      clear gw1 zw1_0 cw1_0_0 cw1_0_1 zw1_1 cw1_1_0 cw1_1_1
      clear hw2
      try simp only [Act.put, List.setIfInBounds_toArray, List.set_cons_zero, List.set_cons_succ]
      repeat (first | (refine Od.wpO_skip (by simp only [List.getElem?_toArray, List.getElem?_cons_succ, List.getElem?_cons_zero] <;> rfl) rfl ?_; simp only [Act.put, List.setIfInBounds_toArray, List.set_cons_zero, List.set_cons_succ]) | (refine Od.wpO_pure (by simp only [List.getElem?_toArray, List.getElem?_cons_succ, List.getElem?_cons_zero] <;> rfl) rfl ?_; apply Exists.intro; refine ⟨?_, ?_⟩; (· intro wx gx; obtain ⟨mx, rfl⟩ := spread_of_gr gx; clear gx; all_goals (apply Od.pAt_of_quiet; intro K hK; go_big_quiet_op; first | exact hK _ rfl | (apply Exists.intro; refine ⟨fun _ => ?_, ?_⟩; (· fail); exact hK _ rfl))); try simp only [Act.put, List.setIfInBounds_toArray, List.set_cons_zero, List.set_cons_succ]))
      refine Od.wpO_call (by simp only [List.getElem?_toArray, List.getElem?_cons_succ, List.getElem?_cons_zero] <;> rfl) rfl ?_
      intro QS hQS
      go_wp2_with fail
      first | (apply Exists.intro; refine ⟨?_, (by go_grown), ?_⟩; (· simp only [Act.put, List.setIfInBounds_toArray, List.set_cons_zero, List.set_cons_succ]; rfl)) | (refine ⟨(by go_grown), ?_⟩)
      generalize hhw3 : (w2.alloc (.cells #[.nilIface, .iface 84 (.pointer (some ⟨B2, 0, none⟩))] 34)) = w3
      have hw3 : Gr w2 w3 := by subst hhw3; go_grown
      have cw3_0_0 : w3.cell? ⟨W.heap.size, 0, none⟩ = some (.int .i64 k) := by subst hhw3; go_simp
      have cw3_0_1 : w3.cell? ⟨W.heap.size, 1, none⟩ = some (.slice ad n cap) := by subst hhw3; go_simp
      have zw3_0 : W.heap.size < w3.heap.size := World.block_lt_of_cell? _ _ cw3_0_0
      have cw3_1_0 : w3.cell? ⟨W.heap.size + 1, 0, none⟩ = some (.int .i64 j) := by subst hhw3; go_simp
      have cw3_1_1 : w3.cell? ⟨W.heap.size + 1, 1, none⟩ = some (.slice bd m bcap) := by subst hhw3; go_simp
      have zw3_1 : W.heap.size + 1 < w3.heap.size := World.block_lt_of_cell? _ _ cw3_1_0
      have cw3_2_0 : w3.cell? ⟨w2.heap.size, 0, none⟩ = some (.nilIface) := by subst hhw3; go_simp
      have cw3_2_1 : w3.cell? ⟨w2.heap.size, 1, none⟩ = some (.iface 84 (.pointer (some ⟨B2, 0, none⟩))) := by subst hhw3; go_simp
      have zw3_2 : w2.heap.size < w3.heap.size := World.block_lt_of_cell? _ _ cw3_2_0
      have gw3 : Gr W w3 := Gr.trans (by have gg := gw2; have gs := gg.size; go_grown) hw3
      clear hhw3 hw3 gw2 zw2_0 cw2_0_0 cw2_0_1 zw2_1 cw2_1_0 cw2_1_1
      try simp only [Act.put, List.setIfInBounds_toArray, List.set_cons_zero, List.set_cons_succ]
      repeat (first | (refine Od.wpO_skip (by simp only [List.getElem?_toArray, List.getElem?_cons_succ, List.getElem?_cons_zero] <;> rfl) rfl ?_; simp only [Act.put, List.setIfInBounds_toArray, List.set_cons_zero, List.set_cons_succ]) | (refine Od.wpO_pure (by simp only [List.getElem?_toArray, List.getElem?_cons_succ, List.getElem?_cons_zero] <;> rfl) rfl ?_; apply Exists.intro; refine ⟨?_, ?_⟩; (· intro wx gx; obtain ⟨mx, rfl⟩ := spread_of_gr gx; clear gx; all_goals (apply Od.pAt_of_quiet; intro K hK; go_big_quiet_op; first | exact hK _ rfl | (apply Exists.intro; refine ⟨fun _ => ?_, ?_⟩; (· fail); exact hK _ rfl))); try simp only [Act.put, List.setIfInBounds_toArray, List.set_cons_zero, List.set_cons_succ]))
      refine Od.wpO_call (by simp only [List.getElem?_toArray, List.getElem?_cons_succ, List.getElem?_cons_zero] <;> rfl) rfl ?_
      intro QS hQS
      go_wp2_with fail
      go_at_call 39
      (with_reducible refine ((H4.out _ _ _ _ false gw3 cw3_2_0 cw3_2_1 nf_nil (nf_f _) (by simp))).mono ?_)
      rintro e w4 ⟨rfl, hw4⟩
      go_wp2_with fail
      apply Exists.intro
      refine ⟨?_, hw4, ?_⟩
      · simp only [Act.put, List.setIfInBounds_toArray, List.set_cons_zero, List.set_cons_succ]; rfl
      have cw4_0_0 : w4.cell? ⟨W.heap.size, 0, none⟩ = some (.int .i64 k) := cell_gr hw4 (by go_simp)
      have cw4_0_1 : w4.cell? ⟨W.heap.size, 1, none⟩ = some (.slice ad n cap) := cell_gr hw4 (by go_simp)
      have zw4_0 : W.heap.size < w4.heap.size := World.block_lt_of_cell? _ _ cw4_0_0
      have cw4_1_0 : w4.cell? ⟨W.heap.size + 1, 0, none⟩ = some (.int .i64 j) := cell_gr hw4 (by go_simp)
      have cw4_1_1 : w4.cell? ⟨W.heap.size + 1, 1, none⟩ = some (.slice bd m bcap) := cell_gr hw4 (by go_simp)
      have zw4_1 : W.heap.size + 1 < w4.heap.size := World.block_lt_of_cell? _ _ cw4_1_0
      have cw4_2_0 : w4.cell? ⟨w2.heap.size, 0, none⟩ = some (.nilIface) := cell_gr hw4 (by go_simp)
      have cw4_2_1 : w4.cell? ⟨w2.heap.size, 1, none⟩ = some (.iface 84 (.pointer (some ⟨B2, 0, none⟩))) := cell_gr hw4 (by go_simp)
      have zw4_2 : w2.heap.size < w4.heap.size := World.block_lt_of_cell? _ _ cw4_2_0
      have gw4 : Gr W w4 := Gr.trans (by have gg := gw3; have gs := gg.size; go_grown) hw4
      clear gw3 zw3_0 cw3_0_0 cw3_0_1 zw3_1 cw3_1_0 cw3_1_1 zw3_2 cw3_2_0 cw3_2_1
      clear hw4
      try simp only [Act.put, List.setIfInBounds_toArray, List.set_cons_zero, List.set_cons_succ]
      repeat (first | (refine Od.wpO_skip (by simp only [List.getElem?_toArray, List.getElem?_cons_succ, List.getElem?_cons_zero] <;> rfl) rfl ?_; simp only [Act.put, List.setIfInBounds_toArray, List.set_cons_zero, List.set_cons_succ]) | (refine Od.wpO_pure (by simp only [List.getElem?_toArray, List.getElem?_cons_succ, List.getElem?_cons_zero] <;> rfl) rfl ?_; apply Exists.intro; refine ⟨?_, ?_⟩; (· intro wx gx; obtain ⟨mx, rfl⟩ := spread_of_gr gx; clear gx; all_goals (apply Od.pAt_of_quiet; intro K hK; go_big_quiet_op; first | exact hK _ rfl | (apply Exists.intro; refine ⟨fun _ => ?_, ?_⟩; (· fail); exact hK _ rfl))); try simp only [Act.put, List.setIfInBounds_toArray, List.set_cons_zero, List.set_cons_succ]))
      refine Od.wpO_nil (hKQ _ _ ?_)
      clear hKQ KQ
      go_wp2_with fail
      go_ret
      exact ⟨rfl, gw4⟩
  · rw [decide_eq_false hc, Bool.false_and, Bool.false_and]
    have C1 : ∀ w, Gr W w → Calls Tryz.prog 34 #[.agg #[.int .i64 k, .slice ad n cap]] w fun e w' => ∃ B, e = .returned (.iface 84 (.pointer (some ⟨B, 0, none⟩))) ∧ Gr w w' := fun w g => (B1 w g).mono (by
      rintro e w' ⟨x, rfl, ⟨hn, hx⟩, g'⟩
      rcases hn with rfl | ⟨B, rfl⟩
      · exact absurd (hx.1 rfl) hc
      · exact ⟨B, rfl, g'⟩)
    by_cases hd : d = 0
    · have C2 : ∀ w, Gr W w → Calls Tryz.prog 34 #[.agg #[.int .i64 j, .slice bd m bcap]] w fun e w' => e = .returned .nilIface ∧ Gr w w' := fun w g => (B2 w g).mono (by
        rintro e w' ⟨x, rfl, ⟨-, hx⟩, g'⟩
        obtain rfl := hx.2 hd
        exact ⟨rfl, g'⟩)
      have H1 := Lib.hid C1
      have H2 := Lib.hid C2
      have H4 := Lib.hid B4
      clear C1 C2 B4
      clear A3 B1 B2
      go_enter Tryz.func17, Tryz.ntmps17
      go_wp2_with fail
      try simp only [List.append]
      refine Od.wp_region_ord [(0, false), (2, false), (1, true), (3, true), (4, true), (5, true), (6, false), (7, false), (8, false), (9, true), (10, false), (11, false)] (by kernel_rfl) (by kernel_rfl) ?_
      intro w0 hw0 KQ hKQ
      have cw0_0_0 : w0.cell? ⟨W.heap.size, 0, none⟩ = some (.int .i64 k) := cell_gr hw0 (by go_simp)
      have cw0_0_1 : w0.cell? ⟨W.heap.size, 1, none⟩ = some (.slice ad n cap) := cell_gr hw0 (by go_simp)
      have zw0_0 : W.heap.size < w0.heap.size := World.block_lt_of_cell? _ _ cw0_0_0
      have cw0_1_0 : w0.cell? ⟨W.heap.size + 1, 0, none⟩ = some (.int .i64 j) := cell_gr hw0 (by go_simp)
      have cw0_1_1 : w0.cell? ⟨W.heap.size + 1, 1, none⟩ = some (.slice bd m bcap) := cell_gr hw0 (by go_simp)
      have zw0_1 : W.heap.size + 1 < w0.heap.size := World.block_lt_of_cell? _ _ cw0_1_0
      have gw0 : Gr W w0 := Gr.trans (by go_grown) hw0
      skip
      clear hw0
      repeat (first | (refine Od.wpO_skip (by simp only [List.getElem?_toArray, List.getElem?_cons_succ, List.getElem?_cons_zero] <;> rfl) rfl ?_; simp only [Act.put, List.setIfInBounds_toArray, List.set_cons_zero, List.set_cons_succ]) | (refine Od.wpO_pure (by simp only [List.getElem?_toArray, List.getElem?_cons_succ, List.getElem?_cons_zero] <;> rfl) rfl ?_; apply Exists.intro; refine ⟨?_, ?_⟩; (· intro wx gx; obtain ⟨mx, rfl⟩ := spread_of_gr gx; clear gx; all_goals (apply Od.pAt_of_quiet; intro K hK; go_big_quiet_op; first | exact hK _ rfl | (apply Exists.intro; refine ⟨fun _ => ?_, ?_⟩; (· fail); exact hK _ rfl))); try simp only [Act.put, List.setIfInBounds_toArray, List.set_cons_zero, List.set_cons_succ]))
      refine Od.wpO_call (by simp only [List.getElem?_toArray, List.getElem?_cons_succ, List.getElem?_cons_zero] <;> rfl) rfl ?_
      intro QS hQS
      go_wp2_with fail
      go_at_call 34
      (with_reducible refine ((H1.out _ gw0)).mono ?_)
      rintro e w1 ⟨B1, rfl, hw1⟩
      go_wp2_with fail
      apply Exists.intro
      refine ⟨?_, hw1, ?_⟩
      · simp only [Act.put, List.setIfInBounds_toArray, List.set_cons_zero, List.set_cons_succ]; rfl
      have cw1_0_0 : w1.cell? ⟨W.heap.size, 0, none⟩ = some (.int .i64 k) := cell_gr hw1 (by go_simp)
      have cw1_0_1 : w1.cell? ⟨W.heap.size, 1, none⟩ = some (.slice ad n cap) := cell_gr hw1 (by go_simp)
      have zw1_0 : W.heap.size < w1.heap.size := World.block_lt_of_cell? _ _ cw1_0_0
      have cw1_1_0 : w1.cell? ⟨W.heap.size + 1, 0, none⟩ = some (.int .i64 j) := cell_gr hw1 (by go_simp)
      have cw1_1_1 : w1.cell? ⟨W.heap.size + 1, 1, none⟩ = some (.slice bd m bcap) := cell_gr hw1 (by go_simp)
      have zw1_1 : W.heap.size + 1 < w1.heap.size := World.block_lt_of_cell? _ _ cw1_1_0
      have gw1 : Gr W w1 := Gr.trans (by have gg := gw0; have gs := gg.size; go_grown) hw1
      clear gw0 zw0_0 cw0_0_0 cw0_0_1 zw0_1 cw0_1_0 cw0_1_1
      clear hw1
      try simp only [Act.put, List.setIfInBounds_toArray, List.set_cons_zero, List.set_cons_succ]
      repeat (first | (refine Od.wpO_skip (by simp only [List.getElem?_toArray, List.getElem?_cons_succ, List.getElem?_cons_zero] <;> rfl) rfl ?_; simp only [Act.put, List.setIfInBounds_toArray, List.set_cons_zero, List.set_cons_succ]) | (refine Od.wpO_pure (by simp only [List.getElem?_toArray, List.getElem?_cons_succ, List.getElem?_cons_zero] <;> rfl) rfl ?_; apply Exists.intro; refine ⟨?_, ?_⟩; (· intro wx gx; obtain ⟨mx, rfl⟩ := spread_of_gr gx; clear gx; all_goals (apply Od.pAt_of_quiet; intro K hK; go_big_quiet_op; first | exact hK _ rfl | (apply Exists.intro; refine ⟨fun _ => ?_, ?_⟩; (· fail); exact hK _ rfl))); try simp only [Act.put, List.setIfInBounds_toArray, List.set_cons_zero, List.set_cons_succ]))
      refine Od.wpO_call (by simp only [List.getElem?_toArray, List.getElem?_cons_succ, List.getElem?_cons_zero] <;> rfl) rfl ?_
      intro QS hQS
      go_wp2_with fail
      go_at_call 34
      (with_reducible refine ((H2.out _ gw1)).mono ?_)
      rintro e w2 ⟨rfl, hw2⟩
      go_wp2_with fail
      apply Exists.intro
      refine ⟨?_, hw2, ?_⟩
      · simp only [Act.put, List.setIfInBounds_toArray, List.set_cons_zero, List.set_cons_succ]; rfl
      have cw2_0_0 : w2.cell? ⟨W.heap.size, 0, none⟩ = some (.int .i64 k) := cell_gr hw2 (by go_simp)
      have cw2_0_1 : w2.cell? ⟨W.heap.size, 1, none⟩ = some (.slice ad n cap) := cell_gr hw2 (by go_simp)
      have zw2_0 : W.heap.size < w2.heap.size := World.block_lt_of_cell? _ _ cw2_0_0
      have cw2_1_0 : w2.cell? ⟨W.heap.size + 1, 0, none⟩ = some (.int .i64 j) := cell_gr hw2 (by go_simp)
      have cw2_1_1 : w2.cell? ⟨W.heap.size + 1, 1, none⟩ = some (.slice bd m bcap) := cell_gr hw2 (by go_simp)
      have zw2_1 : W.heap.size + 1 < w2.heap.size := World.block_lt_of_cell? _ _ cw2_1_0
      have gw2 : Gr W w2 := Gr.trans (by have gg := gw1; have gs := gg.size; go_grown) hw2
      clear gw1 zw1_0 cw1_0_0 cw1_0_1 zw1_1 cw1_1_0 cw1_1_1
      clear hw2
      try simp only [Act.put, List.setIfInBounds_toArray, List.set_cons_zero, List.set_cons_succ]
      repeat (first | (refine Od.wpO_skip (by simp only [List.getElem?_toArray, List.getElem?_cons_succ, List.getElem?_cons_zero] <;> rfl) rfl ?_; simp only [Act.put, List.setIfInBounds_toArray, List.set_cons_zero, List.set_cons_succ]) | (refine Od.wpO_pure (by simp only [List.getElem?_toArray, List.getElem?_cons_succ, List.getElem?_cons_zero] <;> rfl) rfl ?_; apply Exists.intro; refine ⟨?_, ?_⟩; (· intro wx gx; obtain ⟨mx, rfl⟩ := spread_of_gr gx; clear gx; all_goals (apply Od.pAt_of_quiet; intro K hK; go_big_quiet_op; first | exact hK _ rfl | (apply Exists.intro; refine ⟨fun _ => ?_, ?_⟩; (· fail); exact hK _ rfl))); try simp only [Act.put, List.setIfInBounds_toArray, List.set_cons_zero, List.set_cons_succ]))
      refine Od.wpO_call (by simp only [List.getElem?_toArray, List.getElem?_cons_succ, List.getElem?_cons_zero] <;> rfl) rfl ?_
      intro QS hQS
      go_wp2_with fail
      first | (apply Exists.intro; refine ⟨?_, (by go_grown), ?_⟩; (· simp only [Act.put, List.setIfInBounds_toArray, List.set_cons_zero, List.set_cons_succ]; rfl)) | (refine ⟨(by go_grown), ?_⟩)
      generalize hhw3 : (w2.alloc (.cells #[.iface 84 (.pointer (some ⟨B1, 0, none⟩)), .nilIface] 34)) = w3
      have hw3 : Gr w2 w3 := by subst hhw3; go_grown
      have cw3_0_0 : w3.cell? ⟨W.heap.size, 0, none⟩ = some (.int .i64 k) := by subst hhw3; go_simp
      have cw3_0_1 : w3.cell? ⟨W.heap.size, 1, none⟩ = some (.slice ad n cap) := by subst hhw3; go_simp
      have zw3_0 : W.heap.size < w3.heap.size := World.block_lt_of_cell? _ _ cw3_0_0
      have cw3_1_0 : w3.cell? ⟨W.heap.size + 1, 0, none⟩ = some (.int .i64 j) := by subst hhw3; go_simp
      have cw3_1_1 : w3.cell? ⟨W.heap.size + 1, 1, none⟩ = some (.slice bd m bcap) := by subst hhw3; go_simp
      have zw3_1 : W.heap.size + 1 < w3.heap.size := World.block_lt_of_cell? _ _ cw3_1_0
      have cw3_2_0 : w3.cell? ⟨w2.heap.size, 0, none⟩ = some (.iface 84 (.pointer (some ⟨B1, 0, none⟩))) := by subst hhw3; go_simp
      have cw3_2_1 : w3.cell? ⟨w2.heap.size, 1, none⟩ = some (.nilIface) := by subst hhw3; go_simp
      have zw3_2 : w2.heap.size < w3.heap.size := World.block_lt_of_cell? _ _ cw3_2_0
      have gw3 : Gr W w3 := Gr.trans (by have gg := gw2; have gs := gg.size; go_grown) hw3
      clear hhw3 hw3 gw2 zw2_0 cw2_0_0 cw2_0_1 zw2_1 cw2_1_0 cw2_1_1
      try simp only [Act.put, List.setIfInBounds_toArray, List.set_cons_zero, List.set_cons_succ]
      repeat (first | (refine Od.wpO_skip (by simp only [List.getElem?_toArray, List.getElem?_cons_succ, List.getElem?_cons_zero] <;> rfl) rfl ?_; simp only [Act.put, List.setIfInBounds_toArray, List.set_cons_zero, List.set_cons_succ]) | (refine Od.wpO_pure (by simp only [List.getElem?_toArray, List.getElem?_cons_succ, List.getElem?_cons_zero] <;> rfl) rfl ?_; apply Exists.intro; refine ⟨?_, ?_⟩; (· intro wx gx; obtain ⟨mx, rfl⟩ := spread_of_gr gx; clear gx; all_goals (apply Od.pAt_of_quiet; intro K hK; go_big_quiet_op; first | exact hK _ rfl | (apply Exists.intro; refine ⟨fun _ => ?_, ?_⟩; (· fail); exact hK _ rfl))); try simp only [Act.put, List.setIfInBounds_toArray, List.set_cons_zero, List.set_cons_succ]))
      refine Od.wpO_call (by simp only [List.getElem?_toArray, List.getElem?_cons_succ, List.getElem?_cons_zero] <;> rfl) rfl ?_
      intro QS hQS
      go_wp2_with fail
      go_at_call 39
      (with_reducible refine ((H4.out _ _ _ _ false gw3 cw3_2_0 cw3_2_1 (nf_f _) nf_nil (by simp))).mono ?_)
      rintro e w4 ⟨rfl, hw4⟩
      go_wp2_with fail
      apply Exists.intro
      refine ⟨?_, hw4, ?_⟩
      · simp only [Act.put, List.setIfInBounds_toArray, List.set_cons_zero, List.set_cons_succ]; rfl
      have cw4_0_0 : w4.cell? ⟨W.heap.size, 0, none⟩ = some (.int .i64 k) := cell_gr hw4 (by go_simp)
      have cw4_0_1 : w4.cell? ⟨W.heap.size, 1, none⟩ = some (.slice ad n cap) := cell_gr hw4 (by go_simp)
      have zw4_0 : W.heap.size < w4.heap.size := World.block_lt_of_cell? _ _ cw4_0_0
      have cw4_1_0 : w4.cell? ⟨W.heap.size + 1, 0, none⟩ = some (.int .i64 j) := cell_gr hw4 (by go_simp)
      have cw4_1_1 : w4.cell? ⟨W.heap.size + 1, 1, none⟩ = some (.slice bd m bcap) := cell_gr hw4 (by go_simp)
      have zw4_1 : W.heap.size + 1 < w4.heap.size := World.block_lt_of_cell? _ _ cw4_1_0
      have cw4_2_0 : w4.cell? ⟨w2.heap.size, 0, none⟩ = some (.iface 84 (.pointer (some ⟨B1, 0, none⟩))) := cell_gr hw4 (by go_simp)
      have cw4_2_1 : w4.cell? ⟨w2.heap.size, 1, none⟩ = some (.nilIface) := cell_gr hw4 (by go_simp)
      have zw4_2 : w2.heap.size < w4.heap.size := World.block_lt_of_cell? _ _ cw4_2_0
      have gw4 : Gr W w4 := Gr.trans (by have gg := gw3; have gs := gg.size; go_grown) hw4
      clear gw3 zw3_0 cw3_0_0 cw3_0_1 zw3_1 cw3_1_0 cw3_1_1 zw3_2 cw3_2_0 cw3_2_1
      clear hw4
      try simp only [Act.put, List.setIfInBounds_toArray, List.set_cons_zero, List.set_cons_succ]
      repeat (first | (refine Od.wpO_skip (by simp only [List.getElem?_toArray, List.getElem?_cons_succ, List.getElem?_cons_zero] <;> rfl) rfl ?_; simp only [Act.put, List.setIfInBounds_toArray, List.set_cons_zero, List.set_cons_succ]) | (refine Od.wpO_pure (by simp only [List.getElem?_toArray, List.getElem?_cons_succ, List.getElem?_cons_zero] <;> rfl) rfl ?_; apply Exists.intro; refine ⟨?_, ?_⟩; (· intro wx gx; obtain ⟨mx, rfl⟩ := spread_of_gr gx; clear gx; all_goals (apply Od.pAt_of_quiet; intro K hK; go_big_quiet_op; first | exact hK _ rfl | (apply Exists.intro; refine ⟨fun _ => ?_, ?_⟩; (· fail); exact hK _ rfl))); try simp only [Act.put, List.setIfInBounds_toArray, List.set_cons_zero, List.set_cons_succ]))
      refine Od.wpO_nil (hKQ _ _ ?_)
      clear hKQ KQ
      go_wp2_with fail
      go_ret
      exact ⟨rfl, gw4⟩
    · have C2 : ∀ w, Gr W w → Calls Tryz.prog 34 #[.agg #[.int .i64 j, .slice bd m bcap]] w fun e w' => ∃ B, e = .returned (.iface 84 (.pointer (some ⟨B, 0, none⟩))) ∧ Gr w w' := fun w g => (B2 w g).mono (by
        rintro e w' ⟨x, rfl, ⟨hn, hx⟩, g'⟩
        rcases hn with rfl | ⟨B, rfl⟩
        · exact absurd (hx.1 rfl) hd
        · exact ⟨B, rfl, g'⟩)
      have H1 := Lib.hid C1
      have H2 := Lib.hid C2
      have H4 := Lib.hid B4
      clear C1 C2 B4
      clear A3 B1 B2
      go_enter Tryz.func17, Tryz.ntmps17
      go_wp2_with fail
      try simp only [List.append]
      refine Od.wp_region_ord [(0, false), (2, false), (1, true), (3, true), (4, true), (5, true), (6, false), (7, false), (8, false), (9, true), (10, false), (11, false)] (by kernel_rfl) (by kernel_rfl) ?_
      intro w0 hw0 KQ hKQ
      have cw0_0_0 : w0.cell? ⟨W.heap.size, 0, none⟩ = some (.int .i64 k) := cell_gr hw0 (by go_simp)
      have cw0_0_1 : w0.cell? ⟨W.heap.size, 1, none⟩ = some (.slice ad n cap) := cell_gr hw0 (by go_simp)
      have zw0_0 : W.heap.size < w0.heap.size := World.block_lt_of_cell? _ _ cw0_0_0
      have cw0_1_0 : w0.cell? ⟨W.heap.size + 1, 0, none⟩ = some (.int .i64 j) := cell_gr hw0 (by go_simp)
      have cw0_1_1 : w0.cell? ⟨W.heap.size + 1, 1, none⟩ = some (.slice bd m bcap) := cell_gr hw0 (by go_simp)
      have zw0_1 : W.heap.size + 1 < w0.heap.size := World.block_lt_of_cell? _ _ cw0_1_0
      have gw0 : Gr W w0 := Gr.trans (by go_grown) hw0
      skip
      clear hw0
      repeat (first | (refine Od.wpO_skip (by simp only [List.getElem?_toArray, List.getElem?_cons_succ, List.getElem?_cons_zero] <;> rfl) rfl ?_; simp only [Act.put, List.setIfInBounds_toArray, List.set_cons_zero, List.set_cons_succ]) | (refine Od.wpO_pure (by simp only [List.getElem?_toArray, List.getElem?_cons_succ, List.getElem?_cons_zero] <;> rfl) rfl ?_; apply Exists.intro; refine ⟨?_, ?_⟩; (· intro wx gx; obtain ⟨mx, rfl⟩ := spread_of_gr gx; clear gx; all_goals (apply Od.pAt_of_quiet; intro K hK; go_big_quiet_op; first | exact hK _ rfl | (apply Exists.intro; refine ⟨fun _ => ?_, ?_⟩; (· fail); exact hK _ rfl))); try simp only [Act.put, List.setIfInBounds_toArray, List.set_cons_zero, List.set_cons_succ]))
      refine Od.wpO_call (by simp only [List.getElem?_toArray, List.getElem?_cons_succ, List.getElem?_cons_zero] <;> rfl) rfl ?_
      intro QS hQS
      go_wp2_with fail
      go_at_call 34
      (with_reducible refine ((H1.out _ gw0)).mono ?_)
      rintro e w1 ⟨B1, rfl, hw1⟩
      go_wp2_with fail
      apply Exists.intro
      refine ⟨?_, hw1, ?_⟩
      · simp only [Act.put, List.setIfInBounds_toArray, List.set_cons_zero, List.set_cons_succ]; rfl
      have cw1_0_0 : w1.cell? ⟨W.heap.size, 0, none⟩ = some (.int .i64 k) := cell_gr hw1 (by go_simp)
      have cw1_0_1 : w1.cell? ⟨W.heap.size, 1, none⟩ = some (.slice ad n cap) := cell_gr hw1 (by go_simp)
      have zw1_0 : W.heap.size < w1.heap.size := World.block_lt_of_cell? _ _ cw1_0_0
      have cw1_1_0 : w1.cell? ⟨W.heap.size + 1, 0, none⟩ = some (.int .i64 j) := cell_gr hw1 (by go_simp)
      have cw1_1_1 : w1.cell? ⟨W.heap.size + 1, 1, none⟩ = some (.slice bd m bcap) := cell_gr hw1 (by go_simp)
      have zw1_1 : W.heap.size + 1 < w1.heap.size := World.block_lt_of_cell? _ _ cw1_1_0
      have gw1 : Gr W w1 := Gr.trans (by have gg := gw0; have gs := gg.size; go_grown) hw1
      clear gw0 zw0_0 cw0_0_0 cw0_0_1 zw0_1 cw0_1_0 cw0_1_1
      clear hw1
      try simp only [Act.put, List.setIfInBounds_toArray, List.set_cons_zero, List.set_cons_succ]
      repeat (first | (refine Od.wpO_skip (by simp only [List.getElem?_toArray, List.getElem?_cons_succ, List.getElem?_cons_zero] <;> rfl) rfl ?_; simp only [Act.put, List.setIfInBounds_toArray, List.set_cons_zero, List.set_cons_succ]) | (refine Od.wpO_pure (by simp only [List.getElem?_toArray, List.getElem?_cons_succ, List.getElem?_cons_zero] <;> rfl) rfl ?_; apply Exists.intro; refine ⟨?_, ?_⟩; (· intro wx gx; obtain ⟨mx, rfl⟩ := spread_of_gr gx; clear gx; all_goals (apply Od.pAt_of_quiet; intro K hK; go_big_quiet_op; first | exact hK _ rfl | (apply Exists.intro; refine ⟨fun _ => ?_, ?_⟩; (· fail); exact hK _ rfl))); try simp only [Act.put, List.setIfInBounds_toArray, List.set_cons_zero, List.set_cons_succ]))
      refine Od.wpO_call (by simp only [List.getElem?_toArray, List.getElem?_cons_succ, List.getElem?_cons_zero] <;> rfl) rfl ?_
      intro QS hQS
      go_wp2_with fail
      go_at_call 34
      (with_reducible refine ((H2.out _ gw1)).mono ?_)
      rintro e w2 ⟨B2, rfl, hw2⟩
      go_wp2_with fail
      apply Exists.intro
      refine ⟨?_, hw2, ?_⟩
      · simp only [Act.put, List.setIfInBounds_toArray, List.set_cons_zero, List.set_cons_succ]; rfl
      have cw2_0_0 : w2.cell? ⟨W.heap.size, 0, none⟩ = some (.int .i64 k) := cell_gr hw2 (by go_simp)
      have cw2_0_1 : w2.cell? ⟨W.heap.size, 1, none⟩ = some (.slice ad n cap) := cell_gr hw2 (by go_simp)
      have zw2_0 : W.heap.size < w2.heap.size := World.block_lt_of_cell? _ _ cw2_0_0
      have cw2_1_0 : w2.cell? ⟨W.heap.size + 1, 0, none⟩ = some (.int .i64 j) := cell_gr hw2 (by go_simp)
      have cw2_1_1 : w2.cell? ⟨W.heap.size + 1, 1, none⟩ = some (.slice bd m bcap) := cell_gr hw2 (by go_simp)
      have zw2_1 : W.heap.size + 1 < w2.heap.size := World.block_lt_of_cell? _ _ cw2_1_0
      have gw2 : Gr W w2 := Gr.trans (by have gg := gw1; have gs := gg.size; go_grown) hw2
      clear gw1 zw1_0 cw1_0_0 cw1_0_1 zw1_1 cw1_1_0 cw1_1_1
      clear hw2
      try simp only [Act.put, List.setIfInBounds_toArray, List.set_cons_zero, List.set_cons_succ]
      repeat (first | (refine Od.wpO_skip (by simp only [List.getElem?_toArray, List.getElem?_cons_succ, List.getElem?_cons_zero] <;> rfl) rfl ?_; simp only [Act.put, List.setIfInBounds_toArray, List.set_cons_zero, List.set_cons_succ]) | (refine Od.wpO_pure (by simp only [List.getElem?_toArray, List.getElem?_cons_succ, List.getElem?_cons_zero] <;> rfl) rfl ?_; apply Exists.intro; refine ⟨?_, ?_⟩; (· intro wx gx; obtain ⟨mx, rfl⟩ := spread_of_gr gx; clear gx; all_goals (apply Od.pAt_of_quiet; intro K hK; go_big_quiet_op; first | exact hK _ rfl | (apply Exists.intro; refine ⟨fun _ => ?_, ?_⟩; (· fail); exact hK _ rfl))); try simp only [Act.put, List.setIfInBounds_toArray, List.set_cons_zero, List.set_cons_succ]))
      refine Od.wpO_call (by simp only [List.getElem?_toArray, List.getElem?_cons_succ, List.getElem?_cons_zero] <;> rfl) rfl ?_
      intro QS hQS
      go_wp2_with fail
      first | (apply Exists.intro; refine ⟨?_, (by go_grown), ?_⟩; (· simp only [Act.put, List.setIfInBounds_toArray, List.set_cons_zero, List.set_cons_succ]; rfl)) | (refine ⟨(by go_grown), ?_⟩)
      generalize hhw3 : (w2.alloc (.cells #[.iface 84 (.pointer (some ⟨B1, 0, none⟩)), .iface 84 (.pointer (some ⟨B2, 0, none⟩))] 34)) = w3
      have hw3 : Gr w2 w3 := by subst hhw3; go_grown
      have cw3_0_0 : w3.cell? ⟨W.heap.size, 0, none⟩ = some (.int .i64 k) := by subst hhw3; go_simp
      have cw3_0_1 : w3.cell? ⟨W.heap.size, 1, none⟩ = some (.slice ad n cap) := by subst hhw3; go_simp
      have zw3_0 : W.heap.size < w3.heap.size := World.block_lt_of_cell? _ _ cw3_0_0
      have cw3_1_0 : w3.cell? ⟨W.heap.size + 1, 0, none⟩ = some (.int .i64 j) := by subst hhw3; go_simp
      have cw3_1_1 : w3.cell? ⟨W.heap.size + 1, 1, none⟩ = some (.slice bd m bcap) := by subst hhw3; go_simp
      have zw3_1 : W.heap.size + 1 < w3.heap.size := World.block_lt_of_cell? _ _ cw3_1_0
      have cw3_2_0 : w3.cell? ⟨w2.heap.size, 0, none⟩ = some (.iface 84 (.pointer (some ⟨B1, 0, none⟩))) := by subst hhw3; go_simp
      have cw3_2_1 : w3.cell? ⟨w2.heap.size, 1, none⟩ = some (.iface 84 (.pointer (some ⟨B2, 0, none⟩))) := by subst hhw3; go_simp
      have zw3_2 : w2.heap.size < w3.heap.size := World.block_lt_of_cell? _ _ cw3_2_0
      have gw3 : Gr W w3 := Gr.trans (by have gg := gw2; have gs := gg.size; go_grown) hw3
      clear hhw3 hw3 gw2 zw2_0 cw2_0_0 cw2_0_1 zw2_1 cw2_1_0 cw2_1_1
      try simp only [Act.put, List.setIfInBounds_toArray, List.set_cons_zero, List.set_cons_succ]
      repeat (first | (refine Od.wpO_skip (by simp only [List.getElem?_toArray, List.getElem?_cons_succ, List.getElem?_cons_zero] <;> rfl) rfl ?_; simp only [Act.put, List.setIfInBounds_toArray, List.set_cons_zero, List.set_cons_succ]) | (refine Od.wpO_pure (by simp only [List.getElem?_toArray, List.getElem?_cons_succ, List.getElem?_cons_zero] <;> rfl) rfl ?_; apply Exists.intro; refine ⟨?_, ?_⟩; (· intro wx gx; obtain ⟨mx, rfl⟩ := spread_of_gr gx; clear gx; all_goals (apply Od.pAt_of_quiet; intro K hK; go_big_quiet_op; first | exact hK _ rfl | (apply Exists.intro; refine ⟨fun _ => ?_, ?_⟩; (· fail); exact hK _ rfl))); try simp only [Act.put, List.setIfInBounds_toArray, List.set_cons_zero, List.set_cons_succ]))
      refine Od.wpO_call (by simp only [List.getElem?_toArray, List.getElem?_cons_succ, List.getElem?_cons_zero] <;> rfl) rfl ?_
      intro QS hQS
      go_wp2_with fail
      go_at_call 39
      (with_reducible refine ((H4.out _ _ _ _ false gw3 cw3_2_0 cw3_2_1 (nf_f _) (nf_f _) (by simp))).mono ?_)
      rintro e w4 ⟨rfl, hw4⟩
      go_wp2_with fail
      apply Exists.intro
      refine ⟨?_, hw4, ?_⟩
      · simp only [Act.put, List.setIfInBounds_toArray, List.set_cons_zero, List.set_cons_succ]; rfl
      have cw4_0_0 : w4.cell? ⟨W.heap.size, 0, none⟩ = some (.int .i64 k) := cell_gr hw4 (by go_simp)
      have cw4_0_1 : w4.cell? ⟨W.heap.size, 1, none⟩ = some (.slice ad n cap) := cell_gr hw4 (by go_simp)
      have zw4_0 : W.heap.size < w4.heap.size := World.block_lt_of_cell? _ _ cw4_0_0
      have cw4_1_0 : w4.cell? ⟨W.heap.size + 1, 0, none⟩ = some (.int .i64 j) := cell_gr hw4 (by go_simp)
      have cw4_1_1 : w4.cell? ⟨W.heap.size + 1, 1, none⟩ = some (.slice bd m bcap) := cell_gr hw4 (by go_simp)
      have zw4_1 : W.heap.size + 1 < w4.heap.size := World.block_lt_of_cell? _ _ cw4_1_0
      have cw4_2_0 : w4.cell? ⟨w2.heap.size, 0, none⟩ = some (.iface 84 (.pointer (some ⟨B1, 0, none⟩))) := cell_gr hw4 (by go_simp)
      have cw4_2_1 : w4.cell? ⟨w2.heap.size, 1, none⟩ = some (.iface 84 (.pointer (some ⟨B2, 0, none⟩))) := cell_gr hw4 (by go_simp)
      have zw4_2 : w2.heap.size < w4.heap.size := World.block_lt_of_cell? _ _ cw4_2_0
      have gw4 : Gr W w4 := Gr.trans (by have gg := gw3; have gs := gg.size; go_grown) hw4
      clear gw3 zw3_0 cw3_0_0 cw3_0_1 zw3_1 cw3_1_0 cw3_1_1 zw3_2 cw3_2_0 cw3_2_1
      clear hw4
      try simp only [Act.put, List.setIfInBounds_toArray, List.set_cons_zero, List.set_cons_succ]
      repeat (first | (refine Od.wpO_skip (by simp only [List.getElem?_toArray, List.getElem?_cons_succ, List.getElem?_cons_zero] <;> rfl) rfl ?_; simp only [Act.put, List.setIfInBounds_toArray, List.set_cons_zero, List.set_cons_succ]) | (refine Od.wpO_pure (by simp only [List.getElem?_toArray, List.getElem?_cons_succ, List.getElem?_cons_zero] <;> rfl) rfl ?_; apply Exists.intro; refine ⟨?_, ?_⟩; (· intro wx gx; obtain ⟨mx, rfl⟩ := spread_of_gr gx; clear gx; all_goals (apply Od.pAt_of_quiet; intro K hK; go_big_quiet_op; first | exact hK _ rfl | (apply Exists.intro; refine ⟨fun _ => ?_, ?_⟩; (· fail); exact hK _ rfl))); try simp only [Act.put, List.setIfInBounds_toArray, List.set_cons_zero, List.set_cons_succ]))
      refine Od.wpO_nil (hKQ _ _ ?_)
      clear hKQ KQ
      go_wp2_with fail
      go_ret
      exact ⟨rfl, gw4⟩
end
theorem c_TouchAny {k j : Int} {n m : Nat} {X Y P Q : Nat → Int} {v u : Value} (W : World) (hE : ErrT W) (h : Pts W v n X Y) (hu : Pts W u m P Q) :
    Calls Tryz.prog 17 #[.agg #[.int .i64 k, v], .agg #[.int .i64 j, u]] W fun e w' => e = .returned (.bool (decide (objC k n X Y = 0) && decide (objC j m P Q = 0) && tcA k n X Y j m P Q)) ∧ Gr W w' := by
  have A1 : ∀ w, Gr W w → Calls Tryz.prog 34 #[.agg #[.int .i64 k, v]] w fun e w' => ∃ x, e = .returned x ∧ WErr objectS w' x k (objC k n X Y) ∧ Gr w w' := fun w g => c_relCheck k w (pts_gr h g)
  have A2 : ∀ w, Gr W w → Calls Tryz.prog 34 #[.agg #[.int .i64 j, u]] w fun e w' => ∃ x, e = .returned x ∧ WErr objectS w' x j (objC j m P Q) ∧ Gr w w' := fun w g => c_relCheck j w (pts_gr hu g)
  have A3 : objC k n X Y = 0 → objC j m P Q = 0 → ∀ w, Gr W w → Calls Tryz.prog 49 #[.agg #[.int .i64 k, v], .agg #[.int .i64 j, u]] w fun e w' => e = .returned (.bool (tcA k n X Y j m P Q)) ∧ Gr w w' := fun hc hd w g => c_MeetAny w (pts_gr h g) (pts_gr hu g) hc hd
  obtain ⟨ad, cap, _, _, rfl, -⟩ := h
  obtain ⟨bd, bcap, _, _, rfl, -⟩ := hu
  exact touch_core ad bd n cap m bcap _ _ _ W hE A1 A2 A3
end Go.Proofs.YtfobmlgpjhghdaaGreatDoor
namespace Go.Proofs.YtfobmlgpjhghdaaGreatDoor
set_option linter.unusedVariables false
set_option linter.unusedSimpArgs false
open Go.ChangeShapes Go.WideShapes Go.ChangeAt Go.RowKit
section
variable {k kq qlx qly qhx qhy : Int} {n m cap bcap : Nat} {ad bd : Option Addr}
section
variable (m1 m2 m3 m4 : Int) (z : Bool) (W : World)
    (A1 : ∀ w, Gr W w → Calls Tryz.prog 11 #[.agg #[.int .i64 k, .slice ad n cap]] w fun e w' => e = .returned (.tuple #[.agg #[.int .i64 m1, .int .i64 m2, .int .i64 m3, .int .i64 m4], .int .i64 0]) ∧ Gr w w')
    (A2 : ∀ w, Gr W w → Calls Tryz.prog 31 #[qryV kq qlx qly qhx qhy (.slice bd m bcap)] w fun e w' => e = .returned (.int .i64 0) ∧ Gr w w')
include A1 A2
end
end
theorem bx_ok {k : Int} {n : Nat} {X Y : Nat → Int} (hc : objC k n X Y = 0) : boxB (bLx k n X) (bLy k n Y) (bHx k n X Y) (bHy k n Y) = true := by
  unfold bLx bLy bHx bHy
  by_cases k4 : k = 4
  · simp only [if_pos k4]
    subst k4
    rw [objC_4] at hc
    exact ring_box hc
  · simp only [if_neg k4]
    exact boxN_0.1 (obj_box hc k4).2.2
end Go.Proofs.YtfobmlgpjhghdaaGreatDoor
namespace Go.Proofs.YtfobmlgpjhghdaaGreatDoor
set_option linter.unusedVariables false
set_option linter.unusedSimpArgs false
open Go.ChangeShapes Go.WideShapes Go.ChangeAt Go.RowKit
def tcD (k : Int) (n : Nat) (X Y : Nat → Int) (j : Int) (m : Nat) (P Q : Nat → Int) : Bool :=
  if k = 4 then (if j = 4 then rgD n X Y m P Q else rmD n X Y (P 0) (oLy j Q) (oHx j P Q) (oHy j Q))
  else (if j = 4 then rmD m P Q (X 0) (oLy k Y) (oHx k X Y) (oHy k Y) else meV (X 0) (oLy k Y) (oHx k X Y) (oHy k Y) (P 0) (oLy j Q) (oHx j P Q) (oHy j Q))
theorem meV_comm (lx ly hx hy mx my nx ny : Int) : meV mx my nx ny lx ly hx hy = meV lx ly hx hy mx my nx ny := by
  unfold meV
  cases boxB lx ly hx hy <;> cases boxB mx my nx ny <;> cases decide (lx ≤ nx) <;> cases decide (mx ≤ hx) <;> cases decide (ly ≤ ny) <;> cases decide (my ≤ hy) <;> rfl
theorem tcD_comm (k : Int) (n : Nat) (X Y : Nat → Int) (j : Int) (m : Nat) (P Q : Nat → Int) : tcD j m P Q k n X Y = tcD k n X Y j m P Q := by
  unfold tcD
  by_cases k4 : k = 4 <;> by_cases j4 : j = 4 <;> simp only [if_pos, if_neg, k4, j4, not_false_eq_true, reduceIte]
  · exact rgD_comm
  · exact meV_comm _ _ _ _ _ _ _ _
section
variable {k j : Int} {n m : Nat} {X Y P Q : Nat → Int} {v u : Value}
theorem tc_doc (hc : objC k n X Y = 0) (hd : objC j m P Q = 0) : tcA k n X Y j m P Q = tcD k n X Y j m P Q := by
  have bo := bx_ok hc
  have bp := bx_ok hd
  unfold bLx bLy bHx bHy at bo bp
  unfold tcA tcD
  by_cases k4 : k = 4 <;> by_cases j4 : j = 4
  · subst k4 j4
    rw [objC_4] at hc hd
    simp only [if_pos]
    exact rg_doc hc hd
  · subst k4
    rw [objC_4] at hc
    simp only [if_neg j4] at bp
    simp only [if_pos, if_neg j4]
    exact rm_doc hc bp
  · subst j4
    rw [objC_4] at hd
    simp only [if_neg k4] at bo
    simp only [if_pos, if_neg k4]
    exact rm_doc hd bo
  · simp only [if_neg k4, if_neg j4]
end
section
variable {k j : Int} {n m cap bcap : Nat} {ad bd : Option Addr}
set_option maxHeartbeats 4000000 in
set_option maxRecDepth 100000 in
theorem rtouch_no (m1 m2 m3 m4 p1 p2 p3 p4 : Int) (c d : Nat) (W : World) (hc : c ≠ 0 ∨ d ≠ 0)
    (A1 : ∀ w, Gr W w → Calls Tryz.prog 11 #[.agg #[.int .i64 k, .slice ad n cap]] w fun e w' => e = .returned (.tuple #[.agg #[.int .i64 m1, .int .i64 m2, .int .i64 m3, .int .i64 m4], .int .i64 (c : Nat)]) ∧ Gr w w')
    (A2 : ∀ w, Gr W w → Calls Tryz.prog 11 #[.agg #[.int .i64 j, .slice bd m bcap]] w fun e w' => e = .returned (.tuple #[.agg #[.int .i64 p1, .int .i64 p2, .int .i64 p3, .int .i64 p4], .int .i64 (d : Nat)]) ∧ Gr w w') :
    Calls Tryz.prog 18 #[.agg #[.int .i64 k, .slice ad n cap], .agg #[.int .i64 j, .slice bd m bcap]] W fun e w' => e = .returned (.bool false) ∧ Gr W w' := by
  have H1 := Lib.hid A1
  have H2 := Lib.hid A2
  clear A1 A2
  by_cases h : c = 0
  · have e1 : ((d : Int) != 0) = true := by simp; omega
    have e2 : (d != 0) = true := by simp; omega
    subst h
    clear hc
    go_enter Tryz.func18, Tryz.ntmps18
    go_wp2_with fail
    go_at_call 11
    refine ((H1.out _ (by go_grown))).mono ?_
    rintro e w1 ⟨rfl, hw1⟩
    have cw1_0_0 : w1.cell? ⟨W.heap.size, 0, none⟩ = some (.int .i64 k) := cell_gr hw1 (by go_simp)
    have cw1_0_1 : w1.cell? ⟨W.heap.size, 1, none⟩ = some (.slice ad n cap) := cell_gr hw1 (by go_simp)
    have zw1_0 : W.heap.size < w1.heap.size := World.block_lt_of_cell? _ _ cw1_0_0
    have cw1_1_0 : w1.cell? ⟨W.heap.size + 1, 0, none⟩ = some (.int .i64 j) := cell_gr hw1 (by go_simp)
    have cw1_1_1 : w1.cell? ⟨W.heap.size + 1, 1, none⟩ = some (.slice bd m bcap) := cell_gr hw1 (by go_simp)
    have zw1_1 : W.heap.size + 1 < w1.heap.size := World.block_lt_of_cell? _ _ cw1_1_0
    have gw1 : Gr W w1 := Gr.trans (by go_grown) hw1
    clear hw1
    go_wp2_with fail
    go_at_call 11
    refine ((H2.out _ (by have gg := gw1; have gs := gg.size; go_grown))).mono ?_
    rintro e w2 ⟨rfl, hw2⟩
    have cw2_0_0 : w2.cell? ⟨W.heap.size, 0, none⟩ = some (.int .i64 k) := cell_gr hw2 (by go_simp)
    have cw2_0_1 : w2.cell? ⟨W.heap.size, 1, none⟩ = some (.slice ad n cap) := cell_gr hw2 (by go_simp)
    have zw2_0 : W.heap.size < w2.heap.size := World.block_lt_of_cell? _ _ cw2_0_0
    have cw2_1_0 : w2.cell? ⟨W.heap.size + 1, 0, none⟩ = some (.int .i64 j) := cell_gr hw2 (by go_simp)
    have cw2_1_1 : w2.cell? ⟨W.heap.size + 1, 1, none⟩ = some (.slice bd m bcap) := cell_gr hw2 (by go_simp)
    have zw2_1 : W.heap.size + 1 < w2.heap.size := World.block_lt_of_cell? _ _ cw2_1_0
    have gw2 : Gr W w2 := Gr.trans (by have gg := gw1; have gs := gg.size; go_grown) hw2
    clear hw2 gw1 zw1_0 cw1_0_0 cw1_0_1 zw1_1 cw1_1_0 cw1_1_1
    go_wp2_with fail
    go_ret
    exact ⟨rfl, by have gg := gw2; have gs := gg.size; go_grown⟩
  · have e1 : ((c : Int) != 0) = true := by simp; omega
    have e2 : (c != 0) = true := by simp; omega
    clear hc h
    go_enter Tryz.func18, Tryz.ntmps18
    go_wp2_with fail
    go_at_call 11
    refine ((H1.out _ (by go_grown))).mono ?_
    rintro e w1 ⟨rfl, hw1⟩
    have cw1_0_0 : w1.cell? ⟨W.heap.size, 0, none⟩ = some (.int .i64 k) := cell_gr hw1 (by go_simp)
    have cw1_0_1 : w1.cell? ⟨W.heap.size, 1, none⟩ = some (.slice ad n cap) := cell_gr hw1 (by go_simp)
    have zw1_0 : W.heap.size < w1.heap.size := World.block_lt_of_cell? _ _ cw1_0_0
    have cw1_1_0 : w1.cell? ⟨W.heap.size + 1, 0, none⟩ = some (.int .i64 j) := cell_gr hw1 (by go_simp)
    have cw1_1_1 : w1.cell? ⟨W.heap.size + 1, 1, none⟩ = some (.slice bd m bcap) := cell_gr hw1 (by go_simp)
    have zw1_1 : W.heap.size + 1 < w1.heap.size := World.block_lt_of_cell? _ _ cw1_1_0
    have gw1 : Gr W w1 := Gr.trans (by go_grown) hw1
    clear hw1
    go_wp2_with fail
    go_at_call 11
    refine ((H2.out _ (by have gg := gw1; have gs := gg.size; go_grown))).mono ?_
    rintro e w2 ⟨rfl, hw2⟩
    have cw2_0_0 : w2.cell? ⟨W.heap.size, 0, none⟩ = some (.int .i64 k) := cell_gr hw2 (by go_simp)
    have cw2_0_1 : w2.cell? ⟨W.heap.size, 1, none⟩ = some (.slice ad n cap) := cell_gr hw2 (by go_simp)
    have zw2_0 : W.heap.size < w2.heap.size := World.block_lt_of_cell? _ _ cw2_0_0
    have cw2_1_0 : w2.cell? ⟨W.heap.size + 1, 0, none⟩ = some (.int .i64 j) := cell_gr hw2 (by go_simp)
    have cw2_1_1 : w2.cell? ⟨W.heap.size + 1, 1, none⟩ = some (.slice bd m bcap) := cell_gr hw2 (by go_simp)
    have zw2_1 : W.heap.size + 1 < w2.heap.size := World.block_lt_of_cell? _ _ cw2_1_0
    have gw2 : Gr W w2 := Gr.trans (by have gg := gw1; have gs := gg.size; go_grown) hw2
    clear hw2 gw1 zw1_0 cw1_0_0 cw1_0_1 zw1_1 cw1_1_0 cw1_1_1
    go_wp2_with fail
    go_ret
    exact ⟨rfl, by have gg := gw2; have gs := gg.size; go_grown⟩
set_option maxHeartbeats 4000000 in
set_option maxRecDepth 100000 in
theorem rtouch_yes (m1 m2 m3 m4 p1 p2 p3 p4 : Int) (z : Bool) (W : World)
    (A1 : ∀ w, Gr W w → Calls Tryz.prog 11 #[.agg #[.int .i64 k, .slice ad n cap]] w fun e w' => e = .returned (.tuple #[.agg #[.int .i64 m1, .int .i64 m2, .int .i64 m3, .int .i64 m4], .int .i64 0]) ∧ Gr w w')
    (A2 : ∀ w, Gr W w → Calls Tryz.prog 11 #[.agg #[.int .i64 j, .slice bd m bcap]] w fun e w' => e = .returned (.tuple #[.agg #[.int .i64 p1, .int .i64 p2, .int .i64 p3, .int .i64 p4], .int .i64 0]) ∧ Gr w w')
    (A3 : k = 4 → j = 4 → ∀ w, Gr W w → Calls Tryz.prog 43 #[.slice ad n cap, .slice bd m bcap] w fun e w' => e = .returned (.bool z) ∧ Gr w w')
    (A4 : k = 4 → j ≠ 4 → ∀ w, Gr W w → Calls Tryz.prog 44 #[.slice ad n cap, .agg #[.int .i64 p1, .int .i64 p2, .int .i64 p3, .int .i64 p4]] w fun e w' => e = .returned (.bool z) ∧ Gr w w')
    (A5 : k ≠ 4 → j = 4 → ∀ w, Gr W w → Calls Tryz.prog 44 #[.slice bd m bcap, .agg #[.int .i64 m1, .int .i64 m2, .int .i64 m3, .int .i64 m4]] w fun e w' => e = .returned (.bool z) ∧ Gr w w')
    (A6 : k ≠ 4 → j ≠ 4 → ∀ w, Calls Tryz.prog 27 #[.agg #[.int .i64 m1, .int .i64 m2, .int .i64 m3, .int .i64 m4], .agg #[.int .i64 p1, .int .i64 p2, .int .i64 p3, .int .i64 p4]] w fun e w' => e = .returned (.bool z) ∧ Gr w w') :
    Calls Tryz.prog 18 #[.agg #[.int .i64 k, .slice ad n cap], .agg #[.int .i64 j, .slice bd m bcap]] W fun e w' => e = .returned (.bool z) ∧ Gr W w' := by
  by_cases k4 : k = 4
  · by_cases j4 : j = 4
    · replace A3 := A3 k4 j4
      subst k4 j4
      clear A4 A5 A6
      have H1 := Lib.hid A1
      have H2 := Lib.hid A2
      have H3 := Lib.hid A3
      clear A1 A2 A3
      go_enter Tryz.func18, Tryz.ntmps18
      go_wp2_with fail
      go_at_call 11
      refine ((H1.out _ (by go_grown))).mono ?_
      rintro e w1 ⟨rfl, hw1⟩
      have cw1_0_0 : w1.cell? ⟨W.heap.size, 0, none⟩ = some (.int .i64 4) := cell_gr hw1 (by go_simp)
      have cw1_0_1 : w1.cell? ⟨W.heap.size, 1, none⟩ = some (.slice ad n cap) := cell_gr hw1 (by go_simp)
      have zw1_0 : W.heap.size < w1.heap.size := World.block_lt_of_cell? _ _ cw1_0_0
      have cw1_1_0 : w1.cell? ⟨W.heap.size + 1, 0, none⟩ = some (.int .i64 4) := cell_gr hw1 (by go_simp)
      have cw1_1_1 : w1.cell? ⟨W.heap.size + 1, 1, none⟩ = some (.slice bd m bcap) := cell_gr hw1 (by go_simp)
      have zw1_1 : W.heap.size + 1 < w1.heap.size := World.block_lt_of_cell? _ _ cw1_1_0
      have gw1 : Gr W w1 := Gr.trans (by go_grown) hw1
      clear hw1
      go_wp2_with fail
      go_at_call 11
      refine ((H2.out _ (by have gg := gw1; have gs := gg.size; go_grown))).mono ?_
      rintro e w2 ⟨rfl, hw2⟩
      have cw2_0_0 : w2.cell? ⟨W.heap.size, 0, none⟩ = some (.int .i64 4) := cell_gr hw2 (by go_simp)
      have cw2_0_1 : w2.cell? ⟨W.heap.size, 1, none⟩ = some (.slice ad n cap) := cell_gr hw2 (by go_simp)
      have zw2_0 : W.heap.size < w2.heap.size := World.block_lt_of_cell? _ _ cw2_0_0
      have cw2_1_0 : w2.cell? ⟨W.heap.size + 1, 0, none⟩ = some (.int .i64 4) := cell_gr hw2 (by go_simp)
      have cw2_1_1 : w2.cell? ⟨W.heap.size + 1, 1, none⟩ = some (.slice bd m bcap) := cell_gr hw2 (by go_simp)
      have zw2_1 : W.heap.size + 1 < w2.heap.size := World.block_lt_of_cell? _ _ cw2_1_0
      have cw2_2_0 : w2.cell? ⟨w1.heap.size, 0, none⟩ = some (.int .i64 m1) := cell_gr hw2 (by go_simp)
      have cw2_2_1 : w2.cell? ⟨w1.heap.size, 1, none⟩ = some (.int .i64 m2) := cell_gr hw2 (by go_simp)
      have cw2_2_2 : w2.cell? ⟨w1.heap.size, 2, none⟩ = some (.int .i64 m3) := cell_gr hw2 (by go_simp)
      have cw2_2_3 : w2.cell? ⟨w1.heap.size, 3, none⟩ = some (.int .i64 m4) := cell_gr hw2 (by go_simp)
      have zw2_2 : w1.heap.size < w2.heap.size := World.block_lt_of_cell? _ _ cw2_2_0
      have gw2 : Gr W w2 := Gr.trans (by have gg := gw1; have gs := gg.size; go_grown) hw2
      clear hw2 gw1 zw1_0 cw1_0_0 cw1_0_1 zw1_1 cw1_1_0 cw1_1_1
      go_wp2_with fail
      go_at_call 43
      refine ((H3.out _ (by have gg := gw2; have gs := gg.size; go_grown))).mono ?_
      rintro e w3 ⟨rfl, hw3⟩
      have cw3_0_0 : w3.cell? ⟨W.heap.size, 0, none⟩ = some (.int .i64 4) := cell_gr hw3 (by go_simp)
      have cw3_0_1 : w3.cell? ⟨W.heap.size, 1, none⟩ = some (.slice ad n cap) := cell_gr hw3 (by go_simp)
      have zw3_0 : W.heap.size < w3.heap.size := World.block_lt_of_cell? _ _ cw3_0_0
      have cw3_1_0 : w3.cell? ⟨W.heap.size + 1, 0, none⟩ = some (.int .i64 4) := cell_gr hw3 (by go_simp)
      have cw3_1_1 : w3.cell? ⟨W.heap.size + 1, 1, none⟩ = some (.slice bd m bcap) := cell_gr hw3 (by go_simp)
      have zw3_1 : W.heap.size + 1 < w3.heap.size := World.block_lt_of_cell? _ _ cw3_1_0
      have cw3_2_0 : w3.cell? ⟨w1.heap.size, 0, none⟩ = some (.int .i64 m1) := cell_gr hw3 (by go_simp)
      have cw3_2_1 : w3.cell? ⟨w1.heap.size, 1, none⟩ = some (.int .i64 m2) := cell_gr hw3 (by go_simp)
      have cw3_2_2 : w3.cell? ⟨w1.heap.size, 2, none⟩ = some (.int .i64 m3) := cell_gr hw3 (by go_simp)
      have cw3_2_3 : w3.cell? ⟨w1.heap.size, 3, none⟩ = some (.int .i64 m4) := cell_gr hw3 (by go_simp)
      have zw3_2 : w1.heap.size < w3.heap.size := World.block_lt_of_cell? _ _ cw3_2_0
      have cw3_3_0 : w3.cell? ⟨w2.heap.size, 0, none⟩ = some (.int .i64 p1) := cell_gr hw3 (by go_simp)
      have cw3_3_1 : w3.cell? ⟨w2.heap.size, 1, none⟩ = some (.int .i64 p2) := cell_gr hw3 (by go_simp)
      have cw3_3_2 : w3.cell? ⟨w2.heap.size, 2, none⟩ = some (.int .i64 p3) := cell_gr hw3 (by go_simp)
      have cw3_3_3 : w3.cell? ⟨w2.heap.size, 3, none⟩ = some (.int .i64 p4) := cell_gr hw3 (by go_simp)
      have zw3_3 : w2.heap.size < w3.heap.size := World.block_lt_of_cell? _ _ cw3_3_0
      have gw3 : Gr W w3 := Gr.trans (by have gg := gw2; have gs := gg.size; go_grown) hw3
      clear hw3 gw2 zw2_0 cw2_0_0 cw2_0_1 zw2_1 cw2_1_0 cw2_1_1 zw2_2 cw2_2_0 cw2_2_1 cw2_2_2 cw2_2_3
      go_wp2_with fail
      go_ret
      exact ⟨rfl, gw3⟩
    · replace A4 := A4 k4 j4
      have b4 : (j == 4) = false := by simp; omega
      subst k4
      clear A3 A5 A6 j4
      have H1 := Lib.hid A1
      have H2 := Lib.hid A2
      have H4 := Lib.hid A4
      clear A1 A2 A4
      go_enter Tryz.func18, Tryz.ntmps18
      go_wp2_with fail
      go_at_call 11
      refine ((H1.out _ (by go_grown))).mono ?_
      rintro e w1 ⟨rfl, hw1⟩
      have cw1_0_0 : w1.cell? ⟨W.heap.size, 0, none⟩ = some (.int .i64 4) := cell_gr hw1 (by go_simp)
      have cw1_0_1 : w1.cell? ⟨W.heap.size, 1, none⟩ = some (.slice ad n cap) := cell_gr hw1 (by go_simp)
      have zw1_0 : W.heap.size < w1.heap.size := World.block_lt_of_cell? _ _ cw1_0_0
      have cw1_1_0 : w1.cell? ⟨W.heap.size + 1, 0, none⟩ = some (.int .i64 j) := cell_gr hw1 (by go_simp)
      have cw1_1_1 : w1.cell? ⟨W.heap.size + 1, 1, none⟩ = some (.slice bd m bcap) := cell_gr hw1 (by go_simp)
      have zw1_1 : W.heap.size + 1 < w1.heap.size := World.block_lt_of_cell? _ _ cw1_1_0
      have gw1 : Gr W w1 := Gr.trans (by go_grown) hw1
      clear hw1
      go_wp2_with fail
      go_at_call 11
      refine ((H2.out _ (by have gg := gw1; have gs := gg.size; go_grown))).mono ?_
      rintro e w2 ⟨rfl, hw2⟩
      have cw2_0_0 : w2.cell? ⟨W.heap.size, 0, none⟩ = some (.int .i64 4) := cell_gr hw2 (by go_simp)
      have cw2_0_1 : w2.cell? ⟨W.heap.size, 1, none⟩ = some (.slice ad n cap) := cell_gr hw2 (by go_simp)
      have zw2_0 : W.heap.size < w2.heap.size := World.block_lt_of_cell? _ _ cw2_0_0
      have cw2_1_0 : w2.cell? ⟨W.heap.size + 1, 0, none⟩ = some (.int .i64 j) := cell_gr hw2 (by go_simp)
      have cw2_1_1 : w2.cell? ⟨W.heap.size + 1, 1, none⟩ = some (.slice bd m bcap) := cell_gr hw2 (by go_simp)
      have zw2_1 : W.heap.size + 1 < w2.heap.size := World.block_lt_of_cell? _ _ cw2_1_0
      have cw2_2_0 : w2.cell? ⟨w1.heap.size, 0, none⟩ = some (.int .i64 m1) := cell_gr hw2 (by go_simp)
      have cw2_2_1 : w2.cell? ⟨w1.heap.size, 1, none⟩ = some (.int .i64 m2) := cell_gr hw2 (by go_simp)
      have cw2_2_2 : w2.cell? ⟨w1.heap.size, 2, none⟩ = some (.int .i64 m3) := cell_gr hw2 (by go_simp)
      have cw2_2_3 : w2.cell? ⟨w1.heap.size, 3, none⟩ = some (.int .i64 m4) := cell_gr hw2 (by go_simp)
      have zw2_2 : w1.heap.size < w2.heap.size := World.block_lt_of_cell? _ _ cw2_2_0
      have gw2 : Gr W w2 := Gr.trans (by have gg := gw1; have gs := gg.size; go_grown) hw2
      clear hw2 gw1 zw1_0 cw1_0_0 cw1_0_1 zw1_1 cw1_1_0 cw1_1_1
      go_wp2_with fail
      go_at_call 44
      refine ((H4.out _ (by have gg := gw2; have gs := gg.size; go_grown))).mono ?_
      rintro e w3 ⟨rfl, hw3⟩
      have cw3_0_0 : w3.cell? ⟨W.heap.size, 0, none⟩ = some (.int .i64 4) := cell_gr hw3 (by go_simp)
      have cw3_0_1 : w3.cell? ⟨W.heap.size, 1, none⟩ = some (.slice ad n cap) := cell_gr hw3 (by go_simp)
      have zw3_0 : W.heap.size < w3.heap.size := World.block_lt_of_cell? _ _ cw3_0_0
      have cw3_1_0 : w3.cell? ⟨W.heap.size + 1, 0, none⟩ = some (.int .i64 j) := cell_gr hw3 (by go_simp)
      have cw3_1_1 : w3.cell? ⟨W.heap.size + 1, 1, none⟩ = some (.slice bd m bcap) := cell_gr hw3 (by go_simp)
      have zw3_1 : W.heap.size + 1 < w3.heap.size := World.block_lt_of_cell? _ _ cw3_1_0
      have cw3_2_0 : w3.cell? ⟨w1.heap.size, 0, none⟩ = some (.int .i64 m1) := cell_gr hw3 (by go_simp)
      have cw3_2_1 : w3.cell? ⟨w1.heap.size, 1, none⟩ = some (.int .i64 m2) := cell_gr hw3 (by go_simp)
      have cw3_2_2 : w3.cell? ⟨w1.heap.size, 2, none⟩ = some (.int .i64 m3) := cell_gr hw3 (by go_simp)
      have cw3_2_3 : w3.cell? ⟨w1.heap.size, 3, none⟩ = some (.int .i64 m4) := cell_gr hw3 (by go_simp)
      have zw3_2 : w1.heap.size < w3.heap.size := World.block_lt_of_cell? _ _ cw3_2_0
      have cw3_3_0 : w3.cell? ⟨w2.heap.size, 0, none⟩ = some (.int .i64 p1) := cell_gr hw3 (by go_simp)
      have cw3_3_1 : w3.cell? ⟨w2.heap.size, 1, none⟩ = some (.int .i64 p2) := cell_gr hw3 (by go_simp)
      have cw3_3_2 : w3.cell? ⟨w2.heap.size, 2, none⟩ = some (.int .i64 p3) := cell_gr hw3 (by go_simp)
      have cw3_3_3 : w3.cell? ⟨w2.heap.size, 3, none⟩ = some (.int .i64 p4) := cell_gr hw3 (by go_simp)
      have zw3_3 : w2.heap.size < w3.heap.size := World.block_lt_of_cell? _ _ cw3_3_0
      have gw3 : Gr W w3 := Gr.trans (by have gg := gw2; have gs := gg.size; go_grown) hw3
      clear hw3 gw2 zw2_0 cw2_0_0 cw2_0_1 zw2_1 cw2_1_0 cw2_1_1 zw2_2 cw2_2_0 cw2_2_1 cw2_2_2 cw2_2_3
      go_wp2_with fail
      go_ret
      exact ⟨rfl, gw3⟩
  · have a4 : (k == 4) = false := by simp; omega
    by_cases j4 : j = 4
    · replace A5 := A5 k4 j4
      subst j4
      clear A3 A4 A6 k4
      have H1 := Lib.hid A1
      have H2 := Lib.hid A2
      have H5 := Lib.hid A5
      clear A1 A2 A5
      go_enter Tryz.func18, Tryz.ntmps18
      go_wp2_with fail
      go_at_call 11
      refine ((H1.out _ (by go_grown))).mono ?_
      rintro e w1 ⟨rfl, hw1⟩
      have cw1_0_0 : w1.cell? ⟨W.heap.size, 0, none⟩ = some (.int .i64 k) := cell_gr hw1 (by go_simp)
      have cw1_0_1 : w1.cell? ⟨W.heap.size, 1, none⟩ = some (.slice ad n cap) := cell_gr hw1 (by go_simp)
      have zw1_0 : W.heap.size < w1.heap.size := World.block_lt_of_cell? _ _ cw1_0_0
      have cw1_1_0 : w1.cell? ⟨W.heap.size + 1, 0, none⟩ = some (.int .i64 4) := cell_gr hw1 (by go_simp)
      have cw1_1_1 : w1.cell? ⟨W.heap.size + 1, 1, none⟩ = some (.slice bd m bcap) := cell_gr hw1 (by go_simp)
      have zw1_1 : W.heap.size + 1 < w1.heap.size := World.block_lt_of_cell? _ _ cw1_1_0
      have gw1 : Gr W w1 := Gr.trans (by go_grown) hw1
      clear hw1
      go_wp2_with fail
      go_at_call 11
      refine ((H2.out _ (by have gg := gw1; have gs := gg.size; go_grown))).mono ?_
      rintro e w2 ⟨rfl, hw2⟩
      have cw2_0_0 : w2.cell? ⟨W.heap.size, 0, none⟩ = some (.int .i64 k) := cell_gr hw2 (by go_simp)
      have cw2_0_1 : w2.cell? ⟨W.heap.size, 1, none⟩ = some (.slice ad n cap) := cell_gr hw2 (by go_simp)
      have zw2_0 : W.heap.size < w2.heap.size := World.block_lt_of_cell? _ _ cw2_0_0
      have cw2_1_0 : w2.cell? ⟨W.heap.size + 1, 0, none⟩ = some (.int .i64 4) := cell_gr hw2 (by go_simp)
      have cw2_1_1 : w2.cell? ⟨W.heap.size + 1, 1, none⟩ = some (.slice bd m bcap) := cell_gr hw2 (by go_simp)
      have zw2_1 : W.heap.size + 1 < w2.heap.size := World.block_lt_of_cell? _ _ cw2_1_0
      have cw2_2_0 : w2.cell? ⟨w1.heap.size, 0, none⟩ = some (.int .i64 m1) := cell_gr hw2 (by go_simp)
      have cw2_2_1 : w2.cell? ⟨w1.heap.size, 1, none⟩ = some (.int .i64 m2) := cell_gr hw2 (by go_simp)
      have cw2_2_2 : w2.cell? ⟨w1.heap.size, 2, none⟩ = some (.int .i64 m3) := cell_gr hw2 (by go_simp)
      have cw2_2_3 : w2.cell? ⟨w1.heap.size, 3, none⟩ = some (.int .i64 m4) := cell_gr hw2 (by go_simp)
      have zw2_2 : w1.heap.size < w2.heap.size := World.block_lt_of_cell? _ _ cw2_2_0
      have gw2 : Gr W w2 := Gr.trans (by have gg := gw1; have gs := gg.size; go_grown) hw2
      clear hw2 gw1 zw1_0 cw1_0_0 cw1_0_1 zw1_1 cw1_1_0 cw1_1_1
      go_wp2_with fail
      go_at_call 44
      refine ((H5.out _ (by have gg := gw2; have gs := gg.size; go_grown))).mono ?_
      rintro e w3 ⟨rfl, hw3⟩
      have cw3_0_0 : w3.cell? ⟨W.heap.size, 0, none⟩ = some (.int .i64 k) := cell_gr hw3 (by go_simp)
      have cw3_0_1 : w3.cell? ⟨W.heap.size, 1, none⟩ = some (.slice ad n cap) := cell_gr hw3 (by go_simp)
      have zw3_0 : W.heap.size < w3.heap.size := World.block_lt_of_cell? _ _ cw3_0_0
      have cw3_1_0 : w3.cell? ⟨W.heap.size + 1, 0, none⟩ = some (.int .i64 4) := cell_gr hw3 (by go_simp)
      have cw3_1_1 : w3.cell? ⟨W.heap.size + 1, 1, none⟩ = some (.slice bd m bcap) := cell_gr hw3 (by go_simp)
      have zw3_1 : W.heap.size + 1 < w3.heap.size := World.block_lt_of_cell? _ _ cw3_1_0
      have cw3_2_0 : w3.cell? ⟨w1.heap.size, 0, none⟩ = some (.int .i64 m1) := cell_gr hw3 (by go_simp)
      have cw3_2_1 : w3.cell? ⟨w1.heap.size, 1, none⟩ = some (.int .i64 m2) := cell_gr hw3 (by go_simp)
      have cw3_2_2 : w3.cell? ⟨w1.heap.size, 2, none⟩ = some (.int .i64 m3) := cell_gr hw3 (by go_simp)
      have cw3_2_3 : w3.cell? ⟨w1.heap.size, 3, none⟩ = some (.int .i64 m4) := cell_gr hw3 (by go_simp)
      have zw3_2 : w1.heap.size < w3.heap.size := World.block_lt_of_cell? _ _ cw3_2_0
      have cw3_3_0 : w3.cell? ⟨w2.heap.size, 0, none⟩ = some (.int .i64 p1) := cell_gr hw3 (by go_simp)
      have cw3_3_1 : w3.cell? ⟨w2.heap.size, 1, none⟩ = some (.int .i64 p2) := cell_gr hw3 (by go_simp)
      have cw3_3_2 : w3.cell? ⟨w2.heap.size, 2, none⟩ = some (.int .i64 p3) := cell_gr hw3 (by go_simp)
      have cw3_3_3 : w3.cell? ⟨w2.heap.size, 3, none⟩ = some (.int .i64 p4) := cell_gr hw3 (by go_simp)
      have zw3_3 : w2.heap.size < w3.heap.size := World.block_lt_of_cell? _ _ cw3_3_0
      have gw3 : Gr W w3 := Gr.trans (by have gg := gw2; have gs := gg.size; go_grown) hw3
      clear hw3 gw2 zw2_0 cw2_0_0 cw2_0_1 zw2_1 cw2_1_0 cw2_1_1 zw2_2 cw2_2_0 cw2_2_1 cw2_2_2 cw2_2_3
      go_wp2_with fail
      go_ret
      exact ⟨rfl, gw3⟩
    · replace A6 := A6 k4 j4
      have b4 : (j == 4) = false := by simp; omega
      clear A3 A4 A5 k4 j4
      have H1 := Lib.hid A1
      have H2 := Lib.hid A2
      have H6 := Lib.hid A6
      clear A1 A2 A6
      go_enter Tryz.func18, Tryz.ntmps18
      go_wp2_with fail
      go_at_call 11
      refine ((H1.out _ (by go_grown))).mono ?_
      rintro e w1 ⟨rfl, hw1⟩
      have cw1_0_0 : w1.cell? ⟨W.heap.size, 0, none⟩ = some (.int .i64 k) := cell_gr hw1 (by go_simp)
      have cw1_0_1 : w1.cell? ⟨W.heap.size, 1, none⟩ = some (.slice ad n cap) := cell_gr hw1 (by go_simp)
      have zw1_0 : W.heap.size < w1.heap.size := World.block_lt_of_cell? _ _ cw1_0_0
      have cw1_1_0 : w1.cell? ⟨W.heap.size + 1, 0, none⟩ = some (.int .i64 j) := cell_gr hw1 (by go_simp)
      have cw1_1_1 : w1.cell? ⟨W.heap.size + 1, 1, none⟩ = some (.slice bd m bcap) := cell_gr hw1 (by go_simp)
      have zw1_1 : W.heap.size + 1 < w1.heap.size := World.block_lt_of_cell? _ _ cw1_1_0
      have gw1 : Gr W w1 := Gr.trans (by go_grown) hw1
      clear hw1
      go_wp2_with fail
      go_at_call 11
      refine ((H2.out _ (by have gg := gw1; have gs := gg.size; go_grown))).mono ?_
      rintro e w2 ⟨rfl, hw2⟩
      have cw2_0_0 : w2.cell? ⟨W.heap.size, 0, none⟩ = some (.int .i64 k) := cell_gr hw2 (by go_simp)
      have cw2_0_1 : w2.cell? ⟨W.heap.size, 1, none⟩ = some (.slice ad n cap) := cell_gr hw2 (by go_simp)
      have zw2_0 : W.heap.size < w2.heap.size := World.block_lt_of_cell? _ _ cw2_0_0
      have cw2_1_0 : w2.cell? ⟨W.heap.size + 1, 0, none⟩ = some (.int .i64 j) := cell_gr hw2 (by go_simp)
      have cw2_1_1 : w2.cell? ⟨W.heap.size + 1, 1, none⟩ = some (.slice bd m bcap) := cell_gr hw2 (by go_simp)
      have zw2_1 : W.heap.size + 1 < w2.heap.size := World.block_lt_of_cell? _ _ cw2_1_0
      have cw2_2_0 : w2.cell? ⟨w1.heap.size, 0, none⟩ = some (.int .i64 m1) := cell_gr hw2 (by go_simp)
      have cw2_2_1 : w2.cell? ⟨w1.heap.size, 1, none⟩ = some (.int .i64 m2) := cell_gr hw2 (by go_simp)
      have cw2_2_2 : w2.cell? ⟨w1.heap.size, 2, none⟩ = some (.int .i64 m3) := cell_gr hw2 (by go_simp)
      have cw2_2_3 : w2.cell? ⟨w1.heap.size, 3, none⟩ = some (.int .i64 m4) := cell_gr hw2 (by go_simp)
      have zw2_2 : w1.heap.size < w2.heap.size := World.block_lt_of_cell? _ _ cw2_2_0
      have gw2 : Gr W w2 := Gr.trans (by have gg := gw1; have gs := gg.size; go_grown) hw2
      clear hw2 gw1 zw1_0 cw1_0_0 cw1_0_1 zw1_1 cw1_1_0 cw1_1_1
      go_wp2_with fail
      go_at_call 27
      refine ((H6.out _)).mono ?_
      rintro e w3 ⟨rfl, hw3⟩
      have cw3_0_0 : w3.cell? ⟨W.heap.size, 0, none⟩ = some (.int .i64 k) := cell_gr hw3 (by go_simp)
      have cw3_0_1 : w3.cell? ⟨W.heap.size, 1, none⟩ = some (.slice ad n cap) := cell_gr hw3 (by go_simp)
      have zw3_0 : W.heap.size < w3.heap.size := World.block_lt_of_cell? _ _ cw3_0_0
      have cw3_1_0 : w3.cell? ⟨W.heap.size + 1, 0, none⟩ = some (.int .i64 j) := cell_gr hw3 (by go_simp)
      have cw3_1_1 : w3.cell? ⟨W.heap.size + 1, 1, none⟩ = some (.slice bd m bcap) := cell_gr hw3 (by go_simp)
      have zw3_1 : W.heap.size + 1 < w3.heap.size := World.block_lt_of_cell? _ _ cw3_1_0
      have cw3_2_0 : w3.cell? ⟨w1.heap.size, 0, none⟩ = some (.int .i64 m1) := cell_gr hw3 (by go_simp)
      have cw3_2_1 : w3.cell? ⟨w1.heap.size, 1, none⟩ = some (.int .i64 m2) := cell_gr hw3 (by go_simp)
      have cw3_2_2 : w3.cell? ⟨w1.heap.size, 2, none⟩ = some (.int .i64 m3) := cell_gr hw3 (by go_simp)
      have cw3_2_3 : w3.cell? ⟨w1.heap.size, 3, none⟩ = some (.int .i64 m4) := cell_gr hw3 (by go_simp)
      have zw3_2 : w1.heap.size < w3.heap.size := World.block_lt_of_cell? _ _ cw3_2_0
      have cw3_3_0 : w3.cell? ⟨w2.heap.size, 0, none⟩ = some (.int .i64 p1) := cell_gr hw3 (by go_simp)
      have cw3_3_1 : w3.cell? ⟨w2.heap.size, 1, none⟩ = some (.int .i64 p2) := cell_gr hw3 (by go_simp)
      have cw3_3_2 : w3.cell? ⟨w2.heap.size, 2, none⟩ = some (.int .i64 p3) := cell_gr hw3 (by go_simp)
      have cw3_3_3 : w3.cell? ⟨w2.heap.size, 3, none⟩ = some (.int .i64 p4) := cell_gr hw3 (by go_simp)
      have zw3_3 : w2.heap.size < w3.heap.size := World.block_lt_of_cell? _ _ cw3_3_0
      have gw3 : Gr W w3 := Gr.trans (by have gg := gw2; have gs := gg.size; go_grown) hw3
      clear hw3 gw2 zw2_0 cw2_0_0 cw2_0_1 zw2_1 cw2_1_0 cw2_1_1 zw2_2 cw2_2_0 cw2_2_1 cw2_2_2 cw2_2_3
      go_wp2_with fail
      go_ret
      exact ⟨rfl, gw3⟩
end
section
variable {k j : Int} {n m : Nat} {X Y P Q : Nat → Int} {v u : Value}
theorem c_rTouchG (W : World) (h : Pts W v n X Y) (hu : Pts W u m P Q) :
    Calls Tryz.prog 18 #[.agg #[.int .i64 k, v], .agg #[.int .i64 j, u]] W fun e w' => e = .returned (.bool (decide (objC k n X Y = 0) && decide (objC j m P Q = 0) && tcD k n X Y j m P Q)) ∧ Gr W w' := by
  have hh := h
  have hv := hu
  by_cases hc : objC k n X Y = 0
  · by_cases hd : objC j m P Q = 0
    · rw [decide_eq_true hc, decide_eq_true hd, Bool.true_and, Bool.true_and]
      have A1 := fun w (g : Gr W w) => c_rBoundsOk w (pts_gr h g) hc
      have A2 := fun w (g : Gr W w) => c_rBoundsOk w (pts_gr hu g) hd
      have bo := bx_ok hc
      have bp := bx_ok hd
      obtain ⟨ad, cap, _, _, rfl, -⟩ := h
      obtain ⟨bd, bcap, _, _, rfl, -⟩ := hu
      unfold tcD
      refine rtouch_yes _ _ _ _ _ _ _ _ _ W A1 A2 (fun k4 j4 w g => ?_) (fun k4 j4 w g => ?_) (fun k4 j4 w g => ?_) (fun k4 j4 w => ?_)
      · subst k4 j4
        rw [objC_4] at hc hd
        exact c_rrings w (pts_gr hh g) (pts_gr hv g) hc hd
      · subst k4
        rw [objC_4] at hc
        unfold bLx bLy bHx bHy at bp ⊢
        simp only [if_neg j4] at bp ⊢
        exact c_rringBox _ _ _ _ w (pts_gr hh g) hc bp
      · subst j4
        rw [objC_4] at hd
        unfold bLx bLy bHx bHy at bo ⊢
        simp only [if_neg k4] at bo ⊢
        exact c_rringBox _ _ _ _ w (pts_gr hv g) hd bo
      · unfold bLx bLy bHx bHy
        simp only [if_neg k4, if_neg j4]
        rw [meV_m]
        exact c_rBoxMeets _ _ _ _ _ _ _ _ w
    · rw [decide_eq_false hd, Bool.and_false, Bool.false_and]
      have A1 := fun w (g : Gr W w) => c_rBoundsOk w (pts_gr h g) hc
      have A2 := fun w (g : Gr W w) => c_rBoundsNo w (pts_gr hu g) hd
      obtain ⟨ad, cap, _, _, rfl, -⟩ := h
      obtain ⟨bd, bcap, _, _, rfl, -⟩ := hu
      exact rtouch_no _ _ _ _ _ _ _ _ 0 _ W (Or.inr hd) A1 A2
  · rw [decide_eq_false hc, Bool.false_and, Bool.false_and]
    have A1 := fun w (g : Gr W w) => c_rBoundsNo w (pts_gr h g) hc
    by_cases hd : objC j m P Q = 0
    · have A2 := fun w (g : Gr W w) => c_rBoundsOk w (pts_gr hu g) hd
      obtain ⟨ad, cap, _, _, rfl, -⟩ := h
      obtain ⟨bd, bcap, _, _, rfl, -⟩ := hu
      exact rtouch_no _ _ _ _ _ _ _ _ _ 0 W (Or.inl hc) A1 A2
    · have A2 := fun w (g : Gr W w) => c_rBoundsNo w (pts_gr hu g) hd
      obtain ⟨ad, cap, _, _, rfl, -⟩ := h
      obtain ⟨bd, bcap, _, _, rfl, -⟩ := hu
      exact rtouch_no _ _ _ _ _ _ _ _ _ _ W (Or.inl hc) A1 A2
end
section
variable {n m cap bcap : Nat} {ad bd : Option Addr}
set_option maxHeartbeats 4000000 in
set_option maxRecDepth 100000 in
theorem rrg_core (c d a b : Nat) (z : Bool) (W : World)
    (A1 : ∀ w, Gr W w → Calls Tryz.prog 54 #[.slice ad n cap] w fun e w' => e = .returned (.tuple #[.int .i64 (c : Nat), .int .i64 (a : Nat)]) ∧ Gr w w')
    (A2 : ∀ w, Gr W w → Calls Tryz.prog 54 #[.slice bd m bcap] w fun e w' => e = .returned (.tuple #[.int .i64 (d : Nat), .int .i64 (b : Nat)]) ∧ Gr w w')
    (A3 : c = 0 → d = 0 → ∀ w, Gr W w → Calls Tryz.prog 43 #[.slice ad n cap, .slice bd m bcap] w fun e w' => e = .returned (.bool z) ∧ Gr w w') :
    Calls Tryz.prog 22 #[.slice ad n cap, .slice bd m bcap] W fun e w' => e = .returned (.bool (decide (c = 0) && decide (d = 0) && z)) ∧ Gr W w' := by
  by_cases hc : c = 0
  · rw [decide_eq_true hc, Bool.true_and]
    by_cases hd : d = 0
    · rw [decide_eq_true hd, Bool.true_and]
      replace A3 := A3 hc hd
      subst hc hd
      have H1 := Lib.hid A1
      have H2 := Lib.hid A2
      have H3 := Lib.hid A3
      clear A1 A2 A3
      go_enter Tryz.func22, Tryz.ntmps22
      go_wp2_with fail
      go_at_call 54
      refine ((H1.out _ (by go_grown))).mono ?_
      rintro e w1 ⟨rfl, hw1⟩
      have gw1 : Gr W w1 := Gr.trans (by go_grown) hw1
      clear hw1
      go_wp2_with fail
      go_at_call 54
      refine ((H2.out _ gw1)).mono ?_
      rintro e w2 ⟨rfl, hw2⟩
      have gw2 : Gr W w2 := Gr.trans (by have gg := gw1; have gs := gg.size; go_grown) hw2
      clear hw2 gw1
      go_wp2_with fail
      go_at_call 43
      refine ((H3.out _ gw2)).mono ?_
      rintro e w3 ⟨rfl, hw3⟩
      have gw3 : Gr W w3 := Gr.trans (by have gg := gw2; have gs := gg.size; go_grown) hw3
      clear hw3 gw2
      go_wp2_with fail
      go_ret
      exact ⟨rfl, gw3⟩
    · rw [decide_eq_false hd, Bool.false_and]
      have e1 : ((d : Int) == 0) = false := by simp; omega
      have e2 : (d == 0) = false := by simp; omega
      subst hc
      have H1 := Lib.hid A1
      have H2 := Lib.hid A2
      clear A1 A2
      clear A3 hd
      go_enter Tryz.func22, Tryz.ntmps22
      go_wp2_with fail
      go_at_call 54
      refine ((H1.out _ (by go_grown))).mono ?_
      rintro e w1 ⟨rfl, hw1⟩
      have gw1 : Gr W w1 := Gr.trans (by go_grown) hw1
      clear hw1
      go_wp2_with fail
      go_at_call 54
      refine ((H2.out _ gw1)).mono ?_
      rintro e w2 ⟨rfl, hw2⟩
      have gw2 : Gr W w2 := Gr.trans (by have gg := gw1; have gs := gg.size; go_grown) hw2
      clear hw2 gw1
      go_wp2_with fail
      go_ret
      exact ⟨rfl, gw2⟩
  · rw [decide_eq_false hc, Bool.false_and, Bool.false_and]
    have e1 : ((c : Int) == 0) = false := by simp; omega
    have e2 : (c == 0) = false := by simp; omega
    have H1 := Lib.hid A1
    have H2 := Lib.hid A2
    clear A1 A2
    clear A3 hc
    go_enter Tryz.func22, Tryz.ntmps22
    go_wp2_with fail
    go_at_call 54
    refine ((H1.out _ (by go_grown))).mono ?_
    rintro e w1 ⟨rfl, hw1⟩
    have gw1 : Gr W w1 := Gr.trans (by go_grown) hw1
    clear hw1
    go_wp2_with fail
    go_at_call 54
    refine ((H2.out _ gw1)).mono ?_
    rintro e w2 ⟨rfl, hw2⟩
    have gw2 : Gr W w2 := Gr.trans (by have gg := gw1; have gs := gg.size; go_grown) hw2
    clear hw2 gw1
    go_wp2_with fail
    go_ret
    exact ⟨rfl, gw2⟩
end
section
variable {k j : Int} {n m : Nat} {X Y P Q : Nat → Int} {v u : Value}
theorem c_rRings (W : World) (h : Pts W v n X Y) (hu : Pts W u m P Q) : Calls Tryz.prog 22 #[v, u] W fun e w' => e = .returned (.bool (decide ((Rg.ringC n X Y).1 = 0) && decide ((Rg.ringC m P Q).1 = 0) && rgD n X Y m P Q)) ∧ Gr W w' := by
  have A1 := fun w (g : Gr W w) => c_CheckRing w (pts_gr h g)
  have A2 := fun w (g : Gr W w) => c_CheckRing w (pts_gr hu g)
  have A3 := fun a b w (g : Gr W w) => c_rrings w (pts_gr h g) (pts_gr hu g) a b
  unfold RRingTo at A1 A2
  obtain ⟨ad, cap, _, _, rfl, -⟩ := h
  obtain ⟨bd, bcap, _, _, rfl, -⟩ := hu
  exact rrg_core _ _ _ _ _ W A1 A2 A3
set_option maxHeartbeats 4000000 in
set_option maxRecDepth 100000 in
theorem c_Rings (W : World) (h : Pts W v n X Y) (hu : Pts W u m P Q) : Calls Tryz.prog 21 #[v, u] W fun e w' => e = .returned (.bool (decide ((Rg.ringC n X Y).1 = 0) && decide ((Rg.ringC m P Q).1 = 0) && rgV n X Y m P Q)) ∧ Gr W w' := by
  by_cases hc : (Rg.ringC n X Y).1 = 0
  · rw [decide_eq_true hc, Bool.true_and]
    have A1 := chk_ok W h hc
    by_cases hd : (Rg.ringC m P Q).1 = 0
    · rw [decide_eq_true hd, Bool.true_and]
      have A2 := chk_ok W hu hd
      have A3 := fun w (g : Gr W w) => c_ringsA w (pts_gr h g) (pts_gr hu g) hc hd
      generalize rgV n X Y m P Q = z at A3 ⊢
      obtain ⟨ad, cap, _, _, rfl, -⟩ := h
      obtain ⟨bd, bcap, _, _, rfl, -⟩ := hu
      have H1 := Lib.hid A1
      have H2 := Lib.hid A2
      have H3 := Lib.hid A3
      clear A1 A2 A3
      clear hc hd
      go_enter Tryz.func21, Tryz.ntmps21
      go_wp2_with fail
      go_at_call 52
      refine ((H1.out _ (by go_grown))).mono ?_
      rintro e w1 ⟨rfl, hw1⟩
      have gw1 : Gr W w1 := Gr.trans (by go_grown) hw1
      clear hw1
      go_wp2_with fail
      go_at_call 52
      refine ((H2.out _ gw1)).mono ?_
      rintro e w2 ⟨rfl, hw2⟩
      have gw2 : Gr W w2 := Gr.trans (by have gg := gw1; have gs := gg.size; go_grown) hw2
      clear hw2 gw1
      go_wp2_with fail
      go_at_call 53
      refine ((H3.out _ gw2)).mono ?_
      rintro e w3 ⟨rfl, hw3⟩
      have gw3 : Gr W w3 := Gr.trans (by have gg := gw2; have gs := gg.size; go_grown) hw3
      clear hw3 gw2
      go_wp2_with fail
      go_ret
      exact ⟨rfl, gw3⟩
    · rw [decide_eq_false hd, Bool.false_and]
      have A2 := chk_no W hu hd
      obtain ⟨ad, cap, _, _, rfl, -⟩ := h
      obtain ⟨bd, bcap, _, _, rfl, -⟩ := hu
      have H1 := Lib.hid A1
      have H2 := Lib.hid A2
      clear A1 A2
      clear hc hd
      go_enter Tryz.func21, Tryz.ntmps21
      go_wp2_with fail
      go_at_call 52
      refine ((H1.out _ (by go_grown))).mono ?_
      rintro e w1 ⟨rfl, hw1⟩
      have gw1 : Gr W w1 := Gr.trans (by go_grown) hw1
      clear hw1
      go_wp2_with (go_at_call 52; refine (H2.out _ gw1).mono ?_; rintro e w2 ⟨⟨B1, rfl⟩, g2⟩)
      go_ret
      exact ⟨rfl, Gr.trans gw1 g2⟩
  · rw [decide_eq_false hc, Bool.false_and, Bool.false_and]
    have A1 := chk_no W h hc
    obtain ⟨ad, cap, _, _, rfl, -⟩ := h
    obtain ⟨bd, bcap, _, _, rfl, -⟩ := hu
    have H1 := Lib.hid A1
    clear A1
    clear hc
    go_enter Tryz.func21, Tryz.ntmps21
    go_wp2_with (go_at_call 52; refine (H1.out _ (by go_grown)).mono ?_; rintro e w1 ⟨⟨B1, rfl⟩, g1⟩)
    go_ret
    exact ⟨rfl, g1⟩
set_option maxHeartbeats 4000000 in
set_option maxRecDepth 100000 in
theorem c_slEq (r : Bool) (W : World) (hu : Pts W u n X Y) (hv : Pts W v m P Q) (hn : n ≤ 1000000) (hr : r = true ↔ (n = m ∧ ∀ i, i < n → X i = P i ∧ Y i = Q i)) :
    Calls Tryz.prog 50 #[u, v] W fun e w' => e = .returned (.bool r) ∧ Gr W w' := by
  obtain ⟨ad, cap, B, off, rfl, a1, a2, a3, a4⟩ := hu
  obtain ⟨bd, cbp, C, oc, rfl, b1, b2, b3, b4⟩ := hv
  by_cases h : n = m
  · subst h
    have H3 := Lib.hid (And.intro a3 b3)
    have H4 := Lib.hid (And.intro a4 b4)
    have HR := Lib.hid hr
    have hn9 : (n : Int) ≤ 1000000 := by omega
    clear a3 a4 b3 b4 hr
    go_enter Tryz.func50, Tryz.ntmps50
    go_wp2_with fail
    go_loopg [13] n (fun k u wr => ∃ i : Nat, u = .int .i64 i ∧ i ≤ n ∧ k = n - i ∧ Hid (∀ j, j < i → X j = P j ∧ Y j = Q j) ∧ Gr W wr)
    case atStart => exact ⟨0, rfl, Nat.zero_le _, by omega, Lib.hid (fun j hj => absurd hj (by omega)), by go_grown⟩
    case round =>
      obtain ⟨i, rfl, hi, hk, hE, gwr⟩ := hrel
      by_cases hlt : i < n
      · have ti : decide ((i : Int) < (n : Int)) = true := decide_eq_true (by omega)
        have ti2 : decide (i < n) = true := decide_eq_true hlt
        have ti3 : (i : Int) < (n : Int) := by omega
        have hii : (i : Int) ≤ 1000000 := by omega
        have hmm : n - (i + 1) < gk := by omega
        obtain ⟨k0, k1⟩ := H4.out.1 i hlt
        obtain ⟨m0, m1⟩ := H4.out.2 i hlt
        obtain rfl := H3.out.1 (by omega)
        obtain rfl := H3.out.2 (by omega)
        have s0 := cell_gr gwr k0
        have s1 := cell_gr gwr k1
        have r0 := cell_gr gwr m0
        have r1 := cell_gr gwr m1
        have zB : B < wr.heap.size := World.block_lt_of_cell? _ _ s0
        have zC : C < wr.heap.size := World.block_lt_of_cell? _ _ r0
        have E := nePt (X i) (Y i) (P i) (Q i)
        by_cases c : X i = P i ∧ Y i = Q i
        · have hE2 : Hid (∀ j, j < i + 1 → X j = P j ∧ Y j = Q j) := Lib.hid (fun j hj => by
            rcases Nat.lt_or_ge j i with q | q
            · exact hE.out j q
            · obtain rfl : j = i := by omega
              exact c)
          rw [decide_eq_true c.1, decide_eq_true c.2] at E
          generalize X i = x at *
          generalize Y i = y at *
          generalize P i = p at *
          generalize Q i = q at *
          have HE := Lib.hid c
          clear k0 k1 m0 m1 hk c hE
          go_wp2_with fail
          refine wp_region_spread (by kernel_rfl) (by kernel_rfl) ?_
          try simp only [List.append]
          repeat (first | go_big_quiet_skip | (go_big_quiet_want; go_big_quiet_op; (first | go_big_quiet_on | (apply Exists.intro; refine ⟨fun _ => ?_, ?_⟩; (· fail); go_big_quiet_on))))
          refine wpQuiet_nil ?_
          intro w1 hhw1
          have hw1 := Hd.gr_of_spread hhw1
          have cw1_0_0 : w1.cell? ⟨B, off + i * 2, none⟩ = some (.int .i64 x) := cell_gr hw1 (by go_simp)
          have cw1_0_1 : w1.cell? ⟨B, off + i * 2 + 1, none⟩ = some (.int .i64 y) := cell_gr hw1 (by go_simp)
          have zw1_0 : B < w1.heap.size := World.block_lt_of_cell? _ _ cw1_0_0
          have cw1_1_0 : w1.cell? ⟨C, oc + i * 2, none⟩ = some (.int .i64 p) := cell_gr hw1 (by go_simp)
          have cw1_1_1 : w1.cell? ⟨C, oc + i * 2 + 1, none⟩ = some (.int .i64 q) := cell_gr hw1 (by go_simp)
          have zw1_1 : C < w1.heap.size := World.block_lt_of_cell? _ _ cw1_1_0
          have gw1 : Gr W w1 := Gr.trans (by have gg := gwr; have gs := gg.size; go_grown) hw1
          clear hw1 hhw1 gwr
          go_wp2_with fail
          go_roundg (n - (i + 1))
          case measure => exact hmm
          case rel => exact ⟨i + 1, by go_num, hlt, rfl, hE2, gw1⟩
        · obtain rfl : r = false := by
            cases r
            · rfl
            · exact absurd ((HR.out.1 rfl).2 i hlt) c
          have E2 : (!(decide (X i = P i) && decide (Y i = Q i))) = true := by
            rw [← Bool.decide_and, decide_eq_false c]; rfl
          rw [E2] at E
          generalize X i = x at *
          generalize Y i = y at *
          generalize P i = p at *
          generalize Q i = q at *
          clear k0 k1 m0 m1 hk c E2 hE
          go_wp2_with fail
          refine wp_region_spread (by kernel_rfl) (by kernel_rfl) ?_
          try simp only [List.append]
          repeat (first | go_big_quiet_skip | (go_big_quiet_want; go_big_quiet_op; (first | go_big_quiet_on | (apply Exists.intro; refine ⟨fun _ => ?_, ?_⟩; (· fail); go_big_quiet_on))))
          refine wpQuiet_nil ?_
          intro w1 hhw1
          have hw1 := Hd.gr_of_spread hhw1
          have cw1_0_0 : w1.cell? ⟨B, off + i * 2, none⟩ = some (.int .i64 x) := cell_gr hw1 (by go_simp)
          have cw1_0_1 : w1.cell? ⟨B, off + i * 2 + 1, none⟩ = some (.int .i64 y) := cell_gr hw1 (by go_simp)
          have zw1_0 : B < w1.heap.size := World.block_lt_of_cell? _ _ cw1_0_0
          have cw1_1_0 : w1.cell? ⟨C, oc + i * 2, none⟩ = some (.int .i64 p) := cell_gr hw1 (by go_simp)
          have cw1_1_1 : w1.cell? ⟨C, oc + i * 2 + 1, none⟩ = some (.int .i64 q) := cell_gr hw1 (by go_simp)
          have zw1_1 : C < w1.heap.size := World.block_lt_of_cell? _ _ cw1_1_0
          have gw1 : Gr W w1 := Gr.trans (by have gg := gwr; have gs := gg.size; go_grown) hw1
          clear hw1 hhw1 gwr
          go_wp2_with fail
          go_ret
          exact ⟨rfl, gw1⟩
      · obtain rfl : i = n := by omega
        obtain rfl : r = true := HR.out.2 ⟨trivial, hE.out⟩
        have ti : decide ((i : Int) < (i : Int)) = false := decide_eq_false (by omega)
        have ti2 : decide (i < i) = false := decide_eq_false (by omega)
        clear hk hE
        go_wp2_with fail
        go_ret
        exact ⟨rfl, gwr⟩
  · obtain rfl : r = false := by
      cases r
      · rfl
      · exact absurd (hr.1 rfl).1 h
    have t1 : ((n : Int) != (m : Int)) = true := by simp; omega
    have t2 : (n != m) = true := by simp; omega
    clear a3 a4 b3 b4 hr h
    go_enter Tryz.func50, Tryz.ntmps50
    go_wp2_with fail
    go_ret
    exact ⟨rfl, by go_grown⟩
set_option maxHeartbeats 4000000 in
set_option maxRecDepth 100000 in
theorem c_Same (r : Bool) (W : World) (hu : Pts W u n X Y) (hv : Pts W v m P Q) (hn : n ≤ 1000000) (hr : r = true ↔ (k = j ∧ n = m ∧ ∀ i, i < n → X i = P i ∧ Y i = Q i)) :
    Calls Tryz.prog 19 #[.agg #[.int .i64 k, u], .agg #[.int .i64 j, v]] W fun e w' => e = .returned (.bool r) ∧ Gr W w' := by
  by_cases h : k = j
  · subst h
    have A1 : ∀ w, Gr W w → _ := fun w g => c_slEq r w (pts_gr hu g) (pts_gr hv g) hn (by rw [hr]; simp)
    have t1 : (k == k) = true := by simp
    obtain ⟨ad, cap, _, _, rfl, _⟩ := hu
    obtain ⟨bd, cbp, _, _, rfl, _⟩ := hv
    have H1 := Lib.hid A1
    clear A1
    clear hr
    go_enter Tryz.func19, Tryz.ntmps19
    go_wp2_with fail
    go_at_call 50
    refine ((H1.out _ (by go_grown))).mono ?_
    rintro e w1 ⟨rfl, hw1⟩
    have cw1_0_0 : w1.cell? ⟨W.heap.size, 0, none⟩ = some (.int .i64 k) := cell_gr hw1 (by go_simp)
    have cw1_0_1 : w1.cell? ⟨W.heap.size, 1, none⟩ = some (.slice ad n cap) := cell_gr hw1 (by go_simp)
    have zw1_0 : W.heap.size < w1.heap.size := World.block_lt_of_cell? _ _ cw1_0_0
    have cw1_1_0 : w1.cell? ⟨W.heap.size + 1, 0, none⟩ = some (.int .i64 k) := cell_gr hw1 (by go_simp)
    have cw1_1_1 : w1.cell? ⟨W.heap.size + 1, 1, none⟩ = some (.slice bd m cbp) := cell_gr hw1 (by go_simp)
    have zw1_1 : W.heap.size + 1 < w1.heap.size := World.block_lt_of_cell? _ _ cw1_1_0
    have gw1 : Gr W w1 := Gr.trans (by go_grown) hw1
    clear hw1
    go_wp2_with fail
    go_ret
    exact ⟨rfl, gw1⟩
  · obtain rfl : r = false := by
      cases r
      · rfl
      · exact absurd (hr.1 rfl).1 h
    have t1 : (k == j) = false := by simp; omega
    obtain ⟨ad, cap, _, _, rfl, _⟩ := hu
    obtain ⟨bd, cbp, _, _, rfl, _⟩ := hv
    clear hr h
    go_enter Tryz.func19, Tryz.ntmps19
    go_wp2_with fail
    go_ret
    exact ⟨rfl, by go_grown⟩
end
end Go.Proofs.YtfobmlgpjhghdaaGreatDoor
namespace Go.Proofs.YtfobmlgpjhghdaaGreatDoor
set_option linter.unusedVariables false
set_option linter.unusedSimpArgs false
open Go.ChangeShapes Go.WideShapes Go.ChangeAt Go.RowKit
theorem addr_addO (b off n : Nat) : (⟨b, off, none⟩ : Addr).add n = ⟨b, off + n, none⟩ := by
  unfold Addr.add; split <;> simp_all
section
variable {H : Type} {enc : TypeId × Value → H} {P : Program} {w : World} {base : Nat} {sp : Nat → Bool} {held : Bool} {r : Reach} {b0 : Nat}
theorem spot_cell {a : Addr} {v : Value} (h : w.cell? a = some v) : a.spot = none := by
  unfold World.cell? at h
  split at h
  · split at h
    · cases h
    · rename_i hs; simpa using hs
  · cases h
theorem cells2s {a : Addr} {x0 x1 : Value} (h : w.cells? base a 2 = some [x0, x1]) : w.cell? (a.add 0) = some x0 ∧ w.cell? (a.add 1) = some x1 := by
  unfold World.cells? at h
  split at h
  · rw [show List.range 2 = [0, 1] from rfl] at h
    simp only [List.mapM_cons, List.mapM_nil] at h
    obtain ⟨y0, h0, h⟩ := Option.bind_eq_some_iff.1 h
    obtain ⟨t0, h, e0⟩ := Option.bind_eq_some_iff.1 h
    obtain ⟨y1, h1, h⟩ := Option.bind_eq_some_iff.1 h
    obtain ⟨t1, h, e1⟩ := Option.bind_eq_some_iff.1 h
    cases h
    cases e1
    cases e0
    exact ⟨h0, h1⟩
  · cases h
theorem trod_ptsC {t p u : TypeId} {G0 G1 : Field} {x : Value} {fuel : Nat} {y : DataW H × List MemPlace} (ht : P.underlying t = some (.slice p)) (hp : P.underlying p = some (.struct #[G0, G1])) (hu : P.underlying u = some (.int .i64))
    (hG0 : G0.type = u ∧ G0.offset = 0) (hG1 : G1.type = u ∧ G1.offset = 1) (cp : P.cellsOf p = 2) (cu : P.cellsOf u = 1)
    (hd : DataW.trod enc P w base sp held fuel t [x] = some y) : ∃ (n : Nat) (X Y : Nat → Int), Pts w x n X Y := by
  rcases Deep.open_slice ht hd with ⟨h, -⟩ | ⟨a, n, cap, m, q, D, Pl, hv, -, hl, hcap, hm, -, hel⟩
  · simp only [List.cons.injEq, and_true] at h
    subst h
    exact ⟨0, fun _ => 0, fun _ => 0, none, 0, 0, 0, rfl, Nat.le_refl _, by decide, fun h => absurd h (by omega), fun k h => absurd h (by omega)⟩
  · simp only [List.cons.injEq, and_true] at hv
    subst hv
    have hlm : n ≤ m := by rw [hm]; split <;> omega
    have hcap' : cap ≤ 9223372036854775807 := by unfold maxLen at hcap; omega
    obtain ⟨b, off, s⟩ := a
    have key : ∀ k, k < n → ∃ z : Int × Int, w.cell? (((⟨b, off, s⟩ : Addr).add (k * 2)).add 0) = some (.int .i64 z.1) ∧ w.cell? (((⟨b, off, s⟩ : Addr).add (k * 2)).add 1) = some (.int .i64 z.2) := fun k hk => by
      obtain ⟨cs', hc, htr⟩ := hel k (by omega)
      rw [cp] at hc
      obtain ⟨y0, y1, j, -, hlen, t0, t1⟩ := trod_struct2 hp htr
      rw [cp] at hlen
      match cs', hlen with
      | [x0, x1], _ =>
        rw [hG0.1, hG0.2, cu] at t0
        rw [hG1.1, hG1.2, cu] at t1
        obtain ⟨z0, q0, -, -⟩ := DataW.trod_int hu t0
        obtain ⟨z1, q1, -, -⟩ := DataW.trod_int hu t1
        simp at q0 q1
        subst q0 q1
        exact ⟨(z0, z1), cells2s hc⟩
    by_cases h0 : n = 0
    · subst h0
      exact ⟨0, fun _ => 0, fun _ => 0, some ⟨b, off, s⟩, cap, b, off, rfl, Nat.zero_le _, hcap', fun h => absurd h (by omega), fun k h => absurd h (by omega)⟩
    · have hs : s = none := by
        obtain ⟨z, hz, -⟩ := key 0 (by omega)
        have := spot_cell hz
        unfold Addr.add at this
        (repeat' split at this) <;> simp_all
      subst hs
      have key2 : ∀ k, k < n → ∃ z : Int × Int, w.cell? ⟨b, off + k * 2, none⟩ = some (.int .i64 z.1) ∧ w.cell? ⟨b, off + k * 2 + 1, none⟩ = some (.int .i64 z.2) := fun k hk => by
        obtain ⟨z, h0, h1⟩ := key k hk
        rw [addr_addO, addr_addO] at h0 h1
        exact ⟨z, h0, h1⟩
      refine ⟨n, fun k => if h : k < n then (key2 k h).choose.1 else 0, fun k => if h : k < n then (key2 k h).choose.2 else 0, some ⟨b, off, none⟩, cap, b, off, rfl, hl, hcap', fun _ => rfl, fun k hk => ?_⟩
      simp only [dif_pos hk]
      exact (key2 k hk).choose_spec
theorem open_obj {t s p u : TypeId} {F0 F1 G0 G1 : Field} {v : Value} {d : DataW H} {ps : List MemPlace} (hs : P.underlying t = some (.struct #[F0, F1])) (hF0 : F0.type = u) (hF1 : F1.type = s) (hone : Go.Deep.oneCellFields P #[F0, F1] = true) (hC : P.cellsOf t = 2)
    (ht : P.underlying s = some (.slice p)) (hp : P.underlying p = some (.struct #[G0, G1])) (hu : P.underlying u = some (.int .i64))
    (hG0 : G0.type = u ∧ G0.offset = 0) (hG1 : G1.type = u ∧ G1.offset = 1) (cp : P.cellsOf p = 2) (cu : P.cellsOf u = 1)
    (hval : Value.okWide P w r b0 t v) (hd : DataW.Trod enc P w base sp held t v d ps) : ∃ (k : Int) (x : Value) (n : Nat) (X Y : Nat → Int), v = .agg #[.int .i64 k, x] ∧ (-9223372036854775808 ≤ k ∧ k ≤ 9223372036854775807) ∧ Pts w x n X Y := by
  obtain ⟨v0, v1, y0, y1, j, rfl, -, -, h0, h1⟩ := Joins.open_agg2 hs hone hC hval hd
  rw [hF0] at h0
  rw [hF1] at h1
  obtain ⟨z0, q0, -, wf⟩ := DataW.trod_int hu h0
  simp at q0
  subst q0
  obtain ⟨n, X, Y, hP⟩ := trod_ptsC ht hp hu hG0 hG1 cp cu h1
  exact ⟨z0, v1, n, X, Y, rfl, bounds_i64 wf, hP⟩
end
end Go.Proofs.YtfobmlgpjhghdaaGreatDoor
namespace Go.Proofs.YtfobmlgpjhghdaaGreatDoor
set_option linter.unusedVariables false
set_option linter.unusedSimpArgs false
open Go.ChangeShapes Go.WideShapes Go.ChangeAt Go.RowKit
set_option maxRecDepth 100000 in
theorem c_small6 (k kq lx ly hx hy : Int) (ad bd : Option Addr) (n cap m bcap : Nat) (W : World) :
    Calls Tryz.prog 8 #[.agg #[.int .i64 k, .slice ad n cap], qryV kq lx ly hx hy (.slice bd m bcap)] W fun e w' => e = .returned (.bool (decide (n ≤ 70) && decide (m ≤ 70))) ∧ Gr W w' := by
  by_cases h1 : n ≤ 70
  · have t1 : decide ((n : Int) ≤ 70) = true := decide_eq_true (by omega)
    have t2 : decide (n ≤ 70) = true := decide_eq_true h1
    by_cases h2 : m ≤ 70
    · have u1 : decide ((m : Int) ≤ 70) = true := decide_eq_true (by omega)
      have u2 : decide (m ≤ 70) = true := decide_eq_true h2
      rw [t2, u2]
      clear h1 h2
      go_enter Tryz.func8, Tryz.ntmps8
      go_wp2_with fail
      go_ret
      exact ⟨rfl, by go_grown⟩
    · have u1 : decide ((m : Int) ≤ 70) = false := decide_eq_false (by omega)
      have u2 : decide (m ≤ 70) = false := decide_eq_false h2
      rw [t2, u2]
      clear h1 h2
      go_enter Tryz.func8, Tryz.ntmps8
      go_wp2_with fail
      go_ret
      exact ⟨rfl, by go_grown⟩
  · have t1 : decide ((n : Int) ≤ 70) = false := decide_eq_false (by omega)
    have t2 : decide (n ≤ 70) = false := decide_eq_false h1
    rw [t2]
    clear h1
    go_enter Tryz.func8, Tryz.ntmps8
    go_wp2_with fail
    go_ret
    exact ⟨rfl, by go_grown⟩
end Go.Proofs.YtfobmlgpjhghdaaGreatDoor
