/- What RelZero leans on: Id Ia Ib Ie Ig Uo -/
import Derived.Test.YtfobmlgpjhghdaaGreatDoorCRelZero34
namespace Go.Proofs.YtfobmlgpjhghdaaGreatDoor
set_option linter.unusedVariables false
set_option linter.unusedSimpArgs false
open Go.ChangeShapes Go.WideShapes Go.ChangeAt Go.RowKit
section
variable {k : Int} {n : Nat} {X Y : Nat → Int} {v : Value}
def bLx (k : Int) (n : Nat) (X : Nat → Int) : Int := if k = 4 then mnN X n else X 0
def bLy (k : Int) (n : Nat) (Y : Nat → Int) : Int := if k = 4 then mnN Y n else oLy k Y
def bHx (k : Int) (n : Nat) (X Y : Nat → Int) : Int := if k = 4 then mxN X n else oHx k X Y
def bHy (k : Int) (n : Nat) (Y : Nat → Int) : Int := if k = 4 then mxN Y n else oHy k Y
theorem c_frameAny (W : World) (h : Pts W v n X Y) (hc : objC k n X Y = 0) : Calls Tryz.prog 36 #[.agg #[.int .i64 k, v]] W fun e w' => e = .returned (.agg #[.int .i64 (bLx k n X), .int .i64 (bLy k n Y), .int .i64 (bHx k n X Y), .int .i64 (bHy k n Y)]) ∧ Gr W w' := by
  unfold bLx bLy bHx bHy
  by_cases k4 : k = 4
  · rw [if_pos k4, if_pos k4, if_pos k4, if_pos k4]
    subst k4
    rw [objC_4] at hc
    exact c_frame_4 W h (by have := (Rg.ringC_ok hc).1; omega)
  · rw [if_neg k4, if_neg k4, if_neg k4, if_neg k4]
    exact (bl_of h hc k4).1.2.2 W (Below.refl _ _)
set_option maxHeartbeats 4000000 in
set_option maxRecDepth 100000 in
theorem c_BoundsOk (W : World) (h : Pts W v n X Y) (hc : objC k n X Y = 0) : Calls Tryz.prog 10 #[.agg #[.int .i64 k, v]] W fun e w' => e = .returned (.tuple #[.agg #[.int .i64 (bLx k n X), .int .i64 (bLy k n Y), .int .i64 (bHx k n X Y), .int .i64 (bHy k n Y)], .nilIface]) ∧ Gr W w' := by
  have A1 : ∀ w, Gr W w → Calls Tryz.prog 34 #[.agg #[.int .i64 k, v]] w fun e w' => e = .returned .nilIface ∧ Gr w w' := fun w g => (c_relCheck k w (pts_gr h g)).mono (by
    rintro e w' ⟨x, rfl, hx, g'⟩
    rw [hc] at hx
    obtain rfl := (werr_nf hx).2.2 rfl
    exact ⟨rfl, g'⟩)
  have A2 := fun w (g : Gr W w) => c_frameAny w (pts_gr h g) hc
  generalize bLx k n X = m1 at A2 ⊢
  generalize bLy k n Y = m2 at A2 ⊢
  generalize bHx k n X Y = m3 at A2 ⊢
  generalize bHy k n Y = m4 at A2 ⊢
  obtain ⟨ad, cap, _, _, rfl, -⟩ := h
  have H1 := Lib.hid A1
  have H2 := Lib.hid A2
  clear A1 A2
  clear hc
  go_enter Tryz.func10, Tryz.ntmps10
  go_wp2_with fail
  go_at_call 34
  refine ((H1.out _ (by go_grown))).mono ?_
  rintro e w1 ⟨rfl, hw1⟩
  have cw1_0_0 := ci hw1 (W.heap.size) 0 k (by go_simp)
  have cw1_0_1 := cg hw1 (W.heap.size) 1 (.slice ad n cap) (by go_simp)
  have cw1_1_0 := ci hw1 (W.heap.size + 1) 0 0 (by go_simp)
  have fw1_1_0 := fq hw1 (W.heap.size + 1) 0 (.int .i64 0) (by go_simp) (by go_simp)
  have cw1_1_1 := ci hw1 (W.heap.size + 1) 1 0 (by go_simp)
  have fw1_1_1 := fq hw1 (W.heap.size + 1) 1 (.int .i64 0) (by go_simp) (by go_simp)
  have cw1_1_2 := ci hw1 (W.heap.size + 1) 2 0 (by go_simp)
  have fw1_1_2 := fq hw1 (W.heap.size + 1) 2 (.int .i64 0) (by go_simp) (by go_simp)
  have cw1_1_3 := ci hw1 (W.heap.size + 1) 3 0 (by go_simp)
  have fw1_1_3 := fq hw1 (W.heap.size + 1) 3 (.int .i64 0) (by go_simp) (by go_simp)
  have gw1 : Gr W w1 := Gr.trans (by go_grown) hw1
  clear hw1
  go_wp2_with fail
  go_at_call 36
  refine ((H2.out _ (by have gg := gw1; have gs := gg.size; go_grown))).mono ?_
  rintro e w2 ⟨rfl, hw2⟩
  have cw2_1_0 := ci hw2 (W.heap.size + 1) 0 0 (by go_simp)
  have fw2_1_0 := fq hw2 (W.heap.size + 1) 0 (.int .i64 0) (by go_simp) (by go_simp)
  have cw2_1_1 := ci hw2 (W.heap.size + 1) 1 0 (by go_simp)
  have fw2_1_1 := fq hw2 (W.heap.size + 1) 1 (.int .i64 0) (by go_simp) (by go_simp)
  have cw2_1_2 := ci hw2 (W.heap.size + 1) 2 0 (by go_simp)
  have fw2_1_2 := fq hw2 (W.heap.size + 1) 2 (.int .i64 0) (by go_simp) (by go_simp)
  have cw2_1_3 := ci hw2 (W.heap.size + 1) 3 0 (by go_simp)
  have fw2_1_3 := fq hw2 (W.heap.size + 1) 3 (.int .i64 0) (by go_simp) (by go_simp)
  have gw2 : Gr W w2 := Gr.trans (by have gg := gw1; have gs := gg.size; go_grown) hw2
  clear hw2 gw1 cw1_0_0 cw1_0_1 cw1_1_0 fw1_1_0 cw1_1_1 fw1_1_1 cw1_1_2 fw1_1_2 cw1_1_3 fw1_1_3
  have GS := gw2.size
  go_wp2_with fail
  refine bodyPost_ret (v := .tuple #[.agg #[.int .i64 m1, .int .i64 m2, .int .i64 m3, .int .i64 m4], .nilIface]) (by simp [results, Tryz.results10, go_sem, *]) rfl ⟨rfl, by go_grown⟩
end
end Go.Proofs.YtfobmlgpjhghdaaGreatDoor
namespace Go.Proofs.YtfobmlgpjhghdaaGreatDoor
set_option linter.unusedVariables false
set_option linter.unusedSimpArgs false
section
variable {lx ly hx hy ax ay bx by' px py qx qy : Int}
theorem corner_lo (h : inP lx ly hx hy px py) : ∃ cx cy, (cx = lx ∨ cx = hx) ∧ (cy = ly ∨ cy = hy) ∧ cr ax ay bx by' cx cy ≤ cr ax ay bx by' px py := by
  have e : ∀ cx cy, cr ax ay bx by' cx cy = cr ax ay bx by' px py + (bx - ax) * (cy - py) - (by' - ay) * (cx - px) := fun cx cy => by unfold cr; grind
  unfold inP at h
  have h1 : ∃ cy, (cy = ly ∨ cy = hy) ∧ (bx - ax) * (cy - py) ≤ 0 := by
    by_cases g : 0 ≤ bx - ax
    · exact ⟨ly, Or.inl rfl, Int.mul_nonpos_of_nonneg_of_nonpos g (by omega)⟩
    · exact ⟨hy, Or.inr rfl, Int.mul_nonpos_of_nonpos_of_nonneg (by omega) (by omega)⟩
  have h2 : ∃ cx, (cx = lx ∨ cx = hx) ∧ 0 ≤ (by' - ay) * (cx - px) := by
    by_cases g : 0 ≤ by' - ay
    · exact ⟨hx, Or.inr rfl, Int.mul_nonneg g (by omega)⟩
    · exact ⟨lx, Or.inl rfl, Int.mul_nonneg_of_nonpos_of_nonpos (by omega) (by omega)⟩
  obtain ⟨cy, k1, k2⟩ := h1
  obtain ⟨cx, k3, k4⟩ := h2
  exact ⟨cx, cy, k3, k1, by rw [e]; omega⟩
theorem corner_hi (h : inP lx ly hx hy px py) : ∃ cx cy, (cx = lx ∨ cx = hx) ∧ (cy = ly ∨ cy = hy) ∧ cr ax ay bx by' px py ≤ cr ax ay bx by' cx cy := by
  obtain ⟨cx, cy, e1, e2, e3⟩ := corner_lo (ax := bx) (ay := by') (bx := ax) (by' := ay) h
  rw [cr_flip, cr_flip ax ay bx by' px py] at e3
  exact ⟨cx, cy, e1, e2, by omega⟩
def stP (lx ly hx hy ax ay bx by' : Int) : Prop := ovP lx ly hx hy ax ay bx by' ∧ ∃ px py qx qy, inP lx ly hx hy px py ∧ inP lx ly hx hy qx qy ∧ cr ax ay bx by' px py ≤ 0 ∧ 0 ≤ cr ax ay bx by' qx qy
theorem stP_flip (h : stP lx ly hx hy ax ay bx by') : stP lx ly hx hy bx by' ax ay := by
  obtain ⟨ho, p, q, r, s, h1, h2, h3, h4⟩ := h
  exact ⟨ovP_flip ho, r, s, p, q, h2, h1, by rw [cr_flip]; omega, by rw [cr_flip]; omega⟩
theorem cr_a (ax ay bx by' : Int) : cr ax ay bx by' ax ay = 0 := by unfold cr; grind
theorem stP_a (h : inP lx ly hx hy ax ay) : stP lx ly hx hy ax ay bx by' :=
  ⟨by unfold inP at h; unfold ovP; omega, ax, ay, ax, ay, h, h, by rw [cr_a]; omega, by rw [cr_a]; omega⟩
theorem stP_b (h : inP lx ly hx hy bx by') : stP lx ly hx hy ax ay bx by' := stP_flip (stP_a h)
theorem me_on1 (h : onF ax ay bx by' px py = true) : meF ax ay bx by' px py qx qy = true := by unfold meF enF; simp [h]
theorem me_on2 (h : onF ax ay bx by' qx qy = true) : meF ax ay bx by' px py qx qy = true := by unfold meF enF; simp [h]
theorem st_di (hb : lx ≤ hx ∧ ly ≤ hy) (h : stP lx ly hx hy ax ay bx by') (na : ¬ inP lx ly hx hy ax ay) (nb : ¬ inP lx ly hx hy bx by') : diF lx ly hx hy ax ay bx by' = true := by
  obtain ⟨ho, p, q, r, s, h1, h2, h3, h4⟩ := h
  obtain ⟨c1, c2, e1, e2, e3⟩ := corner_lo (ax := ax) (ay := ay) (bx := bx) (by' := by') h1
  obtain ⟨d1, d2, f1, f2, f3⟩ := corner_hi (ax := ax) (ay := ay) (bx := bx) (by' := by') h2
  have i0 : inP lx ly hx hy lx ly := by unfold inP; omega
  have i1 : inP lx ly hx hy hx ly := by unfold inP; omega
  have i2 : inP lx ly hx hy hx hy := by unfold inP; omega
  have i3 : inP lx ly hx hy lx hy := by unfold inP; omega
  have sum : cr ax ay bx by' lx ly + cr ax ay bx by' hx hy = cr ax ay bx by' hx ly + cr ax ay bx by' lx hy := by unfold cr; grind
  unfold diF
  rw [Bool.or_eq_true]
  by_cases A0 : cr ax ay bx by' lx ly = 0
  · exact Or.inl (me_on1 (on_line i0 ho na nb A0))
  by_cases C0 : cr ax ay bx by' hx hy = 0
  · exact Or.inl (me_on2 (on_line i2 ho na nb C0))
  by_cases D0 : cr ax ay bx by' lx hy = 0
  · exact Or.inr (me_on1 (on_line i3 ho na nb D0))
  by_cases B0 : cr ax ay bx by' hx ly = 0
  · exact Or.inr (me_on2 (on_line i1 ho na nb B0))
  by_cases s1 : (cr ax ay bx by' lx ly ≤ 0 ∧ 0 ≤ cr ax ay bx by' hx hy) ∨ (cr ax ay bx by' hx hy ≤ 0 ∧ 0 ≤ cr ax ay bx by' lx ly)
  · exact Or.inl (line_parts2 i0 i2 ho na nb s1 (by omega))
  · refine Or.inr (line_parts2 i3 i1 ho na nb ?_ ?_)
    · rcases e1 with rfl | rfl <;> rcases e2 with rfl | rfl <;> rcases f1 with rfl | rfl <;> rcases f2 with rfl | rfl <;> omega
    · rcases e1 with rfl | rfl <;> rcases e2 with rfl | rfl <;> rcases f1 with rfl | rfl <;> rcases f2 with rfl | rfl <;> omega
theorem me_parts (h : meF ax ay bx by' px py qx qy = true) (h1 : inP lx ly hx hy px py) (h2 : inP lx ly hx hy qx qy) : stP lx ly hx hy ax ay bx by' := by
  have o := me_opp h
  refine ⟨me_ov h h1 h2, ?_⟩
  by_cases c : cr ax ay bx by' px py ≤ 0 ∧ 0 ≤ cr ax ay bx by' qx qy
  · exact ⟨px, py, qx, qy, h1, h2, c.1, c.2⟩
  · exact ⟨qx, qy, px, py, h2, h1, by omega, by omega⟩
theorem mb_st (hb : lx ≤ hx ∧ ly ≤ hy) : mbF ax ay bx by' lx ly hx hy = true ↔ stP lx ly hx hy ax ay bx by' := by
  unfold mbF
  rw [Bool.and_eq_true, Bool.or_eq_true, Bool.or_eq_true, ovB_iff, inB_P, inB_P]
  constructor
  · rintro ⟨ho, (h | h) | h⟩
    · exact stP_a h
    · exact stP_b h
    · unfold diF at h
      rw [Bool.or_eq_true] at h
      rcases h with h | h
      · exact me_parts h (by unfold inP; omega) (by unfold inP; omega)
      · exact me_parts h (by unfold inP; omega) (by unfold inP; omega)
  · intro h
    refine ⟨h.1, ?_⟩
    by_cases na : inP lx ly hx hy ax ay
    · exact Or.inl (Or.inl na)
    by_cases nb : inP lx ly hx hy bx by'
    · exact Or.inl (Or.inr nb)
    exact Or.inr (st_di hb h na nb)
theorem up_l (h : ay < by') (h1 : ay ≤ py) (h2 : py ≤ by') (ha : px < ax) (hb : px < bx) : 0 < cr ax ay bx by' px py := by
  have e : cr ax ay bx by' px py = (bx - px) * (py - ay) + (ax - px) * (by' - py) := by unfold cr; grind
  rw [e]
  have k1 : 0 ≤ (bx - px) * (py - ay) := Int.mul_nonneg (by omega) (by omega)
  have k2 : 0 ≤ (ax - px) * (by' - py) := Int.mul_nonneg (by omega) (by omega)
  rcases (by omega : ay < py ∨ py < by') with g | g
  · have : 0 < (bx - px) * (py - ay) := Int.mul_pos (by omega) (by omega); omega
  · have : 0 < (ax - px) * (by' - py) := Int.mul_pos (by omega) (by omega); omega
theorem up_r (h : ay < by') (h1 : ay ≤ py) (h2 : py ≤ by') (ha : ax < px) (hb : bx < px) : cr ax ay bx by' px py < 0 := by
  have e : cr ax ay bx by' px py = -((px - bx) * (py - ay) + (px - ax) * (by' - py)) := by unfold cr; grind
  rw [e]
  have k1 : 0 ≤ (px - bx) * (py - ay) := Int.mul_nonneg (by omega) (by omega)
  have k2 : 0 ≤ (px - ax) * (by' - py) := Int.mul_nonneg (by omega) (by omega)
  rcases (by omega : ay < py ∨ py < by') with g | g
  · have : 0 < (px - bx) * (py - ay) := Int.mul_pos (by omega) (by omega); omega
  · have : 0 < (px - ax) * (by' - py) := Int.mul_pos (by omega) (by omega); omega
theorem side_same (hno : ¬ stP lx ly hx hy ax ay bx by') (hu : ay < by') (hs : inP lx ly hx hy px py) (ht : inP lx ly hx hy qx qy) (s1 : ay ≤ py ∧ py ≤ by') (t1 : ay ≤ qy ∧ qy ≤ by') :
    0 < cr ax ay bx by' px py ↔ 0 < cr ax ay bx by' qx qy := by
  by_cases ho : ovP lx ly hx hy ax ay bx by'
  · constructor
    · intro h
      rcases Int.lt_or_le 0 (cr ax ay bx by' qx qy) with g | g
      · exact g
      · exact absurd ⟨ho, qx, qy, px, py, ht, hs, g, by omega⟩ hno
    · intro h
      rcases Int.lt_or_le 0 (cr ax ay bx by' px py) with g | g
      · exact g
      · exact absurd ⟨ho, px, py, qx, qy, hs, ht, g, by omega⟩ hno
  · unfold ovP at ho
    unfold inP at hs ht
    rcases (by omega : (hx < ax ∧ hx < bx) ∨ (ax < lx ∧ bx < lx)) with g | g
    · exact iff_of_true (up_l hu s1.1 s1.2 (by omega) (by omega)) (up_l hu t1.1 t1.2 (by omega) (by omega))
    · have k1 := up_r (ax := ax) (bx := bx) (px := px) (py := py) hu s1.1 s1.2 (by omega) (by omega)
      have k2 := up_r (ax := ax) (bx := bx) (px := qx) (py := qy) hu t1.1 t1.2 (by omega) (by omega)
      exact iff_of_false (by omega) (by omega)
def gR (hx py qy vx vy : Int) : Bool := decide (py < vy) && decide (vy ≤ qy) && decide (hx < vx)
theorem ovR_up (h : ay ≤ by') : Rg.ovR ax ay bx by' px py = (decide (ay ≤ py ∧ py < by') && decide (0 < cr ax ay bx by' px py)) := by
  unfold Rg.ovR
  rw [if_neg (by omega)]
  by_cases c : ay ≤ py ∧ py < by'
  · rw [if_pos c, decide_eq_true c, Bool.true_and]
  · rw [if_neg c, decide_eq_false c, Bool.false_and]
theorem ovR_swap : Rg.ovR bx by' ax ay px py = Rg.ovR ax ay bx by' px py := by
  unfold Rg.ovR
  by_cases c : by' ≤ py ∧ py < ay
  · rw [if_neg (by omega), if_pos c, if_pos c]
  · rw [if_neg c]
    by_cases d : ay ≤ py ∧ py < by'
    · rw [if_pos d, if_neg c]
    · rw [if_neg d, if_neg c]
theorem cr_at_a (sx : Int) : cr ax ay bx by' sx ay = (by' - ay) * (ax - sx) := by unfold cr; grind
theorem cr_at_b (sx : Int) : cr ax ay bx by' sx by' = (by' - ay) * (bx - sx) := by unfold cr; grind
theorem pos_r {u v s : Int} (h : 0 < u) : 0 < u * (v - s) ↔ s < v := by
  constructor
  · intro g
    rcases Int.lt_or_le s v with k | k
    · exact k
    · have := Int.mul_nonpos_of_nonneg_of_nonpos (a := u) (b := v - s) (by omega) (by omega); omega
  · intro g; exact Int.mul_pos h (by omega)
theorem bool_iff {a b : Bool} (h : a = true ↔ b = true) : a = b := by cases a <;> cases b <;> simp_all
theorem par_up (hb : lx ≤ hx ∧ ly ≤ hy) (hno : ¬ stP lx ly hx hy ax ay bx by') (hu : ay ≤ by') (hp : inP lx ly hx hy px py) (hq : inP lx ly hx hy qx qy) (hpq : py ≤ qy) :
    (Rg.ovR ax ay bx by' px py != Rg.ovR ax ay bx by' qx qy) = (gR hx py qy ax ay != gR hx py qy bx by') := by
  rw [ovR_up hu, ovR_up hu]
  unfold gR
  have na : ¬ inP lx ly hx hy ax ay := fun h => hno (stP_a h)
  have nb : ¬ inP lx ly hx hy bx by' := fun h => hno (stP_b h)
  have hp' := hp
  have hq' := hq
  unfold inP at hp' hq' na nb
  by_cases e0 : ay = by'
  · subst e0
    rw [decide_eq_false (p := ay ≤ py ∧ py < ay) (by omega), decide_eq_false (p := ay ≤ qy ∧ qy < ay) (by omega)]
    by_cases c : py < ay ∧ ay ≤ qy
    · have : hx < ax ↔ hx < bx := by
        have key : ¬ ((ax < lx ∧ hx < bx) ∨ (bx < lx ∧ hx < ax)) := fun k => hno ⟨by unfold ovP; omega, lx, ay, lx, ay, by unfold inP; omega, by unfold inP; omega, by rw [cr_at_a, Int.sub_self, Int.zero_mul]; omega, by rw [cr_at_a, Int.sub_self, Int.zero_mul]; omega⟩
        omega
      rw [show decide (hx < ax) = decide (hx < bx) from decide_eq_decide.2 this]
      simp
    · rcases (by omega : ¬ py < ay ∨ ¬ ay ≤ qy) with g | g <;> simp [g]
  have h0 : 0 < by' - ay := by omega
  by_cases c1 : py < ay
  · rw [decide_eq_false (p := ay ≤ py ∧ py < by') (by omega), decide_eq_true c1, decide_eq_true (p := py < by') (by omega)]
    by_cases c2 : ay ≤ qy
    · rw [decide_eq_true c2]
      by_cases c3 : qy < by'
      · rw [decide_eq_true (p := ay ≤ qy ∧ qy < by') ⟨c2, c3⟩, decide_eq_false (p := by' ≤ qy) (by omega)]
        have k := side_same hno (by omega) (px := qx) (py := qy) (qx := lx) (qy := ay) hq (by unfold inP; omega) (by omega) (by omega)
        rw [cr_at_a, pos_r h0] at k
        simp only [Bool.true_and, Bool.false_and, Bool.false_bne, Bool.bne_false]
        exact decide_eq_decide.2 (k.trans (by omega))
      · rw [decide_eq_false (p := ay ≤ qy ∧ qy < by') (by omega), decide_eq_true (p := by' ≤ qy) (by omega)]
        have : hx < ax ↔ hx < bx := by
          have o : (ax < lx ∧ hx < bx) ∨ (bx < lx ∧ hx < ax) → ovP lx ly hx hy ax ay bx by' := fun k => by unfold ovP; omega
          have key : ¬ ((ax < lx ∧ hx < bx) ∨ (bx < lx ∧ hx < ax)) := fun k => by
            have oo := o k
            rcases k with k | k
            · have u1 : ¬ 0 < (by' - ay) * (ax - lx) := fun g => by have := (pos_r h0).1 g; omega
              have u2 : 0 < (by' - ay) * (bx - lx) := (pos_r h0).2 (by omega)
              exact hno ⟨oo, lx, ay, lx, by', by unfold inP; omega, by unfold inP; omega, by rw [cr_at_a]; omega, by rw [cr_at_b]; omega⟩
            · have u1 : ¬ 0 < (by' - ay) * (bx - lx) := fun g => by have := (pos_r h0).1 g; omega
              have u2 : 0 < (by' - ay) * (ax - lx) := (pos_r h0).2 (by omega)
              exact hno ⟨oo, lx, by', lx, ay, by unfold inP; omega, by unfold inP; omega, by rw [cr_at_b]; omega, by rw [cr_at_a]; omega⟩
          omega
        rw [show decide (hx < ax) = decide (hx < bx) from decide_eq_decide.2 this]
        simp
    · rw [decide_eq_false c2, decide_eq_false (p := ay ≤ qy ∧ qy < by') (by omega), decide_eq_false (p := by' ≤ qy) (by omega)]
      simp
  · rw [decide_eq_false c1]
    by_cases c2 : py < by'
    · rw [decide_eq_true (p := ay ≤ py ∧ py < by') (by omega), decide_eq_true c2]
      by_cases c3 : by' ≤ qy
      · rw [decide_eq_false (p := ay ≤ qy ∧ qy < by') (by omega), decide_eq_true c3]
        have k := side_same hno (by omega) (px := px) (py := py) (qx := lx) (qy := by') hp (by unfold inP; omega) (by omega) (by omega)
        rw [cr_at_b, pos_r h0] at k
        simp only [Bool.true_and, Bool.false_and, Bool.false_bne, Bool.bne_false]
        exact decide_eq_decide.2 (k.trans (by omega))
      · rw [decide_eq_true (p := ay ≤ qy ∧ qy < by') (by omega), decide_eq_false c3]
        have k := side_same hno (by omega) (px := px) (py := py) (qx := qx) (qy := qy) hp hq (by omega) (by omega)
        rw [show decide (0 < cr ax ay bx by' px py) = decide (0 < cr ax ay bx by' qx qy) from decide_eq_decide.2 k]
        simp
    · rw [decide_eq_false (p := ay ≤ py ∧ py < by') (by omega), decide_eq_false (p := ay ≤ qy ∧ qy < by') (by omega), decide_eq_false c2]
      simp
theorem par_edge (hb : lx ≤ hx ∧ ly ≤ hy) (hno : ¬ stP lx ly hx hy ax ay bx by') (hp : inP lx ly hx hy px py) (hq : inP lx ly hx hy qx qy) (hpq : py ≤ qy) :
    (Rg.ovR ax ay bx by' px py != Rg.ovR ax ay bx by' qx qy) = (gR hx py qy ax ay != gR hx py qy bx by') := by
  by_cases hu : ay ≤ by'
  · exact par_up hb hno hu hp hq hpq
  · rw [← ovR_swap, ← ovR_swap (px := qx), par_up hb (fun h => hno (stP_flip h)) (by omega) hp hq hpq]
    cases gR hx py qy ax ay <;> cases gR hx py qy bx by' <;> rfl
end
def xorN (f : Nat → Bool) : Nat → Bool
  | 0 => false
  | k + 1 => xorN f k != f k
theorem xorN_xor (f g : Nat → Bool) : ∀ k, (xorN f k != xorN g k) = xorN (fun i => f i != g i) k := by
  intro k
  induction k with
  | zero => rfl
  | succ k ih => simp only [xorN]; rw [← ih]; cases xorN f k <;> cases xorN g k <;> cases f k <;> cases g k <;> rfl
theorem xor_tel {n : Nat} {f g : Nat → Bool} (hn : 1 ≤ n) (h : ∀ i, i < n → f i = (g i != g (Rg.nx1 n i))) : xorN f n = false := by
  have part : ∀ k, k < n → xorN f k = (g 0 != g k) := by
    intro k
    induction k with
    | zero => intro _; simp [xorN]
    | succ k ih =>
      intro hk
      simp only [xorN]
      rw [ih (by omega), h k (by omega), show Rg.nx1 n k = k + 1 by unfold Rg.nx1; rw [if_neg (by omega)]]
      cases g 0 <;> cases g k <;> cases g (k + 1) <;> rfl
  obtain ⟨k, rfl⟩ : ∃ k, n = k + 1 := ⟨n - 1, by omega⟩
  simp only [xorN]
  rw [part k (by omega), h k (by omega), show Rg.nx1 (k + 1) k = 0 by unfold Rg.nx1; rw [if_pos rfl]]
  cases g 0 <;> cases g k <;> rfl
theorem od_xor (n : Nat) (X Y : Nat → Int) (px py : Int) : ∀ k, Rg.odN n X Y px py k = xorN (fun i => Rg.ovR (X i) (Y i) (X (Rg.nx1 n i)) (Y (Rg.nx1 n i)) px py) k := by
  intro k
  induction k with
  | zero => rfl
  | succ k ih => simp only [Rg.odN, xorN]; rw [ih]
section
variable {n : Nat} {X Y : Nat → Int} {lx ly hx hy px py qx qy : Int}
theorem od_same (hn : 1 ≤ n) (hb : lx ≤ hx ∧ ly ≤ hy) (hno : ∀ i, i < n → ¬ stP lx ly hx hy (X i) (Y i) (X (Rg.nx1 n i)) (Y (Rg.nx1 n i))) (hp : inP lx ly hx hy px py) (hq : inP lx ly hx hy qx qy) :
    Rg.odN n X Y px py n = Rg.odN n X Y qx qy n := by
  have key : ∀ px py qx qy, inP lx ly hx hy px py → inP lx ly hx hy qx qy → py ≤ qy → (Rg.odN n X Y px py n != Rg.odN n X Y qx qy n) = false := fun px py qx qy hp hq hpq => by
    rw [od_xor, od_xor, xorN_xor]
    exact xor_tel (g := fun i => gR hx py qy (X i) (Y i)) hn fun i hi => par_edge hb (hno i hi) hp hq hpq
  rcases Int.le_total py qy with h | h
  · have := key px py qx qy hp hq h
    revert this; cases Rg.odN n X Y px py n <;> cases Rg.odN n X Y qx qy n <;> simp
  · have := key qx qy px py hq hp h
    revert this; cases Rg.odN n X Y px py n <;> cases Rg.odN n X Y qx qy n <;> simp
theorem on_none (hno : ∀ i, i < n → ¬ stP lx ly hx hy (X i) (Y i) (X (Rg.nx1 n i)) (Y (Rg.nx1 n i))) (hp : inP lx ly hx hy px py) : Rg.onN n X Y px py n = false := by
  cases h : Rg.onN n X Y px py n
  · rfl
  · exfalso
    obtain ⟨i, hi, h⟩ := (Rg.onN_iff n).1 h
    unfold onG at h
    rw [Bool.and_eq_true] at h
    have h := (onF_iff.1 h.2)
    have b := btw_iff.1 h.1
    refine hno i hi ⟨?_, px, py, px, py, hp, hp, by rw [h.2]; omega, by rw [h.2]; omega⟩
    unfold inP at hp
    unfold ovP
    omega
theorem has_same (hn : 1 ≤ n) (hb : lx ≤ hx ∧ ly ≤ hy) (hno : ∀ i, i < n → ¬ stP lx ly hx hy (X i) (Y i) (X (Rg.nx1 n i)) (Y (Rg.nx1 n i))) (hp : inP lx ly hx hy px py) (hq : inP lx ly hx hy qx qy) :
    Rg.hasN n X Y px py = Rg.hasN n X Y qx qy := by
  unfold Rg.hasN
  rw [on_none hno hp, on_none hno hq, od_same hn hb hno hp hq]
theorem mn_le (F : Nat → Int) : ∀ n k, k < n → mnN F n ≤ F k := by
  intro n
  induction n with
  | zero => intro k hk; omega
  | succ n ih =>
    intro k hk
    by_cases h : n = 0
    · rw [mnN_0 F h]; obtain rfl : k = n := by omega
      exact Int.le_refl _
    · rw [mnN_s F h]
      rcases (by omega : k < n ∨ k = n) with g | rfl
      · exact min_le'.2 (Or.inl (ih k g))
      · exact min_le'.2 (Or.inr (Int.le_refl _))
theorem le_mx (F : Nat → Int) : ∀ n k, k < n → F k ≤ mxN F n := by
  intro n
  induction n with
  | zero => intro k hk; omega
  | succ n ih =>
    intro k hk
    by_cases h : n = 0
    · rw [mxN_0 F h]; obtain rfl : k = n := by omega
      exact Int.le_refl _
    · rw [mxN_s F h]
      rcases (by omega : k < n ∨ k = n) with g | rfl
      · exact le_max.2 (Or.inl (ih k g))
      · exact le_max.2 (Or.inr (Int.le_refl _))
theorem nxl_of (hn : 1 ≤ n) {i : Nat} (hi : i < n) : Rg.nx1 n i < n := by unfold Rg.nx1; split <;> omega
theorem has_box (hn : 1 ≤ n) (h : Rg.hasN n X Y px py = true) : inP (mnN X n) (mnN Y n) (mxN X n) (mxN Y n) px py := by
  have bd : ∀ i, i < n → mnN X n ≤ X i ∧ X i ≤ mxN X n ∧ mnN Y n ≤ Y i ∧ Y i ≤ mxN Y n := fun i hi => ⟨mn_le X n i hi, le_mx X n i hi, mn_le Y n i hi, le_mx Y n i hi⟩
  unfold Rg.hasN at h
  rw [Bool.or_eq_true] at h
  unfold inP
  rcases h with h | h
  · obtain ⟨i, hi, h⟩ := (Rg.onN_iff n).1 h
    unfold onG at h
    rw [Bool.and_eq_true] at h
    have b := btw_iff.1 (onF_iff.1 h.2).1
    have b1 := bd i hi
    have b2 := bd _ (nxl_of hn hi)
    omega
  ·
    have some_edge : ∀ k, k ≤ n → Rg.odN n X Y px py k = true → ∃ i, i < n ∧ Rg.ovR (X i) (Y i) (X (Rg.nx1 n i)) (Y (Rg.nx1 n i)) px py = true := by
      intro k
      induction k with
      | zero => intro _ h; cases h
      | succ k ih =>
        intro hk h
        simp only [Rg.odN] at h
        cases e : Rg.ovR (X k) (Y k) (X (Rg.nx1 n k)) (Y (Rg.nx1 n k)) px py
        · rw [e] at h
          exact ih (by omega) (by simpa using h)
        · exact ⟨k, hk, e⟩
    obtain ⟨i, hi, hv⟩ := some_edge n (Nat.le_refl _) h
    have b1 := bd i hi
    have b2 := bd _ (nxl_of hn hi)
    have hl : mnN X n ≤ px := by
      rcases Int.lt_or_le px (mnN X n) with g | g
      · exfalso
        have : Rg.odN n X Y px py n = false := by
          rw [od_xor]
          refine xor_tel (g := fun i => decide (Y i ≤ py)) hn fun i hi => ?_
          have c1 := bd i hi
          have c2 := bd _ (nxl_of hn hi)
          have up : ∀ ax ay bx by' : Int, px < ax → px < bx → ay ≤ by' → Rg.ovR ax ay bx by' px py = (decide (ay ≤ py) != decide (by' ≤ py)) := fun ax ay bx by' h1 h2 h3 => by
            rw [ovR_up h3]
            by_cases c : ay ≤ py ∧ py < by'
            · rw [decide_eq_true c, decide_eq_true (up_l (by omega) c.1 (by omega) h1 h2), decide_eq_true c.1, decide_eq_false (p := by' ≤ py) (by omega)]; rfl
            · rw [decide_eq_false c]
              by_cases d : ay ≤ py
              · rw [decide_eq_true d, decide_eq_true (p := by' ≤ py) (by omega)]; rfl
              · rw [decide_eq_false d, decide_eq_false (p := by' ≤ py) (by omega)]; rfl
          by_cases hu : Y i ≤ Y (Rg.nx1 n i)
          · exact up _ _ _ _ (by omega) (by omega) hu
          · show Rg.ovR (X i) (Y i) (X (Rg.nx1 n i)) (Y (Rg.nx1 n i)) px py = _
            rw [← ovR_swap, up _ _ _ _ (by omega) (by omega) (by omega)]
            cases decide (Y i ≤ py) <;> cases decide (Y (Rg.nx1 n i) ≤ py) <;> rfl
        rw [this] at h; cases h
      · exact g
    have up : ∀ ax ay bx by' : Int, ay ≤ by' → Rg.ovR ax ay bx by' px py = true → ay ≤ py ∧ py < by' ∧ (px ≤ ax ∨ px ≤ bx) := fun ax ay bx by' h3 h => by
      rw [ovR_up h3, Bool.and_eq_true, decide_eq_true_eq, decide_eq_true_eq] at h
      refine ⟨h.1.1, h.1.2, ?_⟩
      rcases (by omega : (px ≤ ax ∨ px ≤ bx) ∨ (ax < px ∧ bx < px)) with g | g
      · exact g
      · have := up_r (px := px) (py := py) (by omega : ay < by') h.1.1 (by omega) g.1 g.2
        omega
    by_cases hu : Y i ≤ Y (Rg.nx1 n i)
    · have := up _ _ _ _ hu hv
      omega
    · rw [← ovR_swap] at hv
      have := up _ _ _ _ (by omega) hv
      omega
end
end Go.Proofs.YtfobmlgpjhghdaaGreatDoor
namespace Go.Proofs.YtfobmlgpjhghdaaGreatDoor
set_option linter.unusedVariables false
set_option linter.unusedSimpArgs false
theorem mbG_st {ax ay bx by' lx ly hx hy : Int} (ha : nearB ax ay = true) (hb' : nearB bx by' = true) (hb : boxB lx ly hx hy = true) : mbG ax ay bx by' lx ly hx hy = true ↔ stP lx ly hx hy ax ay bx by' := by
  unfold mbG
  rw [ha, hb', hb]
  simp only [Bool.true_and]
  exact mb_st (boxB_iff.1 hb).2
section
variable {n : Nat} {X Y : Nat → Int} {lx ly hx hy : Int}
theorem mbW_iff : mbW n X Y lx ly hx hy (List.range n) = true ↔ ∃ i, i < n ∧ mbG (X i) (Y i) (X (Rg.nx1 n i)) (Y (Rg.nx1 n i)) lx ly hx hy = true := by
  unfold mbW
  rw [List.any_eq_true]
  constructor
  · rintro ⟨i, hi, h⟩; exact ⟨i, List.mem_range.1 hi, h⟩
  · rintro ⟨i, hi, h⟩; exact ⟨i, List.mem_range.2 hi, h⟩
def rmD (n : Nat) (X Y : Nat → Int) (lx ly hx hy : Int) : Bool := Rg.hasN n X Y lx ly || mbW n X Y lx ly hx hy (List.range n)
theorem rmD_iff (h0 : (Rg.ringC n X Y).1 = 0) (hb : boxB lx ly hx hy = true) : rmD n X Y lx ly hx hy = true ↔ Rg.hasN n X Y lx ly = true ∨ ∃ i, i < n ∧ stP lx ly hx hy (X i) (Y i) (X (Rg.nx1 n i)) (Y (Rg.nx1 n i)) := by
  obtain ⟨h1, h2, -⟩ := Rg.ringC_ok h0
  unfold rmD
  rw [Bool.or_eq_true, mbW_iff]
  constructor
  · rintro (h | ⟨i, hi, h⟩)
    · exact Or.inl h
    · exact Or.inr ⟨i, hi, (mbG_st (h2 i hi) (h2 _ (nxl_of (by omega) hi)) hb).1 h⟩
  · rintro (h | ⟨i, hi, h⟩)
    · exact Or.inl h
    · exact Or.inr ⟨i, hi, (mbG_st (h2 i hi) (h2 _ (nxl_of (by omega) hi)) hb).2 h⟩
theorem bd_mm (n : Nat) (X Y : Nat → Int) (i : Nat) (hi : i < n) : mnN X n ≤ X i ∧ X i ≤ mxN X n ∧ mnN Y n ≤ Y i ∧ Y i ≤ mxN Y n := ⟨mn_le X n i hi, le_mx X n i hi, mn_le Y n i hi, le_mx Y n i hi⟩
theorem rmD_ov (h0 : (Rg.ringC n X Y).1 = 0) (hb : boxB lx ly hx hy = true) (h : rmD n X Y lx ly hx hy = true) : mnN X n ≤ hx ∧ lx ≤ mxN X n ∧ mnN Y n ≤ hy ∧ ly ≤ mxN Y n := by
  obtain ⟨h1, h2, -⟩ := Rg.ringC_ok h0
  have hl := (boxB_iff.1 hb).2
  rcases (rmD_iff h0 hb).1 h with g | ⟨i, hi, g⟩
  · have := has_box (by omega) g
    unfold inP at this
    omega
  · have b1 := bd_mm n X Y i hi
    have b2 := bd_mm n X Y _ (nxl_of (by omega) hi)
    have := g.1
    unfold ovP at this
    omega
theorem ring_box (h0 : (Rg.ringC n X Y).1 = 0) : boxB (mnN X n) (mnN Y n) (mxN X n) (mxN Y n) = true := by
  obtain ⟨h1, h2, -⟩ := Rg.ringC_ok h0
  exact near_box h2 (by omega)
theorem rm_doc (h0 : (Rg.ringC n X Y).1 = 0) (hb : boxB lx ly hx hy = true) : rmV n X Y lx ly hx hy = rmD n X Y lx ly hx hy := by
  have hn := (boxB_iff.1 hb).1.1
  have ov := rmD_ov h0 hb
  have rb := ring_box h0
  unfold rmV arM rmbV
  rw [rb, hb, hn]
  by_cases c : mnN X n ≤ hx ∧ lx ≤ mxN X n ∧ mnN Y n ≤ hy ∧ ly ≤ mxN Y n
  · rw [decide_eq_true c.1, decide_eq_true c.2.1, decide_eq_true c.2.2.1, decide_eq_true c.2.2.2]
    simp only [Bool.true_and]
    unfold rmD
    exact Bool.or_comm _ _
  · have e : rmD n X Y lx ly hx hy = false := by
      cases h : rmD n X Y lx ly hx hy
      · rfl
      · exact absurd (ov h) c
    rw [e]
    have : (decide (mnN X n ≤ hx) && decide (lx ≤ mxN X n) && decide (mnN Y n ≤ hy) && decide (ly ≤ mxN Y n)) = false := by
      rw [← Bool.not_eq_true]
      simp only [Bool.and_eq_true, decide_eq_true_eq, and_assoc]
      exact c
    simp only [Bool.true_and]
    rw [this]
    rfl
theorem rmD_pt {px py : Int} (h0 : (Rg.ringC n X Y).1 = 0) (hb : boxB lx ly hx hy = true) (hp : inP lx ly hx hy px py) (h : Rg.hasN n X Y px py = true) : rmD n X Y lx ly hx hy = true := by
  obtain ⟨h1, h2, -⟩ := Rg.ringC_ok h0
  have a1 := (boxB_iff.1 hb).2
  rw [rmD_iff h0 hb]
  by_cases c : ∃ i, i < n ∧ stP lx ly hx hy (X i) (Y i) (X (Rg.nx1 n i)) (Y (Rg.nx1 n i))
  · exact Or.inr c
  left
  rw [← h]
  exact has_same (by omega) a1 (fun i hi g => c ⟨i, hi, g⟩) (by unfold inP; omega) hp
theorem rmD_vert (h0 : (Rg.ringC n X Y).1 = 0) (hb : boxB lx ly hx hy = true) {i : Nat} (hi : i < n) (h : inP lx ly hx hy (X i) (Y i)) : rmD n X Y lx ly hx hy = true :=
  (rmD_iff h0 hb).2 (Or.inr ⟨i, hi, stP_a h⟩)
end
theorem emW_iff {n : Nat} {X Y : Nat → Int} {px py qx qy : Int} : emW n X Y px py qx qy (List.range n) = true ↔ ∃ i, i < n ∧ meG px py qx qy (X i) (Y i) (X (Rg.nx1 n i)) (Y (Rg.nx1 n i)) = true := by
  unfold emW
  rw [List.any_eq_true]
  constructor
  · rintro ⟨i, hi, h⟩; exact ⟨i, List.mem_range.1 hi, h⟩
  · rintro ⟨i, hi, h⟩; exact ⟨i, List.mem_range.2 hi, h⟩
def rgD (n : Nat) (X Y : Nat → Int) (m : Nat) (P Q : Nat → Int) : Bool :=
  Rg.hasN n X Y (P 0) (Q 0) || Rg.hasN m P Q (X 0) (Y 0) || (List.range n).any fun i => emW m P Q (X i) (Y i) (X (Rg.nx1 n i)) (Y (Rg.nx1 n i)) (List.range m)
section
variable {n m : Nat} {X Y P Q : Nat → Int}
theorem rgD_iff : rgD n X Y m P Q = true ↔ Rg.hasN n X Y (P 0) (Q 0) = true ∨ Rg.hasN m P Q (X 0) (Y 0) = true ∨ ∃ i k, i < n ∧ k < m ∧ meG (X i) (Y i) (X (Rg.nx1 n i)) (Y (Rg.nx1 n i)) (P k) (Q k) (P (Rg.nx1 m k)) (Q (Rg.nx1 m k)) = true := by
  unfold rgD
  rw [Bool.or_eq_true, Bool.or_eq_true, List.any_eq_true, or_assoc]
  constructor
  · rintro (h | h | ⟨i, hi, h⟩)
    · exact Or.inl h
    · exact Or.inr (Or.inl h)
    · obtain ⟨k, hk, h⟩ := emW_iff.1 h
      exact Or.inr (Or.inr ⟨i, k, List.mem_range.1 hi, hk, h⟩)
  · rintro (h | h | ⟨i, k, hi, hk, h⟩)
    · exact Or.inl h
    · exact Or.inr (Or.inl h)
    · exact Or.inr (Or.inr ⟨i, List.mem_range.2 hi, emW_iff.2 ⟨k, hk, h⟩⟩)
theorem meG_F {ax ay bx by' cx cy dx dy : Int} (h : meG ax ay bx by' cx cy dx dy = true) : meF ax ay bx by' cx cy dx dy = true := by
  unfold meG at h
  rw [Bool.and_eq_true] at h
  exact h.2
theorem rg_doc (h0 : (Rg.ringC n X Y).1 = 0) (h9 : (Rg.ringC m P Q).1 = 0) : rgV n X Y m P Q = rgD n X Y m P Q := by
  obtain ⟨h1, h2, -⟩ := Rg.ringC_ok h0
  obtain ⟨k1, k2, -⟩ := Rg.ringC_ok h9
  have rb := ring_box h0
  have rc := ring_box h9
  have hbb := (boxB_iff.1 rc).2
  have edge : ∀ i k, i < n → k < m → meG (X i) (Y i) (X (Rg.nx1 n i)) (Y (Rg.nx1 n i)) (P k) (Q k) (P (Rg.nx1 m k)) (Q (Rg.nx1 m k)) = true → mbG (X i) (Y i) (X (Rg.nx1 n i)) (Y (Rg.nx1 n i)) (mnN P m) (mnN Q m) (mxN P m) (mxN Q m) = true := fun i k hi hk h => by
    rw [mbG_st (h2 i hi) (h2 _ (nxl_of (by omega) hi)) rc]
    have c1 := bd_mm m P Q k hk
    have c2 := bd_mm m P Q _ (nxl_of (by omega) hk)
    exact me_parts (meG_F h) (by unfold inP; omega) (by unfold inP; omega)
  have e1 : rmW n X Y m P Q (mnN P m) (mnN Q m) (mxN P m) (mxN Q m) (List.range n) = (List.range n).any fun i => emW m P Q (X i) (Y i) (X (Rg.nx1 n i)) (Y (Rg.nx1 n i)) (List.range m) := by
    unfold rmW rmE
    refine bool_iff ?_
    rw [List.any_eq_true, List.any_eq_true]
    constructor
    · rintro ⟨i, hi, h⟩
      rw [Bool.and_eq_true] at h
      exact ⟨i, hi, h.2⟩
    · rintro ⟨i, hi, h⟩
      obtain ⟨k, hk, g⟩ := emW_iff.1 h
      exact ⟨i, hi, by rw [Bool.and_eq_true]; exact ⟨edge i k (List.mem_range.1 hi) hk g, h⟩⟩
  unfold rgV
  rw [e1, h2 0 (by omega), k2 0 (by omega)]
  simp only [Bool.true_and]
  have e2 : ((List.range n).any (fun i => emW m P Q (X i) (Y i) (X (Rg.nx1 n i)) (Y (Rg.nx1 n i)) (List.range m)) || (Rg.hasN n X Y (P 0) (Q 0) || Rg.hasN m P Q (X 0) (Y 0))) = rgD n X Y m P Q := by
    unfold rgD
    rw [Bool.or_comm]
  rw [e2]
  unfold arM
  rw [rb, rc]
  by_cases c : mnN X n ≤ mxN P m ∧ mnN P m ≤ mxN X n ∧ mnN Y n ≤ mxN Q m ∧ mnN Q m ≤ mxN Y n
  · rw [decide_eq_true c.1, decide_eq_true c.2.1, decide_eq_true c.2.2.1, decide_eq_true c.2.2.2]
    rfl
  · have e : rgD n X Y m P Q = false := by
      cases h : rgD n X Y m P Q
      · rfl
      · exfalso
        have p0 := bd_mm m P Q 0 (by omega)
        have x0 := bd_mm n X Y 0 (by omega)
        rcases rgD_iff.1 h with g | g | ⟨i, k, hi, hk, g⟩
        · have := has_box (by omega) g
          unfold inP at this
          omega
        · have := has_box (by omega) g
          unfold inP at this
          omega
        · have := me_ap (meG_F g)
          unfold apF at this
          simp only [Bool.or_eq_false_iff, decide_eq_false_iff_not, max_lt, lt_min] at this
          have c1 := bd_mm m P Q k hk
          have c2 := bd_mm m P Q _ (nxl_of (by omega) hk)
          have d1 := bd_mm n X Y i hi
          have d2 := bd_mm n X Y _ (nxl_of (by omega) hi)
          omega
    rw [e, Bool.and_false]
theorem rgD_self (h0 : (Rg.ringC n X Y).1 = 0) : rgD n X Y n X Y = true := by
  obtain ⟨h1, h2, -⟩ := Rg.ringC_ok h0
  refine rgD_iff.2 (Or.inr (Or.inr ⟨0, 0, by omega, by omega, ?_⟩))
  unfold meG all4
  rw [h2 0 (by omega), h2 _ (nxl_of (by omega) (by omega : 0 < n)), me_on1 (on_self _ _ _ _).1]
  rfl
end
end Go.Proofs.YtfobmlgpjhghdaaGreatDoor
namespace Go.Proofs.YtfobmlgpjhghdaaGreatDoor
set_option linter.unusedVariables false
set_option linter.unusedSimpArgs false
theorem bey_nn (lo hi v : Int) : 0 ≤ beyZ lo hi v := by unfold beyZ; split <;> (try split) <;> omega
theorem bey_far {lo hi v u : Int} (h : lo ≤ u ∧ u ≤ hi) : beyZ lo hi v * beyZ lo hi v ≤ (v - u) * (v - u) := by
  have n := bey_nn lo hi v
  rcases Int.le_total u v with g | g
  · have : beyZ lo hi v ≤ v - u := by unfold beyZ; split <;> (try split) <;> omega
    exact Int.mul_le_mul this this n (by omega)
  · have : beyZ lo hi v ≤ u - v := by unfold beyZ; split <;> (try split) <;> omega
    have e : (v - u) * (v - u) = (u - v) * (u - v) := by grind
    rw [e]
    exact Int.mul_le_mul this this n (by omega)
theorem bey_scaled {lo hi a b v s t m : Int} (ha : lo ≤ a ∧ a ≤ hi) (hb : lo ≤ b ∧ b ≤ hi) (hs : 0 ≤ s) (ht : 0 ≤ t ∧ t ≤ s) (e : s * (v - a) = t * (b - a) - m) : (s * beyZ lo hi v) * (s * beyZ lo hi v) ≤ m * m := by
  have sq : ∀ x y : Int, 0 ≤ x → (x ≤ y ∨ x ≤ -y) → x * x ≤ y * y := fun x y hx h => by
    rcases h with h | h
    · exact Int.mul_le_mul h h hx (by omega)
    · have : y * y = (-y) * (-y) := by grind
      rw [this]
      exact Int.mul_le_mul h h hx (by omega)
  refine sq _ _ (Int.mul_nonneg hs (bey_nn _ _ _)) ?_
  unfold beyZ
  split
  · left
    have h1 : 0 ≤ (s - t) * (a - lo) := Int.mul_nonneg (by omega) (by omega)
    have h2 : 0 ≤ t * (b - lo) := Int.mul_nonneg (by omega) (by omega)
    have e1 : m - s * (lo - v) = (s - t) * (a - lo) + t * (b - lo) := by grind
    omega
  · split
    · right
      have h1 : 0 ≤ (s - t) * (hi - a) := Int.mul_nonneg (by omega) (by omega)
      have h2 : 0 ≤ t * (hi - b) := Int.mul_nonneg (by omega) (by omega)
      have e1 : -m - s * (v - hi) = (s - t) * (hi - a) + t * (hi - b) := by grind
      omega
    · rw [Int.mul_zero]
      rcases Int.le_total 0 m with g | g <;> omega
section
variable {lx ly hx hy ax ay bx by' px py : Int}
theorem sd_ge (ha : inP lx ly hx hy ax ay) (hb : inP lx ly hx hy bx by') : (distZ lx ly hx hy px py).toNat * sdD ax ay bx by' px py ≤ sdN ax ay bx by' px py := by
  unfold inP at ha hb
  unfold sdD sdN
  by_cases c1 : alZ ax ay bx by' px py ≤ 0
  · rw [if_pos c1, if_pos c1, Nat.mul_one]
    have e : distZ lx ly hx hy px py ≤ sqZ ax ay px py := by
      have := bey_far (v := px) (u := ax) (lo := lx) (hi := hx) (by omega)
      have := bey_far (v := py) (u := ay) (lo := ly) (hi := hy) (by omega)
      unfold distZ sqZ
      omega
    omega
  rw [if_neg c1, if_neg c1]
  by_cases c2 : sqZ ax ay bx by' ≤ alZ ax ay bx by' px py
  · rw [if_pos c2, if_pos c2, Nat.mul_one]
    have e : distZ lx ly hx hy px py ≤ sqZ bx by' px py := by
      have := bey_far (v := px) (u := bx) (lo := lx) (hi := hx) (by omega)
      have := bey_far (v := py) (u := by') (lo := ly) (hi := hy) (by omega)
      unfold distZ sqZ
      omega
    omega
  rw [if_neg c2, if_neg c2]
  have ex : sqZ ax ay bx by' * (px - ax) = alZ ax ay bx by' px py * (bx - ax) - cr ax ay bx by' px py * (by' - ay) := by unfold sqZ alZ cr; grind
  have ey : sqZ ax ay bx by' * (py - ay) = alZ ax ay bx by' px py * (by' - ay) - -(cr ax ay bx by' px py * (bx - ax)) := by unfold sqZ alZ cr; grind
  have fx := bey_scaled (lo := lx) (hi := hx) (by omega) (by omega) (by omega) (by omega) ex
  have fy := bey_scaled (lo := ly) (hi := hy) (by omega) (by omega) (by omega) (by omega) ey
  have es : sqZ ax ay bx by' = (bx - ax) * (bx - ax) + (by' - ay) * (by' - ay) := rfl
  have key : sqZ ax ay bx by' * distZ lx ly hx hy px py ≤ cr ax ay bx by' px py * cr ax ay bx by' px py := by
    have hs : 0 < sqZ ax ay bx by' := by omega
    refine Int.le_of_mul_le_mul_left (a := sqZ ax ay bx by') ?_ hs
    have e2 : sqZ ax ay bx by' * (sqZ ax ay bx by' * distZ lx ly hx hy px py) = (sqZ ax ay bx by' * beyZ lx hx px) * (sqZ ax ay bx by' * beyZ lx hx px) + (sqZ ax ay bx by' * beyZ ly hy py) * (sqZ ax ay bx by' * beyZ ly hy py) := by unfold distZ; grind
    have e3 : sqZ ax ay bx by' * (cr ax ay bx by' px py * cr ax ay bx by' px py) = (cr ax ay bx by' px py * (by' - ay)) * (cr ax ay bx by' px py * (by' - ay)) + (-(cr ax ay bx by' px py * (bx - ax))) * (-(cr ax ay bx by' px py * (bx - ax))) := by rw [es]; grind
    rw [e2, e3]
    omega
  generalize hS : sqZ ax ay bx by' = S at *
  generalize hC : cr ax ay bx by' px py = C at *
  generalize hD : distZ lx ly hx hy px py = D at *
  have hD0 : 0 ≤ D := by
    rw [← hD]; unfold distZ
    have := Int.mul_nonneg (bey_nn lx hx px) (bey_nn lx hx px)
    have := Int.mul_nonneg (bey_nn ly hy py) (bey_nn ly hy py)
    omega
  obtain ⟨s, rfl⟩ : ∃ s : Nat, S = (s : Int) := ⟨S.toNat, by omega⟩
  obtain ⟨d, rfl⟩ : ∃ d : Nat, D = (d : Int) := ⟨D.toNat, by omega⟩
  have hcc : ((C.natAbs * C.natAbs : Nat) : Int) = C * C := by
    rw [Int.natCast_mul]
    rcases Int.natAbs_eq C with g | g
    · rw [← g]
    · have : (C.natAbs : Int) = -C := by omega
      rw [this]; grind
  have kn : d * s ≤ C.natAbs * C.natAbs := by
    have : ((d * s : Nat) : Int) ≤ ((C.natAbs * C.natAbs : Nat) : Int) := by rw [hcc, Int.natCast_mul, Int.mul_comm]; exact key
    exact Int.ofNat_le.1 this
  rw [Int.toNat_natCast, Int.toNat_natCast]
  have hs0 : 0 < s := by omega
  have mc := mid_cross (C.natAbs * C.natAbs) s hs0
  generalize C.natAbs * C.natAbs = n at *
  generalize lowD n s = ld at *
  generalize lowN n s = ln at *
  refine Nat.le_of_mul_le_mul_right (c := s) ?_ hs0
  rw [← mc]
  calc d * ld * s = (d * s) * ld := by grind
    _ ≤ n * ld := Nat.mul_le_mul_right _ kn
end
section
variable {n : Nat} {X Y : Nat → Int} {px py : Int}
theorem fa_pick : ∀ k, 1 ≤ k → ∃ i, i < k ∧ faW n X Y px py (List.range k) = faD n X Y px py i := by
  intro k
  induction k with
  | zero => intro h; omega
  | succ k ih =>
    intro _
    rw [List.range_succ, faW_snoc]
    unfold faS
    split
    · exact ⟨k, by omega, rfl⟩
    · rename_i hc
      by_cases h : k = 0
      · subst h
        exact absurd (Or.inl rfl) hc
      · obtain ⟨i, hi, e⟩ := ih (by omega)
        exact ⟨i, by omega, e⟩
theorem faD_near (h2 : ∀ k, k < n → nearB (X k) (Y k) = true) (hp : nearB px py = true) {i : Nat} (hi : i < n) : faD n X Y px py i = (sdN (X i) (Y i) (X (Rg.nx1 n i)) (Y (Rg.nx1 n i)) px py, sdD (X i) (Y i) (X (Rg.nx1 n i)) (Y (Rg.nx1 n i)) px py) := by
  unfold faD sdG
  rw [if_pos (by rw [h2 i hi, h2 _ (nxl_of (by omega) hi), hp]; rfl)]
theorem fa_zero (h0 : (Rg.ringC n X Y).1 = 0) (hp : nearB px py = true) : faP n X Y px py = (0, 1) ↔ Rg.hasN n X Y px py = true := by
  obtain ⟨h1, h2, -⟩ := Rg.ringC_ok h0
  unfold faP
  cases hh : Rg.hasN n X Y px py
  · rw [if_neg (by decide)]
    obtain ⟨i, hi, e⟩ := fa_pick (n := n) (X := X) (Y := Y) (px := px) (py := py) n (by omega)
    rw [e, faD_near h2 hp hi]
    refine iff_of_false (fun h => ?_) (by decide)
    rw [Prod.mk.injEq] at h
    have ho := (sd_zero _ _ _ _ _ _).1 h
    have : Rg.hasN n X Y px py = true := by
      unfold Rg.hasN
      rw [(Rg.onN_iff n).2 ⟨i, hi, by unfold onG; rw [h2 i hi, h2 _ (nxl_of (by omega) hi), hp, ho]; rfl⟩]
      rfl
    rw [this] at hh
    cases hh
  · rw [if_pos rfl]
    exact iff_of_true rfl rfl
theorem sdD_pos (ax ay bx by' px py : Int) : 0 < sdD ax ay bx by' px py := by
  unfold sdD
  split
  · decide
  · split
    · decide
    · exact (mid_parts _ _ (by omega)).2.2.2
theorem fa_ge (h0 : (Rg.ringC n X Y).1 = 0) (hp : nearB px py = true) : (distZ (mnN X n) (mnN Y n) (mxN X n) (mxN Y n) px py).toNat * (faP n X Y px py).2 ≤ (faP n X Y px py).1 ∧ 0 < (faP n X Y px py).2 := by
  obtain ⟨h1, h2, -⟩ := Rg.ringC_ok h0
  unfold faP
  cases hh : Rg.hasN n X Y px py
  · rw [if_neg (by decide)]
    obtain ⟨i, hi, e⟩ := fa_pick (n := n) (X := X) (Y := Y) (px := px) (py := py) n (by omega)
    rw [e, faD_near h2 hp hi]
    have b1 := bd_mm n X Y i hi
    have b2 := bd_mm n X Y _ (nxl_of (by omega) hi)
    exact ⟨sd_ge (by unfold inP; omega) (by unfold inP; omega), sdD_pos _ _ _ _ _ _⟩
  · rw [if_pos rfl]
    have b := has_box (by omega) hh
    unfold inP at b
    have e : distZ (mnN X n) (mnN Y n) (mxN X n) (mxN Y n) px py = 0 := by
      unfold distZ beyZ
      rw [if_neg (by omega), if_neg (by omega), if_neg (by omega), if_neg (by omega)]
      rfl
    rw [e]
    exact ⟨by decide, by decide⟩
end
end Go.Proofs.YtfobmlgpjhghdaaGreatDoor
namespace Go.Proofs.YtfobmlgpjhghdaaGreatDoor
set_option linter.unusedVariables false
set_option linter.unusedSimpArgs false
open Go.ChangeShapes Go.WideShapes Go.ChangeAt Go.RowKit
theorem meV_m (lx ly hx hy mx my nx ny : Int) : meV lx ly hx hy mx my nx ny = (boxB lx ly hx hy && boxB mx my nx ny && meetB lx ly hx hy mx my nx ny) := by
  unfold meV meetB
  simp only [Bool.and_assoc]
def mbD (k : Int) (n : Nat) (X Y : Nat → Int) (lx ly hx hy : Int) : Bool := if k = 4 then rmD n X Y lx ly hx hy else meV (X 0) (oLy k Y) (oHx k X Y) (oHy k Y) lx ly hx hy
end Go.Proofs.YtfobmlgpjhghdaaGreatDoor
namespace Go.Proofs.YtfobmlgpjhghdaaGreatDoor
set_option linter.unusedVariables false
set_option linter.unusedSimpArgs false
open Go.ChangeShapes Go.WideShapes Go.ChangeAt Go.RowKit
theorem qC_cases {kq a b c d : Int} {m : Nat} {P Q : Nat → Int} (h : qC kq a b c d m P Q = 0) : (kq = 1 ∧ boxB a b c d = true) ∨ (kq = 2 ∧ boxB a b c d = true) ∨ (kq = 3 ∧ nearB a b = true) ∨ (kq = 4 ∧ (Rg.ringC m P Q).1 = 0) := by
  unfold qC at h
  by_cases h1 : kq = 1 ∨ kq = 2
  · rw [if_pos h1] at h
    have hb := boxN_0.1 h
    rcases h1 with h1 | h1
    · exact Or.inl ⟨h1, hb⟩
    · exact Or.inr (Or.inl ⟨h1, hb⟩)
  rw [if_neg h1] at h
  by_cases h3 : kq = 3
  · rw [if_pos h3] at h
    by_cases hn : nearB a b = true
    · exact Or.inr (Or.inr (Or.inl ⟨h3, hn⟩))
    · rw [if_neg hn] at h; cases h
  rw [if_neg h3] at h
  by_cases h4 : kq = 4
  · rw [if_pos h4] at h; exact Or.inr (Or.inr (Or.inr ⟨h4, h⟩))
  rw [if_neg h4] at h
  cases h
end Go.Proofs.YtfobmlgpjhghdaaGreatDoor
