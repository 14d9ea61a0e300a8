/- fault's law: weight -/
import Derived.Test.YtgmmhddlfalehaaLw
namespace Go.Proofs.Ytgmmhddlfalehaa
set_option linter.unusedVariables false
set_option linter.unusedSimpArgs false
open Go.ChangeShapes Go.WideShapes Go.ChangeAt Go.RowKit

set_option maxHeartbeats 1000000 in
set_option maxRecDepth 100000 in
theorem c_Sum1 (a : Int) (n x B : Nat) (ha : a = n) (hn : n ≤ 1099511627776) (hx : x ≤ 9223372036854775807) (W : World) (hc : W.cell? ⟨B, 0, none⟩ = some (.int .i64 x)) :
    Calls Try.prog 17 #[.int .i64 a, .slice (some ⟨B, 0, none⟩) 1 1] W fun e w' => ∃ r : Nat, e = .returned (.int .i64 (r : Nat)) ∧ (r = n + x ∨ r = 1099511627776) ∧ r ≤ 1099511627776 ∧ Gr W w' := by
  subst ha
  have hx2 : (x : Int) ≤ 9223372036854775807 := by omega
  have hn2 : (n : Int) ≤ 1099511627776 := by omega
  have t1 : decide ((1099511627776 : Int) < (n : Int)) = false := decide_eq_false (by omega)
  have t1c : ¬ (1099511627776 : Int) < (n : Int) := by omega
  by_cases h2 : 1099511627776 < n + x
  · have t2 : decide ((1099511627776 : Int) - (n : Int) < (x : Int)) = true := decide_eq_true (by omega)
    go_enter Try.func17, Try.ntmps17
    go_wp2_with fail
    refine wp_loop_rounds 1 ?_
    rw [rounds_succ]
    go_wp2_with fail
    go_ret
    exact ⟨1099511627776, rfl, Or.inr rfl, by decide, Below.refl _ _⟩
  have t2 : decide ((1099511627776 : Int) - (n : Int) < (x : Int)) = false := decide_eq_false (by omega)
  have t3 : (x : Int) ≤ 1099511627776 := by omega
  obtain ⟨y, hy⟩ : ∃ y, y = n + x := ⟨_, rfl⟩
  have e2 : (n : Int) + (x : Int) = (y : Int) := by omega
  have e3 : wrap64 ((n : Int) + (x : Int)) = (y : Int) := by rw [e2]; exact IntWalk.wrap64_in _ (by omega)
  have e4 : IntKind.i64.wrap ((n : Int) + (x : Int)) = (y : Int) := by rw [e2]; exact IntWalk.i64_in _ (by omega)
  have HF := Lib.hid (And.intro hy (show y ≤ 1099511627776 by omega))
  clear h2 hy
  go_enter Try.func17, Try.ntmps17
  go_wp2_with fail
  refine wp_loop_rounds 2 ?_
  rw [rounds_succ]
  go_wp2_with fail
  rw [rounds_succ]
  go_wp2_with fail
  go_ret
  exact ⟨y, rfl, Or.inl HF.out.1, HF.out.2, Below.refl _ _⟩
def Nd.cnt : Nd → Nat
  | .nil => 0
  | .mk _ _ _ n kids => 1 + erSum (fun i => (kids i).cnt) n
set_option maxHeartbeats 4000000 in
set_option maxRecDepth 100000 in
theorem c_weight (T : Nd) : ∀ (W : World) (c0 c1 c2 c3 : Value) (dp : Int), 0 ≤ dp → dp ≤ 31 → NdAt W T [c0, c1, c2, c3] → Calls Try.prog 7 #[.agg #[c0, c1, c2, c3], .int .i64 dp] W fun e w' => ∃ r : Nat, e = .returned (.int .i64 (r : Nat)) ∧ r ≤ 1099511627776 ∧ (r < 1000 → T.cnt ≤ r) ∧ Gr W w' := by
  induction T with
  | nil => intro W c0 c1 c2 c3 dp _ _ h; exact h.elim
  | mk kind N op n kids ih =>
    intro W c0 c1 c2 c3 dp d1 d2 h
    obtain ⟨ad, cap, B, off, e, h1, h2, h3, h4, h5, h6, h7⟩ := h
    simp only [List.cons.injEq, and_true] at e
    obtain ⟨rfl, rfl, rfl, rfl⟩ := e
    have HX := Lib.hid (And.intro h6 h7)
    have HIH := Lib.hid ih
    have hos : op.size ≤ 9223372036854775807 := by unfold maxLen at h3; omega
    clear h6 h7 h3 ih h1 h2
    by_cases hd : 30 < dp
    · have t1 : decide ((30 : Int) < dp) = true := decide_eq_true hd
      go_enter Try.func7, Try.ntmps7
      go_wp2_with fail
      go_ret
      exact ⟨1073741824, rfl, by decide, fun h => absurd h (by decide), by go_grown⟩
    have t1 : decide ((30 : Int) < dp) = false := decide_eq_false hd
    have e1 : wrap64 (dp + 1) = dp + 1 := wr_small (by omega)
    have e2 : IntKind.i64.wrap (dp + 1) = dp + 1 := wk_small (by omega)
    have A1 := fun (B : Nat) (W : World) hc => c_Sum1 1 1 op.size B rfl (by decide) hos W hc
    have H1 := Lib.hid A1
    clear A1
    go_enter Try.func7, Try.ntmps7
    go_wp2_with fail
    go_at_call 17
    refine (H1.out _ _ (by go_simp)).mono ?_
    rintro e w1 ⟨r, rfl, hr1, hr2, g1⟩
    have q3 : w1.cell? ⟨W.heap.size, 3, none⟩ = some (.slice ad n cap) := cell_gr g1 (by go_simp)
    have HQ := Lib.hid q3
    have GW1 : Gr W w1 := Gr.trans (by go_grown) g1
    have HG := Lib.hid GW1
    have HG1 := Lib.hid (Below.refl _ _ : Gr w1 w1)
    have hr0 : Hid (r < 1000 → 1 + erSum (fun i => (kids i).cnt) 0 ≤ r) := Lib.hid (fun hr => by show 1 + 0 ≤ r; omega)
    clear g1 GW1 q3 H1 hr1
    go_wp2_with fail
    go_loopg [5, 6] n (fun j a x wq => ∃ i r : Nat, x = .int .i64 i ∧ i ≤ n ∧ j = n - i ∧ a = .int .i64 r ∧ r ≤ 1099511627776 ∧ Hid (r < 1000 → 1 + erSum (fun i => (kids i).cnt) i ≤ r) ∧ Hid (Gr w1 wq))
    case atStart => exact ⟨0, r, rfl, by omega, by omega, rfl, hr2, hr0, HG1⟩
    case round =>
      obtain ⟨i, r', rfl, hi, hj, rfl, hr3, HR, HG2⟩ := hrel
      have p3 := cell_gr HG2.out HQ.out
      have zP := World.block_lt_of_cell? _ _ p3
      by_cases hin : i < n
      · have ti : decide ((i : Int) < (n : Int)) = true := decide_eq_true (by omega)
        have ti2 : decide (i < n) = true := decide_eq_true hin
        have ti3 : (i : Int) < (n : Int) := by omega
        have tn1 : (i : Int) < (cap : Int) := by omega
        have t0 : (0 : Int) ≤ (i : Int) := by omega
        by_cases hrt : r' < 1000
        · have tr : decide ((r' : Int) < 1000) = true := decide_eq_true (by omega)
          have tr2 : (r' : Int) < 1000 := by omega
          obtain rfl := HX.out.1 (by omega)
          obtain ⟨x0, x1, x2, x3, k0, k1, k2, k3, hk⟩ := HX.out.2 i hin
          have GWr : Gr W wr := Gr.trans HG.out HG2.out
          have m0 := cell_gr GWr k0
          have m1 := cell_gr GWr k1
          have m2 := cell_gr GWr k2
          have m3 := cell_gr GWr k3
          have zB := World.block_lt_of_cell? _ _ m0
          have AW : Hid (∀ w, Gr wr w → Calls Try.prog 7 #[.agg #[x0, x1, x2, x3], .int .i64 (dp + 1)] w fun e w' => ∃ r : Nat, e = .returned (.int .i64 (r : Nat)) ∧ r ≤ 1099511627776 ∧ (r < 1000 → (kids i).cnt ≤ r) ∧ Gr w w') := Lib.hid (fun w g => HIH.out i w x0 x1 x2 x3 (dp + 1) (by omega) (by omega) (ndAt_gr (Gr.trans GWr g) hk))
          clear k0 k1 k2 k3 hk GWr
          go_wp2_with fail
          go_at_call 7
          refine (AW.out _ (Below.refl _ _)).mono ?_
          rintro e w2 ⟨s, rfl, hs1, hs2, g2⟩
          have A2 := Lib.hid (fun (B : Nat) (W : World) hc => c_Sum1 (r' : Nat) r' s B rfl (by omega) (by omega) W hc)
          have HS := Lib.hid hs2
          have HG3 := Lib.hid g2
          clear hs2 g2 AW m0 m1 m2 m3
          go_wp2_with fail
          go_at_call 17
          refine (A2.out _ _ (by go_simp)).mono ?_
          rintro e w3 ⟨t, rfl, ht1, ht2, g3⟩
          have HR2 : Hid (t < 1000 → 1 + erSum (fun i => (kids i).cnt) (i + 1) ≤ t) := Lib.hid (fun ht => by
            rcases ht1 with h | h
            · have a1 := HR.out (by omega)
              have a2 := HS.out (by omega)
              show 1 + (erSum (fun i => (kids i).cnt) i + (kids i).cnt) ≤ t
              omega
            · omega)
          have HG4 : Hid (Gr w1 w3) := Lib.hid (Gr.trans HG2.out (Gr.trans HG3.out (Gr.trans (al_grw _ _) g3)))
          clear g3 ht1
          go_wp2_with fail
          go_roundg (n - (i + 1))
          case measure => omega
          case rel => exact ⟨i + 1, t, by go_num, by omega, rfl, rfl, ht2, HR2, HG4⟩
        · have tr : decide ((r' : Int) < 1000) = false := decide_eq_false (by omega)
          have tr2 : ¬ (r' : Int) < 1000 := by omega
          go_wp2_with fail
          go_ret
          exact ⟨r', rfl, hr3, fun h => absurd h hrt, Gr.trans HG.out HG2.out⟩
      · obtain rfl : i = n := by omega
        have ti : decide ((i : Int) < (i : Int)) = false := decide_eq_false (by omega)
        have ti3 : ¬ (i : Int) < (i : Int) := by omega
        go_wp2_with fail
        go_ret
        exact ⟨r', rfl, hr3, fun h => HR.out h, Gr.trans HG.out HG2.out⟩
end Go.Proofs.Ytgmmhddlfalehaa
