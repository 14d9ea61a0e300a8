/- RingLimits -/
import Derived.Test.YtfamocpbmbhmbaaDoorGk
import Derived.WalkSmall
import Derived.Test.YtfamocpbmbhmbaaDoorEa
namespace Go.Proofs.YtfamocpbmbhmbaaDoor
set_option linter.unusedVariables false
open Go.ChangeShapes Go.WideShapes Go.ChangeAt Go.RowKit

set_option maxRecDepth 100000 in
theorem c_RoundG (z : Int) (h1 : -9223372036854775808 ≤ z) (h2 : z ≤ 9223372036854775807) (m : Nat) (hm : 0 < m) (hm2 : m ≤ 1000000) (W : World) :
    Calls Tryd.prog 30 #[.int .i64 z, .int .i64 m] W fun e w' => ∃ k : Nat, k < m ∧ e = .returned (.int .i64 (k : Int)) ∧ Gr W w' := by
  obtain ⟨r, er⟩ : ∃ r, r = Int.tmod z (m : Int) := ⟨_, rfl⟩
  have hr : r.natAbs < m := by
    rw [er, Int.natAbs_tmod, Int.natAbs_natCast]
    exact Nat.mod_lt _ hm
  have e1 : Int.tmod z (m : Int) = r := er.symm
  have e2 : IntKind.i64.wrap (Int.tmod z (m : Int)) = r := by rw [e1, IntKind.wrap_i64]; omega
  have e3 : IntKind.i64.wrap r = r := by rw [IntKind.wrap_i64]; omega
  have hm0 : (m : Int) ≠ 0 := by omega
  have hm1 : ((m : Int) == 0) = false := by simp; omega
  have r1 : -(1000000 : Int) ≤ r := by omega
  have r2 : r ≤ 1000000 := by omega
  have m2 : (m : Int) ≤ 1000000 := by omega
  by_cases h : r < 0
  · have t1 : decide (r < 0) = true := decide_eq_true h
    have hk : ∃ k : Nat, r + (m : Int) = (k : Int) ∧ k < m := ⟨(r + m).toNat, by omega, by omega⟩
    have HK := Lib.hid hk
    clear er hr hk
    go_enter Tryd.func30, Tryd.ntmps30
    go_wp2_with fail
    go_ret
    obtain ⟨k, h3, h4⟩ := HK.out
    exact ⟨k, h4, by rw [← h3]; rfl, Below.refl _ _⟩
  · have t1 : decide (r < 0) = false := decide_eq_false h
    have hk : ∃ k : Nat, r = (k : Int) ∧ k < m := ⟨r.toNat, by omega, by omega⟩
    have HK := Lib.hid hk
    clear er hr hk
    go_enter Tryd.func30, Tryd.ntmps30
    go_wp2_with fail
    go_ret
    obtain ⟨k, h3, h4⟩ := HK.out
    exact ⟨k, h4, by rw [← h3]; rfl, Below.refl _ _⟩
end Go.Proofs.YtfamocpbmbhmbaaDoor
namespace Go.Proofs.YtfamocpbmbhmbaaDoor
set_option linter.unusedVariables false
open Go.ChangeShapes Go.WideShapes Go.ChangeAt Go.RowKit

theorem anyown_ltG {w : World} {base n size k : Nat} {e : TypeId} {x : Value} {xs : List Value} (h : w.ownsRow base e size x n xs) (hk : x.ownBlock = some k) : k < w.heap.size ∧ base ≤ k := by
  rcases h.2 with ⟨rfl, -⟩ | ⟨g, cap, cur, rfl, hb, hg, -⟩
  · cases hk
  · simp [Value.ownBlock] at hk
    have := (Array.getElem?_eq_some_iff.1 hg).1
    omega
/-- The cells of a row of points. -/
def rowP (X Y : Nat → Int) : Nat → List Value
  | 0 => []
  | n + 1 => rowP X Y n ++ [.int .i64 (X n), .int .i64 (Y n)]
theorem rowP_len (X Y : Nat → Int) : ∀ n, (rowP X Y n).length = n * 2
  | 0 => rfl
  | n + 1 => by simp only [rowP, List.length_append, rowP_len X Y n, List.length_cons, List.length_nil]; omega
theorem rowP_at (X Y : Nat → Int) : ∀ n k, k < n → (rowP X Y n)[k * 2]? = some (.int .i64 (X k)) ∧ (rowP X Y n)[k * 2 + 1]? = some (.int .i64 (Y k))
  | 0, k, h => absurd h (by omega)
  | n + 1, k, h => by
    have hl := rowP_len X Y n
    simp only [rowP]
    by_cases hk : k < n
    · rw [List.getElem?_append_left (by omega), List.getElem?_append_left (by omega)]
      exact rowP_at X Y n k hk
    · obtain rfl : k = n := by omega
      rw [List.getElem?_append_right (by omega), List.getElem?_append_right (by omega), hl, Nat.sub_self, show k * 2 + 1 - k * 2 = 1 by omega]
      exact ⟨rfl, rfl⟩
theorem own_pts {w : World} {base n : Nat} {e : TypeId} {v : Value} {X Y : Nat → Int} (h : w.ownsRow base e 2 v n (rowP X Y n)) : Pts w v n X Y := by
  rcases h.2 with ⟨rfl, h0⟩ | ⟨g, cap, cur, rfl, hb, hg, hn, hc, hs, ht⟩
  · obtain rfl : n = 0 := h0
    exact ⟨none, 0, 0, 0, rfl, Nat.le_refl _, by decide, fun h => absurd h (by omega), fun k h => absurd h (by omega)⟩
  · refine ⟨some ⟨g, 0, none⟩, cap, g, 0, rfl, hn, by unfold maxLen at hc; omega, fun _ => rfl, fun k hk => ?_⟩
    rw [Nat.zero_add]
    exact ⟨by rw [h.cellAt (k * 2) (by omega)]; exact (rowP_at X Y n k hk).1, by rw [h.cellAt (k * 2 + 1) (by omega)]; exact (rowP_at X Y n k hk).2⟩
/-- A point of an own row is set. -/
theorem pts_put {w : World} {g cap n i j : Nat} {X Y : Nat → Int} (h : Pts w (.slice (some ⟨g, 0, none⟩) n cap) n X Y) (hi : i < n) (hj : j < n) :
    Pts ((w.setCell ⟨g, i * 2, none⟩ (.int .i64 (X j))).setCell ⟨g, i * 2 + 1, none⟩ (.int .i64 (Y j))) (.slice (some ⟨g, 0, none⟩) n cap) n (Rg.putF X i j) (Rg.putF Y i j) := by
  obtain ⟨ad, cap', B, off, e, h1, h2, h3, h4⟩ := h
  cases e
  have e2 := h3 (by omega)
  cases e2
  refine ⟨_, cap, g, 0, rfl, h1, h2, fun _ => rfl, fun k hk => ?_⟩
  have c0 := h4 i hi
  rw [Nat.zero_add] at c0
  have ck := h4 k hk
  rw [Nat.zero_add] at ck ⊢
  unfold Rg.putF
  by_cases e : k = i
  · subst e
    rw [if_pos rfl, if_pos rfl]
    constructor
    · rw [World.cell?_setCell_other _ _ _ _ (by simp)]
      exact World.cell?_setCell_same' _ _ _ (by rw [c0.1]; rfl)
    · refine World.cell?_setCell_same' _ _ _ ?_
      rw [World.cell?_setCell_other _ _ _ _ (by simp), c0.2]; rfl
  · rw [if_neg e, if_neg e]
    rw [World.cell?_setCell_other _ _ _ _ (by simp <;> omega), World.cell?_setCell_other _ _ _ _ (by simp <;> omega), World.cell?_setCell_other _ _ _ _ (by simp <;> omega), World.cell?_setCell_other _ _ _ _ (by simp <;> omega)]
    exact ck
theorem wX (k : Nat) (h : k ≤ 70) : IntKind.i64.wrap (10 * (k : Int)) = Rg.cvX k ∧ IntKind.i64.wrap (Rg.cvX k * k) = Rg.cvY k ∧ wrap64 (10 * (k : Int)) = Rg.cvX k ∧ wrap64 (Rg.cvX k * k) = Rg.cvY k := by
  unfold Rg.cvX Rg.cvY
  have h2 : 10 * (k : Int) * k ≤ 10 * 70 * 70 := by
    have h3 : (k : Int) * k ≤ 70 * 70 := Int.mul_le_mul (by omega) (by omega) (by omega) (by omega)
    rw [Int.mul_assoc, Int.mul_assoc]; omega
  have h4 : 0 ≤ 10 * (k : Int) * k := Int.mul_nonneg (by omega) (by omega)
  exact ⟨IntWalk.i64_in _ (by omega), IntWalk.i64_in _ (by omega), IntWalk.wrap64_in _ (by omega), IntWalk.wrap64_in _ (by omega)⟩
set_option maxHeartbeats 8000000 in
set_option maxRecDepth 100000 in
theorem limits_in (W : World) (n : Nat) (hn : n ≤ 70) (zi zj : Int) (hi : -9223372036854775808 ≤ zi ∧ zi ≤ 9223372036854775807) (hj : -9223372036854775808 ≤ zj ∧ zj ≤ 9223372036854775807) (hE : ErrT W) : Calls Tryd.prog 6 #[.int .i64 n, .int .i64 zi, .int .i64 zj] W fun e w' => e = .returned (.bool true) ∧ Gr W w' := by
  have AW := Lib.hid (fun w (g : Gr W w) => g5_awake w (errT_gr hE g))
  have HE := Lib.hid hE
  obtain ⟨i0, hi0, hz0, hz1, hz2⟩ := info_parts (P := Tryd.prog) (e := 24) (z := .agg #[.int .i64 0, .int .i64 0]) (size := 2) (bytes := 16) (by kernel_rfl)
  have HI := Lib.hid (And.intro hi0 (And.intro hz0 (And.intro hz1 hz2)))
  have HIJ := Lib.hid (And.intro hi hj)
  have t1 : decide ((n : Int) < 0) = false := decide_eq_false (by omega)
  have t2 : decide ((70 : Int) < (n : Int)) = false := decide_eq_false (by omega)
  have t1' : ¬ (n : Int) < 0 := by omega
  have t2' : ¬ (70 : Int) < (n : Int) := by omega
  have hni : (n : Int) ≤ 70 := by omega
  clear hi hj hE hi0 hz0 hz1 hz2
  go_enter Tryd.func6, Tryd.ntmps6
  go_wp2_with fail
  go_loopg [7, 8] n (fun k x u wr => ∃ i : Nat, u = .int .i64 i ∧ i ≤ n ∧ k = n - i ∧ wr.ownsRow W.heap.size 24 2 x i (rowP Rg.cvX Rg.cvY i) ∧ Gr W wr)
  case atStart => exact ⟨0, rfl, Nat.zero_le _, by omega, World.ownsRow_nil _ _ _ _, by go_grown⟩
  case round =>
    obtain ⟨i, rfl, hi, hk, hO, hg⟩ := hrel
    have HO := Lib.hid hO
    clear hO
    by_cases h : i < n
    · have ti : decide ((i : Int) < (n : Int)) = true := decide_eq_true (by omega)
      have ti2 : decide (i < n) = true := decide_eq_true h
      have ti3 : (i : Int) < (n : Int) := by omega
      have hii : (i : Int) ≤ 70 := by omega
      obtain ⟨e1, e2, e3, e4⟩ := wX i (by omega)
      have hmm : n - (i + 1) < gk := by omega
      have hrw : rowP Rg.cvX Rg.cvY (i + 1) = rowP Rg.cvX Rg.cvY i ++ [.int .i64 (Rg.cvX i), .int .i64 (Rg.cvY i)] := rfl
      have HR := Lib.hid hrw
      generalize Rg.cvX i = xi at e1 e2 e3 e4 HR
      generalize Rg.cvY i = yi at e2 e4 HR
      clear hk hrw
      go_wp2_with (at_builtin; (refine wpList_append_own2 _ rfl (.tmp 21) (.tmp 29) 22 rfl W.heap.size 24 i0 (.agg #[.int .i64 0, .int .i64 0]) 2 16 Tryd.underlying22 HI.out.1 HI.out.2.1 HI.out.2.2.1 HI.out.2.2.2 rfl (by decide) u7 i (rowP Rg.cvX Rg.cvY i) rfl (World.ownsRow.alloc HO.out _) ⟨wr.heap.size, 0, none⟩ 1 1 [.int .i64 xi, .int .i64 yi] rfl rfl (cell_two_new _ _ _ _) (by intro u hu; (simp at hu); rcases hu with rfl | rfl <;> rfl) (by unfold maxLen; omega) (by omega) (by have := hg.size; simp; omega) ?_); intro v3 w3 own3 gr3)
      have own4 : w3.ownsRow W.heap.size 24 2 v3 (i + 1) (rowP Rg.cvX Rg.cvY (i + 1)) := by rw [HR.out]; exact own3
      have G3 : Gr W w3 := gr3.gr (Gr.trans hg ((Below.refl _ _).alloc (Nat.le_refl _) _)) (fun k hk => (anyown_ltG HO.out hk).2)
      go_roundg (n - (i + 1))
      case measure => exact hmm
      case rel => exact ⟨i + 1, by go_num, h, rfl, own4, G3⟩
    · obtain rfl : i = n := by omega
      have ti : decide ((i : Int) < (i : Int)) = false := decide_eq_false (by omega)
      have ti2 : decide (i < i) = false := decide_eq_false (by omega)
      clear hk
      have hP := own_pts HO.out
      by_cases c3 : i < 3 ∨ 64 < i
      · have A1 := chk_at wr hP (Rg.ringC_3 c3) (by decide)
        have H1 := Lib.hid A1
        obtain ⟨ad, cap, B, off, rfl, _⟩ := hP
        clear A1
        have fin : ∀ w1 B', Gr W w1 → FaultAt w1 B' ringS (i : Nat) (3 : Nat) → Calls Tryd.prog 13 #[.iface 63 (.pointer (some ⟨B', 0, none⟩)), .int .i64 3, .string ringS, .int .i64 i] w1 fun e w' => e = .returned (.bool true) ∧ Gr w1 w' := fun w1 B' g hF => c_AlIs_hit B' ringS i 3 (by omega) w1 (errT_gr HE.out g) hF
        have HF := Lib.hid fin
        clear fin
        by_cases c : i < 3
        · have u1 : decide ((i : Int) < 3) = true := decide_eq_true (by omega)
          have u2 : (i : Int) < 3 := by omega
          clear c3 c
          go_wp2_with fail
          go_at_call 14
          refine H1.out.mono ?_
          rintro e w1 ⟨B1, rfl, hF, g1⟩
          have G1 := Gr.trans hg g1
          have HF1 := Lib.hid hF
          clear hF H1 HO
          go_wp2_with fail
          go_at_call 13
          refine (HF.out _ _ G1 HF1.out).mono ?_
          rintro e w2 ⟨rfl, g2⟩
          have G2 := Gr.trans G1 g2
          go_wp2_with fail
          go_at_call 9
          refine (AW.out _ G2).mono ?_
          rintro e w4 ⟨rfl, g4⟩
          go_wp2_with fail
          go_ret
          exact ⟨rfl, Gr.trans G2 g4⟩
        · have u1 : decide ((i : Int) < 3) = false := decide_eq_false (by omega)
          have u2 : ¬ (i : Int) < 3 := by omega
          have u3 : decide ((64 : Int) < (i : Int)) = true := decide_eq_true (by omega)
          have u4 : (64 : Int) < (i : Int) := by omega
          clear c3 c
          go_wp2_with fail
          go_at_call 14
          refine H1.out.mono ?_
          rintro e w1 ⟨B1, rfl, hF, g1⟩
          have G1 := Gr.trans hg g1
          have HF1 := Lib.hid hF
          clear hF H1 HO
          go_wp2_with fail
          go_at_call 13
          refine (HF.out _ _ G1 HF1.out).mono ?_
          rintro e w2 ⟨rfl, g2⟩
          have G2 := Gr.trans G1 g2
          go_wp2_with fail
          go_at_call 9
          refine (AW.out _ G2).mono ?_
          rintro e w4 ⟨rfl, g4⟩
          go_wp2_with fail
          go_ret
          exact ⟨rfl, Gr.trans G2 g4⟩
      · have A1 := chk_ok wr hP (by rw [Rg.cv_ring (by omega) (by omega)])
        have u1 : decide ((i : Int) < 3) = false := decide_eq_false (by omega)
        have u2 : ¬ (i : Int) < 3 := by omega
        have u3 : decide ((64 : Int) < (i : Int)) = false := decide_eq_false (by omega)
        have u4 : ¬ (64 : Int) < (i : Int) := by omega
        obtain ⟨g, cap, rfl, hg1, hg2, hc1, hc2⟩ := row_form HO.out (by omega)
        have A2 := fun w => c_RoundG zi HIJ.out.1.1 HIJ.out.1.2 i (by omega) (by omega) w
        have A3 := fun w => c_RoundG zj HIJ.out.2.1 HIJ.out.2.2 i (by omega) (by omega) w
        have HP := Lib.hid hP
        have H1 := Lib.hid A1
        have H2 := Lib.hid A2
        have H3 := Lib.hid A3
        clear A1 A2 A3
        have h3i : 3 ≤ i := by omega
        have h64 : i ≤ 64 := by omega
        have HW := Lib.hid (rowOwn_gr HO.out (Below.refl _ _))
        clear c3 hP HO
        go_wp2_with fail
        go_at_call 14
        refine (H1.out _ (Below.refl _ _)).mono ?_
        rintro e w1 ⟨rfl, g1⟩
        have G1 := Gr.trans hg g1
        have P1 := Lib.hid (pts_gr HP.out g1)
        have W1 := Lib.hid (rowOwn_gr HW.out g1)
        clear H1 HP HW
        have s1 := g1.size
        go_wp2_with fail
        go_at_call 30
        refine (H2.out _).mono ?_
        rintro e w2 ⟨a, ha, rfl, g2⟩
        have G2 := Gr.trans G1 g2
        have P2 := Lib.hid (pts_gr P1.out g2)
        have W2 := Lib.hid (rowOwn_gr W1.out g2)
        have s2 := g2.size
        clear H2 P1 W1 g1
        go_wp2_with fail
        go_at_call 30
        refine (H3.out _).mono ?_
        rintro e w3 ⟨b, hb, rfl, g3⟩
        have G3 := Gr.trans G2 g3
        have P3 := Lib.hid (pts_gr P2.out g3)
        have W3 := Lib.hid (rowOwn_gr W2.out g3)
        have s3 := g3.size
        clear H3 P2 W2 g2 g3 G1 G2 hg
        by_cases hab : a = b
        · have v1 : decide ((a : Int) = (b : Int)) = true := decide_eq_true (by omega)
          have v2 : (a : Int) = (b : Int) := by omega
          have v3 : ((a : Int) == (b : Int)) = true := by simp; omega
          have v4 : (a == b) = true := by simp; omega
          go_wp2_with fail
          go_at_call 9
          refine (AW.out _ G3).mono ?_
          rintro e w4 ⟨rfl, g4⟩
          go_wp2_with fail
          go_ret
          exact ⟨rfl, Gr.trans G3 g4⟩
        · have v1 : decide ((a : Int) = (b : Int)) = false := decide_eq_false (by omega)
          have v2 : ¬ (a : Int) = (b : Int) := by omega
          have v3 : ((a : Int) == (b : Int)) = false := by simp; omega
          have v4 : (a == b) = false := by simp; omega
          have fz : ∀ o, w3.frozen? ⟨g, o, none⟩ = false := fun o => World.ownsRow.frozenAt W3.out o
          have P4 := Lib.hid (pts_put (i := a) (j := b) P3.out ha hb)
          obtain ⟨l0, l1⟩ : w3.cell? ⟨g, b * 2, none⟩ = some (.int .i64 (Rg.cvX b)) ∧ w3.cell? ⟨g, b * 2 + 1, none⟩ = some (.int .i64 (Rg.cvY b)) := by
            obtain ⟨ad, cap', B, off, e, _, _, q3, q4⟩ := P3.out
            cases e
            cases q3 (by omega)
            have := q4 b hb
            rwa [Nat.zero_add] at this
          obtain ⟨k0, k1⟩ : w3.cell? ⟨g, a * 2, none⟩ = some (.int .i64 (Rg.cvX a)) ∧ w3.cell? ⟨g, a * 2 + 1, none⟩ = some (.int .i64 (Rg.cvY a)) := by
            obtain ⟨ad, cap', B, off, e, _, _, q3, q4⟩ := P3.out
            cases e
            cases q3 (by omega)
            have := q4 a ha
            rwa [Nat.zero_add] at this
          have f0 := fz (a * 2)
          have f1 := fz (a * 2 + 1)
          have hai : (a : Int) < (i : Int) := by omega
          have hbi : (b : Int) < (i : Int) := by omega
          have R4 := Lib.hid (Rg.cv_put (n := i) h3i h64 ha hb hab)
          have F4 := Lib.hid (show Gr W ((w3.setCell ⟨g, a * 2, none⟩ (.int .i64 (Rg.cvX b))).setCell ⟨g, a * 2 + 1, none⟩ (.int .i64 (Rg.cvY b))) from (G3.setCell (p := ⟨g, a * 2, none⟩) hg1 _).setCell (p := ⟨g, a * 2 + 1, none⟩) hg1 _)
          generalize Rg.cvX b = xb at l0 P4 F4
          generalize Rg.cvY b = yb at l1 P4 F4
          generalize Rg.cvX a = xa at k0
          generalize Rg.cvY a = ya at k1
          clear fz P3 W3 hc2
          have A5 := chk_at _ P4.out (Prod.ext R4.out rfl : Rg.ringC i (Rg.putF Rg.cvX a b) (Rg.putF Rg.cvY a b) = (4, (Rg.ringC i (Rg.putF Rg.cvX a b) (Rg.putF Rg.cvY a b)).2)) (by decide)
          generalize (Rg.ringC i (Rg.putF Rg.cvX a b) (Rg.putF Rg.cvY a b)).2 = id4 at A5
          have H5 := Lib.hid A5
          clear A5 P4 R4
          go_wp2_with fail
          refine H5.out.mono ?_
          rintro e w4 ⟨B4, rfl, hF, g4⟩
          have G4 := Gr.trans F4.out g4
          have CF := Lib.hid (c_CodeF B4 4 (by omega) w4 hF.2.2)
          clear H5 F4 g4 hF
          go_wp2_with fail
          go_at_call 31
          refine CF.out.mono ?_
          rintro e w5 ⟨rfl, g5⟩
          have G5 := Gr.trans G4 g5
          clear CF
          go_wp2_with fail
          go_at_call 9
          refine (AW.out _ G5).mono ?_
          rintro e w6 ⟨rfl, g6⟩
          go_wp2_with fail
          go_ret
          exact ⟨rfl, Gr.trans G5 g6⟩
theorem walk_RingLimits (z zi zj : Int) (hz : -9223372036854775808 ≤ z ∧ z ≤ 9223372036854775807) (hi : -9223372036854775808 ≤ zi ∧ zi ≤ 9223372036854775807) (hj : -9223372036854775808 ≤ zj ∧ zj ≤ 9223372036854775807) (W : World) (hE : ErrT W) : Calls Tryd.prog 6 #[.int .i64 z, .int .i64 zi, .int .i64 zj] W fun e w' => e = .returned (.bool true) ∧ Gr W w' := by
  by_cases hn : 0 ≤ z ∧ z ≤ 70
  · obtain ⟨n, rfl⟩ := Int.eq_ofNat_of_zero_le hn.1
    exact limits_in W n (by omega) zi zj hi hj hE
  · have AW := Lib.hid (fun w (g : Gr W w) => g5_awake w (errT_gr hE g))
    by_cases h1 : z < 0
    · have t1 : decide (z < 0) = true := decide_eq_true h1
      go_enter Tryd.func6, Tryd.ntmps6
      go_wp2_with fail
      go_at_call 9
      refine (AW.out _ (Below.refl _ _)).mono ?_
      rintro e w6 ⟨rfl, g6⟩
      go_wp2_with fail
      go_ret
      exact ⟨rfl, g6⟩
    · have t1 : decide (z < 0) = false := decide_eq_false h1
      have t2 : decide (70 < z) = true := decide_eq_true (by omega)
      have t3 : 70 < z := by omega
      go_enter Tryd.func6, Tryd.ntmps6
      go_wp2_with fail
      go_at_call 9
      refine (AW.out _ (Below.refl _ _)).mono ?_
      rintro e w6 ⟨rfl, g6⟩
      go_wp2_with fail
      go_ret
      exact ⟨rfl, g6⟩
end Go.Proofs.YtfamocpbmbhmbaaDoor
