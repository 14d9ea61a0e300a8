/- EncOrder -/
import Derived.Test.YtldlpbfncgcimaaEm
import Derived.Test.YtldlpbfncgcimaaEn
namespace Go.Proofs.Ytldlpbfncgcimaa
set_option linter.unusedVariables false
open Go.ChangeShapes Go.WideShapes Go.ChangeAt Go.RowKit

/-- What was laid, whatever stands behind, is read as it was. -/
theorem uL_vr (v : Nat) (hv : Wd v) (M : List UInt8) : uL (Ec.vr v ++ M) = (v, (Ec.vr v).length) := by
  unfold uL
  have hl := Ec.vr_len10 hv
  rw [Ec.uv_vr (rb (Ec.vr v ++ M)) _ 10 v 0 0 (by unfold Wd at hv; simpa using hv) (by simp) (fun h => absurd h (by omega)) (by omega) (fun j hj => ?_) (by simp)]
  · simp
  · unfold rb
    rw [Nat.zero_add, List.getD_eq_getElem?_getD, List.getD_eq_getElem?_getD, List.getElem?_append_left hj]
theorem si_zz {n : Int} (h : Iw n) : si (zz n) = n := by
  unfold Iw at h
  unfold si zz
  split
  · rename_i hp
    rw [if_neg (by omega)]; omega
  · rename_i hp
    rw [if_pos (by omega)]; omega
theorem zz_inj {n m : Int} (hn : Iw n) (hm : Iw m) (h : zz n = zz m) : n = m := by rw [← si_zz hn, ← si_zz hm, h]
theorem iw_wd {n : Int} (h : Iw n) : Wd (zz n) := zz_wd h.1 h.2
theorem c_SignedI {n : Int} (h : Iw n) (W : World) :
    Calls Try.prog 18 #[.int .i64 n] W fun e w' => ∃ ad cap, e = .returned (.slice ad (Ec.vr (zz n)).length cap) ∧ Row w' (.slice ad (Ec.vr (zz n)).length cap) (Ec.vr (zz n)) ∧ Gr W w' := by
  refine (c_Signed n h.1 h.2 W).mono ?_
  rintro e w' ⟨b', rfl, o, g⟩
  have r := row_own o
  obtain ⟨ad, cap, B, off, rfl, h2⟩ := id r
  exact ⟨ad, cap, rfl, r, g⟩
set_option maxHeartbeats 2000000 in
set_option maxRecDepth 100000 in
theorem order_core (n m : Int) (h0 : 0 ≤ n) (h1 : n ≤ m) (h2 : m < 9223372036854775808) (W : World) :
    Calls Try.prog 4 #[.int .i64 n, .int .i64 m] W fun e w' => e = .returned (.bool true) ∧ Gr W w' := by
  have i1 : Iw n := by unfold Iw; omega
  have i2 : Iw m := by unfold Iw; omega
  have i3 : Iw (-n) := by unfold Iw; omega
  have A1 := fun w => c_SignedI i1 w
  have A2 := fun w => c_SignedI i2 w
  have A3 := fun w => c_SignedI i3 w
  have k1 := Ec.vr_len10 (iw_wd i1)
  have k2 := Ec.vr_len10 (iw_wd i2)
  have k3 := Ec.vr_len10 (iw_wd i3)
  have z1 : zz n ≤ zz m := by unfold zz; rw [if_pos h0, if_pos (by omega)]; omega
  have z2 : zz (-n) ≤ zz n := by unfold zz; split <;> (try rw [if_pos h0]) <;> omega
  have l1 := Ec.len_mono z1
  have l2 := Ec.len_mono z2
  have hu := uL_vr (zz (-n)) (iw_wd i3) []
  rw [List.append_nil] at hu
  have hd : n = m ↔ Ec.vr (zz n) = Ec.vr (zz m) := ⟨fun h => by rw [h], fun h => zz_inj i1 i2 (Ec.vr_inj h)⟩
  have A4 := fun v w (h : Row w v (Ec.vr (zz (-n)))) => c_UnsignedL w h (by omega)
  rw [hu] at A4
  simp only [si_zz i3] at A4
  have A5 := fun w u v (hu : Row w u (Ec.vr (zz n))) (hv : Row w v (Ec.vr (zz m))) => c_Bytes w hu hv (by omega)
  obtain ⟨q, hq⟩ : ∃ q : Bool, q = decide (n = m) := ⟨_, rfl⟩
  have hq2 : decide (Ec.vr (zz n) = Ec.vr (zz m)) = q := by rw [hq]; exact decide_eq_decide.2 hd.symm
  rw [hq2] at A5
  have u1 : ((n : Int) == (m : Int)) = q := by rw [hq, Bool.eq_iff_iff, beq_iff_eq, decide_eq_true_eq]
  rw [decide_eq_true (show 0 < (Ec.vr (zz (-n))).length by omega)] at A4
  obtain ⟨L1, e1⟩ : ∃ L, L = Ec.vr (zz n) := ⟨_, rfl⟩
  obtain ⟨L2, e2⟩ : ∃ L, L = Ec.vr (zz m) := ⟨_, rfl⟩
  obtain ⟨L3, e3⟩ : ∃ L, L = Ec.vr (zz (-n)) := ⟨_, rfl⟩
  rw [← e1] at A1 A5 k1 l1 l2
  rw [← e2] at A2 A5 k2 l1
  rw [← e3] at A3 A4 k3 l2
  obtain ⟨p1, f1⟩ : ∃ p, p = L1.length := ⟨_, rfl⟩
  obtain ⟨p2, f2⟩ : ∃ p, p = L2.length := ⟨_, rfl⟩
  obtain ⟨p3, f3⟩ : ∃ p, p = L3.length := ⟨_, rfl⟩
  rw [← f1] at A1 l1 l2
  rw [← f2] at A2 l1
  rw [← f3] at A3 A4 l2
  have d1 : decide ((p1 : Int) ≤ (p2 : Int)) = true := decide_eq_true (by omega)
  have d2 : decide ((p3 : Int) ≤ (p1 : Int)) = true := decide_eq_true (by omega)
  have d3 : decide (p1 ≤ p2) = true := decide_eq_true (by omega)
  have d4 : decide (p3 ≤ p1) = true := decide_eq_true (by omega)
  have d5 : decide (n < 0) = false := decide_eq_false (by omega)
  have d6 : decide (m < n) = false := decide_eq_false (by omega)
  have d7 : ((p3 : Int) == (p3 : Int)) = true := by simp
  have d8 : (q == q) = true := by simp
  have w1 : IntKind.i64.wrap (-n) = -n := by rw [IntKind.wrap_i64]; omega
  have w2 : wrap64 (-n) = -n := IntWalk.wrap64_in _ (by omega)
  clear hq hq2 hd hu e1 e2 e3 f1 f2 f3 k1 k2 k3 z1 z2 l1 l2 i1 i2 i3
  have H1 := Lib.hid A1
  have H2 := Lib.hid A2
  have H3 := Lib.hid A3
  have H4 := Lib.hid A4
  have H5 := Lib.hid A5
  clear A1 A2 A3 A4 A5
  go_enter Try.func4, Try.ntmps4
  go_wp2_with fail
  go_at_call 18
  (with_reducible refine (H1.out _).mono ?_)
  rintro e w1 ⟨ad1, c1, rfl, R1, g1⟩
  have G1 := Lib.hid g1
  have R1 := Lib.hid R1
  clear g1
  go_wp2_with fail
  go_at_call 18
  (with_reducible refine (H2.out _).mono ?_)
  rintro e w2 ⟨ad2, c2, rfl, R2, g2⟩
  have G2 := Lib.hid (Gr.trans G1.out g2)
  have R2 := Lib.hid R2
  have R1 := Lib.hid (row_gr R1.out g2)
  clear g2 G1
  go_wp2_with fail
  go_at_call 18
  (with_reducible refine (H3.out _).mono ?_)
  rintro e w3 ⟨ad3, c3, rfl, R3, g3⟩
  have G3 := Lib.hid (Gr.trans G2.out g3)
  have R3 := Lib.hid R3
  have R1 := Lib.hid (row_gr R1.out g3)
  have R2 := Lib.hid (row_gr R2.out g3)
  clear g3 G2
  go_wp2_with fail
  go_at_call 13
  (with_reducible refine (H4.out _ _ R3.out).mono ?_)
  rintro e w4 ⟨rfl, g4⟩
  have G4 := Lib.hid (Gr.trans G3.out g4)
  have R1 := Lib.hid (row_gr R1.out g4)
  have R2 := Lib.hid (row_gr R2.out g4)
  clear g4 G3 R3
  go_wp2_with fail
  go_at_call 15
  (with_reducible refine (H5.out _ _ _ R1.out R2.out).mono ?_)
  rintro e w5 ⟨rfl, g5⟩
  have G5 := Lib.hid (Gr.trans G4.out g5)
  clear g5 G4 R1 R2
  go_wp2_with fail
  go_at_call 10
  (with_reducible refine (p8_awake _).mono ?_)
  rintro e w6 ⟨rfl, g6⟩
  go_wp2_with fail
  go_ret
  exact ⟨rfl, Gr.trans G5.out g6⟩
set_option maxHeartbeats 2000000 in
theorem walk_EncOrder (n m : Int) (B0 : -9223372036854775808 ≤ n ∧ n ≤ 9223372036854775807) (B1 : -9223372036854775808 ≤ m ∧ m ≤ 9223372036854775807) (W : World) :
    Calls Try.prog 4 #[.int .i64 n, .int .i64 m] W fun e w' => e = .returned (.bool true) ∧ Gr W w' := by
  by_cases h0 : n < 0
  · have d5 : decide (n < 0) = true := decide_eq_true h0
    clear B0 B1
    go_enter Try.func4, Try.ntmps4
    go_wp2_with fail
    go_at_call 10
    (with_reducible refine (p8_awake _).mono ?_)
    rintro e w6 ⟨rfl, g6⟩
    go_wp2_with fail
    go_ret
    exact ⟨rfl, g6⟩
  · by_cases h1 : m < n
    · have d5 : decide (n < 0) = false := decide_eq_false h0
      have d6 : decide (m < n) = true := decide_eq_true h1
      clear B0 B1
      go_enter Try.func4, Try.ntmps4
      go_wp2_with fail
      go_at_call 10
      (with_reducible refine (p8_awake _).mono ?_)
      rintro e w6 ⟨rfl, g6⟩
      go_wp2_with fail
      go_ret
      exact ⟨rfl, g6⟩
    · exact order_core n m (by omega) (by omega) (by omega) W
end Go.Proofs.Ytldlpbfncgcimaa
