/- FrameFlips -/
import Derived.Test.YtmcbanplpgooeaaDoorFp
import Derived.Test.YtmcbanplpgooeaaDoorFs
import Derived.Test.YtmcbanplpgooeaaDoorFg
import Derived.Test.YtmcbanplpgooeaaDoorJ
namespace Go.Proofs.YtmcbanplpgooeaaDoor
set_option linter.unusedVariables false
open Go.ChangeShapes Go.WideShapes Go.ChangeAt Go.RowKit

theorem fr_at (L : List UInt8) (q : Nat) (h : q < L.length) : rb (fr L) (4 + q) = L[q].toNat := by
  unfold rb fr
  rw [List.getD_eq_getElem?_getD, List.append_assoc, List.getElem?_append_right (by rw [wd_len]; omega), wd_len, Nat.add_sub_cancel_left, List.getElem?_append_left h, List.getElem?_eq_getElem h]
  rfl
set_option maxHeartbeats 4000000 in
set_option maxRecDepth 100000 in
theorem walk_FrameFlips (W : World) (L : List UInt8) (v : Value) (z : Int) (hR : Row W v L) (hz : -9223372036854775808 ≤ z ∧ z ≤ 9223372036854775807) (hE : ErrT W) (hF : FT W) : Calls Tryd.prog 16 #[v, .int .i64 z] W fun e w' => e = .returned (.bool true) ∧ Gr W w' := by
  have AW := Lib.hid (fun w (g : Gr W w) => p9_awake w (ft_gr hF g))
  obtain ⟨ad, cap, B, off, rfl, a1, a2, a3, a4⟩ := id hR
  obtain ⟨n, en⟩ : ∃ n, n = L.length := ⟨_, rfl⟩
  rw [← en] at hR a1 ⊢
  have HR := Lib.hid hR
  have HF := Lib.hid hF
  have HE := Lib.hid hE
  clear a3 a4 hR hF hE
  by_cases h1 : 3000 < n
  · have t1 : decide ((3000 : Int) < (n : Int)) = true := decide_eq_true (by omega)
    have t2 : (3000 : Int) < (n : Int) := by omega
    clear en
    go_enter Tryd.func16, Tryd.ntmps16
    go_wp2_with fail
    go_at_call 66
    (with_reducible refine (AW.out _ (by go_grown)).mono ?_)
    rintro e w1 ⟨rfl, g1⟩
    go_wp2_with fail
    go_ret
    exact ⟨rfl, g1⟩
  have t1 : decide ((3000 : Int) < (n : Int)) = false := decide_eq_false (by omega)
  have t2 : ¬ (3000 : Int) < (n : Int) := by omega
  by_cases h2 : n = 0
  · have t3 : ((n : Int) == 0) = true := by simp [h2]
    clear en
    go_enter Tryd.func16, Tryd.ntmps16
    go_wp2_with fail
    go_at_call 66
    (with_reducible refine (AW.out _ (by go_grown)).mono ?_)
    rintro e w1 ⟨rfl, g1⟩
    go_wp2_with fail
    go_ret
    exact ⟨rfl, g1⟩
  have t3 : ((n : Int) == 0) = false := by simp [h2]
  have hn : (n : Int) ≤ 3000 := by omega
  obtain ⟨m, em⟩ : ∃ m, m = (fr L).length := ⟨_, rfl⟩
  have em2 : m = n + 8 := by rw [em, fr_len, en]
  have t4 : ((m : Int) != (n : Int) + 8) = false := by simp; omega
  have A1 := c_Put W HF.out HR.out (by omega)
  have A2 : ∀ w, Calls Tryd.prog 36 #[.int .i64 z, .int .i64 (8 * (n : Int))] w fun e w' => ∃ k : Nat, k < 8 * n ∧ e = .returned (.int .i64 (k : Int)) ∧ Gr w w' := fun w => by
    have h := c_Round z hz.1 hz.2 (8 * n) (by omega) (by omega) w
    rw [show ((8 * n : Nat) : Int) = 8 * (n : Int) by omega] at h
    exact h
  have H1 := Lib.hid A1
  have H2 := Lib.hid A2
  clear A1 A2
  have EN := Lib.hid (And.intro en (And.intro em em2))
  have m1 : (m : Int) ≤ 3008 := by omega
  clear em en em2 hz
  go_enter Tryd.func16, Tryd.ntmps16
  go_wp2_with fail
  go_at_call 67
  (with_reducible refine H1.out.mono ?_)
  rintro e w1 ⟨b1, rfl, own1, g1⟩
  have own1' : w1.ownsRow W.heap.size 5 1 b1 m ((fr L).map bv) := by rw [EN.out.2.1]; exact own1
  obtain ⟨g, cap1, rfl, hg1, hg2, hc1, hc2⟩ := row_form own1' (by have := EN.out.2.2; omega)
  have O1 := Lib.hid own1'
  clear own1 own1'
  go_wp2_with fail
  go_at_call 36
  (with_reducible refine (H2.out _).mono ?_)
  rintro e w2 ⟨k, hk, rfl, g2⟩
  obtain ⟨q, eq⟩ : ∃ q, q = k / 8 := ⟨_, rfl⟩
  obtain ⟨j, ej⟩ : ∃ j, j = k % 8 := ⟨_, rfl⟩
  obtain ⟨x, ex⟩ : ∃ x, x = rb (fr L) (4 + q) := ⟨_, rfl⟩
  have hx : x < 256 := by rw [ex]; exact rb_lt _ _
  have hq : q < n := by omega
  have hj : j < 8 := by omega
  obtain ⟨y, hy, hyx, hb⟩ := flip8 hx hj
  have hs := shl8 hj
  obtain ⟨pw, epw⟩ : ∃ pw, pw = 2 ^ j := ⟨_, rfl⟩
  have hpw : 2 ^ j < 256 := Nat.lt_of_lt_of_le (Nat.pow_lt_pow_right (by decide) hj) (by decide)
  have hs2 : (2 : Int) ^ j % 256 = (pw : Int) := by rw [show ((2 : Int) ^ j) = ((2 ^ j : Nat) : Int) by rw [Int.natCast_pow]; rfl, epw]; omega
  rw [← epw] at hb hs
  clear hpw
  have c0 : w2.cell? ⟨g, 4 + q, none⟩ = some (.int .u8 (x : Int)) := by
    have h0 := World.ownsRow.cellAt O1.out (4 + q) (by have := EN.out.2.2; omega)
    rw [List.getElem?_map, List.getElem?_eq_getElem (by have := EN.out; omega)] at h0
    rw [cell_gr g2 (h0.trans rfl), ex, ← rb_at (fr L) (by have := EN.out; omega)]
  have f0 : w2.frozen? ⟨g, 4 + q, none⟩ = false := World.ownsRow.frozenAt (rowOwn_gr O1.out g2) (4 + q)
  have k1 : Int.tdiv (k : Int) 8 = (q : Int) := by rw [Int.tdiv_eq_ediv_of_nonneg (by omega)]; omega
  have k2 : Int.tmod (k : Int) 8 = (j : Int) := by rw [Int.tmod_eq_emod_of_nonneg (by omega)]; omega
  have k3 : (k : Int) / 8 = (q : Int) := by omega
  have k4 : (k : Int) % 8 = (j : Int) := by omega
  have kq : (q : Int) < (n : Int) := by omega
  have mm : (m : Int) = (n : Int) + 8 := by have := EN.out.2.2; omega
  have hj2 : (j : Int) < 8 := by omega
  have hidx : (4 : Int) + (q : Int) < (m : Int) := by omega
  have hqs : (q : Int) ≤ 3000 := by omega
  have gw2 : Gr W w2 := Gr.trans g1 g2
  have NX : nx ((fr L).set (4 + q) (UInt8.ofNat y)) = 10 := fr_flip L q (UInt8.ofNat y) (by have := EN.out.1; omega) (by have := EN.out.1; omega) (fun e => by
    have e1 := congrArg UInt8.toNat e
    rw [← fr_at L q (by have := EN.out.1; omega), ← ex, UInt8.toNat_ofNat'] at e1
    exact hyx (by omega))
  have FIN := Lib.hid (And.intro NX (And.intro hy (And.intro hg1 (rowOwn_gr O1.out g2))))
  have hgz : g < w2.heap.size := Nat.lt_of_lt_of_le hg2 g2.size
  clear NX hyx ex epw ej eq hx hq hk hy O1 g1 g2 hg1 hg2 hc1 hc2 t1 t2 t3 t4 h1 h2 H1 H2 EN
  go_wp2_with fail
  refine Hd.wp_region_tail 15 (by kernel_rfl) (by kernel_rfl) ?_
  intro KQ hKQ
  repeat (first | (refine Hd.wpG_skip (by decide) rfl ?_; simp only [Act.put, List.setIfInBounds_toArray, List.set_cons_zero, List.set_cons_succ]) | (refine Hd.wpG_want (by decide) rfl ?_; apply Exists.intro; refine ⟨?_, ?_⟩; (· intro wx gx; (obtain ⟨mx, rfl⟩ := gx); all_goals (apply Hd.gAt_of_quiet; intro K hK; go_big_quiet_op; first | exact hK _ rfl | (apply Exists.intro; refine ⟨fun _ => ?_, ?_⟩; (· fail); exact hK _ rfl))); try simp only [Act.put, List.setIfInBounds_toArray, List.set_cons_zero, List.set_cons_succ]))
  refine Hd.wpG_nil (hKQ _ ?_)
  clear hKQ KQ
  intro w3 hhw3
  have hw3 := Hd.gr_of_spread hhw3
  have c3 := cell_gr hw3 c0
  have f3 := frozen_gr hw3 c0 f0
  have g3 := Gr.trans gw2 hw3
  have R3 := Lib.hid (rowOwn_gr FIN.out.2.2.2 hw3)
  have hgz3 : g < w3.heap.size := Nat.lt_of_lt_of_le hgz hw3.size
  clear c0 f0 gw2 hw3 hhw3 hgz
  go_wp2_with fail
  have hst := World.ownsRow.stored R3.out (4 + q) (.int .u8 (y : Int))
  generalize hw4 : w3.setCell ⟨g, 4 + q, none⟩ (.int .u8 (y : Int)) = w4
  rw [hw4] at hst
  have G4 : Gr W w4 := gr_of_grown g3 hst.2 (fun k h => by cases h; exact FIN.out.2.2.1)
  have O4 : Own w4 W.heap.size (.slice (some ⟨g, 0, none⟩) m cap1) ((fr L).set (4 + q) (UInt8.ofNat y)) := by
    have e : ((fr L).set (4 + q) (UInt8.ofNat y)).map bv = ((fr L).map bv).set (4 + q) (.int .u8 (y : Int)) := by rw [List.map_set, byte_eq FIN.out.2.1]
    have h1 := hst.1
    rw [← e] at h1
    have h2 := h1.1
    rw [List.length_map] at h2
    unfold Own
    rw [h2, Nat.mul_one]
    exact h1
  have ml : ((fr L).set (4 + q) (UInt8.ofNat y)).length ≤ 1000000 := by
    have h2 := O4.1
    have h1 := hst.1.1
    rw [List.length_set, List.length_map] at h1
    rw [List.length_set]; omega
  have HO := Lib.hid (And.intro O4 (And.intro G4 ml))
  clear hw4 hst O4 G4 ml R3 c3 f3 g3
  go_at_call 69
  (with_reducible refine (c_Next w4 (ft_gr HF.out HO.out.2.1) (row_own HO.out.1) HO.out.2.2).mono ?_)
  rintro e w5 ⟨b5, x5, rfl, own5, fe, g5⟩
  have G5 := Gr.trans HO.out.2.1 g5
  rw [FIN.out.1] at fe
  obtain ⟨B1, rfl, hFa⟩ := ferr_k fe (by decide)
  have hlr : nxRow ((fr L).set (4 + q) (UInt8.ofNat y)) = [] := by unfold nxRow; rw [if_neg (by rw [FIN.out.1]; decide)]
  have hln : nxLen ((fr L).set (4 + q) (UInt8.ofNat y)) = 0 := by unfold nxLen; rw [if_neg (by rw [FIN.out.1]; decide)]
  rw [hlr] at own5
  rw [hln]
  obtain ⟨qa, qn, qc, rfl⟩ := own_slice own5
  obtain rfl : qn = 0 := by
    rcases own5.2 with ⟨h, -⟩ | ⟨g', cap', cur', h, -⟩
    · cases h; rfl
    · cases h; rfl
  have C0 : Calls Tryd.prog 25 #[.iface 64 (.pointer (some ⟨B1, 0, none⟩)), .int .i64 10, .string frameS, .int .i64 0] w5 fun e w' => e = .returned (.bool true) ∧ Gr w5 w' := c_AlIs_hit B1 frameS 0 10 (by decide) w5 (errT_gr HE.out G5) hFa
  have C1 := Lib.hid C0
  clear C0 own5 fe hFa hlr hln FIN HO
  go_wp2_with fail
  go_at_call 25
  (with_reducible refine C1.out.mono ?_)
  rintro e w6 ⟨rfl, g6⟩
  have G6 := Gr.trans G5 g6
  go_wp2_with fail
  go_at_call 66
  (with_reducible refine (AW.out _ G6).mono ?_)
  rintro e w7 ⟨rfl, g7⟩
  go_wp2_with fail
  go_ret
  exact ⟨rfl, Gr.trans G6 g7⟩
end Go.Proofs.YtmcbanplpgooeaaDoor
