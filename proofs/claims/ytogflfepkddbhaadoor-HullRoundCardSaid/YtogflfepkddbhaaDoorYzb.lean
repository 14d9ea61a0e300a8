/- hull.Convex, of the corners of a hull -/
import Derived.Test.YtogflfepkddbhaaDoorYr
import Derived.Test.YtogflfepkddbhaaDoorGc
namespace Go.Proofs.YtogflfepkddbhaaDoor
set_option linter.unusedVariables false
set_option linter.unusedSimpArgs false
open Go.ChangeShapes Go.WideShapes Go.ChangeAt Go.RowKit

theorem rem_at (n i d : Nat) : Int.tmod ((i : Int) + (d : Nat)) (n : Int) = (((i + d) % n : Nat) : Int) := by
  rw [Int.tmod_eq_emod_of_nonneg (by omega)]; simp
theorem chk_okP {n : Nat} {X Y : Nat → Int} {v : Value} (W : World) (h : Pts W v n X Y) (h0 : (Rg.ringC n X Y).1 = 0) : ∀ w, Gr W w → Calls Tryd.prog 34 #[v] w fun e w' => e = .returned .nilIface ∧ Gr w w' := fun w g =>
  (c_ringCheck w (pts_gr h g)).mono fun e w' hh => by
    obtain ⟨x, rfl, hx, g2⟩ := hh
    rw [h0] at hx
    rcases hx with ⟨rfl, _⟩ | ⟨B, _, h1, _⟩
    · exact ⟨rfl, g2⟩
    · omega
theorem hull_left {l : List Hp.Pt} {n : Nat} {X Y : Nat → Int} (h : Hp.HullOK l n (fun i => (X i, Y i))) (h3 : 3 ≤ n) (hnr : ∀ k, k < n → nearB (X k) (Y k) = true) {i : Nat} (hi : i < n) :
    cmpZ (crossZ (X i) (Y i) (X ((i + 1) % n)) (Y ((i + 1) % n)) (X ((i + 2) % n)) (Y ((i + 2) % n))) 0 = 1 := by
  have := h.turn h3 i hi
  have m1 := hnr i hi
  have m2 := hnr ((i + 1) % n) (Nat.mod_lt _ (by omega))
  have m3 := hnr ((i + 2) % n) (Nat.mod_lt _ (by omega))
  rw [near_cz (a := (X i, Y i)) (b := (X ((i + 1) % n), Y ((i + 1) % n))) (c := (X ((i + 2) % n), Y ((i + 2) % n))) m1 m2 m3]
  exact cmpZ_gt this
set_option maxHeartbeats 20000000 in
set_option maxRecDepth 100000 in
theorem c_convexH {l : List Hp.Pt} {n : Nat} {X Y : Nat → Int} {v : Value} (W : World) (h : Pts W v n X Y) (hok : Hp.HullOK l n (fun i => (X i, Y i))) (h3 : 3 ≤ n) (h64 : n ≤ 64) (hnr : ∀ k, k < n → nearB (X k) (Y k) = true) :
    Calls Tryd.prog 13 #[v] W fun e w' => e = .returned (.bool true) ∧ Gr W w' := by
  have HC := Lib.hid (hcheck_ok 1 1 rfl W h (by decide) (mnC_ok.2 ⟨by omega, by omega, hnr⟩))
  have HR := Lib.hid (chk_okP W h (by rw [hull_ring hok h3 h64 (fun k hk => ⟨rfl, rfl⟩) hnr]))
  have HT := Lib.hid (fun i (hi : i < n) => hull_left hok h3 hnr hi)
  obtain ⟨ad, cap, B, off, rfl, k1, k2, k3, k4⟩ := h
  obtain rfl := k3 (by omega)
  have HX := Lib.hid k4
  have h64i : (n : Int) ≤ 64 := by omega
  have nz : ((n : Int) == 0) = false := by simp; omega
  have nz1 : (n == 0) = false := by simp; omega
  have nz2 : (n : Int) ≠ 0 := by omega
  have nz3 : (0 : Int) < n := by omega
  clear hok hnr k3 k4
  go_enter Tryd.func13, Tryd.ntmps13
  go_wp2_with fail
  go_at_call 24
  refine ((HC.out _ (Below.refl _ _))).mono ?_
  rintro e w1 ⟨rfl, hw1⟩
  have gw1 : Gr W w1 := Gr.trans (by go_grown) hw1
  clear hw1
  go_wp2_with fail
  go_at_call 34
  refine ((HR.out _ gw1)).mono ?_
  rintro e w2 ⟨rfl, hw2⟩
  have gw2 : Gr W w2 := Gr.trans (by have gg := gw1; have gs := gg.size; go_grown) hw2
  clear hw2 gw1
  go_wp2_with fail
  obtain ⟨T, eT⟩ : ∃ b, b = w2.heap.size := ⟨_, rfl⟩
  rw [← eT]
  go_loopg [17] n (fun gk z wr => ∃ i : Nat, z = .int .i64 i ∧ i ≤ n ∧ gk = n - i ∧ wr.cell? ⟨T, 0, none⟩ = some (.int .i64 0) ∧ wr.cell? ⟨T, 1, none⟩ = some (.int .i64 0) ∧ wr.cell? ⟨T, 2, none⟩ = some (.int .i64 i) ∧ wr.frozen? ⟨T, 0, none⟩ = false ∧ wr.frozen? ⟨T, 1, none⟩ = false ∧ wr.frozen? ⟨T, 2, none⟩ = false ∧ Gr W wr)
  case atStart => subst eT; exact ⟨0, rfl, Nat.zero_le _, rfl, by go_simp, by go_simp, by go_simp, by go_simp, by go_simp, by go_simp, by have gg := gw2; have gs := gg.size; go_grown⟩
  case round =>
    obtain ⟨i, rfl, hi, hgk, c0, c1, c2, f0, f1, f2, gwr⟩ := hrel
    have hTW : W.heap.size ≤ T := by rw [eT]; exact gw2.size
    have zT := World.block_lt_of_cell? _ _ c0
    clear gw2 eT
    by_cases hin : i < n
    · have ti : decide ((i : Int) < (n : Int)) = true := decide_eq_true (by omega)
      have ti2 : decide (i < n) = true := decide_eq_true hin
      have ti3 : (i : Int) < (n : Int) := by omega
      have hmm : n - (i + 1) < gk := by omega
      have hii : (i : Int) ≤ 64 := by omega
      have hj : (i + 1) % n < n := Nat.mod_lt _ (by omega)
      have hk : (i + 2) % n < n := Nat.mod_lt _ (by omega)
      have q1 := rem_at n i 1
      have q2 := rem_at n i 2
      have CO := fun w => c_Orient (X i) (Y i) (X ((i + 1) % n)) (Y ((i + 1) % n)) (X ((i + 2) % n)) (Y ((i + 2) % n)) w
      rw [HT.out i hin] at CO
      obtain ⟨a0, a1⟩ := HX.out i hin
      obtain ⟨b0, b1⟩ := HX.out _ hj
      obtain ⟨d0, d1⟩ := HX.out _ hk
      generalize X i = xi at a0 CO
      generalize Y i = yi at a1 CO
      generalize X ((i + 1) % n) = xj at b0 CO
      generalize Y ((i + 1) % n) = yj at b1 CO
      generalize X ((i + 2) % n) = xk at d0 CO
      generalize Y ((i + 2) % n) = yk at d1 CO
      generalize (i + 1) % n = j at hj q1 b0 b1
      generalize (i + 2) % n = k at hk q2 d0 d1
      have HCO := Lib.hid CO
      have s0 := cell_gr gwr a0
      have s1 := cell_gr gwr a1
      have s2 := cell_gr gwr b0
      have s3 := cell_gr gwr b1
      have s4 := cell_gr gwr d0
      have s5 := cell_gr gwr d1
      have zB := World.block_lt_of_cell? _ _ s0
      have zBW := World.block_lt_of_cell? _ _ a0
      have hj9 : (j : Int) ≤ 64 := by omega
      have hk9 : (k : Int) ≤ 64 := by omega
      have tj3 : (j : Int) < (n : Int) := by omega
      have tk3 : (k : Int) < (n : Int) := by omega
      rw [show ((1 : Nat) : Int) = 1 from rfl] at q1
      rw [show ((2 : Nat) : Int) = 2 from rfl] at q2
      have wp1 : IntKind.i64.wrap ((i : Int) + 1) = (i : Int) + 1 := IntWalk.i64_in _ (by omega)
      have wp2 : IntKind.i64.wrap (j : Int) = (j : Int) := IntWalk.i64_in _ (by omega)
      have wp3 : IntKind.i64.wrap ((i : Int) + 2) = (i : Int) + 2 := IntWalk.i64_in _ (by omega)
      have wp4 : IntKind.i64.wrap (k : Int) = (k : Int) := IntWalk.i64_in _ (by omega)
      have hBT : B ≠ T := Nat.ne_of_lt (Nat.lt_of_lt_of_le zBW hTW)
      clear CO a0 a1 b0 b1 d0 d1 hgk
      go_wp2_with fail
      refine Hd.wp_region_tail 22 (by kernel_rfl) (by kernel_rfl) ?_
      intro KQ hKQ
      repeat (first | (refine Hd.wpG_skip (by decide) rfl ?_; simp only [Act.put, List.setIfInBounds_toArray, List.set_cons_zero, List.set_cons_succ]) | (refine Hd.wpG_want (by decide) rfl ?_; apply Exists.intro; refine ⟨?_, ?_⟩; (· intro wx gx; (obtain ⟨mx, rfl⟩ := gx); all_goals (apply Hd.gAt_of_quiet; intro K hK; go_big_quiet_op; first | exact hK _ rfl | (apply Exists.intro; refine ⟨fun _ => ?_, ?_⟩; (· (first | (go_at_call 35; first | ((with_reducible refine ((HCO.out _)).mono ?_); rintro e w' ⟨rfl, hg⟩; exact ⟨rfl, spread_gr hg⟩)))); exact hK _ rfl))); try simp only [Act.put, List.setIfInBounds_toArray, List.set_cons_zero, List.set_cons_succ]))
      refine Hd.wpG_nil (hKQ _ ?_)
      clear hKQ KQ
      intro w5 hhw5
      have hw5 := Hd.gr_of_spread hhw5
      have cw5_0_0 : w5.cell? ⟨wr.heap.size, 0, none⟩ = some (.int .i64 xi) := cell_gr hw5 (by go_simp)
      have cw5_0_1 : w5.cell? ⟨wr.heap.size, 1, none⟩ = some (.int .i64 yi) := cell_gr hw5 (by go_simp)
      have zw5_0 : wr.heap.size < w5.heap.size := World.block_lt_of_cell? _ _ cw5_0_0
      have cw5_1_0 : w5.cell? ⟨T, 0, none⟩ = some (.int .i64 0) := cell_gr hw5 (by go_simp)
      have fw5_1_0 : w5.frozen? ⟨T, 0, none⟩ = false := frozen_gr (v := .int .i64 0) hw5 (by go_simp) (by go_simp)
      have cw5_1_1 : w5.cell? ⟨T, 1, none⟩ = some (.int .i64 0) := cell_gr hw5 (by go_simp)
      have fw5_1_1 : w5.frozen? ⟨T, 1, none⟩ = false := frozen_gr (v := .int .i64 0) hw5 (by go_simp) (by go_simp)
      have cw5_1_2 : w5.cell? ⟨T, 2, none⟩ = some (.int .i64 i) := cell_gr hw5 (by go_simp)
      have fw5_1_2 : w5.frozen? ⟨T, 2, none⟩ = false := frozen_gr (v := .int .i64 i) hw5 (by go_simp) (by go_simp)
      have zw5_1 : T < w5.heap.size := World.block_lt_of_cell? _ _ cw5_1_0
      have gw5 : Gr wr w5 := Gr.trans (by go_grown) hw5
      clear hw5 hhw5
      go_wp2_with fail
      go_roundg (n - (i + 1))
      case measure => exact hmm
      case rel => exact ⟨i + 1, by go_num, hin, rfl, by go_simp, by go_simp, by go_simp, by go_simp, by go_simp, by go_simp, (Gr.trans gwr gw5).setCell (p := ⟨T, 2, none⟩) hTW _⟩
    · obtain rfl : n = i := by omega
      have ti : decide ((n : Int) < (n : Int)) = false := decide_eq_false (by omega)
      have ti2 : decide (n < n) = false := decide_eq_false (by omega)
      clear hgk
      go_wp2_with fail
      go_ret
      exact ⟨rfl, gwr⟩
end Go.Proofs.YtogflfepkddbhaaDoor
