/- hull: Closest, Widest; what the document fixes; rows of points held against each other; squares compared -/
import Derived.Test.YtogflfepkddbhaaDoorYp
import Derived.Test.YtogflfepkddbhaaDoorVd
namespace Go.Proofs.YtogflfepkddbhaaDoor
set_option linter.unusedVariables false
set_option linter.unusedSimpArgs false
open Go.ChangeShapes Go.WideShapes Go.ChangeAt Go.RowKit


theorem h_tmod {z r : Int} {m : Nat} (er : r = Int.tmod z (m : Int)) : z % (m : Int) = r % (m : Int) := by
  have h := Int.mul_tdiv_add_tmod z (m : Int)
  rw [← er] at h
  rw [← h, Int.mul_add_emod_self_left]
set_option maxRecDepth 100000 in
theorem h_Round (z : Int) (h1 : -9223372036854775808 ≤ z) (h2 : z ≤ 9223372036854775807) (m : Nat) (hm : 0 < m) (hm2 : m ≤ 1000000) (W : World) :
    Calls Tryd.prog 14 #[.int .i64 z, .int .i64 m] W fun e w' => e = .returned (.int .i64 (z % (m : Int))) ∧ Gr W w' := by
  obtain ⟨r, er⟩ : ∃ r, r = Int.tmod z (m : Int) := ⟨_, rfl⟩
  have hr : r.natAbs < m := by
    rw [er, Int.natAbs_tmod, Int.natAbs_natCast]
    exact Nat.mod_lt _ hm
  have hz := h_tmod er
  have e1 : Int.tmod z (m : Int) = r := er.symm
  have e2 : IntKind.i64.wrap (Int.tmod z (m : Int)) = r := by rw [e1, IntKind.wrap_i64]; omega
  have e3 : IntKind.i64.wrap r = r := by rw [IntKind.wrap_i64]; omega
  have hm0 : (m : Int) ≠ 0 := by omega
  have hm1 : ((m : Int) == 0) = false := by simp; omega
  have r1 : -(1000000 : Int) ≤ r := by omega
  have r2 : r ≤ 1000000 := by omega
  have m2 : (m : Int) ≤ 1000000 := by omega
  by_cases h : r < 0
  · have t1 : decide (r < 0) = true := decide_eq_true h
    have hk : z % (m : Int) = r + m := by
      rw [hz, ← Int.add_emod_right]
      exact Int.emod_eq_of_lt (by omega) (by omega)
    have HK := Lib.hid hk
    clear er hr hk hz
    go_enter Tryd.func14, Tryd.ntmps14
    go_wp2_with fail
    go_ret
    exact ⟨by rw [HK.out]; rfl, Below.refl _ _⟩
  · have t1 : decide (r < 0) = false := decide_eq_false h
    have hk : z % (m : Int) = r := by rw [hz]; exact Int.emod_eq_of_lt (by omega) (by omega)
    have HK := Lib.hid hk
    clear er hr hk hz
    go_enter Tryd.func14, Tryd.ntmps14
    go_wp2_with fail
    go_ret
    exact ⟨by rw [HK.out]; rfl, Below.refl _ _⟩
set_option maxHeartbeats 4000000 in
set_option maxRecDepth 100000 in
theorem h_rPoints {n m : Nat} {X Y P Q : Nat → Int} {u v : Value} (r : Bool) (W : World) (hu : Pts W u n X Y) (hv : Pts W v m P Q) (hn : n ≤ 1000000) (hr : r = true ↔ (n = m ∧ ∀ i, i < n → X i = P i ∧ Y i = Q i)) :
    Calls Tryd.prog 12 #[u, v] W fun e w' => e = .returned (.bool r) ∧ Gr W w' := by
  obtain ⟨ad, cap, B, off, rfl, a1, a2, a3, a4⟩ := hu
  obtain ⟨bd, cbp, C, oc, rfl, b1, b2, b3, b4⟩ := hv
  by_cases h : n = m
  · subst h
    have H3 := Lib.hid (And.intro a3 b3)
    have H4 := Lib.hid (And.intro a4 b4)
    have HR := Lib.hid hr
    have hn9 : (n : Int) ≤ 1000000 := by omega
    clear a3 a4 b3 b4 hr
    go_enter Tryd.func12, Tryd.ntmps12
    go_wp2_with fail
    go_loopg [5] n (fun k u wr => ∃ i : Nat, u = .int .i64 i ∧ i ≤ n ∧ k = n - i ∧ Hid (∀ j, j < i → X j = P j ∧ Y j = Q j) ∧ Gr W wr)
    case atStart => exact ⟨0, rfl, Nat.zero_le _, by omega, Lib.hid (fun j hj => absurd hj (by omega)), by go_grown⟩
    case round =>
      obtain ⟨i, rfl, hi, hk, hE, gwr⟩ := hrel
      by_cases hlt : i < n
      · have ti : decide ((i : Int) < (n : Int)) = true := decide_eq_true (by omega)
        have ti2 : decide (i < n) = true := decide_eq_true hlt
        have ti3 : (i : Int) < (n : Int) := by omega
        have hii : (i : Int) ≤ 1000000 := by omega
        have hmm : n - (i + 1) < gk := by omega
        obtain ⟨k0, k1⟩ := H4.out.1 i hlt
        obtain ⟨m0, m1⟩ := H4.out.2 i hlt
        obtain rfl := H3.out.1 (by omega)
        obtain rfl := H3.out.2 (by omega)
        have s0 := cell_gr gwr k0
        have s1 := cell_gr gwr k1
        have r0 := cell_gr gwr m0
        have r1 := cell_gr gwr m1
        have zB : B < wr.heap.size := World.block_lt_of_cell? _ _ s0
        have zC : C < wr.heap.size := World.block_lt_of_cell? _ _ r0
        have E := nePt (X i) (Y i) (P i) (Q i)
        by_cases c : X i = P i ∧ Y i = Q i
        · have hE2 : Hid (∀ j, j < i + 1 → X j = P j ∧ Y j = Q j) := Lib.hid (fun j hj => by
            rcases Nat.lt_or_ge j i with q | q
            · exact hE.out j q
            · obtain rfl : j = i := by omega
              exact c)
          rw [decide_eq_true c.1, decide_eq_true c.2] at E
          generalize X i = x at *
          generalize Y i = y at *
          generalize P i = p at *
          generalize Q i = q at *
          have HE := Lib.hid c
          clear k0 k1 m0 m1 hk c hE
          go_wp2_with fail
          refine wp_region_spread (by kernel_rfl) (by kernel_rfl) ?_
          try simp only [List.append]
          repeat (first | go_big_quiet_skip | (go_big_quiet_want; go_big_quiet_op; (first | go_big_quiet_on | (apply Exists.intro; refine ⟨fun _ => ?_, ?_⟩; (· fail); go_big_quiet_on))))
          refine wpQuiet_nil ?_
          intro w1 hhw1
          have hw1 := Hd.gr_of_spread hhw1
          have cw1_0_0 : w1.cell? ⟨B, off + i * 2, none⟩ = some (.int .i64 x) := cell_gr hw1 (by go_simp)
          have cw1_0_1 : w1.cell? ⟨B, off + i * 2 + 1, none⟩ = some (.int .i64 y) := cell_gr hw1 (by go_simp)
          have zw1_0 : B < w1.heap.size := World.block_lt_of_cell? _ _ cw1_0_0
          have cw1_1_0 : w1.cell? ⟨C, oc + i * 2, none⟩ = some (.int .i64 p) := cell_gr hw1 (by go_simp)
          have cw1_1_1 : w1.cell? ⟨C, oc + i * 2 + 1, none⟩ = some (.int .i64 q) := cell_gr hw1 (by go_simp)
          have zw1_1 : C < w1.heap.size := World.block_lt_of_cell? _ _ cw1_1_0
          have gw1 : Gr W w1 := Gr.trans (by have gg := gwr; have gs := gg.size; go_grown) hw1
          clear hw1 hhw1 gwr
          go_wp2_with fail
          go_roundg (n - (i + 1))
          case measure => exact hmm
          case rel => exact ⟨i + 1, by go_num, hlt, rfl, hE2, gw1⟩
        · obtain rfl : r = false := by
            cases r
            · rfl
            · exact absurd ((HR.out.1 rfl).2 i hlt) c
          have E2 : (!(decide (X i = P i) && decide (Y i = Q i))) = true := by
            rw [← Bool.decide_and, decide_eq_false c]; rfl
          rw [E2] at E
          generalize X i = x at *
          generalize Y i = y at *
          generalize P i = p at *
          generalize Q i = q at *
          clear k0 k1 m0 m1 hk c E2 hE
          go_wp2_with fail
          refine wp_region_spread (by kernel_rfl) (by kernel_rfl) ?_
          try simp only [List.append]
          repeat (first | go_big_quiet_skip | (go_big_quiet_want; go_big_quiet_op; (first | go_big_quiet_on | (apply Exists.intro; refine ⟨fun _ => ?_, ?_⟩; (· fail); go_big_quiet_on))))
          refine wpQuiet_nil ?_
          intro w1 hhw1
          have hw1 := Hd.gr_of_spread hhw1
          have cw1_0_0 : w1.cell? ⟨B, off + i * 2, none⟩ = some (.int .i64 x) := cell_gr hw1 (by go_simp)
          have cw1_0_1 : w1.cell? ⟨B, off + i * 2 + 1, none⟩ = some (.int .i64 y) := cell_gr hw1 (by go_simp)
          have zw1_0 : B < w1.heap.size := World.block_lt_of_cell? _ _ cw1_0_0
          have cw1_1_0 : w1.cell? ⟨C, oc + i * 2, none⟩ = some (.int .i64 p) := cell_gr hw1 (by go_simp)
          have cw1_1_1 : w1.cell? ⟨C, oc + i * 2 + 1, none⟩ = some (.int .i64 q) := cell_gr hw1 (by go_simp)
          have zw1_1 : C < w1.heap.size := World.block_lt_of_cell? _ _ cw1_1_0
          have gw1 : Gr W w1 := Gr.trans (by have gg := gwr; have gs := gg.size; go_grown) hw1
          clear hw1 hhw1 gwr
          go_wp2_with fail
          go_ret
          exact ⟨rfl, gw1⟩
      · obtain rfl : i = n := by omega
        obtain rfl : r = true := HR.out.2 ⟨trivial, hE.out⟩
        have ti : decide ((i : Int) < (i : Int)) = false := decide_eq_false (by omega)
        have ti2 : decide (i < i) = false := decide_eq_false (by omega)
        clear hk hE
        go_wp2_with fail
        go_ret
        exact ⟨rfl, gwr⟩
  · obtain rfl : r = false := by
      cases r
      · rfl
      · exact absurd (hr.1 rfl).1 h
    have t1 : ((n : Int) != (m : Int)) = true := by simp; omega
    have t2 : (n != m) = true := by simp; omega
    clear a3 a4 b3 b4 hr h
    go_enter Tryd.func12, Tryd.ntmps12
    go_wp2_with fail
    go_ret
    exact ⟨rfl, by go_grown⟩
theorem cmpN_Z (a b : Nat) : cmpN a b = cmpZ (a : Int) (b : Int) := by
  unfold cmpN cmpZ
  split <;> split <;> (try split) <;> (try split) <;> omega
theorem h_cmpD (a b : Nat) (h1 : Wd a) (h2 : Wd b) (W : World) : Calls Tryd.prog 18 #[.agg #[.int .u64 0, .int .u64 a, .int .u64 1], .agg #[.int .u64 0, .int .u64 b, .int .u64 1]] W fun e w' => e = .returned (.int .i64 (cmpZ a b)) ∧ Gr W w' := by
  have C := c_rCompareDist 0 a 1 0 b 1 (by unfold Wd; omega) h1 (by unfold Wd; omega) (by unfold Wd; omega) h2 (by unfold Wd; omega) W
  have e : cmpD (val 0 a) 1 (val 0 b) 1 = cmpZ (a : Int) (b : Int) := by
    unfold cmpD
    rw [if_neg (by decide), if_neg (by decide), Nat.mul_one, Nat.mul_one, cmpN_Z, val_zero, val_zero]
  rw [e] at C
  exact C
/-- A square as a number. -/
def sqN (X Y : Nat → Int) (p q : Nat) : Nat := (sqZ (X p) (Y p) (X q) (Y q)).toNat
theorem sqN_eq (X Y : Nat → Int) (p q : Nat) : ((sqN X Y p q : Nat) : Int) = sqZ (X p) (Y p) (X q) (Y q) := Int.toNat_of_nonneg (sqZ_nn _ _ _ _)
theorem sqN_wd {X Y : Nat → Int} {p q : Nat} (h1 : nearB (X p) (Y p) = true) (h2 : nearB (X q) (Y q) = true) : Wd (sqN X Y p q) := by
  have := sqZ_bound h1 h2
  have e := sqN_eq X Y p q
  unfold Wd; omega
set_option maxHeartbeats 2000000 in
set_option maxRecDepth 100000 in
theorem no_Widest {n : Nat} {X Y : Nat → Int} {v : Value} (W : World) (h : Pts W v n X Y) (h0 : (mnC 2 n X Y).1 ≠ 0) :
    Calls Tryd.prog 15 #[v] W fun e w' => ∃ B, e = .returned (.tuple #[.int .i64 0, .int .i64 0, .agg #[.int .u64 0, .int .u64 0, .int .u64 0], .iface 72 (.pointer (some ⟨B, 0, none⟩))]) ∧ FaultAt w' B hullS (mnC 2 n X Y).2 (mnC 2 n X Y).1 ∧ Gr W w' := by
  have HB := Lib.hid (fun w (g : Gr W w) => best_no_Widest w (pts_gr h g) h0)
  clear h h0
  go_enter Tryd.func15, Tryd.ntmps15
  go_wp2_with fail
  go_at_call 36
  (with_reducible refine (HB.out _ (by go_grown)).mono ?_)
  rintro e w1 ⟨B, rfl, hF, g1⟩
  have c0 : w1.cell? ⟨W.heap.size, 0, none⟩ = some (.int .u64 0) := cell_gr g1 (by go_simp)
  have c1 : w1.cell? ⟨W.heap.size, 1, none⟩ = some (.int .u64 0) := cell_gr g1 (by go_simp)
  have c2 : w1.cell? ⟨W.heap.size, 2, none⟩ = some (.int .u64 0) := cell_gr g1 (by go_simp)
  have f0 : w1.frozen? ⟨W.heap.size, 0, none⟩ = false := frozen_gr (v := .int .u64 0) g1 (by go_simp) (by go_simp)
  have f1 : w1.frozen? ⟨W.heap.size, 1, none⟩ = false := frozen_gr (v := .int .u64 0) g1 (by go_simp) (by go_simp)
  have f2 : w1.frozen? ⟨W.heap.size, 2, none⟩ = false := frozen_gr (v := .int .u64 0) g1 (by go_simp) (by go_simp)
  have zB := World.block_lt_of_cell? _ _ c0
  have G1 : Gr W w1 := Gr.trans (by go_grown) g1
  have hB : B ≠ W.heap.size := fun e => by
    have := hF.1
    rw [e, c0] at this
    cases this
  have HF := Lib.hid (And.intro hF hB)
  clear g1 hF hB
  go_wp2_with fail
  refine bodyPost_ret (v := .tuple #[.int .i64 0, .int .i64 0, .agg #[.int .u64 0, .int .u64 0, .int .u64 0], .iface 72 (.pointer (some ⟨B, 0, none⟩))]) (by simp [results, Tryd.results15, go_sem, *]) rfl ⟨B, rfl, ?_, by go_grown⟩
  obtain ⟨⟨a1, a2, a3⟩, hB⟩ := HF.out
  exact ⟨by go_simp, by go_simp, by go_simp⟩
set_option maxHeartbeats 2000000 in
set_option maxRecDepth 100000 in
theorem yes_Widest {n : Nat} {X Y : Nat → Int} {v : Value} (W : World) (h : Pts W v n X Y) (h0 : (mnC 2 n X Y).1 = 0) :
    Calls Tryd.prog 15 #[v] W fun e w' => ∃ i j : Nat, Hp.BstA (sqF (1) X Y) n i j ∧ e = .returned (.tuple #[.int .i64 i, .int .i64 j, .agg #[.int .u64 0, .int .u64 (sqN X Y i j), .int .u64 1], .nilIface]) ∧ Gr W w' := by
  have HB := Lib.hid (fun w (g : Gr W w) => best_yes_Widest w (pts_gr h g) h0)
  clear h h0
  go_enter Tryd.func15, Tryd.ntmps15
  go_wp2_with fail
  go_at_call 36
  (with_reducible refine (HB.out _ (by go_grown)).mono ?_)
  rintro e w1 ⟨i, j, hb, rfl, g1⟩
  rw [← sqN_eq]
  have HBB := Lib.hid hb
  obtain ⟨d, ed⟩ : ∃ d, d = sqN X Y i j := ⟨_, rfl⟩
  rw [← ed]
  have HD := Lib.hid ed
  clear ed
  have c0 : w1.cell? ⟨W.heap.size, 0, none⟩ = some (.int .u64 0) := cell_gr g1 (by go_simp)
  have c1 : w1.cell? ⟨W.heap.size, 1, none⟩ = some (.int .u64 0) := cell_gr g1 (by go_simp)
  have c2 : w1.cell? ⟨W.heap.size, 2, none⟩ = some (.int .u64 0) := cell_gr g1 (by go_simp)
  have f0 : w1.frozen? ⟨W.heap.size, 0, none⟩ = false := frozen_gr (v := .int .u64 0) g1 (by go_simp) (by go_simp)
  have f1 : w1.frozen? ⟨W.heap.size, 1, none⟩ = false := frozen_gr (v := .int .u64 0) g1 (by go_simp) (by go_simp)
  have f2 : w1.frozen? ⟨W.heap.size, 2, none⟩ = false := frozen_gr (v := .int .u64 0) g1 (by go_simp) (by go_simp)
  have zB := World.block_lt_of_cell? _ _ c0
  have G1 : Gr W w1 := Gr.trans (by go_grown) g1
  clear g1 hb
  go_wp2_with fail
  refine bodyPost_ret (v := .tuple #[.int .i64 i, .int .i64 j, .agg #[.int .u64 0, .int .u64 d, .int .u64 1], .nilIface]) (by simp [results, Tryd.results15, go_sem, *]) rfl ⟨i, j, HBB.out, HD.out ▸ rfl, by go_grown⟩
set_option maxHeartbeats 2000000 in
set_option maxRecDepth 100000 in
theorem no_Closest {n : Nat} {X Y : Nat → Int} {v : Value} (W : World) (h : Pts W v n X Y) (h0 : (mnC 2 n X Y).1 ≠ 0) :
    Calls Tryd.prog 17 #[v] W fun e w' => ∃ B, e = .returned (.tuple #[.int .i64 0, .int .i64 0, .agg #[.int .u64 0, .int .u64 0, .int .u64 0], .iface 72 (.pointer (some ⟨B, 0, none⟩))]) ∧ FaultAt w' B hullS (mnC 2 n X Y).2 (mnC 2 n X Y).1 ∧ Gr W w' := by
  have HB := Lib.hid (fun w (g : Gr W w) => best_no_Closest w (pts_gr h g) h0)
  clear h h0
  go_enter Tryd.func17, Tryd.ntmps17
  go_wp2_with fail
  go_at_call 36
  (with_reducible refine (HB.out _ (by go_grown)).mono ?_)
  rintro e w1 ⟨B, rfl, hF, g1⟩
  have c0 : w1.cell? ⟨W.heap.size, 0, none⟩ = some (.int .u64 0) := cell_gr g1 (by go_simp)
  have c1 : w1.cell? ⟨W.heap.size, 1, none⟩ = some (.int .u64 0) := cell_gr g1 (by go_simp)
  have c2 : w1.cell? ⟨W.heap.size, 2, none⟩ = some (.int .u64 0) := cell_gr g1 (by go_simp)
  have f0 : w1.frozen? ⟨W.heap.size, 0, none⟩ = false := frozen_gr (v := .int .u64 0) g1 (by go_simp) (by go_simp)
  have f1 : w1.frozen? ⟨W.heap.size, 1, none⟩ = false := frozen_gr (v := .int .u64 0) g1 (by go_simp) (by go_simp)
  have f2 : w1.frozen? ⟨W.heap.size, 2, none⟩ = false := frozen_gr (v := .int .u64 0) g1 (by go_simp) (by go_simp)
  have zB := World.block_lt_of_cell? _ _ c0
  have G1 : Gr W w1 := Gr.trans (by go_grown) g1
  have hB : B ≠ W.heap.size := fun e => by
    have := hF.1
    rw [e, c0] at this
    cases this
  have HF := Lib.hid (And.intro hF hB)
  clear g1 hF hB
  go_wp2_with fail
  refine bodyPost_ret (v := .tuple #[.int .i64 0, .int .i64 0, .agg #[.int .u64 0, .int .u64 0, .int .u64 0], .iface 72 (.pointer (some ⟨B, 0, none⟩))]) (by simp [results, Tryd.results17, go_sem, *]) rfl ⟨B, rfl, ?_, by go_grown⟩
  obtain ⟨⟨a1, a2, a3⟩, hB⟩ := HF.out
  exact ⟨by go_simp, by go_simp, by go_simp⟩
set_option maxHeartbeats 2000000 in
set_option maxRecDepth 100000 in
theorem yes_Closest {n : Nat} {X Y : Nat → Int} {v : Value} (W : World) (h : Pts W v n X Y) (h0 : (mnC 2 n X Y).1 = 0) :
    Calls Tryd.prog 17 #[v] W fun e w' => ∃ i j : Nat, Hp.BstA (sqF (-1) X Y) n i j ∧ e = .returned (.tuple #[.int .i64 i, .int .i64 j, .agg #[.int .u64 0, .int .u64 (sqN X Y i j), .int .u64 1], .nilIface]) ∧ Gr W w' := by
  have HB := Lib.hid (fun w (g : Gr W w) => best_yes_Closest w (pts_gr h g) h0)
  clear h h0
  go_enter Tryd.func17, Tryd.ntmps17
  go_wp2_with fail
  go_at_call 36
  (with_reducible refine (HB.out _ (by go_grown)).mono ?_)
  rintro e w1 ⟨i, j, hb, rfl, g1⟩
  rw [← sqN_eq]
  have HBB := Lib.hid hb
  obtain ⟨d, ed⟩ : ∃ d, d = sqN X Y i j := ⟨_, rfl⟩
  rw [← ed]
  have HD := Lib.hid ed
  clear ed
  have c0 : w1.cell? ⟨W.heap.size, 0, none⟩ = some (.int .u64 0) := cell_gr g1 (by go_simp)
  have c1 : w1.cell? ⟨W.heap.size, 1, none⟩ = some (.int .u64 0) := cell_gr g1 (by go_simp)
  have c2 : w1.cell? ⟨W.heap.size, 2, none⟩ = some (.int .u64 0) := cell_gr g1 (by go_simp)
  have f0 : w1.frozen? ⟨W.heap.size, 0, none⟩ = false := frozen_gr (v := .int .u64 0) g1 (by go_simp) (by go_simp)
  have f1 : w1.frozen? ⟨W.heap.size, 1, none⟩ = false := frozen_gr (v := .int .u64 0) g1 (by go_simp) (by go_simp)
  have f2 : w1.frozen? ⟨W.heap.size, 2, none⟩ = false := frozen_gr (v := .int .u64 0) g1 (by go_simp) (by go_simp)
  have zB := World.block_lt_of_cell? _ _ c0
  have G1 : Gr W w1 := Gr.trans (by go_grown) g1
  clear g1 hb
  go_wp2_with fail
  refine bodyPost_ret (v := .tuple #[.int .i64 i, .int .i64 j, .agg #[.int .u64 0, .int .u64 d, .int .u64 1], .nilIface]) (by simp [results, Tryd.results17, go_sem, *]) rfl ⟨i, j, HBB.out, HD.out ▸ rfl, by go_grown⟩
theorem h_second (u v : Value) (W : World) (hv : v = .nilIface ∨ ∃ t x, v = .iface t x) : Calls Tryd.prog 23 #[u, v] W fun e w' => e = .returned v ∧ Gr W w' := by
  rcases hv with rfl | ⟨t, x, rfl⟩
  · go_enter Tryd.func23, Tryd.ntmps23
    go_wp2_with fail
    go_ret
    exact ⟨rfl, by go_grown⟩
  · go_enter Tryd.func23, Tryd.ntmps23
    go_wp2_with fail
    go_ret
    exact ⟨rfl, by go_grown⟩
theorem h_small (a : Option Addr) (n c : Nat) (b : Bool) (hb : b = decide (n ≤ 100)) (W : World) : Calls Tryd.prog 7 #[.slice a n c] W fun e w' => e = .returned (.bool b) ∧ Gr W w' := by
  have t : decide ((n : Int) ≤ 100) = b := by rw [hb, decide_eq_decide]; omega
  have t2 : (decide (n ≤ 100)) = b := hb.symm
  clear hb
  go_enter Tryd.func7, Tryd.ntmps7
  go_wp2_with fail
  go_ret
  exact ⟨rfl, by go_grown⟩
end Go.Proofs.YtogflfepkddbhaaDoor
