/- the document's area, Twice, Left, Has, Edge, RingBox -/
import Derived.Test.YtkodmfkchbbmiaaDoorGs
import Derived.Test.YtkodmfkchbbmiaaDoorGo
import Derived.WalkSmall
namespace Go.Proofs.YtkodmfkchbbmiaaDoor
set_option linter.unusedVariables false
set_option linter.unusedSimpArgs false
open Go.ChangeShapes Go.WideShapes Go.ChangeAt Go.RowKit

theorem ar_eq (s a b : Int) : wrap64 (s + wrap64 (wrap64 a - wrap64 b)) = IntKind.i64.wrap (s + (a - b)) := by
  rw [IntKind.wrap_i64]
  unfold wrap64
  omega
theorem wrap_add (a b : Int) : IntKind.i64.wrap (IntKind.i64.wrap a + b) = IntKind.i64.wrap (a + b) := by
  rw [IntKind.wrap_i64, IntKind.wrap_i64, IntKind.wrap_i64]
  omega
set_option maxHeartbeats 4000000 in
set_option maxRecDepth 100000 in
theorem c_rarea {n : Nat} {X Y : Nat → Int} {v : Value} (W : World) (h : Pts W v n X Y) (hn : n ≤ 1000) (hnr : ∀ k, k < n → nearB (X k) (Y k) = true) : Calls Tryd.prog 67 #[v] W fun e w' => e = .returned (.int .i64 (IntKind.i64.wrap (Rg.arS n X Y n))) ∧ Gr W w' := by
  obtain ⟨ad, cap, B, off, rfl, h1, h2, h3, h4⟩ := h
  have H3 := Lib.hid h3
  have H4 := Lib.hid h4
  have hn9 : (n : Int) ≤ 1000 := by omega
  have HNR := Lib.hid hnr
  clear h3 h4 hnr
  go_enter Tryd.func67, Tryd.ntmps67
  go_wp2_with fail
  go_loopg [3, 4] n (fun k z u wr => ∃ i : Nat, u = .int .i64 i ∧ i ≤ n ∧ k = n - i ∧ z = .int .i64 (IntKind.i64.wrap (Rg.arS n X Y i)) ∧ Gr W wr)
  case atStart => exact ⟨0, rfl, Nat.zero_le _, by omega, rfl, by go_grown⟩
  case round =>
    obtain ⟨i, rfl, hi, hk, rfl, gwr⟩ := hrel
    by_cases hlt : i < n
    · have ti : decide ((i : Int) < (n : Int)) = true := decide_eq_true (by omega)
      have ti2 : decide (i < n) = true := decide_eq_true hlt
      have hii : (i : Int) ≤ 1000 := by omega
      have hmm : n - (i + 1) < gk := by omega
      have hnx := nx_lt hlt
      obtain ⟨k0, k1⟩ := H4.out i hlt
      obtain ⟨m0, m1⟩ := H4.out _ hnx
      obtain rfl := H3.out (by omega)
      have s0 := cell_gr gwr k0
      have s1 := cell_gr gwr k1
      have r0 := cell_gr gwr m0
      have r1 := cell_gr gwr m1
      have zB2 : B < wr.heap.size := World.block_lt_of_cell? _ _ s0
      have hrem := nx_rem hlt (by omega : n ≤ 1000000)
      have EO : IntKind.i64.wrap (Rg.arS n X Y (i + 1)) = IntKind.i64.wrap (IntKind.i64.wrap (Rg.arS n X Y i) + (X i * Y (Rg.nx1 n i) - X (Rg.nx1 n i) * Y i)) := (wrap_add _ _).symm
      have n1 := nearB_iff.1 (HNR.out i hlt)
      have n2 := nearB_iff.1 (HNR.out _ hnx)
      generalize X (Rg.nx1 n i) = xj at *
      generalize Y (Rg.nx1 n i) = yj at *
      generalize X i = xi at *
      generalize Y i = yi at *
      generalize Rg.nx1 n i = j at *
      generalize IntKind.i64.wrap (Rg.arS n X Y i) = sz at *
      have HEO := Lib.hid EO
      have hj9 : (j : Int) ≤ 1000 := by omega
      have tj : decide ((j : Int) < (n : Int)) = true := decide_eq_true (by omega)
      have tj3 : (j : Int) < (n : Int) := by omega
      have ti3 : (i : Int) < (n : Int) := by omega
      have nz : ((n : Int) == 0) = false := by simp; omega
      have nz2 : (n : Int) ≠ 0 := by omega
      have nz3 : (0 : Int) < n := by omega
      have q1 := hrem.1
      have q2 := hrem.2
      have w1 : IntKind.i64.wrap ((i : Int) + 1) = (i : Int) + 1 := IntWalk.i64_in _ (by omega)
      have w2 : IntKind.i64.wrap (j : Int) = (j : Int) := IntWalk.i64_in _ (by omega)
      clear EO k0 k1 m0 m1 hk hrem n1 n2
      go_wp2_with fail
      go_roundg (n - (i + 1))
      case measure => exact hmm
      case rel => exact ⟨i + 1, by go_num, hlt, rfl, by rw [HEO.out]; exact congrArg _ (ar_eq _ _ _), by have gg := gwr; have gs := gg.size; go_grown⟩
    · obtain rfl : i = n := by omega
      have ti : decide ((i : Int) < (i : Int)) = false := decide_eq_false (by omega)
      have ti2 : decide (i < i) = false := decide_eq_false (by omega)
      clear hk
      go_wp2_with fail
      go_ret
      exact ⟨rfl, gwr⟩
theorem abs_tw (s : Int) (h : -9223372036854775808 ≤ s ∧ s ≤ 9223372036854775807) : IntKind.u64.wrap (max s (IntKind.i64.wrap (-s))) = (s.natAbs : Int) := by
  rw [IntKind.wrap_i64]
  rcases Int.lt_or_le s (-9223372036854775807) with c | c
  · obtain rfl : s = -9223372036854775808 := by omega
    rfl
  · rw [show (-s + 9223372036854775808) % 18446744073709551616 - 9223372036854775808 = -s by omega, show max s (-s) = (s.natAbs : Int) by omega]
    exact IntWalk.u64_in _ (by omega)
theorem wrap_rng (s : Int) : -9223372036854775808 ≤ IntKind.i64.wrap s ∧ IntKind.i64.wrap s ≤ 9223372036854775807 := by
  rw [IntKind.wrap_i64]; omega
/-- What the document's functions on rings have in common. -/
theorem r_ok {n : Nat} {X Y : Nat → Int} {v : Value} (W : World) (h : Pts W v n X Y) : ∀ w, Gr W w → Calls Tryd.prog 13 #[v] w fun e w' => e = .returned (.tuple #[.int .i64 ((Rg.ringC n X Y).1 : Nat), .int .i64 ((Rg.ringC n X Y).2 : Nat)]) ∧ Gr w w' := fun w g => c_CheckRing w (pts_gr h g)
theorem c_rarea' {n : Nat} {X Y : Nat → Int} {v : Value} (W : World) (h : Pts W v n X Y) (h0 : (Rg.ringC n X Y).1 = 0) : ∀ w, Gr W w → Calls Tryd.prog 67 #[v] w fun e w' => e = .returned (.int .i64 (sgZ n X Y)) ∧ Gr w w' := fun w g => by
  obtain ⟨h1, h2, _, _⟩ := Rg.ringC_ok h0
  have C := c_rarea w (pts_gr h g) (by omega) h2
  rw [← Rg.crS_all n (by omega)] at C
  exact C
set_option maxHeartbeats 2000000 in
set_option maxRecDepth 100000 in
theorem c_rLeft {n : Nat} {X Y : Nat → Int} {v : Value} (W : World) (h : Pts W v n X Y) : Calls Tryd.prog 22 #[v] W fun e w' => e = .returned (.bool (lfV n X Y)) ∧ Gr W w' := by
  have A1 := r_ok W h
  by_cases h0 : (Rg.ringC n X Y).1 = 0
  · have A2 := c_rarea' W h h0
    have e : lfV n X Y = decide (0 < sgZ n X Y) := by unfold lfV; rw [decide_eq_true h0]; rfl
    rw [e]
    rw [h0] at A1
    generalize sgZ n X Y = z at A2 ⊢
    generalize ((Rg.ringC n X Y).2 : Nat) = id at A1
    obtain ⟨ad, cap, B, off, rfl, _⟩ := h
    have H1 := Lib.hid A1
    have H2 := Lib.hid A2
    clear A1 A2
    clear e h0
    go_enter Tryd.func22, Tryd.ntmps22
    go_wp2_with fail
    go_at_call 13
    refine ((H1.out _ (by go_grown))).mono ?_
    rintro e w1 ⟨rfl, hw1⟩
    have gw1 : Gr W w1 := Gr.trans (by go_grown) hw1
    clear hw1
    go_wp2_with fail
    go_at_call 67
    refine ((H2.out _ gw1)).mono ?_
    rintro e w2 ⟨rfl, hw2⟩
    have gw2 : Gr W w2 := Gr.trans (by have gg := gw1; have gs := gg.size; go_grown) hw2
    clear hw2 gw1
    go_wp2_with fail
    go_ret
    exact ⟨rfl, gw2⟩
  · have e : lfV n X Y = false := by unfold lfV; rw [decide_eq_false h0]; rfl
    rw [e]
    generalize (Rg.ringC n X Y).1 = k at A1 h0
    generalize ((Rg.ringC n X Y).2 : Nat) = id at A1
    obtain ⟨ad, cap, B, off, rfl, _⟩ := h
    have t1 : ((k : Int) == 0) = false := by simp; omega
    have t2 : (k == 0) = false := by simp; omega
    have H1 := Lib.hid A1
    clear A1
    clear e h0
    go_enter Tryd.func22, Tryd.ntmps22
    go_wp2_with fail
    go_at_call 13
    refine ((H1.out _ (by go_grown))).mono ?_
    rintro e w1 ⟨rfl, hw1⟩
    have gw1 : Gr W w1 := Gr.trans (by go_grown) hw1
    clear hw1
    go_wp2_with fail
    go_ret
    exact ⟨rfl, gw1⟩
set_option maxHeartbeats 2000000 in
set_option maxRecDepth 100000 in
theorem c_rTwice {n : Nat} {X Y : Nat → Int} {v : Value} (W : World) (h : Pts W v n X Y) : Calls Tryd.prog 20 #[v] W fun e w' => e = .returned (.agg #[.int .u64 0, .int .u64 (twZ n X Y)]) ∧ Gr W w' := by
  have A1 := r_ok W h
  by_cases h0 : (Rg.ringC n X Y).1 = 0
  · have A2 := c_rarea' W h h0
    have A3 := c_Abs (sgZ n X Y) (wrap_rng _)
    have e : twZ n X Y = ((sgZ n X Y).natAbs : Int) := by unfold twZ; rw [if_pos h0]; exact abs_tw _ (wrap_rng _)
    rw [e]
    rw [h0] at A1
    generalize ((sgZ n X Y).natAbs : Int) = y at A3 ⊢
    generalize sgZ n X Y = z at A2 A3
    generalize ((Rg.ringC n X Y).2 : Nat) = id at A1
    obtain ⟨ad, cap, B, off, rfl, _⟩ := h
    have A4 : ∀ w, Calls Tryd.prog 66 #[.int .i64 z] w fun e w' => e = .returned (.int .u64 y) ∧ Gr w w' := fun w => (A3 w).mono fun e w' ⟨h1, h2⟩ => ⟨h1, Gr.of_eq h2⟩
    have H1 := Lib.hid A1
    have H2 := Lib.hid A2
    have H4 := Lib.hid A4
    clear A1 A2 A4
    clear e h0 A3
    go_enter Tryd.func20, Tryd.ntmps20
    go_wp2_with fail
    go_at_call 13
    refine ((H1.out _ (by go_grown))).mono ?_
    rintro e w1 ⟨rfl, hw1⟩
    have cw1_0_0 : w1.cell? ⟨W.heap.size, 0, none⟩ = some (.int .u64 0) := cell_gr hw1 (by go_simp)
    have fw1_0_0 : w1.frozen? ⟨W.heap.size, 0, none⟩ = false := frozen_gr (v := .int .u64 0) hw1 (by go_simp) (by go_simp)
    have cw1_0_1 : w1.cell? ⟨W.heap.size, 1, none⟩ = some (.int .u64 0) := cell_gr hw1 (by go_simp)
    have fw1_0_1 : w1.frozen? ⟨W.heap.size, 1, none⟩ = false := frozen_gr (v := .int .u64 0) hw1 (by go_simp) (by go_simp)
    have zw1_0 : W.heap.size < w1.heap.size := World.block_lt_of_cell? _ _ cw1_0_0
    have gw1 : Gr W w1 := Gr.trans (by go_grown) hw1
    clear hw1
    go_wp2_with fail
    go_at_call 67
    refine ((H2.out _ gw1)).mono ?_
    rintro e w2 ⟨rfl, hw2⟩
    have cw2_0_0 : w2.cell? ⟨W.heap.size, 0, none⟩ = some (.int .u64 0) := cell_gr hw2 (by go_simp)
    have fw2_0_0 : w2.frozen? ⟨W.heap.size, 0, none⟩ = false := frozen_gr (v := .int .u64 0) hw2 (by go_simp) (by go_simp)
    have cw2_0_1 : w2.cell? ⟨W.heap.size, 1, none⟩ = some (.int .u64 0) := cell_gr hw2 (by go_simp)
    have fw2_0_1 : w2.frozen? ⟨W.heap.size, 1, none⟩ = false := frozen_gr (v := .int .u64 0) hw2 (by go_simp) (by go_simp)
    have zw2_0 : W.heap.size < w2.heap.size := World.block_lt_of_cell? _ _ cw2_0_0
    have gw2 : Gr W w2 := Gr.trans (by have gg := gw1; have gs := gg.size; go_grown) hw2
    clear hw2 gw1 zw1_0 cw1_0_0 fw1_0_0 cw1_0_1 fw1_0_1
    go_wp2_with fail
    go_at_call 66
    refine ((H4.out _)).mono ?_
    rintro e w3 ⟨rfl, hw3⟩
    have cw3_0_0 : w3.cell? ⟨W.heap.size, 0, none⟩ = some (.int .u64 0) := cell_gr hw3 (by go_simp)
    have fw3_0_0 : w3.frozen? ⟨W.heap.size, 0, none⟩ = false := frozen_gr (v := .int .u64 0) hw3 (by go_simp) (by go_simp)
    have cw3_0_1 : w3.cell? ⟨W.heap.size, 1, none⟩ = some (.int .u64 0) := cell_gr hw3 (by go_simp)
    have fw3_0_1 : w3.frozen? ⟨W.heap.size, 1, none⟩ = false := frozen_gr (v := .int .u64 0) hw3 (by go_simp) (by go_simp)
    have zw3_0 : W.heap.size < w3.heap.size := World.block_lt_of_cell? _ _ cw3_0_0
    have gw3 : Gr W w3 := Gr.trans (by have gg := gw2; have gs := gg.size; go_grown) hw3
    clear hw3 gw2 zw2_0 cw2_0_0 fw2_0_0 cw2_0_1 fw2_0_1
    go_wp2_with fail
    refine bodyPost_ret (v := .agg #[.int .u64 0, .int .u64 y]) (by simp [results, Tryd.results20, go_sem, *]) rfl ⟨rfl, by have gg := gw3; have gs := gg.size; go_grown⟩
  · have e : twZ n X Y = 0 := by unfold twZ; rw [if_neg h0]
    rw [e]
    generalize (Rg.ringC n X Y).1 = k at A1 h0
    generalize ((Rg.ringC n X Y).2 : Nat) = id at A1
    obtain ⟨ad, cap, B, off, rfl, _⟩ := h
    have t1 : ((k : Int) == 0) = false := by simp; omega
    have t2 : (k == 0) = false := by simp; omega
    have t3 : ((k : Int) != 0) = true := by simp; omega
    have t4 : (k != 0) = true := by simp; omega
    have H1 := Lib.hid A1
    clear A1
    clear e h0
    go_enter Tryd.func20, Tryd.ntmps20
    go_wp2_with fail
    go_at_call 13
    refine ((H1.out _ (by go_grown))).mono ?_
    rintro e w1 ⟨rfl, hw1⟩
    have cw1_0_0 : w1.cell? ⟨W.heap.size, 0, none⟩ = some (.int .u64 0) := cell_gr hw1 (by go_simp)
    have fw1_0_0 : w1.frozen? ⟨W.heap.size, 0, none⟩ = false := frozen_gr (v := .int .u64 0) hw1 (by go_simp) (by go_simp)
    have cw1_0_1 : w1.cell? ⟨W.heap.size, 1, none⟩ = some (.int .u64 0) := cell_gr hw1 (by go_simp)
    have fw1_0_1 : w1.frozen? ⟨W.heap.size, 1, none⟩ = false := frozen_gr (v := .int .u64 0) hw1 (by go_simp) (by go_simp)
    have zw1_0 : W.heap.size < w1.heap.size := World.block_lt_of_cell? _ _ cw1_0_0
    have gw1 : Gr W w1 := Gr.trans (by go_grown) hw1
    clear hw1
    go_wp2_with fail
    refine bodyPost_ret (v := .agg #[.int .u64 0, .int .u64 0]) (by simp [results, Tryd.results20, go_sem, *]) rfl ⟨rfl, by have gg := gw1; have gs := gg.size; go_grown⟩
theorem onN_far {n : Nat} {X Y : Nat → Int} {px py : Int} (h : nearB px py = false) : Rg.onN n X Y px py n = false := by
  cases e : Rg.onN n X Y px py n
  · rfl
  · obtain ⟨i, _, hh⟩ := (Rg.onN_iff n).1 e
    unfold onG at hh
    rw [h] at hh
    simp at hh
set_option maxHeartbeats 2000000 in
set_option maxRecDepth 100000 in
theorem c_rHas {n : Nat} {X Y : Nat → Int} {v : Value} (W : World) (h : Pts W v n X Y) (px py : Int) : Calls Tryd.prog 24 #[v, .agg #[.int .i64 px, .int .i64 py]] W fun e w' => e = .returned (.bool (hsV n X Y px py)) ∧ Gr W w' := by
  have A1 := r_ok W h
  have A2 := c_rPoint px py
  by_cases h0 : (Rg.ringC n X Y).1 = 0
  · by_cases hp : nearB px py = true
    · obtain ⟨h1, h2, _, _⟩ := Rg.ringC_ok h0
      have A3 : ∀ w, Gr W w → Calls Tryd.prog 69 #[v, .agg #[.int .i64 px, .int .i64 py]] w fun e w' => e = .returned (.bool (Rg.hasN n X Y px py)) ∧ Gr w w' := fun w g => c_rhas w (pts_gr h g) (by omega) h2 px py hp
      have e : hsV n X Y px py = Rg.hasN n X Y px py := by unfold hsV; rw [decide_eq_true h0, hp]; rfl
      rw [e]
      rw [h0] at A1
      rw [hp] at A2
      generalize Rg.hasN n X Y px py = z at A3 ⊢
      generalize ((Rg.ringC n X Y).2 : Nat) = id at A1
      obtain ⟨ad, cap, B, off, rfl, _⟩ := h
      have H1 := Lib.hid A1
      have H2 := Lib.hid A2
      have H3 := Lib.hid A3
      clear A1 A2 A3
      clear e h0 hp h1 h2
      go_enter Tryd.func24, Tryd.ntmps24
      go_wp2_with fail
      go_at_call 13
      refine ((H1.out _ (by go_grown))).mono ?_
      rintro e w1 ⟨rfl, hw1⟩
      have cw1_0_0 : w1.cell? ⟨W.heap.size, 0, none⟩ = some (.int .i64 px) := cell_gr hw1 (by go_simp)
      have fw1_0_0 : w1.frozen? ⟨W.heap.size, 0, none⟩ = false := frozen_gr (v := .int .i64 px) hw1 (by go_simp) (by go_simp)
      have cw1_0_1 : w1.cell? ⟨W.heap.size, 1, none⟩ = some (.int .i64 py) := cell_gr hw1 (by go_simp)
      have fw1_0_1 : w1.frozen? ⟨W.heap.size, 1, none⟩ = false := frozen_gr (v := .int .i64 py) hw1 (by go_simp) (by go_simp)
      have zw1_0 : W.heap.size < w1.heap.size := World.block_lt_of_cell? _ _ cw1_0_0
      have gw1 : Gr W w1 := Gr.trans (by go_grown) hw1
      clear hw1
      go_wp2_with fail
      go_at_call 58
      refine ((H2.out _)).mono ?_
      rintro e w2 ⟨rfl, hw2⟩
      have cw2_0_0 : w2.cell? ⟨W.heap.size, 0, none⟩ = some (.int .i64 px) := cell_gr hw2 (by go_simp)
      have fw2_0_0 : w2.frozen? ⟨W.heap.size, 0, none⟩ = false := frozen_gr (v := .int .i64 px) hw2 (by go_simp) (by go_simp)
      have cw2_0_1 : w2.cell? ⟨W.heap.size, 1, none⟩ = some (.int .i64 py) := cell_gr hw2 (by go_simp)
      have fw2_0_1 : w2.frozen? ⟨W.heap.size, 1, none⟩ = false := frozen_gr (v := .int .i64 py) hw2 (by go_simp) (by go_simp)
      have zw2_0 : W.heap.size < w2.heap.size := World.block_lt_of_cell? _ _ cw2_0_0
      have gw2 : Gr W w2 := Gr.trans (by have gg := gw1; have gs := gg.size; go_grown) hw2
      clear hw2 gw1 zw1_0 cw1_0_0 fw1_0_0 cw1_0_1 fw1_0_1
      go_wp2_with fail
      go_at_call 69
      refine ((H3.out _ gw2)).mono ?_
      rintro e w3 ⟨rfl, hw3⟩
      have cw3_0_0 : w3.cell? ⟨W.heap.size, 0, none⟩ = some (.int .i64 px) := cell_gr hw3 (by go_simp)
      have fw3_0_0 : w3.frozen? ⟨W.heap.size, 0, none⟩ = false := frozen_gr (v := .int .i64 px) hw3 (by go_simp) (by go_simp)
      have cw3_0_1 : w3.cell? ⟨W.heap.size, 1, none⟩ = some (.int .i64 py) := cell_gr hw3 (by go_simp)
      have fw3_0_1 : w3.frozen? ⟨W.heap.size, 1, none⟩ = false := frozen_gr (v := .int .i64 py) hw3 (by go_simp) (by go_simp)
      have zw3_0 : W.heap.size < w3.heap.size := World.block_lt_of_cell? _ _ cw3_0_0
      have gw3 : Gr W w3 := Gr.trans (by have gg := gw2; have gs := gg.size; go_grown) hw3
      clear hw3 gw2 zw2_0 cw2_0_0 fw2_0_0 cw2_0_1 fw2_0_1
      go_wp2_with fail
      go_ret
      exact ⟨rfl, gw3⟩
    · have hp' : nearB px py = false := by simpa using hp
      have e : hsV n X Y px py = false := by
        unfold hsV
        rw [decide_eq_true h0]
        rw [hp']; rfl
      rw [e]
      rw [h0] at A1
      rw [hp'] at A2
      generalize ((Rg.ringC n X Y).2 : Nat) = id at A1
      obtain ⟨ad, cap, B, off, rfl, _⟩ := h
      have H1 := Lib.hid A1
      have H2 := Lib.hid A2
      clear A1 A2
      clear e h0 hp hp'
      go_enter Tryd.func24, Tryd.ntmps24
      go_wp2_with fail
      go_at_call 13
      refine ((H1.out _ (by go_grown))).mono ?_
      rintro e w1 ⟨rfl, hw1⟩
      have cw1_0_0 : w1.cell? ⟨W.heap.size, 0, none⟩ = some (.int .i64 px) := cell_gr hw1 (by go_simp)
      have fw1_0_0 : w1.frozen? ⟨W.heap.size, 0, none⟩ = false := frozen_gr (v := .int .i64 px) hw1 (by go_simp) (by go_simp)
      have cw1_0_1 : w1.cell? ⟨W.heap.size, 1, none⟩ = some (.int .i64 py) := cell_gr hw1 (by go_simp)
      have fw1_0_1 : w1.frozen? ⟨W.heap.size, 1, none⟩ = false := frozen_gr (v := .int .i64 py) hw1 (by go_simp) (by go_simp)
      have zw1_0 : W.heap.size < w1.heap.size := World.block_lt_of_cell? _ _ cw1_0_0
      have gw1 : Gr W w1 := Gr.trans (by go_grown) hw1
      clear hw1
      go_wp2_with fail
      go_at_call 58
      refine ((H2.out _)).mono ?_
      rintro e w2 ⟨rfl, hw2⟩
      have cw2_0_0 : w2.cell? ⟨W.heap.size, 0, none⟩ = some (.int .i64 px) := cell_gr hw2 (by go_simp)
      have fw2_0_0 : w2.frozen? ⟨W.heap.size, 0, none⟩ = false := frozen_gr (v := .int .i64 px) hw2 (by go_simp) (by go_simp)
      have cw2_0_1 : w2.cell? ⟨W.heap.size, 1, none⟩ = some (.int .i64 py) := cell_gr hw2 (by go_simp)
      have fw2_0_1 : w2.frozen? ⟨W.heap.size, 1, none⟩ = false := frozen_gr (v := .int .i64 py) hw2 (by go_simp) (by go_simp)
      have zw2_0 : W.heap.size < w2.heap.size := World.block_lt_of_cell? _ _ cw2_0_0
      have gw2 : Gr W w2 := Gr.trans (by have gg := gw1; have gs := gg.size; go_grown) hw2
      clear hw2 gw1 zw1_0 cw1_0_0 fw1_0_0 cw1_0_1 fw1_0_1
      go_wp2_with fail
      go_ret
      exact ⟨rfl, gw2⟩
  · have e : hsV n X Y px py = false := by unfold hsV; rw [decide_eq_false h0]; rfl
    rw [e]
    generalize (Rg.ringC n X Y).1 = k at A1 h0
    generalize ((Rg.ringC n X Y).2 : Nat) = id at A1
    obtain ⟨ad, cap, B, off, rfl, _⟩ := h
    have t1 : ((k : Int) == 0) = false := by simp; omega
    have t2 : (k == 0) = false := by simp; omega
    have H1 := Lib.hid A1
    clear A1
    clear e h0 A2
    go_enter Tryd.func24, Tryd.ntmps24
    go_wp2_with fail
    go_at_call 13
    refine ((H1.out _ (by go_grown))).mono ?_
    rintro e w1 ⟨rfl, hw1⟩
    have cw1_0_0 : w1.cell? ⟨W.heap.size, 0, none⟩ = some (.int .i64 px) := cell_gr hw1 (by go_simp)
    have fw1_0_0 : w1.frozen? ⟨W.heap.size, 0, none⟩ = false := frozen_gr (v := .int .i64 px) hw1 (by go_simp) (by go_simp)
    have cw1_0_1 : w1.cell? ⟨W.heap.size, 1, none⟩ = some (.int .i64 py) := cell_gr hw1 (by go_simp)
    have fw1_0_1 : w1.frozen? ⟨W.heap.size, 1, none⟩ = false := frozen_gr (v := .int .i64 py) hw1 (by go_simp) (by go_simp)
    have zw1_0 : W.heap.size < w1.heap.size := World.block_lt_of_cell? _ _ cw1_0_0
    have gw1 : Gr W w1 := Gr.trans (by go_grown) hw1
    clear hw1
    go_wp2_with fail
    go_ret
    exact ⟨rfl, gw1⟩
set_option maxHeartbeats 2000000 in
set_option maxRecDepth 100000 in
theorem c_rEdge {n : Nat} {X Y : Nat → Int} {v : Value} (W : World) (h : Pts W v n X Y) (px py : Int) : Calls Tryd.prog 26 #[v, .agg #[.int .i64 px, .int .i64 py]] W fun e w' => e = .returned (.bool (edV n X Y px py)) ∧ Gr W w' := by
  have A1 := r_ok W h
  have A2 := c_rPoint px py
  by_cases h0 : (Rg.ringC n X Y).1 = 0
  · by_cases hp : nearB px py = true
    · obtain ⟨h1, h2, _, _⟩ := Rg.ringC_ok h0
      have A3 : ∀ w, Gr W w → Calls Tryd.prog 71 #[v, .agg #[.int .i64 px, .int .i64 py]] w fun e w' => e = .returned (.bool (Rg.onN n X Y px py n)) ∧ Gr w w' := fun w g => c_redge w (pts_gr h g) (by omega) px py
      have e : edV n X Y px py = Rg.onN n X Y px py n := by unfold edV; rw [decide_eq_true h0]; rfl
      rw [e]
      rw [h0] at A1
      rw [hp] at A2
      generalize Rg.onN n X Y px py n = z at A3 ⊢
      generalize ((Rg.ringC n X Y).2 : Nat) = id at A1
      obtain ⟨ad, cap, B, off, rfl, _⟩ := h
      have H1 := Lib.hid A1
      have H2 := Lib.hid A2
      have H3 := Lib.hid A3
      clear A1 A2 A3
      clear e h0 hp h1 h2
      go_enter Tryd.func26, Tryd.ntmps26
      go_wp2_with fail
      go_at_call 13
      refine ((H1.out _ (by go_grown))).mono ?_
      rintro e w1 ⟨rfl, hw1⟩
      have cw1_0_0 : w1.cell? ⟨W.heap.size, 0, none⟩ = some (.int .i64 px) := cell_gr hw1 (by go_simp)
      have fw1_0_0 : w1.frozen? ⟨W.heap.size, 0, none⟩ = false := frozen_gr (v := .int .i64 px) hw1 (by go_simp) (by go_simp)
      have cw1_0_1 : w1.cell? ⟨W.heap.size, 1, none⟩ = some (.int .i64 py) := cell_gr hw1 (by go_simp)
      have fw1_0_1 : w1.frozen? ⟨W.heap.size, 1, none⟩ = false := frozen_gr (v := .int .i64 py) hw1 (by go_simp) (by go_simp)
      have zw1_0 : W.heap.size < w1.heap.size := World.block_lt_of_cell? _ _ cw1_0_0
      have gw1 : Gr W w1 := Gr.trans (by go_grown) hw1
      clear hw1
      go_wp2_with fail
      go_at_call 58
      refine ((H2.out _)).mono ?_
      rintro e w2 ⟨rfl, hw2⟩
      have cw2_0_0 : w2.cell? ⟨W.heap.size, 0, none⟩ = some (.int .i64 px) := cell_gr hw2 (by go_simp)
      have fw2_0_0 : w2.frozen? ⟨W.heap.size, 0, none⟩ = false := frozen_gr (v := .int .i64 px) hw2 (by go_simp) (by go_simp)
      have cw2_0_1 : w2.cell? ⟨W.heap.size, 1, none⟩ = some (.int .i64 py) := cell_gr hw2 (by go_simp)
      have fw2_0_1 : w2.frozen? ⟨W.heap.size, 1, none⟩ = false := frozen_gr (v := .int .i64 py) hw2 (by go_simp) (by go_simp)
      have zw2_0 : W.heap.size < w2.heap.size := World.block_lt_of_cell? _ _ cw2_0_0
      have gw2 : Gr W w2 := Gr.trans (by have gg := gw1; have gs := gg.size; go_grown) hw2
      clear hw2 gw1 zw1_0 cw1_0_0 fw1_0_0 cw1_0_1 fw1_0_1
      go_wp2_with fail
      go_at_call 71
      refine ((H3.out _ gw2)).mono ?_
      rintro e w3 ⟨rfl, hw3⟩
      have cw3_0_0 : w3.cell? ⟨W.heap.size, 0, none⟩ = some (.int .i64 px) := cell_gr hw3 (by go_simp)
      have fw3_0_0 : w3.frozen? ⟨W.heap.size, 0, none⟩ = false := frozen_gr (v := .int .i64 px) hw3 (by go_simp) (by go_simp)
      have cw3_0_1 : w3.cell? ⟨W.heap.size, 1, none⟩ = some (.int .i64 py) := cell_gr hw3 (by go_simp)
      have fw3_0_1 : w3.frozen? ⟨W.heap.size, 1, none⟩ = false := frozen_gr (v := .int .i64 py) hw3 (by go_simp) (by go_simp)
      have zw3_0 : W.heap.size < w3.heap.size := World.block_lt_of_cell? _ _ cw3_0_0
      have gw3 : Gr W w3 := Gr.trans (by have gg := gw2; have gs := gg.size; go_grown) hw3
      clear hw3 gw2 zw2_0 cw2_0_0 fw2_0_0 cw2_0_1 fw2_0_1
      go_wp2_with fail
      go_ret
      exact ⟨rfl, gw3⟩
    · have hp' : nearB px py = false := by simpa using hp
      have e : edV n X Y px py = false := by
        unfold edV
        rw [decide_eq_true h0]
        rw [Bool.true_and, onN_far hp']
      rw [e]
      rw [h0] at A1
      rw [hp'] at A2
      generalize ((Rg.ringC n X Y).2 : Nat) = id at A1
      obtain ⟨ad, cap, B, off, rfl, _⟩ := h
      have H1 := Lib.hid A1
      have H2 := Lib.hid A2
      clear A1 A2
      clear e h0 hp hp'
      go_enter Tryd.func26, Tryd.ntmps26
      go_wp2_with fail
      go_at_call 13
      refine ((H1.out _ (by go_grown))).mono ?_
      rintro e w1 ⟨rfl, hw1⟩
      have cw1_0_0 : w1.cell? ⟨W.heap.size, 0, none⟩ = some (.int .i64 px) := cell_gr hw1 (by go_simp)
      have fw1_0_0 : w1.frozen? ⟨W.heap.size, 0, none⟩ = false := frozen_gr (v := .int .i64 px) hw1 (by go_simp) (by go_simp)
      have cw1_0_1 : w1.cell? ⟨W.heap.size, 1, none⟩ = some (.int .i64 py) := cell_gr hw1 (by go_simp)
      have fw1_0_1 : w1.frozen? ⟨W.heap.size, 1, none⟩ = false := frozen_gr (v := .int .i64 py) hw1 (by go_simp) (by go_simp)
      have zw1_0 : W.heap.size < w1.heap.size := World.block_lt_of_cell? _ _ cw1_0_0
      have gw1 : Gr W w1 := Gr.trans (by go_grown) hw1
      clear hw1
      go_wp2_with fail
      go_at_call 58
      refine ((H2.out _)).mono ?_
      rintro e w2 ⟨rfl, hw2⟩
      have cw2_0_0 : w2.cell? ⟨W.heap.size, 0, none⟩ = some (.int .i64 px) := cell_gr hw2 (by go_simp)
      have fw2_0_0 : w2.frozen? ⟨W.heap.size, 0, none⟩ = false := frozen_gr (v := .int .i64 px) hw2 (by go_simp) (by go_simp)
      have cw2_0_1 : w2.cell? ⟨W.heap.size, 1, none⟩ = some (.int .i64 py) := cell_gr hw2 (by go_simp)
      have fw2_0_1 : w2.frozen? ⟨W.heap.size, 1, none⟩ = false := frozen_gr (v := .int .i64 py) hw2 (by go_simp) (by go_simp)
      have zw2_0 : W.heap.size < w2.heap.size := World.block_lt_of_cell? _ _ cw2_0_0
      have gw2 : Gr W w2 := Gr.trans (by have gg := gw1; have gs := gg.size; go_grown) hw2
      clear hw2 gw1 zw1_0 cw1_0_0 fw1_0_0 cw1_0_1 fw1_0_1
      go_wp2_with fail
      go_ret
      exact ⟨rfl, gw2⟩
  · have e : edV n X Y px py = false := by unfold edV; rw [decide_eq_false h0]; rfl
    rw [e]
    generalize (Rg.ringC n X Y).1 = k at A1 h0
    generalize ((Rg.ringC n X Y).2 : Nat) = id at A1
    obtain ⟨ad, cap, B, off, rfl, _⟩ := h
    have t1 : ((k : Int) == 0) = false := by simp; omega
    have t2 : (k == 0) = false := by simp; omega
    have H1 := Lib.hid A1
    clear A1
    clear e h0 A2
    go_enter Tryd.func26, Tryd.ntmps26
    go_wp2_with fail
    go_at_call 13
    refine ((H1.out _ (by go_grown))).mono ?_
    rintro e w1 ⟨rfl, hw1⟩
    have cw1_0_0 : w1.cell? ⟨W.heap.size, 0, none⟩ = some (.int .i64 px) := cell_gr hw1 (by go_simp)
    have fw1_0_0 : w1.frozen? ⟨W.heap.size, 0, none⟩ = false := frozen_gr (v := .int .i64 px) hw1 (by go_simp) (by go_simp)
    have cw1_0_1 : w1.cell? ⟨W.heap.size, 1, none⟩ = some (.int .i64 py) := cell_gr hw1 (by go_simp)
    have fw1_0_1 : w1.frozen? ⟨W.heap.size, 1, none⟩ = false := frozen_gr (v := .int .i64 py) hw1 (by go_simp) (by go_simp)
    have zw1_0 : W.heap.size < w1.heap.size := World.block_lt_of_cell? _ _ cw1_0_0
    have gw1 : Gr W w1 := Gr.trans (by go_grown) hw1
    clear hw1
    go_wp2_with fail
    go_ret
    exact ⟨rfl, gw1⟩
end Go.Proofs.YtkodmfkchbbmiaaDoor
