/- What RelMoves leans on: Us Uv Qs -/
import Derived.Test.YtfobmlgpjhghdaaGreatDoorCRelMoves3
import Derived.Test.YtfobmlgpjhghdaaGreatDoorRows
import Derived.JoinedCond
import Derived.ProofKit
namespace Go.Proofs.YtfobmlgpjhghdaaGreatDoor
set_option linter.unusedVariables false
set_option linter.unusedSimpArgs false
open Go.ChangeShapes Go.WideShapes Go.ChangeAt Go.RowKit
set_option maxHeartbeats 16000000 in
set_option maxRecDepth 100000 in
theorem moves_yes (k kq lx ly hx hy px py y : Int) (n m : Nat) (X Y P Q : Nat → Int) (v u : Value) (c4 c5 : Nat) (b6 z : Bool) (dh dl dd : Nat) (W : World)
    (h : Pts W v n X Y) (hu : Pts W u m P Q) (hn : n ≤ 64) (hm : m ≤ 64) (hk : k ≠ 2) (hy0 : -2147483648 ≤ y ∧ y ≤ 2147483648)
    (A1 : ∀ w, Gr W w → Calls Tryz.prog 23 #[.agg #[.int .i64 k, v]] w fun e w' => e = .returned (.bool true) ∧ Gr w w')
    (A2 : ∀ w, Gr W w → Calls Tryz.prog 31 #[qryV kq lx ly hx hy u] w fun e w' => e = .returned (.int .i64 (0 : Nat)) ∧ Gr w w')
    (A3 : ∀ w, Calls Tryz.prog 24 #[.agg #[.int .i64 px, .int .i64 py]] w fun e w' => e = .returned (.bool true) ∧ Gr w w')
    (A4 : ∀ w, Gr W w → Calls Tryz.prog 9 #[] w fun e w' => e = .returned (.bool true) ∧ Gr w w')
    (K1 : ∀ w x, Gr W w → Pts w x n X (fun i => upZ y (Y i)) → Calls Tryz.prog 33 #[.agg #[.int .i64 k, x]] w fun e w' => e = .returned (.int .i64 (c4 : Nat)) ∧ Gr w w')
    (K2 : ∀ w x, Gr W w → Pts w x m P (fun i => upZ y (Q i)) → Calls Tryz.prog 31 #[qryV kq lx (upZ y ly) hx (upZ y hy) x] w fun e w' => e = .returned (.int .i64 (c5 : Nat)) ∧ Gr w w')
    (K3 : ∀ w, Calls Tryz.prog 24 #[.agg #[.int .i64 px, .int .i64 (upZ y py)]] w fun e w' => e = .returned (.bool b6) ∧ Gr w w')
    (K4 : c4 = 0 → c5 = 0 → ∀ w x r, Gr W w → Pts w x n X (fun i => upZ y (Y i)) → Pts w r m P (fun i => upZ y (Q i)) → Calls Tryz.prog 13 #[.agg #[.int .i64 k, x], qryV kq lx (upZ y ly) hx (upZ y hy) r] w fun e w' => e = .returned (.bool z) ∧ Gr w w')
    (K5 : ∀ w, Gr W w → Calls Tryz.prog 13 #[.agg #[.int .i64 k, v], qryV kq lx ly hx hy u] w fun e w' => e = .returned (.bool z) ∧ Gr w w')
    (K6 : c4 = 0 → b6 = true → ∀ w x, Gr W w → Pts w x n X (fun i => upZ y (Y i)) → Calls Tryz.prog 15 #[.agg #[.int .i64 k, x], .agg #[.int .i64 px, .int .i64 (upZ y py)]] w fun e w' => e = .returned (.agg #[.int .u64 dh, .int .u64 dl, .int .u64 dd]) ∧ Gr w w')
    (K7 : ∀ w, Gr W w → Calls Tryz.prog 15 #[.agg #[.int .i64 k, v], .agg #[.int .i64 px, .int .i64 py]] w fun e w' => e = .returned (.agg #[.int .u64 dh, .int .u64 dl, .int .u64 dd]) ∧ Gr w w') :
    Calls Tryz.prog 7 #[.agg #[.int .i64 k, v], qryV kq lx ly hx hy u, .agg #[.int .i64 px, .int .i64 py], .int .i64 y] W fun e w' => e = .returned (.bool true) ∧ Gr W w' := by
  obtain ⟨i0, hi0, hz0, hz1, hz2⟩ := info_parts (P := Tryz.prog) (e := 26) (z := .agg #[.int .i64 0, .int .i64 0]) (size := 2) (bytes := 16) (by kernel_rfl)
  have HI := Lib.hid (And.intro hi0 (And.intro hz0 (And.intro hz1 hz2)))
  obtain ⟨ad, cap, B, off, rfl, q1, q2, q3, q4⟩ := h
  obtain ⟨bd, bcap, C, oc, rfl, r1, r2, r3, r4⟩ := hu
  have HQ3 := Lib.hid q3
  have HQ4 := Lib.hid q4
  have HR3 := Lib.hid r3
  have HR4 := Lib.hid r4
  have e1 : (k == 2) = false := by simp; omega
  have e2 : decide (k = 2) = false := decide_eq_false hk
  have e3 : decide ((64 : Int) < (m : Int)) = false := decide_eq_false (by omega)
  have e4 : decide (64 < m) = false := decide_eq_false (by omega)
  have e7 : decide (y < -2147483648) = false := decide_eq_false (by omega)
  have e8 : decide ((2147483648 : Int) < y) = false := decide_eq_false (by omega)
  have e9 : ¬ y < -2147483648 := by omega
  have e10 : ¬ (2147483648 : Int) < y := by omega
  have HK1 := Lib.hid K1
  have HK2 := Lib.hid K2
  have HK3 := Lib.hid K3
  have HK4 := Lib.hid K4
  have HK5 := Lib.hid K5
  have HK6 := Lib.hid K6
  have HK7 := Lib.hid K7
  have H1 := Lib.hid A1
  have H2 := Lib.hid A2
  have H3 := Lib.hid A3
  have H4 := Lib.hid A4
  clear A1 A2 A3 A4
  clear q3 q4 r3 r4 hi0 hz0 hz1 hz2 hk hy0 K1 K2 K3 K4 K5 K6 K7
  go_enter Tryz.func7, Tryz.ntmps7
  go_wp2_with fail
  go_at_call 23
  refine ((H1.out _ (by go_grown))).mono ?_
  rintro e w1 ⟨rfl, hw1⟩
  have cw1_0_0 : w1.cell? ⟨W.heap.size, 0, none⟩ = some (.int .i64 k) := cell_gr hw1 (by go_simp)
  have cw1_0_1 : w1.cell? ⟨W.heap.size, 1, none⟩ = some (.slice ad n cap) := cell_gr hw1 (by go_simp)
  have zw1_0 : W.heap.size < w1.heap.size := World.block_lt_of_cell? _ _ cw1_0_0
  have cw1_1_0 : w1.cell? ⟨W.heap.size + 1, 0, none⟩ = some (.int .i64 kq) := cell_gr hw1 (by go_simp)
  have cw1_1_1 : w1.cell? ⟨W.heap.size + 1, 1, none⟩ = some (.int .i64 lx) := cell_gr hw1 (by go_simp)
  have cw1_1_2 : w1.cell? ⟨W.heap.size + 1, 2, none⟩ = some (.int .i64 ly) := cell_gr hw1 (by go_simp)
  have cw1_1_3 : w1.cell? ⟨W.heap.size + 1, 3, none⟩ = some (.int .i64 hx) := cell_gr hw1 (by go_simp)
  have cw1_1_4 : w1.cell? ⟨W.heap.size + 1, 4, none⟩ = some (.int .i64 hy) := cell_gr hw1 (by go_simp)
  have cw1_1_5 : w1.cell? ⟨W.heap.size + 1, 5, none⟩ = some (.slice bd m bcap) := cell_gr hw1 (by go_simp)
  have zw1_1 : W.heap.size + 1 < w1.heap.size := World.block_lt_of_cell? _ _ cw1_1_0
  have cw1_2_0 : w1.cell? ⟨W.heap.size + 1 + 1, 0, none⟩ = some (.int .i64 px) := cell_gr hw1 (by go_simp)
  have cw1_2_1 : w1.cell? ⟨W.heap.size + 1 + 1, 1, none⟩ = some (.int .i64 py) := cell_gr hw1 (by go_simp)
  have zw1_2 : W.heap.size + 1 + 1 < w1.heap.size := World.block_lt_of_cell? _ _ cw1_2_0
  have cw1_3_0 : w1.cell? ⟨W.heap.size + 1 + 1 + 1, 0, none⟩ = some (.int .i64 y) := cell_gr hw1 (by go_simp)
  have zw1_3 : W.heap.size + 1 + 1 + 1 < w1.heap.size := World.block_lt_of_cell? _ _ cw1_3_0
  have gw1 : Gr W w1 := Gr.trans (by go_grown) hw1
  clear hw1
  go_wp2_with fail
  go_at_call 31
  refine ((H2.out _ (by have gg := gw1; have gs := gg.size; go_grown))).mono ?_
  rintro e w2 ⟨rfl, hw2⟩
  have cw2_0_0 : w2.cell? ⟨W.heap.size, 0, none⟩ = some (.int .i64 k) := cell_gr hw2 (by go_simp)
  have cw2_0_1 : w2.cell? ⟨W.heap.size, 1, none⟩ = some (.slice ad n cap) := cell_gr hw2 (by go_simp)
  have zw2_0 : W.heap.size < w2.heap.size := World.block_lt_of_cell? _ _ cw2_0_0
  have cw2_1_0 : w2.cell? ⟨W.heap.size + 1, 0, none⟩ = some (.int .i64 kq) := cell_gr hw2 (by go_simp)
  have cw2_1_1 : w2.cell? ⟨W.heap.size + 1, 1, none⟩ = some (.int .i64 lx) := cell_gr hw2 (by go_simp)
  have cw2_1_2 : w2.cell? ⟨W.heap.size + 1, 2, none⟩ = some (.int .i64 ly) := cell_gr hw2 (by go_simp)
  have cw2_1_3 : w2.cell? ⟨W.heap.size + 1, 3, none⟩ = some (.int .i64 hx) := cell_gr hw2 (by go_simp)
  have cw2_1_4 : w2.cell? ⟨W.heap.size + 1, 4, none⟩ = some (.int .i64 hy) := cell_gr hw2 (by go_simp)
  have cw2_1_5 : w2.cell? ⟨W.heap.size + 1, 5, none⟩ = some (.slice bd m bcap) := cell_gr hw2 (by go_simp)
  have zw2_1 : W.heap.size + 1 < w2.heap.size := World.block_lt_of_cell? _ _ cw2_1_0
  have cw2_2_0 : w2.cell? ⟨W.heap.size + 1 + 1, 0, none⟩ = some (.int .i64 px) := cell_gr hw2 (by go_simp)
  have cw2_2_1 : w2.cell? ⟨W.heap.size + 1 + 1, 1, none⟩ = some (.int .i64 py) := cell_gr hw2 (by go_simp)
  have zw2_2 : W.heap.size + 1 + 1 < w2.heap.size := World.block_lt_of_cell? _ _ cw2_2_0
  have cw2_3_0 : w2.cell? ⟨W.heap.size + 1 + 1 + 1, 0, none⟩ = some (.int .i64 y) := cell_gr hw2 (by go_simp)
  have zw2_3 : W.heap.size + 1 + 1 + 1 < w2.heap.size := World.block_lt_of_cell? _ _ cw2_3_0
  have gw2 : Gr W w2 := Gr.trans (by have gg := gw1; have gs := gg.size; go_grown) hw2
  clear hw2 gw1 zw1_0 cw1_0_0 cw1_0_1 zw1_1 cw1_1_0 cw1_1_1 cw1_1_2 cw1_1_3 cw1_1_4 cw1_1_5 zw1_2 cw1_2_0 cw1_2_1 zw1_3 cw1_3_0
  go_wp2_with fail
  go_at_call 24
  refine ((H3.out _)).mono ?_
  rintro e w3 ⟨rfl, hw3⟩
  have cw3_0_0 : w3.cell? ⟨W.heap.size, 0, none⟩ = some (.int .i64 k) := cell_gr hw3 (by go_simp)
  have cw3_0_1 : w3.cell? ⟨W.heap.size, 1, none⟩ = some (.slice ad n cap) := cell_gr hw3 (by go_simp)
  have zw3_0 : W.heap.size < w3.heap.size := World.block_lt_of_cell? _ _ cw3_0_0
  have cw3_1_0 : w3.cell? ⟨W.heap.size + 1, 0, none⟩ = some (.int .i64 kq) := cell_gr hw3 (by go_simp)
  have cw3_1_1 : w3.cell? ⟨W.heap.size + 1, 1, none⟩ = some (.int .i64 lx) := cell_gr hw3 (by go_simp)
  have cw3_1_2 : w3.cell? ⟨W.heap.size + 1, 2, none⟩ = some (.int .i64 ly) := cell_gr hw3 (by go_simp)
  have cw3_1_3 : w3.cell? ⟨W.heap.size + 1, 3, none⟩ = some (.int .i64 hx) := cell_gr hw3 (by go_simp)
  have cw3_1_4 : w3.cell? ⟨W.heap.size + 1, 4, none⟩ = some (.int .i64 hy) := cell_gr hw3 (by go_simp)
  have cw3_1_5 : w3.cell? ⟨W.heap.size + 1, 5, none⟩ = some (.slice bd m bcap) := cell_gr hw3 (by go_simp)
  have zw3_1 : W.heap.size + 1 < w3.heap.size := World.block_lt_of_cell? _ _ cw3_1_0
  have cw3_2_0 : w3.cell? ⟨W.heap.size + 1 + 1, 0, none⟩ = some (.int .i64 px) := cell_gr hw3 (by go_simp)
  have cw3_2_1 : w3.cell? ⟨W.heap.size + 1 + 1, 1, none⟩ = some (.int .i64 py) := cell_gr hw3 (by go_simp)
  have zw3_2 : W.heap.size + 1 + 1 < w3.heap.size := World.block_lt_of_cell? _ _ cw3_2_0
  have cw3_3_0 : w3.cell? ⟨W.heap.size + 1 + 1 + 1, 0, none⟩ = some (.int .i64 y) := cell_gr hw3 (by go_simp)
  have zw3_3 : W.heap.size + 1 + 1 + 1 < w3.heap.size := World.block_lt_of_cell? _ _ cw3_3_0
  have gw3 : Gr W w3 := Gr.trans (by have gg := gw2; have gs := gg.size; go_grown) hw3
  clear hw3 gw2 zw2_0 cw2_0_0 cw2_0_1 zw2_1 cw2_1_0 cw2_1_1 cw2_1_2 cw2_1_3 cw2_1_4 cw2_1_5 zw2_2 cw2_2_0 cw2_2_1 zw2_3 cw2_3_0
  clear H1 H2 H3
  go_wp2_with fail
  clear e1 e2 e3 e4 e7 e8 e9 e10
  go_loopg [11] n (fun j x wr => ∃ i : Nat, x = .int .i64 i ∧ i ≤ n ∧ j = n - i ∧ wr.cell? ⟨w3.heap.size, 0, none⟩ = some (.int .i64 k) ∧ (∃ bb, wr.cell? ⟨w3.heap.size, 1, none⟩ = some bb ∧ wr.ownsRow (w3.heap.size + 1) 26 2 bb i (rowP X (fun i => upZ y (Y i)) i)) ∧ wr.frozen? ⟨w3.heap.size, 0, none⟩ = false ∧ wr.frozen? ⟨w3.heap.size, 1, none⟩ = false ∧ Gr w3 wr)
  case atStart => exact ⟨0, rfl, Nat.zero_le _, by omega, by go_simp, ⟨_, by go_simp, World.ownsRow_nil _ _ _ _⟩, by go_simp, by go_simp, by go_grown⟩
  case round =>
    obtain ⟨i, rfl, hi, hgk, c0, ⟨bb, c1, hO⟩, f0, f1, gwr⟩ := hrel
    have HO := Lib.hid hO
    have o0 := cell_gr gwr cw3_0_0
    have o1 := cell_gr gwr cw3_0_1
    have a0 := cell_gr gwr cw3_1_0
    have a1 := cell_gr gwr cw3_1_1
    have a2 := cell_gr gwr cw3_1_2
    have a3 := cell_gr gwr cw3_1_3
    have a4 := cell_gr gwr cw3_1_4
    have a5 := cell_gr gwr cw3_1_5
    have p0 := cell_gr gwr cw3_2_0
    have p1 := cell_gr gwr cw3_2_1
    have y0 := cell_gr gwr cw3_3_0
    have zwr : w3.heap.size < wr.heap.size := World.block_lt_of_cell? _ _ c0
    clear hO cw3_0_0 cw3_0_1 cw3_1_0 cw3_1_1 cw3_1_2 cw3_1_3 cw3_1_4 cw3_1_5 cw3_2_0 cw3_2_1 cw3_3_0 zw3_0 zw3_1 zw3_2
    by_cases hlt : i < n
    · have ti : decide ((i : Int) < (n : Int)) = true := decide_eq_true (by omega)
      have ti2 : decide (i < n) = true := decide_eq_true hlt
      have ti3 : (i : Int) < (n : Int) := by omega
      have hii : (i : Int) ≤ 64 := by omega
      have hmm : n - (i + 1) < gk := by omega
      obtain ⟨k0, k1⟩ := HQ4.out i hlt
      obtain rfl := HQ3.out (by omega)
      have s0 := cell_gr (Gr.trans gw3 gwr) k0
      have s1 := cell_gr (Gr.trans gw3 gwr) k1
      have zB : B < W.heap.size := World.block_lt_of_cell? _ _ k0
      have hnb : ∀ k, bb.ownBlock = some k → w3.heap.size + 1 ≤ k := fun k hk => (World.ownsRow.lt HO.out k hk).1
      have HNB := Lib.hid hnb
      have eR : rowP X (fun i => upZ y (Y i)) (i + 1) = rowP X (fun i => upZ y (Y i)) i ++ [.int .i64 (X i), .int .i64 (upZ y (Y i))] := rfl
      have HE := Lib.hid eR
      have CU := fun w hw => c_up6 (X i) (Y i) y (W.heap.size + 1 + 1 + 1) w hw
      generalize upZ y (Y i) = uy at CU HE
      generalize X i = xi at s0 CU HE
      generalize Y i = yi at s1 CU
      have HCU := Lib.hid CU
      clear k0 k1 eR CU hnb hgk
      go_wp2_with fail
      try simp only [List.append]
      refine Oe.wp_region_ordT (R := Kx (fun k => w3.heap.size + 1 ≤ k)) 12 [(0, false), (1, false), (2, false), (3, false), (4, false), (5, false), (6, false), (7, false), (8, true), (9, true), (10, true), (11, false)] (by kernel_rfl) (by kernel_rfl) ?_
      intro v3 hv3 KQ hKQ
      have hhv3 := Kx.of_gr (S := (fun k => w3.heap.size + 1 ≤ k)) hv3
      have cv3_0_0 : v3.cell? ⟨W.heap.size, 0, none⟩ = some (.int .i64 k) := cell_kx hhv3 (by show ¬ (w3.heap.size + 1 ≤ W.heap.size); omega) (by go_simp)
      have cv3_0_1 : v3.cell? ⟨W.heap.size, 1, none⟩ = some (.slice (some ⟨B, off, none⟩) n cap) := cell_kx hhv3 (by show ¬ (w3.heap.size + 1 ≤ W.heap.size); omega) (by go_simp)
      have zv3_0 : W.heap.size < v3.heap.size := World.block_lt_of_cell? _ _ cv3_0_0
      have cv3_1_0 : v3.cell? ⟨W.heap.size + 1 + 1 + 1, 0, none⟩ = some (.int .i64 y) := cell_kx hhv3 (by show ¬ (w3.heap.size + 1 ≤ W.heap.size + 1 + 1 + 1); omega) (by go_simp)
      have zv3_1 : W.heap.size + 1 + 1 + 1 < v3.heap.size := World.block_lt_of_cell? _ _ cv3_1_0
      have cv3_2_0 : v3.cell? ⟨B, off + i * 2, none⟩ = some (.int .i64 xi) := cell_kx hhv3 (by show ¬ (w3.heap.size + 1 ≤ B); omega) (by go_simp)
      have cv3_2_1 : v3.cell? ⟨B, off + i * 2 + 1, none⟩ = some (.int .i64 yi) := cell_kx hhv3 (by show ¬ (w3.heap.size + 1 ≤ B); omega) (by go_simp)
      have zv3_2 : B < v3.heap.size := World.block_lt_of_cell? _ _ cv3_2_0
      have cv3_3_0 : v3.cell? ⟨w3.heap.size, 0, none⟩ = some (.int .i64 k) := cell_kx hhv3 (by show ¬ (w3.heap.size + 1 ≤ w3.heap.size); omega) (by go_simp)
      have fv3_3_0 : v3.frozen? ⟨w3.heap.size, 0, none⟩ = false := frozen_kx (v := .int .i64 k) hhv3 (by show ¬ (w3.heap.size + 1 ≤ w3.heap.size); omega) (by go_simp) (by go_simp)
      have cv3_3_1 : v3.cell? ⟨w3.heap.size, 1, none⟩ = some (bb) := cell_kx hhv3 (by show ¬ (w3.heap.size + 1 ≤ w3.heap.size); omega) (by go_simp)
      have fv3_3_1 : v3.frozen? ⟨w3.heap.size, 1, none⟩ = false := frozen_kx (v := bb) hhv3 (by show ¬ (w3.heap.size + 1 ≤ w3.heap.size); omega) (by go_simp) (by go_simp)
      have zv3_3 : w3.heap.size < v3.heap.size := World.block_lt_of_cell? _ _ cv3_3_0
      have gv3 : Gr w3 v3 := Kx.gr hhv3 (by have gg := gwr; have gs := gg.size; go_grown) (fun k hk => by have hk2 : w3.heap.size + 1 ≤ k := hk; omega)
      have sv3 := hhv3.size
      clear gwr
      clear hhv3
      repeat (first | (refine Oe.wpO_skip (by simp only [List.getElem?_toArray, List.getElem?_cons_succ, List.getElem?_cons_zero] <;> rfl) rfl ?_; simp only [Act.put, List.setIfInBounds_toArray, List.set_cons_zero, List.set_cons_succ]) | (refine Oe.wpO_pure (by simp only [List.getElem?_toArray, List.getElem?_cons_succ, List.getElem?_cons_zero] <;> rfl) rfl ?_; apply Exists.intro; refine ⟨?_, ?_⟩; (· intro wx gx; have cx_0_0 : wx.cell? ⟨W.heap.size, 0, none⟩ = some (.int .i64 k) := cell_kx gx (by show ¬ (w3.heap.size + 1 ≤ W.heap.size); omega) cv3_0_0; have cx_0_1 : wx.cell? ⟨W.heap.size, 1, none⟩ = some (.slice (some ⟨B, off, none⟩) n cap) := cell_kx gx (by show ¬ (w3.heap.size + 1 ≤ W.heap.size); omega) cv3_0_1; have zx_0 : W.heap.size < wx.heap.size := World.block_lt_of_cell? _ _ cx_0_0; have cx_1_0 : wx.cell? ⟨W.heap.size + 1 + 1 + 1, 0, none⟩ = some (.int .i64 y) := cell_kx gx (by show ¬ (w3.heap.size + 1 ≤ W.heap.size + 1 + 1 + 1); omega) cv3_1_0; have zx_1 : W.heap.size + 1 + 1 + 1 < wx.heap.size := World.block_lt_of_cell? _ _ cx_1_0; have cx_2_0 : wx.cell? ⟨B, off + i * 2, none⟩ = some (.int .i64 xi) := cell_kx gx (by show ¬ (w3.heap.size + 1 ≤ B); omega) cv3_2_0; have cx_2_1 : wx.cell? ⟨B, off + i * 2 + 1, none⟩ = some (.int .i64 yi) := cell_kx gx (by show ¬ (w3.heap.size + 1 ≤ B); omega) cv3_2_1; have zx_2 : B < wx.heap.size := World.block_lt_of_cell? _ _ cx_2_0; have cx_3_0 : wx.cell? ⟨w3.heap.size, 0, none⟩ = some (.int .i64 k) := cell_kx gx (by show ¬ (w3.heap.size + 1 ≤ w3.heap.size); omega) cv3_3_0; have cx_3_1 : wx.cell? ⟨w3.heap.size, 1, none⟩ = some (bb) := cell_kx gx (by show ¬ (w3.heap.size + 1 ≤ w3.heap.size); omega) cv3_3_1; have zx_3 : w3.heap.size < wx.heap.size := World.block_lt_of_cell? _ _ cx_3_0; clear gx; all_goals (apply Oe.pAt_of_quiet; intro K hK; go_big_quiet_op; first | exact hK _ rfl | (apply Exists.intro; refine ⟨fun _ => ?_, ?_⟩; (· fail); exact hK _ rfl))); try simp only [Act.put, List.setIfInBounds_toArray, List.set_cons_zero, List.set_cons_succ]))
      have O3 := Lib.hid (show v3.ownsRow (w3.heap.size + 1) 26 2 bb i _ from rowOwn_gr HO.out hv3)
      clear hv3 HO
      refine Oe.wpO_call (by simp only [List.getElem?_toArray, List.getElem?_cons_succ, List.getElem?_cons_zero] <;> rfl) rfl ?_
      intro QS hQS
      go_wp2_with fail
      go_at_call 32
      (with_reducible refine ((HCU.out _ cv3_1_0)).mono ?_)
      rintro e v4 ⟨rfl, hv4⟩
      have hhv4 : Kx (fun k => w3.heap.size + 1 ≤ k) v3 v4 := Kx.of_gr hv4
      go_wp2_with fail
      first | (apply Exists.intro; refine ⟨?_, hhv4, ?_⟩; (· simp only [Act.put, List.setIfInBounds_toArray, List.set_cons_zero, List.set_cons_succ]; rfl)) | (refine ⟨hhv4, ?_⟩)
      have cv4_0_0 : v4.cell? ⟨W.heap.size, 0, none⟩ = some (.int .i64 k) := cell_kx hhv4 (by show ¬ (w3.heap.size + 1 ≤ W.heap.size); omega) (by go_simp)
      have cv4_0_1 : v4.cell? ⟨W.heap.size, 1, none⟩ = some (.slice (some ⟨B, off, none⟩) n cap) := cell_kx hhv4 (by show ¬ (w3.heap.size + 1 ≤ W.heap.size); omega) (by go_simp)
      have zv4_0 : W.heap.size < v4.heap.size := World.block_lt_of_cell? _ _ cv4_0_0
      have cv4_1_0 : v4.cell? ⟨W.heap.size + 1 + 1 + 1, 0, none⟩ = some (.int .i64 y) := cell_kx hhv4 (by show ¬ (w3.heap.size + 1 ≤ W.heap.size + 1 + 1 + 1); omega) (by go_simp)
      have zv4_1 : W.heap.size + 1 + 1 + 1 < v4.heap.size := World.block_lt_of_cell? _ _ cv4_1_0
      have cv4_2_0 : v4.cell? ⟨B, off + i * 2, none⟩ = some (.int .i64 xi) := cell_kx hhv4 (by show ¬ (w3.heap.size + 1 ≤ B); omega) (by go_simp)
      have cv4_2_1 : v4.cell? ⟨B, off + i * 2 + 1, none⟩ = some (.int .i64 yi) := cell_kx hhv4 (by show ¬ (w3.heap.size + 1 ≤ B); omega) (by go_simp)
      have zv4_2 : B < v4.heap.size := World.block_lt_of_cell? _ _ cv4_2_0
      have cv4_3_0 : v4.cell? ⟨w3.heap.size, 0, none⟩ = some (.int .i64 k) := cell_kx hhv4 (by show ¬ (w3.heap.size + 1 ≤ w3.heap.size); omega) (by go_simp)
      have fv4_3_0 : v4.frozen? ⟨w3.heap.size, 0, none⟩ = false := frozen_kx (v := .int .i64 k) hhv4 (by show ¬ (w3.heap.size + 1 ≤ w3.heap.size); omega) (by go_simp) (by go_simp)
      have cv4_3_1 : v4.cell? ⟨w3.heap.size, 1, none⟩ = some (bb) := cell_kx hhv4 (by show ¬ (w3.heap.size + 1 ≤ w3.heap.size); omega) (by go_simp)
      have fv4_3_1 : v4.frozen? ⟨w3.heap.size, 1, none⟩ = false := frozen_kx (v := bb) hhv4 (by show ¬ (w3.heap.size + 1 ≤ w3.heap.size); omega) (by go_simp) (by go_simp)
      have zv4_3 : w3.heap.size < v4.heap.size := World.block_lt_of_cell? _ _ cv4_3_0
      have gv4 : Gr w3 v4 := Kx.gr hhv4 gv3 (fun k hk => by have hk2 : w3.heap.size + 1 ≤ k := hk; omega)
      have sv4 := hhv4.size
      clear gv3 zv3_0 cv3_0_0 cv3_0_1 zv3_1 cv3_1_0 zv3_2 cv3_2_0 cv3_2_1 zv3_3 cv3_3_0 fv3_3_0 cv3_3_1 fv3_3_1
      clear hhv4
      try simp only [Act.put, List.setIfInBounds_toArray, List.set_cons_zero, List.set_cons_succ]
      repeat (first | (refine Oe.wpO_skip (by simp only [List.getElem?_toArray, List.getElem?_cons_succ, List.getElem?_cons_zero] <;> rfl) rfl ?_; simp only [Act.put, List.setIfInBounds_toArray, List.set_cons_zero, List.set_cons_succ]) | (refine Oe.wpO_pure (by simp only [List.getElem?_toArray, List.getElem?_cons_succ, List.getElem?_cons_zero] <;> rfl) rfl ?_; apply Exists.intro; refine ⟨?_, ?_⟩; (· intro wx gx; have cx_0_0 : wx.cell? ⟨W.heap.size, 0, none⟩ = some (.int .i64 k) := cell_kx gx (by show ¬ (w3.heap.size + 1 ≤ W.heap.size); omega) cv4_0_0; have cx_0_1 : wx.cell? ⟨W.heap.size, 1, none⟩ = some (.slice (some ⟨B, off, none⟩) n cap) := cell_kx gx (by show ¬ (w3.heap.size + 1 ≤ W.heap.size); omega) cv4_0_1; have zx_0 : W.heap.size < wx.heap.size := World.block_lt_of_cell? _ _ cx_0_0; have cx_1_0 : wx.cell? ⟨W.heap.size + 1 + 1 + 1, 0, none⟩ = some (.int .i64 y) := cell_kx gx (by show ¬ (w3.heap.size + 1 ≤ W.heap.size + 1 + 1 + 1); omega) cv4_1_0; have zx_1 : W.heap.size + 1 + 1 + 1 < wx.heap.size := World.block_lt_of_cell? _ _ cx_1_0; have cx_2_0 : wx.cell? ⟨B, off + i * 2, none⟩ = some (.int .i64 xi) := cell_kx gx (by show ¬ (w3.heap.size + 1 ≤ B); omega) cv4_2_0; have cx_2_1 : wx.cell? ⟨B, off + i * 2 + 1, none⟩ = some (.int .i64 yi) := cell_kx gx (by show ¬ (w3.heap.size + 1 ≤ B); omega) cv4_2_1; have zx_2 : B < wx.heap.size := World.block_lt_of_cell? _ _ cx_2_0; have cx_3_0 : wx.cell? ⟨w3.heap.size, 0, none⟩ = some (.int .i64 k) := cell_kx gx (by show ¬ (w3.heap.size + 1 ≤ w3.heap.size); omega) cv4_3_0; have cx_3_1 : wx.cell? ⟨w3.heap.size, 1, none⟩ = some (bb) := cell_kx gx (by show ¬ (w3.heap.size + 1 ≤ w3.heap.size); omega) cv4_3_1; have zx_3 : w3.heap.size < wx.heap.size := World.block_lt_of_cell? _ _ cx_3_0; clear gx; all_goals (apply Oe.pAt_of_quiet; intro K hK; go_big_quiet_op; first | exact hK _ rfl | (apply Exists.intro; refine ⟨fun _ => ?_, ?_⟩; (· fail); exact hK _ rfl))); try simp only [Act.put, List.setIfInBounds_toArray, List.set_cons_zero, List.set_cons_succ]))
      have O4 := Lib.hid (rowOwn_gr O3.out hv4)
      clear hv4 O3
      refine Oe.wpO_call (by simp only [List.getElem?_toArray, List.getElem?_cons_succ, List.getElem?_cons_zero] <;> rfl) rfl ?_
      intro QS hQS
      go_wp2_with fail
      first | (apply Exists.intro; refine ⟨?_, Kx.of_gr (by go_grown), ?_⟩; (· simp only [Act.put, List.setIfInBounds_toArray, List.set_cons_zero, List.set_cons_succ]; rfl)) | (refine ⟨Kx.of_gr (by go_grown), ?_⟩)
      generalize hhv5 : (v4.alloc (.cells #[.int .i64 xi, .int .i64 uy] 26)) = v5
      have hv5 : Gr v4 v5 := by subst hhv5; go_grown
      have cv5_0_0 : v5.cell? ⟨W.heap.size, 0, none⟩ = some (.int .i64 k) := by subst hhv5; go_simp
      have cv5_0_1 : v5.cell? ⟨W.heap.size, 1, none⟩ = some (.slice (some ⟨B, off, none⟩) n cap) := by subst hhv5; go_simp
      have zv5_0 : W.heap.size < v5.heap.size := World.block_lt_of_cell? _ _ cv5_0_0
      have cv5_1_0 : v5.cell? ⟨W.heap.size + 1 + 1 + 1, 0, none⟩ = some (.int .i64 y) := by subst hhv5; go_simp
      have zv5_1 : W.heap.size + 1 + 1 + 1 < v5.heap.size := World.block_lt_of_cell? _ _ cv5_1_0
      have cv5_2_0 : v5.cell? ⟨B, off + i * 2, none⟩ = some (.int .i64 xi) := by subst hhv5; go_simp
      have cv5_2_1 : v5.cell? ⟨B, off + i * 2 + 1, none⟩ = some (.int .i64 yi) := by subst hhv5; go_simp
      have zv5_2 : B < v5.heap.size := World.block_lt_of_cell? _ _ cv5_2_0
      have cv5_3_0 : v5.cell? ⟨w3.heap.size, 0, none⟩ = some (.int .i64 k) := by subst hhv5; go_simp
      have fv5_3_0 : v5.frozen? ⟨w3.heap.size, 0, none⟩ = false := by subst hhv5; go_simp
      have cv5_3_1 : v5.cell? ⟨w3.heap.size, 1, none⟩ = some (bb) := by subst hhv5; go_simp
      have fv5_3_1 : v5.frozen? ⟨w3.heap.size, 1, none⟩ = false := by subst hhv5; go_simp
      have zv5_3 : w3.heap.size < v5.heap.size := World.block_lt_of_cell? _ _ cv5_3_0
      have cv5_4_0 : v5.cell? ⟨v4.heap.size, 0, none⟩ = some (.int .i64 xi) := by subst hhv5; go_simp
      have cv5_4_1 : v5.cell? ⟨v4.heap.size, 1, none⟩ = some (.int .i64 uy) := by subst hhv5; go_simp
      have zv5_4 : v4.heap.size < v5.heap.size := World.block_lt_of_cell? _ _ cv5_4_0
      have gv5 : Gr w3 v5 := Gr.trans (by have gg := gv4; have gs := gg.size; go_grown) hv5
      have sv5 := hv5.size
      clear hhv5 gv4 zv4_0 cv4_0_0 cv4_0_1 zv4_1 cv4_1_0 zv4_2 cv4_2_0 cv4_2_1 zv4_3 cv4_3_0 fv4_3_0 cv4_3_1 fv4_3_1
      try simp only [Act.put, List.setIfInBounds_toArray, List.set_cons_zero, List.set_cons_succ]
      repeat (first | (refine Oe.wpO_skip (by simp only [List.getElem?_toArray, List.getElem?_cons_succ, List.getElem?_cons_zero] <;> rfl) rfl ?_; simp only [Act.put, List.setIfInBounds_toArray, List.set_cons_zero, List.set_cons_succ]) | (refine Oe.wpO_pure (by simp only [List.getElem?_toArray, List.getElem?_cons_succ, List.getElem?_cons_zero] <;> rfl) rfl ?_; apply Exists.intro; refine ⟨?_, ?_⟩; (· intro wx gx; have cx_0_0 : wx.cell? ⟨W.heap.size, 0, none⟩ = some (.int .i64 k) := cell_kx gx (by show ¬ (w3.heap.size + 1 ≤ W.heap.size); omega) cv5_0_0; have cx_0_1 : wx.cell? ⟨W.heap.size, 1, none⟩ = some (.slice (some ⟨B, off, none⟩) n cap) := cell_kx gx (by show ¬ (w3.heap.size + 1 ≤ W.heap.size); omega) cv5_0_1; have zx_0 : W.heap.size < wx.heap.size := World.block_lt_of_cell? _ _ cx_0_0; have cx_1_0 : wx.cell? ⟨W.heap.size + 1 + 1 + 1, 0, none⟩ = some (.int .i64 y) := cell_kx gx (by show ¬ (w3.heap.size + 1 ≤ W.heap.size + 1 + 1 + 1); omega) cv5_1_0; have zx_1 : W.heap.size + 1 + 1 + 1 < wx.heap.size := World.block_lt_of_cell? _ _ cx_1_0; have cx_2_0 : wx.cell? ⟨B, off + i * 2, none⟩ = some (.int .i64 xi) := cell_kx gx (by show ¬ (w3.heap.size + 1 ≤ B); omega) cv5_2_0; have cx_2_1 : wx.cell? ⟨B, off + i * 2 + 1, none⟩ = some (.int .i64 yi) := cell_kx gx (by show ¬ (w3.heap.size + 1 ≤ B); omega) cv5_2_1; have zx_2 : B < wx.heap.size := World.block_lt_of_cell? _ _ cx_2_0; have cx_3_0 : wx.cell? ⟨w3.heap.size, 0, none⟩ = some (.int .i64 k) := cell_kx gx (by show ¬ (w3.heap.size + 1 ≤ w3.heap.size); omega) cv5_3_0; have cx_3_1 : wx.cell? ⟨w3.heap.size, 1, none⟩ = some (bb) := cell_kx gx (by show ¬ (w3.heap.size + 1 ≤ w3.heap.size); omega) cv5_3_1; have zx_3 : w3.heap.size < wx.heap.size := World.block_lt_of_cell? _ _ cx_3_0; have cx_4_0 : wx.cell? ⟨v4.heap.size, 0, none⟩ = some (.int .i64 xi) := cell_kx gx (by show ¬ (w3.heap.size + 1 ≤ v4.heap.size); omega) cv5_4_0; have cx_4_1 : wx.cell? ⟨v4.heap.size, 1, none⟩ = some (.int .i64 uy) := cell_kx gx (by show ¬ (w3.heap.size + 1 ≤ v4.heap.size); omega) cv5_4_1; have zx_4 : v4.heap.size < wx.heap.size := World.block_lt_of_cell? _ _ cx_4_0; clear gx; all_goals (apply Oe.pAt_of_quiet; intro K hK; go_big_quiet_op; first | exact hK _ rfl | (apply Exists.intro; refine ⟨fun _ => ?_, ?_⟩; (· fail); exact hK _ rfl))); try simp only [Act.put, List.setIfInBounds_toArray, List.set_cons_zero, List.set_cons_succ]))
      have O5 := Lib.hid (show v5.ownsRow (w3.heap.size + 1) 26 2 bb i _ from rowOwn_gr O4.out hv5)
      have N5 := Lib.hid (news2_6 cv5_4_0 cv5_4_1)
      have Z5 : w3.heap.size + 1 ≤ v5.heap.size := by have := World.block_lt_of_cell? _ _ cv5_3_0; omega
      clear hv5 O4
      refine Oe.wpO_call (by simp only [List.getElem?_toArray, List.getElem?_cons_succ, List.getElem?_cons_zero] <;> rfl) rfl ?_
      intro QS hQS
      refine (wpList_append_own2 _ rfl (.tmp 59) (.tmp 67) 22 rfl (w3.heap.size + 1) 26 i0 (.agg #[.int .i64 0, .int .i64 0]) 2 16 Tryz.underlying22 HI.out.1 HI.out.2.1 HI.out.2.2.1 HI.out.2.2.2 rfl (by decide) bb i (rowP X (fun i => upZ y (Y i)) i) rfl O5.out ⟨v4.heap.size, 0, none⟩ 1 1 [.int .i64 xi, .int .i64 uy] rfl rfl N5.out (ones2_6 _ _) (by unfold maxLen; omega) (by omega) Z5 ?_)
      intro b6 v6 o6 g6
      have hhv6 : Kx (fun k => w3.heap.size + 1 ≤ k) v5 v6 := kx_grown6 g6 (fun k hk => by have := HNB.out k hk; show w3.heap.size + 1 ≤ k; omega)
      refine hQS _ _ ⟨_, rfl, hhv6, ?_⟩
      clear hQS QS
      have cv6_0_0 : v6.cell? ⟨W.heap.size, 0, none⟩ = some (.int .i64 k) := cell_kx hhv6 (by show ¬ (w3.heap.size + 1 ≤ W.heap.size); omega) (by go_simp)
      have cv6_0_1 : v6.cell? ⟨W.heap.size, 1, none⟩ = some (.slice (some ⟨B, off, none⟩) n cap) := cell_kx hhv6 (by show ¬ (w3.heap.size + 1 ≤ W.heap.size); omega) (by go_simp)
      have zv6_0 : W.heap.size < v6.heap.size := World.block_lt_of_cell? _ _ cv6_0_0
      have cv6_1_0 : v6.cell? ⟨W.heap.size + 1 + 1 + 1, 0, none⟩ = some (.int .i64 y) := cell_kx hhv6 (by show ¬ (w3.heap.size + 1 ≤ W.heap.size + 1 + 1 + 1); omega) (by go_simp)
      have zv6_1 : W.heap.size + 1 + 1 + 1 < v6.heap.size := World.block_lt_of_cell? _ _ cv6_1_0
      have cv6_2_0 : v6.cell? ⟨B, off + i * 2, none⟩ = some (.int .i64 xi) := cell_kx hhv6 (by show ¬ (w3.heap.size + 1 ≤ B); omega) (by go_simp)
      have cv6_2_1 : v6.cell? ⟨B, off + i * 2 + 1, none⟩ = some (.int .i64 yi) := cell_kx hhv6 (by show ¬ (w3.heap.size + 1 ≤ B); omega) (by go_simp)
      have zv6_2 : B < v6.heap.size := World.block_lt_of_cell? _ _ cv6_2_0
      have cv6_3_0 : v6.cell? ⟨w3.heap.size, 0, none⟩ = some (.int .i64 k) := cell_kx hhv6 (by show ¬ (w3.heap.size + 1 ≤ w3.heap.size); omega) (by go_simp)
      have fv6_3_0 : v6.frozen? ⟨w3.heap.size, 0, none⟩ = false := frozen_kx (v := .int .i64 k) hhv6 (by show ¬ (w3.heap.size + 1 ≤ w3.heap.size); omega) (by go_simp) (by go_simp)
      have cv6_3_1 : v6.cell? ⟨w3.heap.size, 1, none⟩ = some (bb) := cell_kx hhv6 (by show ¬ (w3.heap.size + 1 ≤ w3.heap.size); omega) (by go_simp)
      have fv6_3_1 : v6.frozen? ⟨w3.heap.size, 1, none⟩ = false := frozen_kx (v := bb) hhv6 (by show ¬ (w3.heap.size + 1 ≤ w3.heap.size); omega) (by go_simp) (by go_simp)
      have zv6_3 : w3.heap.size < v6.heap.size := World.block_lt_of_cell? _ _ cv6_3_0
      have gv6 : Gr w3 v6 := Kx.gr hhv6 gv5 (fun k hk => by have hk2 : w3.heap.size + 1 ≤ k := hk; omega)
      have sv6 := hhv6.size
      clear gv5 zv5_0 cv5_0_0 cv5_0_1 zv5_1 cv5_1_0 zv5_2 cv5_2_0 cv5_2_1 zv5_3 cv5_3_0 fv5_3_0 cv5_3_1 fv5_3_1 zv5_4 cv5_4_0 cv5_4_1
      clear hhv6
      try simp only [Act.put, List.setIfInBounds_toArray, List.set_cons_zero, List.set_cons_succ]
      repeat (first | (refine Oe.wpO_skip (by simp only [List.getElem?_toArray, List.getElem?_cons_succ, List.getElem?_cons_zero] <;> rfl) rfl ?_; simp only [Act.put, List.setIfInBounds_toArray, List.set_cons_zero, List.set_cons_succ]) | (refine Oe.wpO_pure (by simp only [List.getElem?_toArray, List.getElem?_cons_succ, List.getElem?_cons_zero] <;> rfl) rfl ?_; apply Exists.intro; refine ⟨?_, ?_⟩; (· intro wx gx; have cx_0_0 : wx.cell? ⟨W.heap.size, 0, none⟩ = some (.int .i64 k) := cell_kx gx (by show ¬ (w3.heap.size + 1 ≤ W.heap.size); omega) cv6_0_0; have cx_0_1 : wx.cell? ⟨W.heap.size, 1, none⟩ = some (.slice (some ⟨B, off, none⟩) n cap) := cell_kx gx (by show ¬ (w3.heap.size + 1 ≤ W.heap.size); omega) cv6_0_1; have zx_0 : W.heap.size < wx.heap.size := World.block_lt_of_cell? _ _ cx_0_0; have cx_1_0 : wx.cell? ⟨W.heap.size + 1 + 1 + 1, 0, none⟩ = some (.int .i64 y) := cell_kx gx (by show ¬ (w3.heap.size + 1 ≤ W.heap.size + 1 + 1 + 1); omega) cv6_1_0; have zx_1 : W.heap.size + 1 + 1 + 1 < wx.heap.size := World.block_lt_of_cell? _ _ cx_1_0; have cx_2_0 : wx.cell? ⟨B, off + i * 2, none⟩ = some (.int .i64 xi) := cell_kx gx (by show ¬ (w3.heap.size + 1 ≤ B); omega) cv6_2_0; have cx_2_1 : wx.cell? ⟨B, off + i * 2 + 1, none⟩ = some (.int .i64 yi) := cell_kx gx (by show ¬ (w3.heap.size + 1 ≤ B); omega) cv6_2_1; have zx_2 : B < wx.heap.size := World.block_lt_of_cell? _ _ cx_2_0; have cx_3_0 : wx.cell? ⟨w3.heap.size, 0, none⟩ = some (.int .i64 k) := cell_kx gx (by show ¬ (w3.heap.size + 1 ≤ w3.heap.size); omega) cv6_3_0; have cx_3_1 : wx.cell? ⟨w3.heap.size, 1, none⟩ = some (bb) := cell_kx gx (by show ¬ (w3.heap.size + 1 ≤ w3.heap.size); omega) cv6_3_1; have zx_3 : w3.heap.size < wx.heap.size := World.block_lt_of_cell? _ _ cx_3_0; clear gx; all_goals (apply Oe.pAt_of_quiet; intro K hK; go_big_quiet_op; first | exact hK _ rfl | (apply Exists.intro; refine ⟨fun _ => ?_, ?_⟩; (· fail); exact hK _ rfl))); try simp only [Act.put, List.setIfInBounds_toArray, List.set_cons_zero, List.set_cons_succ]))
      have O6 := Lib.hid (show v6.ownsRow (w3.heap.size + 1) 26 2 b6 (i + 1) (rowP X (fun i => upZ y (Y i)) (i + 1)) by rw [HE.out]; exact o6)
      clear o6 g6 O5 N5
      obtain ⟨rg, rc, rfl, _⟩ := row_form O6.out (by omega)
      refine Oe.wpO_nil (hKQ _ _ ?_)
      clear hKQ KQ
      go_wp2_with fail
      go_roundg (n - (i + 1))
      case measure => exact hmm
      case rel => exact ⟨i + 1, by go_num, hlt, rfl, by go_simp, ⟨_, by go_simp, ownsRow_setCell_below O6.out (by simp) _⟩, by go_simp, by go_simp, by have gg := gv6; have gs := gg.size; go_grown⟩
    · obtain rfl : i = n := by omega
      obtain ⟨wo, rfl⟩ : ∃ x, x = wr := ⟨wr, rfl⟩
      have ti : decide ((i : Int) < (i : Int)) = false := decide_eq_false (by omega)
      have ti2 : decide (i < i) = false := decide_eq_false (by omega)
      have hP := own_pts HO.out
      have HP := Lib.hid hP
      have G3 := Lib.hid (Gr.trans gw3 gwr)
      have hD : ∀ w, (binOp .eql 42 (.agg #[.int .u64 dh, .int .u64 dl, .int .u64 dd]) (.agg #[.int .u64 dh, .int .u64 dl, .int .u64 dd])).run Tryz.prog w = .ok (.bool true) w := fun w => by simp [go_sem]
      have HDD := Lib.hid hD
      clear hP HO hgk hD HQ3 HQ4 gw3
      obtain ⟨ul, hul⟩ : ∃ a, upZ y ly = a := ⟨_, rfl⟩
      obtain ⟨uh, huh⟩ : ∃ a, upZ y hy = a := ⟨_, rfl⟩
      obtain ⟨up, hup⟩ : ∃ a, upZ y py = a := ⟨_, rfl⟩
      have CL := fun w (g : Gr wo w) => c_up6 lx ly y (W.heap.size + 1 + 1 + 1) w (cell_gr g y0)
      have CH := fun w (g : Gr wo w) => c_up6 hx hy y (W.heap.size + 1 + 1 + 1) w (cell_gr g y0)
      have CP := fun w (g : Gr wo w) => c_up6 px py y (W.heap.size + 1 + 1 + 1) w (cell_gr g y0)
      rw [hul] at CL
      rw [huh] at CH
      rw [hup] at CP
      have M2 := HK2.out
      have M3 := HK3.out
      have M4 := HK4.out
      have M6 := HK6.out
      rw [hul, huh] at M2 M4
      rw [hup] at M3 M6
      have HCL := Lib.hid CL
      have HCH := Lib.hid CH
      have HCP := Lib.hid CP
      have HM2 := Lib.hid M2
      have HM3 := Lib.hid M3
      have HM4 := Lib.hid M4
      have HM6 := Lib.hid M6
      clear CL CH CP M2 M3 M4 M6 HK2 HK3 HK4 HK6 hul huh hup
      go_wp2_with fail
      refine Hm.wp_region_mk 15 14 12 #[.int .i64 0, .int .i64 0, .int .i64 0, .int .i64 0, .int .i64 0, .slice none 0 0] 30 (by kernel_rfl) (by simp only [List.getElem?_toArray, List.getElem?_cons_succ, List.getElem?_cons_zero] <;> rfl) (by kernel_rfl) (fun _ _ => ?_) ?_
      · unfold Oper.wp; go_simp
      intro KQ hKQ
      repeat (first | (refine Hm.wpG_sp (by decide) ?_ ?_; (· (try dsimp only); first | (rw [if_neg (by decide)]; trivial) | (rw [if_pos rfl]; (intro B w' g hB hw; have c0 : w'.cell? ⟨B, 0, none⟩ = some (.int .i64 0) := Hm.cell_of_heap hw 0; have f0 := Hm.frozen_of_heap hw 0; have c1 : w'.cell? ⟨B, 1, none⟩ = some (.int .i64 0) := Hm.cell_of_heap hw 1; have f1 := Hm.frozen_of_heap hw 1; have c2 : w'.cell? ⟨B, 2, none⟩ = some (.int .i64 0) := Hm.cell_of_heap hw 2; have f2 := Hm.frozen_of_heap hw 2; have c3 : w'.cell? ⟨B, 3, none⟩ = some (.int .i64 0) := Hm.cell_of_heap hw 3; have f3 := Hm.frozen_of_heap hw 3; have c4 : w'.cell? ⟨B, 4, none⟩ = some (.int .i64 0) := Hm.cell_of_heap hw 4; have f4 := Hm.frozen_of_heap hw 4; have c5 : w'.cell? ⟨B, 5, none⟩ = some (.slice none 0 0) := Hm.cell_of_heap hw 5; have f5 := Hm.frozen_of_heap hw 5; unfold Oper.wp; go_simp; exact ⟨((((((g.setCell hB _).setCell hB _).setCell hB _).setCell hB _).setCell hB _).setCell hB _), (Hm.heap_set_same (Hm.heap_set_same (Hm.heap_set_same (Hm.heap_set_same (Hm.heap_set_same (Hm.heap_set_same hw))))))⟩)))) | (refine Hm.wpG_skip (by decide) rfl ?_; simp only [Act.put, List.setIfInBounds_toArray, List.set_cons_zero, List.set_cons_succ]) | (refine Hm.wpG_want (by decide) rfl ?_; apply Exists.intro; refine ⟨?_, ?_⟩; (· intro wx gx; (obtain ⟨mx, rfl⟩ := spread_of_gr gx; clear gx); all_goals (apply Hd.gAt_of_quiet; intro K hK; go_big_quiet_op; first | exact hK _ rfl | (apply Exists.intro; refine ⟨fun _ => ?_, ?_⟩; (· (first | (go_at_call 32; first | ((with_reducible refine ((HCL.out _ (Gr.trans (gr_spread _ _) (gr_spread _ _)))).mono ?_); rintro e w' ⟨rfl, hg⟩; exact ⟨rfl, spread_gr hg⟩) | ((with_reducible refine ((HCH.out _ (Gr.trans (gr_spread _ _) (gr_spread _ _)))).mono ?_); rintro e w' ⟨rfl, hg⟩; exact ⟨rfl, spread_gr hg⟩)))); exact hK _ rfl))); try simp only [Act.put, List.setIfInBounds_toArray, List.set_cons_zero, List.set_cons_succ]))
      refine Hm.wpG_nil (hKQ _ ?_)
      clear hKQ KQ
      intro B5 v5 hv5 hBv5 hhv5
      have cv5_0_0 : v5.cell? ⟨W.heap.size, 0, none⟩ = some (.int .i64 k) := cell_gr hv5 (by go_simp)
      have cv5_0_1 : v5.cell? ⟨W.heap.size, 1, none⟩ = some (.slice ad i cap) := cell_gr hv5 (by go_simp)
      have zv5_0 : W.heap.size < v5.heap.size := World.block_lt_of_cell? _ _ cv5_0_0
      have cv5_1_0 : v5.cell? ⟨W.heap.size + 1, 0, none⟩ = some (.int .i64 kq) := cell_gr hv5 (by go_simp)
      have cv5_1_1 : v5.cell? ⟨W.heap.size + 1, 1, none⟩ = some (.int .i64 lx) := cell_gr hv5 (by go_simp)
      have cv5_1_2 : v5.cell? ⟨W.heap.size + 1, 2, none⟩ = some (.int .i64 ly) := cell_gr hv5 (by go_simp)
      have cv5_1_3 : v5.cell? ⟨W.heap.size + 1, 3, none⟩ = some (.int .i64 hx) := cell_gr hv5 (by go_simp)
      have cv5_1_4 : v5.cell? ⟨W.heap.size + 1, 4, none⟩ = some (.int .i64 hy) := cell_gr hv5 (by go_simp)
      have cv5_1_5 : v5.cell? ⟨W.heap.size + 1, 5, none⟩ = some (.slice bd m bcap) := cell_gr hv5 (by go_simp)
      have zv5_1 : W.heap.size + 1 < v5.heap.size := World.block_lt_of_cell? _ _ cv5_1_0
      have cv5_2_0 : v5.cell? ⟨W.heap.size + 1 + 1, 0, none⟩ = some (.int .i64 px) := cell_gr hv5 (by go_simp)
      have cv5_2_1 : v5.cell? ⟨W.heap.size + 1 + 1, 1, none⟩ = some (.int .i64 py) := cell_gr hv5 (by go_simp)
      have zv5_2 : W.heap.size + 1 + 1 < v5.heap.size := World.block_lt_of_cell? _ _ cv5_2_0
      have cv5_3_0 : v5.cell? ⟨W.heap.size + 1 + 1 + 1, 0, none⟩ = some (.int .i64 y) := cell_gr hv5 (by go_simp)
      have zv5_3 : W.heap.size + 1 + 1 + 1 < v5.heap.size := World.block_lt_of_cell? _ _ cv5_3_0
      have cv5_4_0 : v5.cell? ⟨w3.heap.size, 0, none⟩ = some (.int .i64 k) := cell_gr hv5 (by go_simp)
      have fv5_4_0 : v5.frozen? ⟨w3.heap.size, 0, none⟩ = false := frozen_gr (v := .int .i64 k) hv5 (by go_simp) (by go_simp)
      have cv5_4_1 : v5.cell? ⟨w3.heap.size, 1, none⟩ = some (bb) := cell_gr hv5 (by go_simp)
      have fv5_4_1 : v5.frozen? ⟨w3.heap.size, 1, none⟩ = false := frozen_gr (v := bb) hv5 (by go_simp) (by go_simp)
      have zv5_4 : w3.heap.size < v5.heap.size := World.block_lt_of_cell? _ _ cv5_4_0
      have cv5_5_0 : v5.cell? ⟨B5, 0, none⟩ = some (.int .i64 0) := Hm.cell_of_heap hhv5 0
      have cv5_5_1 : v5.cell? ⟨B5, 1, none⟩ = some (.int .i64 0) := Hm.cell_of_heap hhv5 1
      have cv5_5_2 : v5.cell? ⟨B5, 2, none⟩ = some (.int .i64 0) := Hm.cell_of_heap hhv5 2
      have cv5_5_3 : v5.cell? ⟨B5, 3, none⟩ = some (.int .i64 0) := Hm.cell_of_heap hhv5 3
      have cv5_5_4 : v5.cell? ⟨B5, 4, none⟩ = some (.int .i64 0) := Hm.cell_of_heap hhv5 4
      have cv5_5_5 : v5.cell? ⟨B5, 5, none⟩ = some (.slice none 0 0) := Hm.cell_of_heap hhv5 5
      have zv5_5 : B5 < v5.heap.size := World.block_lt_of_cell? _ _ cv5_5_0
      have gv5 : Gr wo v5 := Gr.trans (by go_grown) hv5
      have fv5_5_0 : v5.frozen? ⟨B5, 0, none⟩ = false := Hm.frozen_of_heap hhv5 0
      have fv5_5_1 : v5.frozen? ⟨B5, 1, none⟩ = false := Hm.frozen_of_heap hhv5 1
      have fv5_5_2 : v5.frozen? ⟨B5, 2, none⟩ = false := Hm.frozen_of_heap hhv5 2
      have fv5_5_3 : v5.frozen? ⟨B5, 3, none⟩ = false := Hm.frozen_of_heap hhv5 3
      have fv5_5_4 : v5.frozen? ⟨B5, 4, none⟩ = false := Hm.frozen_of_heap hhv5 4
      have fv5_5_5 : v5.frozen? ⟨B5, 5, none⟩ = false := Hm.frozen_of_heap hhv5 5
      clear hv5 hhv5
      have hB1 : W.heap.size ≠ B5 := by omega
      have hB2 : W.heap.size + 1 ≠ B5 := by omega
      have hB3 : W.heap.size + 1 + 1 ≠ B5 := by omega
      have hB4 : W.heap.size + 1 + 1 + 1 ≠ B5 := by omega
      have hB6 : w3.heap.size ≠ B5 := by omega
      have hC1 := Ne.symm hB1
      have hC2 := Ne.symm hB2
      have hC3 := Ne.symm hB3
      have hC4 := Ne.symm hB4
      have hC6 := Ne.symm hB6
      go_wp2_with fail
      generalize hhv6 : ((((((v5.setCell ⟨B5, 0, none⟩ (.int .i64 kq)).setCell ⟨B5, 1, none⟩ (.int .i64 lx)).setCell ⟨B5, 2, none⟩ (.int .i64 ul)).setCell ⟨B5, 3, none⟩ (.int .i64 hx)).setCell ⟨B5, 4, none⟩ (.int .i64 uh)).setCell ⟨B5, 5, none⟩ (.slice none 0 0)) = v6
      have cv6_0_0 : v6.cell? ⟨W.heap.size, 0, none⟩ = some (.int .i64 k) := by subst hhv6; go_simp
      have cv6_0_1 : v6.cell? ⟨W.heap.size, 1, none⟩ = some (.slice ad i cap) := by subst hhv6; go_simp
      have zv6_0 : W.heap.size < v6.heap.size := World.block_lt_of_cell? _ _ cv6_0_0
      have cv6_1_0 : v6.cell? ⟨W.heap.size + 1, 0, none⟩ = some (.int .i64 kq) := by subst hhv6; go_simp
      have cv6_1_1 : v6.cell? ⟨W.heap.size + 1, 1, none⟩ = some (.int .i64 lx) := by subst hhv6; go_simp
      have cv6_1_2 : v6.cell? ⟨W.heap.size + 1, 2, none⟩ = some (.int .i64 ly) := by subst hhv6; go_simp
      have cv6_1_3 : v6.cell? ⟨W.heap.size + 1, 3, none⟩ = some (.int .i64 hx) := by subst hhv6; go_simp
      have cv6_1_4 : v6.cell? ⟨W.heap.size + 1, 4, none⟩ = some (.int .i64 hy) := by subst hhv6; go_simp
      have cv6_1_5 : v6.cell? ⟨W.heap.size + 1, 5, none⟩ = some (.slice bd m bcap) := by subst hhv6; go_simp
      have zv6_1 : W.heap.size + 1 < v6.heap.size := World.block_lt_of_cell? _ _ cv6_1_0
      have cv6_2_0 : v6.cell? ⟨W.heap.size + 1 + 1, 0, none⟩ = some (.int .i64 px) := by subst hhv6; go_simp
      have cv6_2_1 : v6.cell? ⟨W.heap.size + 1 + 1, 1, none⟩ = some (.int .i64 py) := by subst hhv6; go_simp
      have zv6_2 : W.heap.size + 1 + 1 < v6.heap.size := World.block_lt_of_cell? _ _ cv6_2_0
      have cv6_3_0 : v6.cell? ⟨W.heap.size + 1 + 1 + 1, 0, none⟩ = some (.int .i64 y) := by subst hhv6; go_simp
      have zv6_3 : W.heap.size + 1 + 1 + 1 < v6.heap.size := World.block_lt_of_cell? _ _ cv6_3_0
      have cv6_4_0 : v6.cell? ⟨w3.heap.size, 0, none⟩ = some (.int .i64 k) := by subst hhv6; go_simp
      have fv6_4_0 : v6.frozen? ⟨w3.heap.size, 0, none⟩ = false := by subst hhv6; go_simp
      have cv6_4_1 : v6.cell? ⟨w3.heap.size, 1, none⟩ = some (bb) := by subst hhv6; go_simp
      have fv6_4_1 : v6.frozen? ⟨w3.heap.size, 1, none⟩ = false := by subst hhv6; go_simp
      have zv6_4 : w3.heap.size < v6.heap.size := World.block_lt_of_cell? _ _ cv6_4_0
      have cv6_5_0 : v6.cell? ⟨B5, 0, none⟩ = some (.int .i64 kq) := by subst hhv6; go_simp
      have fv6_5_0 : v6.frozen? ⟨B5, 0, none⟩ = false := by subst hhv6; go_simp
      have cv6_5_1 : v6.cell? ⟨B5, 1, none⟩ = some (.int .i64 lx) := by subst hhv6; go_simp
      have fv6_5_1 : v6.frozen? ⟨B5, 1, none⟩ = false := by subst hhv6; go_simp
      have cv6_5_2 : v6.cell? ⟨B5, 2, none⟩ = some (.int .i64 ul) := by subst hhv6; go_simp
      have fv6_5_2 : v6.frozen? ⟨B5, 2, none⟩ = false := by subst hhv6; go_simp
      have cv6_5_3 : v6.cell? ⟨B5, 3, none⟩ = some (.int .i64 hx) := by subst hhv6; go_simp
      have fv6_5_3 : v6.frozen? ⟨B5, 3, none⟩ = false := by subst hhv6; go_simp
      have cv6_5_4 : v6.cell? ⟨B5, 4, none⟩ = some (.int .i64 uh) := by subst hhv6; go_simp
      have fv6_5_4 : v6.frozen? ⟨B5, 4, none⟩ = false := by subst hhv6; go_simp
      have cv6_5_5 : v6.cell? ⟨B5, 5, none⟩ = some (.slice none 0 0) := by subst hhv6; go_simp
      have fv6_5_5 : v6.frozen? ⟨B5, 5, none⟩ = false := by subst hhv6; go_simp
      have zv6_5 : B5 < v6.heap.size := World.block_lt_of_cell? _ _ cv6_5_0
      have gv6 : Gr wo v6 := by subst hhv6; have gg := gv5; have gs := gg.size; go_grown
      clear hhv6 gv5 zv5_0 cv5_0_0 cv5_0_1 zv5_1 cv5_1_0 cv5_1_1 cv5_1_2 cv5_1_3 cv5_1_4 cv5_1_5 zv5_2 cv5_2_0 cv5_2_1 zv5_3 cv5_3_0 zv5_4 cv5_4_0 fv5_4_0 cv5_4_1 fv5_4_1 zv5_5 cv5_5_0 fv5_5_0 cv5_5_1 fv5_5_1 cv5_5_2 fv5_5_2 cv5_5_3 fv5_5_3 cv5_5_4 fv5_5_4 cv5_5_5 fv5_5_5
      have ZV : wo.heap.size ≤ v6.heap.size := gv6.size
      go_wp2_with fail
      go_loopg [13] m (fun g x wr => ∃ j : Nat, x = .int .i64 j ∧ j ≤ m ∧ g = m - j ∧ (wr.cell? ⟨B5, 0, none⟩ = some (.int .i64 kq) ∧ wr.cell? ⟨B5, 1, none⟩ = some (.int .i64 lx) ∧ wr.cell? ⟨B5, 2, none⟩ = some (.int .i64 ul) ∧ wr.cell? ⟨B5, 3, none⟩ = some (.int .i64 hx) ∧ wr.cell? ⟨B5, 4, none⟩ = some (.int .i64 uh)) ∧ (∃ cc, wr.cell? ⟨B5, 5, none⟩ = some cc ∧ wr.ownsRow v6.heap.size 26 2 cc j (rowP P (fun i => upZ y (Q i)) j)) ∧ (wr.frozen? ⟨B5, 0, none⟩ = false ∧ wr.frozen? ⟨B5, 1, none⟩ = false ∧ wr.frozen? ⟨B5, 2, none⟩ = false ∧ wr.frozen? ⟨B5, 3, none⟩ = false ∧ wr.frozen? ⟨B5, 4, none⟩ = false ∧ wr.frozen? ⟨B5, 5, none⟩ = false) ∧ v6.heap.size ≤ wr.heap.size ∧ Gr wo wr)
      case atStart => exact ⟨0, rfl, Nat.zero_le _, by omega, ⟨by go_simp, by go_simp, by go_simp, by go_simp, by go_simp⟩, ⟨_, by go_simp, World.ownsRow_nil _ _ _ _⟩, ⟨by go_simp, by go_simp, by go_simp, by go_simp, by go_simp, by go_simp⟩, Nat.le_refl _, gv6⟩
      case round =>
        have xx0 := c0
        have xx1 := c1
        clear c0 c1
        obtain ⟨j, rfl, hj, hgj, ⟨c0, c1, c2, c3, c4'⟩, ⟨cc, c5', hO⟩, ⟨f0, f1, f2, f3, f4, f5⟩, z5t, gwt⟩ := hrel
        have HO := Lib.hid hO
        have o0 := cell_gr gwt o0
        have o1 := cell_gr gwt o1
        have a0 := cell_gr gwt a0
        have a1 := cell_gr gwt a1
        have a2 := cell_gr gwt a2
        have a3 := cell_gr gwt a3
        have a4 := cell_gr gwt a4
        have a5 := cell_gr gwt a5
        have p0 := cell_gr gwt p0
        have p1 := cell_gr gwt p1
        have y0 := cell_gr gwt y0
        have x0 := cell_gr gwt xx0
        have x1 := cell_gr gwt xx1
        clear hO
        by_cases hlt : j < m
        · have ti : decide ((j : Int) < (m : Int)) = true := decide_eq_true (by omega)
          have ti2 : decide (j < m) = true := decide_eq_true hlt
          have ti3 : (j : Int) < (m : Int) := by omega
          have hii : (j : Int) ≤ 64 := by omega
          have hmm : m - (j + 1) < gk := by omega
          obtain ⟨k0, k1⟩ := HR4.out j hlt
          obtain rfl := HR3.out (by omega)
          have s0 := cell_gr (Gr.trans G3.out gwt) k0
          have s1 := cell_gr (Gr.trans G3.out gwt) k1
          have zC : C < W.heap.size := World.block_lt_of_cell? _ _ k0
          have hnb : ∀ k, cc.ownBlock = some k → v6.heap.size ≤ k := fun k hk => (World.ownsRow.lt HO.out k hk).1
          have HNB := Lib.hid hnb
          have eR : rowP P (fun i => upZ y (Q i)) (j + 1) = rowP P (fun i => upZ y (Q i)) j ++ [.int .i64 (P j), .int .i64 (upZ y (Q j))] := rfl
          have HE := Lib.hid eR
          have CU := fun w hw => c_up6 (P j) (Q j) y (W.heap.size + 1 + 1 + 1) w hw
          generalize upZ y (Q j) = uy at CU HE
          generalize P j = xi at s0 CU HE
          generalize Q j = yi at s1 CU
          have HCU := Lib.hid CU
          clear k0 k1 eR CU hnb hgj o0 o1 p0 p1 x0 x1
          go_wp2_with fail
          try simp only [List.append]
          refine Oe.wp_region_ordT (R := Kx (fun k => v6.heap.size ≤ k)) 12 [(0, false), (1, false), (2, false), (3, false), (4, false), (5, false), (6, false), (7, false), (8, true), (9, true), (10, true), (11, false)] (by kernel_rfl) (by kernel_rfl) ?_
          intro u3 hu3 KQ hKQ
          have hhu3 := Kx.of_gr (S := (fun k => v6.heap.size ≤ k)) hu3
          have cu3_0_0 : u3.cell? ⟨W.heap.size + 1, 0, none⟩ = some (.int .i64 kq) := cell_kx hhu3 (by show ¬ (v6.heap.size ≤ W.heap.size + 1); omega) (by go_simp)
          have cu3_0_1 : u3.cell? ⟨W.heap.size + 1, 1, none⟩ = some (.int .i64 lx) := cell_kx hhu3 (by show ¬ (v6.heap.size ≤ W.heap.size + 1); omega) (by go_simp)
          have cu3_0_2 : u3.cell? ⟨W.heap.size + 1, 2, none⟩ = some (.int .i64 ly) := cell_kx hhu3 (by show ¬ (v6.heap.size ≤ W.heap.size + 1); omega) (by go_simp)
          have cu3_0_3 : u3.cell? ⟨W.heap.size + 1, 3, none⟩ = some (.int .i64 hx) := cell_kx hhu3 (by show ¬ (v6.heap.size ≤ W.heap.size + 1); omega) (by go_simp)
          have cu3_0_4 : u3.cell? ⟨W.heap.size + 1, 4, none⟩ = some (.int .i64 hy) := cell_kx hhu3 (by show ¬ (v6.heap.size ≤ W.heap.size + 1); omega) (by go_simp)
          have cu3_0_5 : u3.cell? ⟨W.heap.size + 1, 5, none⟩ = some (.slice (some ⟨C, oc, none⟩) m bcap) := cell_kx hhu3 (by show ¬ (v6.heap.size ≤ W.heap.size + 1); omega) (by go_simp)
          have zu3_0 : W.heap.size + 1 < u3.heap.size := World.block_lt_of_cell? _ _ cu3_0_0
          have cu3_1_0 : u3.cell? ⟨W.heap.size + 1 + 1 + 1, 0, none⟩ = some (.int .i64 y) := cell_kx hhu3 (by show ¬ (v6.heap.size ≤ W.heap.size + 1 + 1 + 1); omega) (by go_simp)
          have zu3_1 : W.heap.size + 1 + 1 + 1 < u3.heap.size := World.block_lt_of_cell? _ _ cu3_1_0
          have cu3_2_0 : u3.cell? ⟨C, oc + j * 2, none⟩ = some (.int .i64 xi) := cell_kx hhu3 (by show ¬ (v6.heap.size ≤ C); omega) (by go_simp)
          have cu3_2_1 : u3.cell? ⟨C, oc + j * 2 + 1, none⟩ = some (.int .i64 yi) := cell_kx hhu3 (by show ¬ (v6.heap.size ≤ C); omega) (by go_simp)
          have zu3_2 : C < u3.heap.size := World.block_lt_of_cell? _ _ cu3_2_0
          have cu3_3_0 : u3.cell? ⟨B5, 0, none⟩ = some (.int .i64 kq) := cell_kx hhu3 (by show ¬ (v6.heap.size ≤ B5); omega) (by go_simp)
          have fu3_3_0 : u3.frozen? ⟨B5, 0, none⟩ = false := frozen_kx (v := .int .i64 kq) hhu3 (by show ¬ (v6.heap.size ≤ B5); omega) (by go_simp) (by go_simp)
          have cu3_3_1 : u3.cell? ⟨B5, 1, none⟩ = some (.int .i64 lx) := cell_kx hhu3 (by show ¬ (v6.heap.size ≤ B5); omega) (by go_simp)
          have fu3_3_1 : u3.frozen? ⟨B5, 1, none⟩ = false := frozen_kx (v := .int .i64 lx) hhu3 (by show ¬ (v6.heap.size ≤ B5); omega) (by go_simp) (by go_simp)
          have cu3_3_2 : u3.cell? ⟨B5, 2, none⟩ = some (.int .i64 ul) := cell_kx hhu3 (by show ¬ (v6.heap.size ≤ B5); omega) (by go_simp)
          have fu3_3_2 : u3.frozen? ⟨B5, 2, none⟩ = false := frozen_kx (v := .int .i64 ul) hhu3 (by show ¬ (v6.heap.size ≤ B5); omega) (by go_simp) (by go_simp)
          have cu3_3_3 : u3.cell? ⟨B5, 3, none⟩ = some (.int .i64 hx) := cell_kx hhu3 (by show ¬ (v6.heap.size ≤ B5); omega) (by go_simp)
          have fu3_3_3 : u3.frozen? ⟨B5, 3, none⟩ = false := frozen_kx (v := .int .i64 hx) hhu3 (by show ¬ (v6.heap.size ≤ B5); omega) (by go_simp) (by go_simp)
          have cu3_3_4 : u3.cell? ⟨B5, 4, none⟩ = some (.int .i64 uh) := cell_kx hhu3 (by show ¬ (v6.heap.size ≤ B5); omega) (by go_simp)
          have fu3_3_4 : u3.frozen? ⟨B5, 4, none⟩ = false := frozen_kx (v := .int .i64 uh) hhu3 (by show ¬ (v6.heap.size ≤ B5); omega) (by go_simp) (by go_simp)
          have cu3_3_5 : u3.cell? ⟨B5, 5, none⟩ = some (cc) := cell_kx hhu3 (by show ¬ (v6.heap.size ≤ B5); omega) (by go_simp)
          have fu3_3_5 : u3.frozen? ⟨B5, 5, none⟩ = false := frozen_kx (v := cc) hhu3 (by show ¬ (v6.heap.size ≤ B5); omega) (by go_simp) (by go_simp)
          have zu3_3 : B5 < u3.heap.size := World.block_lt_of_cell? _ _ cu3_3_0
          have gu3 : Gr wo u3 := Kx.gr hhu3 (by have gg := gwr; have gs := gg.size; go_grown) (fun k hk => by have hk2 : v6.heap.size ≤ k := hk; omega)
          have su3 := hhu3.size
          clear gwr
          clear hhu3
          repeat (first | (refine Oe.wpO_skip (by simp only [List.getElem?_toArray, List.getElem?_cons_succ, List.getElem?_cons_zero] <;> rfl) rfl ?_; simp only [Act.put, List.setIfInBounds_toArray, List.set_cons_zero, List.set_cons_succ]) | (refine Oe.wpO_pure (by simp only [List.getElem?_toArray, List.getElem?_cons_succ, List.getElem?_cons_zero] <;> rfl) rfl ?_; apply Exists.intro; refine ⟨?_, ?_⟩; (· intro wx gx; have cx_0_0 : wx.cell? ⟨W.heap.size + 1, 0, none⟩ = some (.int .i64 kq) := cell_kx gx (by show ¬ (v6.heap.size ≤ W.heap.size + 1); omega) cu3_0_0; have cx_0_1 : wx.cell? ⟨W.heap.size + 1, 1, none⟩ = some (.int .i64 lx) := cell_kx gx (by show ¬ (v6.heap.size ≤ W.heap.size + 1); omega) cu3_0_1; have cx_0_2 : wx.cell? ⟨W.heap.size + 1, 2, none⟩ = some (.int .i64 ly) := cell_kx gx (by show ¬ (v6.heap.size ≤ W.heap.size + 1); omega) cu3_0_2; have cx_0_3 : wx.cell? ⟨W.heap.size + 1, 3, none⟩ = some (.int .i64 hx) := cell_kx gx (by show ¬ (v6.heap.size ≤ W.heap.size + 1); omega) cu3_0_3; have cx_0_4 : wx.cell? ⟨W.heap.size + 1, 4, none⟩ = some (.int .i64 hy) := cell_kx gx (by show ¬ (v6.heap.size ≤ W.heap.size + 1); omega) cu3_0_4; have cx_0_5 : wx.cell? ⟨W.heap.size + 1, 5, none⟩ = some (.slice (some ⟨C, oc, none⟩) m bcap) := cell_kx gx (by show ¬ (v6.heap.size ≤ W.heap.size + 1); omega) cu3_0_5; have zx_0 : W.heap.size + 1 < wx.heap.size := World.block_lt_of_cell? _ _ cx_0_0; have cx_1_0 : wx.cell? ⟨W.heap.size + 1 + 1 + 1, 0, none⟩ = some (.int .i64 y) := cell_kx gx (by show ¬ (v6.heap.size ≤ W.heap.size + 1 + 1 + 1); omega) cu3_1_0; have zx_1 : W.heap.size + 1 + 1 + 1 < wx.heap.size := World.block_lt_of_cell? _ _ cx_1_0; have cx_2_0 : wx.cell? ⟨C, oc + j * 2, none⟩ = some (.int .i64 xi) := cell_kx gx (by show ¬ (v6.heap.size ≤ C); omega) cu3_2_0; have cx_2_1 : wx.cell? ⟨C, oc + j * 2 + 1, none⟩ = some (.int .i64 yi) := cell_kx gx (by show ¬ (v6.heap.size ≤ C); omega) cu3_2_1; have zx_2 : C < wx.heap.size := World.block_lt_of_cell? _ _ cx_2_0; have cx_3_0 : wx.cell? ⟨B5, 0, none⟩ = some (.int .i64 kq) := cell_kx gx (by show ¬ (v6.heap.size ≤ B5); omega) cu3_3_0; have cx_3_1 : wx.cell? ⟨B5, 1, none⟩ = some (.int .i64 lx) := cell_kx gx (by show ¬ (v6.heap.size ≤ B5); omega) cu3_3_1; have cx_3_2 : wx.cell? ⟨B5, 2, none⟩ = some (.int .i64 ul) := cell_kx gx (by show ¬ (v6.heap.size ≤ B5); omega) cu3_3_2; have cx_3_3 : wx.cell? ⟨B5, 3, none⟩ = some (.int .i64 hx) := cell_kx gx (by show ¬ (v6.heap.size ≤ B5); omega) cu3_3_3; have cx_3_4 : wx.cell? ⟨B5, 4, none⟩ = some (.int .i64 uh) := cell_kx gx (by show ¬ (v6.heap.size ≤ B5); omega) cu3_3_4; have cx_3_5 : wx.cell? ⟨B5, 5, none⟩ = some (cc) := cell_kx gx (by show ¬ (v6.heap.size ≤ B5); omega) cu3_3_5; have zx_3 : B5 < wx.heap.size := World.block_lt_of_cell? _ _ cx_3_0; clear gx; all_goals (apply Oe.pAt_of_quiet; intro K hK; go_big_quiet_op; first | exact hK _ rfl | (apply Exists.intro; refine ⟨fun _ => ?_, ?_⟩; (· fail); exact hK _ rfl))); try simp only [Act.put, List.setIfInBounds_toArray, List.set_cons_zero, List.set_cons_succ]))
          have O3 := Lib.hid (show u3.ownsRow v6.heap.size 26 2 cc j _ from rowOwn_gr HO.out hu3)
          clear hu3 HO
          refine Oe.wpO_call (by simp only [List.getElem?_toArray, List.getElem?_cons_succ, List.getElem?_cons_zero] <;> rfl) rfl ?_
          intro QS hQS
          go_wp2_with fail
          go_at_call 32
          (with_reducible refine ((HCU.out _ cu3_1_0)).mono ?_)
          rintro e u4 ⟨rfl, hu4⟩
          have hhu4 : Kx (fun k => v6.heap.size ≤ k) u3 u4 := Kx.of_gr hu4
          go_wp2_with fail
          first | (apply Exists.intro; refine ⟨?_, hhu4, ?_⟩; (· simp only [Act.put, List.setIfInBounds_toArray, List.set_cons_zero, List.set_cons_succ]; rfl)) | (refine ⟨hhu4, ?_⟩)
          have cu4_0_0 : u4.cell? ⟨W.heap.size + 1, 0, none⟩ = some (.int .i64 kq) := cell_kx hhu4 (by show ¬ (v6.heap.size ≤ W.heap.size + 1); omega) (by go_simp)
          have cu4_0_1 : u4.cell? ⟨W.heap.size + 1, 1, none⟩ = some (.int .i64 lx) := cell_kx hhu4 (by show ¬ (v6.heap.size ≤ W.heap.size + 1); omega) (by go_simp)
          have cu4_0_2 : u4.cell? ⟨W.heap.size + 1, 2, none⟩ = some (.int .i64 ly) := cell_kx hhu4 (by show ¬ (v6.heap.size ≤ W.heap.size + 1); omega) (by go_simp)
          have cu4_0_3 : u4.cell? ⟨W.heap.size + 1, 3, none⟩ = some (.int .i64 hx) := cell_kx hhu4 (by show ¬ (v6.heap.size ≤ W.heap.size + 1); omega) (by go_simp)
          have cu4_0_4 : u4.cell? ⟨W.heap.size + 1, 4, none⟩ = some (.int .i64 hy) := cell_kx hhu4 (by show ¬ (v6.heap.size ≤ W.heap.size + 1); omega) (by go_simp)
          have cu4_0_5 : u4.cell? ⟨W.heap.size + 1, 5, none⟩ = some (.slice (some ⟨C, oc, none⟩) m bcap) := cell_kx hhu4 (by show ¬ (v6.heap.size ≤ W.heap.size + 1); omega) (by go_simp)
          have zu4_0 : W.heap.size + 1 < u4.heap.size := World.block_lt_of_cell? _ _ cu4_0_0
          have cu4_1_0 : u4.cell? ⟨W.heap.size + 1 + 1 + 1, 0, none⟩ = some (.int .i64 y) := cell_kx hhu4 (by show ¬ (v6.heap.size ≤ W.heap.size + 1 + 1 + 1); omega) (by go_simp)
          have zu4_1 : W.heap.size + 1 + 1 + 1 < u4.heap.size := World.block_lt_of_cell? _ _ cu4_1_0
          have cu4_2_0 : u4.cell? ⟨C, oc + j * 2, none⟩ = some (.int .i64 xi) := cell_kx hhu4 (by show ¬ (v6.heap.size ≤ C); omega) (by go_simp)
          have cu4_2_1 : u4.cell? ⟨C, oc + j * 2 + 1, none⟩ = some (.int .i64 yi) := cell_kx hhu4 (by show ¬ (v6.heap.size ≤ C); omega) (by go_simp)
          have zu4_2 : C < u4.heap.size := World.block_lt_of_cell? _ _ cu4_2_0
          have cu4_3_0 : u4.cell? ⟨B5, 0, none⟩ = some (.int .i64 kq) := cell_kx hhu4 (by show ¬ (v6.heap.size ≤ B5); omega) (by go_simp)
          have fu4_3_0 : u4.frozen? ⟨B5, 0, none⟩ = false := frozen_kx (v := .int .i64 kq) hhu4 (by show ¬ (v6.heap.size ≤ B5); omega) (by go_simp) (by go_simp)
          have cu4_3_1 : u4.cell? ⟨B5, 1, none⟩ = some (.int .i64 lx) := cell_kx hhu4 (by show ¬ (v6.heap.size ≤ B5); omega) (by go_simp)
          have fu4_3_1 : u4.frozen? ⟨B5, 1, none⟩ = false := frozen_kx (v := .int .i64 lx) hhu4 (by show ¬ (v6.heap.size ≤ B5); omega) (by go_simp) (by go_simp)
          have cu4_3_2 : u4.cell? ⟨B5, 2, none⟩ = some (.int .i64 ul) := cell_kx hhu4 (by show ¬ (v6.heap.size ≤ B5); omega) (by go_simp)
          have fu4_3_2 : u4.frozen? ⟨B5, 2, none⟩ = false := frozen_kx (v := .int .i64 ul) hhu4 (by show ¬ (v6.heap.size ≤ B5); omega) (by go_simp) (by go_simp)
          have cu4_3_3 : u4.cell? ⟨B5, 3, none⟩ = some (.int .i64 hx) := cell_kx hhu4 (by show ¬ (v6.heap.size ≤ B5); omega) (by go_simp)
          have fu4_3_3 : u4.frozen? ⟨B5, 3, none⟩ = false := frozen_kx (v := .int .i64 hx) hhu4 (by show ¬ (v6.heap.size ≤ B5); omega) (by go_simp) (by go_simp)
          have cu4_3_4 : u4.cell? ⟨B5, 4, none⟩ = some (.int .i64 uh) := cell_kx hhu4 (by show ¬ (v6.heap.size ≤ B5); omega) (by go_simp)
          have fu4_3_4 : u4.frozen? ⟨B5, 4, none⟩ = false := frozen_kx (v := .int .i64 uh) hhu4 (by show ¬ (v6.heap.size ≤ B5); omega) (by go_simp) (by go_simp)
          have cu4_3_5 : u4.cell? ⟨B5, 5, none⟩ = some (cc) := cell_kx hhu4 (by show ¬ (v6.heap.size ≤ B5); omega) (by go_simp)
          have fu4_3_5 : u4.frozen? ⟨B5, 5, none⟩ = false := frozen_kx (v := cc) hhu4 (by show ¬ (v6.heap.size ≤ B5); omega) (by go_simp) (by go_simp)
          have zu4_3 : B5 < u4.heap.size := World.block_lt_of_cell? _ _ cu4_3_0
          have gu4 : Gr wo u4 := Kx.gr hhu4 gu3 (fun k hk => by have hk2 : v6.heap.size ≤ k := hk; omega)
          have su4 := hhu4.size
          clear gu3 zu3_0 cu3_0_0 cu3_0_1 cu3_0_2 cu3_0_3 cu3_0_4 cu3_0_5 zu3_1 cu3_1_0 zu3_2 cu3_2_0 cu3_2_1 zu3_3 cu3_3_0 fu3_3_0 cu3_3_1 fu3_3_1 cu3_3_2 fu3_3_2 cu3_3_3 fu3_3_3 cu3_3_4 fu3_3_4 cu3_3_5 fu3_3_5
          clear hhu4
          try simp only [Act.put, List.setIfInBounds_toArray, List.set_cons_zero, List.set_cons_succ]
          repeat (first | (refine Oe.wpO_skip (by simp only [List.getElem?_toArray, List.getElem?_cons_succ, List.getElem?_cons_zero] <;> rfl) rfl ?_; simp only [Act.put, List.setIfInBounds_toArray, List.set_cons_zero, List.set_cons_succ]) | (refine Oe.wpO_pure (by simp only [List.getElem?_toArray, List.getElem?_cons_succ, List.getElem?_cons_zero] <;> rfl) rfl ?_; apply Exists.intro; refine ⟨?_, ?_⟩; (· intro wx gx; have cx_0_0 : wx.cell? ⟨W.heap.size + 1, 0, none⟩ = some (.int .i64 kq) := cell_kx gx (by show ¬ (v6.heap.size ≤ W.heap.size + 1); omega) cu4_0_0; have cx_0_1 : wx.cell? ⟨W.heap.size + 1, 1, none⟩ = some (.int .i64 lx) := cell_kx gx (by show ¬ (v6.heap.size ≤ W.heap.size + 1); omega) cu4_0_1; have cx_0_2 : wx.cell? ⟨W.heap.size + 1, 2, none⟩ = some (.int .i64 ly) := cell_kx gx (by show ¬ (v6.heap.size ≤ W.heap.size + 1); omega) cu4_0_2; have cx_0_3 : wx.cell? ⟨W.heap.size + 1, 3, none⟩ = some (.int .i64 hx) := cell_kx gx (by show ¬ (v6.heap.size ≤ W.heap.size + 1); omega) cu4_0_3; have cx_0_4 : wx.cell? ⟨W.heap.size + 1, 4, none⟩ = some (.int .i64 hy) := cell_kx gx (by show ¬ (v6.heap.size ≤ W.heap.size + 1); omega) cu4_0_4; have cx_0_5 : wx.cell? ⟨W.heap.size + 1, 5, none⟩ = some (.slice (some ⟨C, oc, none⟩) m bcap) := cell_kx gx (by show ¬ (v6.heap.size ≤ W.heap.size + 1); omega) cu4_0_5; have zx_0 : W.heap.size + 1 < wx.heap.size := World.block_lt_of_cell? _ _ cx_0_0; have cx_1_0 : wx.cell? ⟨W.heap.size + 1 + 1 + 1, 0, none⟩ = some (.int .i64 y) := cell_kx gx (by show ¬ (v6.heap.size ≤ W.heap.size + 1 + 1 + 1); omega) cu4_1_0; have zx_1 : W.heap.size + 1 + 1 + 1 < wx.heap.size := World.block_lt_of_cell? _ _ cx_1_0; have cx_2_0 : wx.cell? ⟨C, oc + j * 2, none⟩ = some (.int .i64 xi) := cell_kx gx (by show ¬ (v6.heap.size ≤ C); omega) cu4_2_0; have cx_2_1 : wx.cell? ⟨C, oc + j * 2 + 1, none⟩ = some (.int .i64 yi) := cell_kx gx (by show ¬ (v6.heap.size ≤ C); omega) cu4_2_1; have zx_2 : C < wx.heap.size := World.block_lt_of_cell? _ _ cx_2_0; have cx_3_0 : wx.cell? ⟨B5, 0, none⟩ = some (.int .i64 kq) := cell_kx gx (by show ¬ (v6.heap.size ≤ B5); omega) cu4_3_0; have cx_3_1 : wx.cell? ⟨B5, 1, none⟩ = some (.int .i64 lx) := cell_kx gx (by show ¬ (v6.heap.size ≤ B5); omega) cu4_3_1; have cx_3_2 : wx.cell? ⟨B5, 2, none⟩ = some (.int .i64 ul) := cell_kx gx (by show ¬ (v6.heap.size ≤ B5); omega) cu4_3_2; have cx_3_3 : wx.cell? ⟨B5, 3, none⟩ = some (.int .i64 hx) := cell_kx gx (by show ¬ (v6.heap.size ≤ B5); omega) cu4_3_3; have cx_3_4 : wx.cell? ⟨B5, 4, none⟩ = some (.int .i64 uh) := cell_kx gx (by show ¬ (v6.heap.size ≤ B5); omega) cu4_3_4; have cx_3_5 : wx.cell? ⟨B5, 5, none⟩ = some (cc) := cell_kx gx (by show ¬ (v6.heap.size ≤ B5); omega) cu4_3_5; have zx_3 : B5 < wx.heap.size := World.block_lt_of_cell? _ _ cx_3_0; clear gx; all_goals (apply Oe.pAt_of_quiet; intro K hK; go_big_quiet_op; first | exact hK _ rfl | (apply Exists.intro; refine ⟨fun _ => ?_, ?_⟩; (· fail); exact hK _ rfl))); try simp only [Act.put, List.setIfInBounds_toArray, List.set_cons_zero, List.set_cons_succ]))
          have O4 := Lib.hid (rowOwn_gr O3.out hu4)
          clear hu4 O3
          refine Oe.wpO_call (by simp only [List.getElem?_toArray, List.getElem?_cons_succ, List.getElem?_cons_zero] <;> rfl) rfl ?_
          intro QS hQS
          go_wp2_with fail
          first | (apply Exists.intro; refine ⟨?_, Kx.of_gr (by go_grown), ?_⟩; (· simp only [Act.put, List.setIfInBounds_toArray, List.set_cons_zero, List.set_cons_succ]; rfl)) | (refine ⟨Kx.of_gr (by go_grown), ?_⟩)
          generalize hhu5 : (u4.alloc (.cells #[.int .i64 xi, .int .i64 uy] 26)) = u5
          have hu5 : Gr u4 u5 := by subst hhu5; go_grown
          have cu5_0_0 : u5.cell? ⟨W.heap.size + 1, 0, none⟩ = some (.int .i64 kq) := by subst hhu5; go_simp
          have cu5_0_1 : u5.cell? ⟨W.heap.size + 1, 1, none⟩ = some (.int .i64 lx) := by subst hhu5; go_simp
          have cu5_0_2 : u5.cell? ⟨W.heap.size + 1, 2, none⟩ = some (.int .i64 ly) := by subst hhu5; go_simp
          have cu5_0_3 : u5.cell? ⟨W.heap.size + 1, 3, none⟩ = some (.int .i64 hx) := by subst hhu5; go_simp
          have cu5_0_4 : u5.cell? ⟨W.heap.size + 1, 4, none⟩ = some (.int .i64 hy) := by subst hhu5; go_simp
          have cu5_0_5 : u5.cell? ⟨W.heap.size + 1, 5, none⟩ = some (.slice (some ⟨C, oc, none⟩) m bcap) := by subst hhu5; go_simp
          have zu5_0 : W.heap.size + 1 < u5.heap.size := World.block_lt_of_cell? _ _ cu5_0_0
          have cu5_1_0 : u5.cell? ⟨W.heap.size + 1 + 1 + 1, 0, none⟩ = some (.int .i64 y) := by subst hhu5; go_simp
          have zu5_1 : W.heap.size + 1 + 1 + 1 < u5.heap.size := World.block_lt_of_cell? _ _ cu5_1_0
          have cu5_2_0 : u5.cell? ⟨C, oc + j * 2, none⟩ = some (.int .i64 xi) := by subst hhu5; go_simp
          have cu5_2_1 : u5.cell? ⟨C, oc + j * 2 + 1, none⟩ = some (.int .i64 yi) := by subst hhu5; go_simp
          have zu5_2 : C < u5.heap.size := World.block_lt_of_cell? _ _ cu5_2_0
          have cu5_3_0 : u5.cell? ⟨B5, 0, none⟩ = some (.int .i64 kq) := by subst hhu5; go_simp
          have fu5_3_0 : u5.frozen? ⟨B5, 0, none⟩ = false := by subst hhu5; go_simp
          have cu5_3_1 : u5.cell? ⟨B5, 1, none⟩ = some (.int .i64 lx) := by subst hhu5; go_simp
          have fu5_3_1 : u5.frozen? ⟨B5, 1, none⟩ = false := by subst hhu5; go_simp
          have cu5_3_2 : u5.cell? ⟨B5, 2, none⟩ = some (.int .i64 ul) := by subst hhu5; go_simp
          have fu5_3_2 : u5.frozen? ⟨B5, 2, none⟩ = false := by subst hhu5; go_simp
          have cu5_3_3 : u5.cell? ⟨B5, 3, none⟩ = some (.int .i64 hx) := by subst hhu5; go_simp
          have fu5_3_3 : u5.frozen? ⟨B5, 3, none⟩ = false := by subst hhu5; go_simp
          have cu5_3_4 : u5.cell? ⟨B5, 4, none⟩ = some (.int .i64 uh) := by subst hhu5; go_simp
          have fu5_3_4 : u5.frozen? ⟨B5, 4, none⟩ = false := by subst hhu5; go_simp
          have cu5_3_5 : u5.cell? ⟨B5, 5, none⟩ = some (cc) := by subst hhu5; go_simp
          have fu5_3_5 : u5.frozen? ⟨B5, 5, none⟩ = false := by subst hhu5; go_simp
          have zu5_3 : B5 < u5.heap.size := World.block_lt_of_cell? _ _ cu5_3_0
          have cu5_4_0 : u5.cell? ⟨u4.heap.size, 0, none⟩ = some (.int .i64 xi) := by subst hhu5; go_simp
          have cu5_4_1 : u5.cell? ⟨u4.heap.size, 1, none⟩ = some (.int .i64 uy) := by subst hhu5; go_simp
          have zu5_4 : u4.heap.size < u5.heap.size := World.block_lt_of_cell? _ _ cu5_4_0
          have gu5 : Gr wo u5 := Gr.trans (by have gg := gu4; have gs := gg.size; go_grown) hu5
          have su5 := hu5.size
          clear hhu5 gu4 zu4_0 cu4_0_0 cu4_0_1 cu4_0_2 cu4_0_3 cu4_0_4 cu4_0_5 zu4_1 cu4_1_0 zu4_2 cu4_2_0 cu4_2_1 zu4_3 cu4_3_0 fu4_3_0 cu4_3_1 fu4_3_1 cu4_3_2 fu4_3_2 cu4_3_3 fu4_3_3 cu4_3_4 fu4_3_4 cu4_3_5 fu4_3_5
          try simp only [Act.put, List.setIfInBounds_toArray, List.set_cons_zero, List.set_cons_succ]
          repeat (first | (refine Oe.wpO_skip (by simp only [List.getElem?_toArray, List.getElem?_cons_succ, List.getElem?_cons_zero] <;> rfl) rfl ?_; simp only [Act.put, List.setIfInBounds_toArray, List.set_cons_zero, List.set_cons_succ]) | (refine Oe.wpO_pure (by simp only [List.getElem?_toArray, List.getElem?_cons_succ, List.getElem?_cons_zero] <;> rfl) rfl ?_; apply Exists.intro; refine ⟨?_, ?_⟩; (· intro wx gx; have cx_0_0 : wx.cell? ⟨W.heap.size + 1, 0, none⟩ = some (.int .i64 kq) := cell_kx gx (by show ¬ (v6.heap.size ≤ W.heap.size + 1); omega) cu5_0_0; have cx_0_1 : wx.cell? ⟨W.heap.size + 1, 1, none⟩ = some (.int .i64 lx) := cell_kx gx (by show ¬ (v6.heap.size ≤ W.heap.size + 1); omega) cu5_0_1; have cx_0_2 : wx.cell? ⟨W.heap.size + 1, 2, none⟩ = some (.int .i64 ly) := cell_kx gx (by show ¬ (v6.heap.size ≤ W.heap.size + 1); omega) cu5_0_2; have cx_0_3 : wx.cell? ⟨W.heap.size + 1, 3, none⟩ = some (.int .i64 hx) := cell_kx gx (by show ¬ (v6.heap.size ≤ W.heap.size + 1); omega) cu5_0_3; have cx_0_4 : wx.cell? ⟨W.heap.size + 1, 4, none⟩ = some (.int .i64 hy) := cell_kx gx (by show ¬ (v6.heap.size ≤ W.heap.size + 1); omega) cu5_0_4; have cx_0_5 : wx.cell? ⟨W.heap.size + 1, 5, none⟩ = some (.slice (some ⟨C, oc, none⟩) m bcap) := cell_kx gx (by show ¬ (v6.heap.size ≤ W.heap.size + 1); omega) cu5_0_5; have zx_0 : W.heap.size + 1 < wx.heap.size := World.block_lt_of_cell? _ _ cx_0_0; have cx_1_0 : wx.cell? ⟨W.heap.size + 1 + 1 + 1, 0, none⟩ = some (.int .i64 y) := cell_kx gx (by show ¬ (v6.heap.size ≤ W.heap.size + 1 + 1 + 1); omega) cu5_1_0; have zx_1 : W.heap.size + 1 + 1 + 1 < wx.heap.size := World.block_lt_of_cell? _ _ cx_1_0; have cx_2_0 : wx.cell? ⟨C, oc + j * 2, none⟩ = some (.int .i64 xi) := cell_kx gx (by show ¬ (v6.heap.size ≤ C); omega) cu5_2_0; have cx_2_1 : wx.cell? ⟨C, oc + j * 2 + 1, none⟩ = some (.int .i64 yi) := cell_kx gx (by show ¬ (v6.heap.size ≤ C); omega) cu5_2_1; have zx_2 : C < wx.heap.size := World.block_lt_of_cell? _ _ cx_2_0; have cx_3_0 : wx.cell? ⟨B5, 0, none⟩ = some (.int .i64 kq) := cell_kx gx (by show ¬ (v6.heap.size ≤ B5); omega) cu5_3_0; have cx_3_1 : wx.cell? ⟨B5, 1, none⟩ = some (.int .i64 lx) := cell_kx gx (by show ¬ (v6.heap.size ≤ B5); omega) cu5_3_1; have cx_3_2 : wx.cell? ⟨B5, 2, none⟩ = some (.int .i64 ul) := cell_kx gx (by show ¬ (v6.heap.size ≤ B5); omega) cu5_3_2; have cx_3_3 : wx.cell? ⟨B5, 3, none⟩ = some (.int .i64 hx) := cell_kx gx (by show ¬ (v6.heap.size ≤ B5); omega) cu5_3_3; have cx_3_4 : wx.cell? ⟨B5, 4, none⟩ = some (.int .i64 uh) := cell_kx gx (by show ¬ (v6.heap.size ≤ B5); omega) cu5_3_4; have cx_3_5 : wx.cell? ⟨B5, 5, none⟩ = some (cc) := cell_kx gx (by show ¬ (v6.heap.size ≤ B5); omega) cu5_3_5; have zx_3 : B5 < wx.heap.size := World.block_lt_of_cell? _ _ cx_3_0; have cx_4_0 : wx.cell? ⟨u4.heap.size, 0, none⟩ = some (.int .i64 xi) := cell_kx gx (by show ¬ (v6.heap.size ≤ u4.heap.size); omega) cu5_4_0; have cx_4_1 : wx.cell? ⟨u4.heap.size, 1, none⟩ = some (.int .i64 uy) := cell_kx gx (by show ¬ (v6.heap.size ≤ u4.heap.size); omega) cu5_4_1; have zx_4 : u4.heap.size < wx.heap.size := World.block_lt_of_cell? _ _ cx_4_0; clear gx; all_goals (apply Oe.pAt_of_quiet; intro K hK; go_big_quiet_op; first | exact hK _ rfl | (apply Exists.intro; refine ⟨fun _ => ?_, ?_⟩; (· fail); exact hK _ rfl))); try simp only [Act.put, List.setIfInBounds_toArray, List.set_cons_zero, List.set_cons_succ]))
          have O5 := Lib.hid (show u5.ownsRow v6.heap.size 26 2 cc j _ from rowOwn_gr O4.out hu5)
          have N5 := Lib.hid (news2_6 cu5_4_0 cu5_4_1)
          have Z5 : v6.heap.size ≤ u5.heap.size := by have := gu5.size; omega
          clear hu5 O4
          refine Oe.wpO_call (by simp only [List.getElem?_toArray, List.getElem?_cons_succ, List.getElem?_cons_zero] <;> rfl) rfl ?_
          intro QS hQS
          refine (wpList_append_own2 _ rfl (.tmp 92) (.tmp 100) 22 rfl v6.heap.size 26 i0 (.agg #[.int .i64 0, .int .i64 0]) 2 16 Tryz.underlying22 HI.out.1 HI.out.2.1 HI.out.2.2.1 HI.out.2.2.2 rfl (by decide) cc j (rowP P (fun i => upZ y (Q i)) j) rfl O5.out ⟨u4.heap.size, 0, none⟩ 1 1 [.int .i64 xi, .int .i64 uy] rfl rfl N5.out (ones2_6 _ _) (by unfold maxLen; omega) (by omega) Z5 ?_)
          intro b6' u6 o6 g6
          have hhu6 : Kx (fun k => v6.heap.size ≤ k) u5 u6 := kx_grown6 g6 (fun k hk => by have := HNB.out k hk; show v6.heap.size ≤ k; omega)
          refine hQS _ _ ⟨_, rfl, hhu6, ?_⟩
          clear hQS QS
          have cu6_0_0 : u6.cell? ⟨W.heap.size + 1, 0, none⟩ = some (.int .i64 kq) := cell_kx hhu6 (by show ¬ (v6.heap.size ≤ W.heap.size + 1); omega) (by go_simp)
          have cu6_0_1 : u6.cell? ⟨W.heap.size + 1, 1, none⟩ = some (.int .i64 lx) := cell_kx hhu6 (by show ¬ (v6.heap.size ≤ W.heap.size + 1); omega) (by go_simp)
          have cu6_0_2 : u6.cell? ⟨W.heap.size + 1, 2, none⟩ = some (.int .i64 ly) := cell_kx hhu6 (by show ¬ (v6.heap.size ≤ W.heap.size + 1); omega) (by go_simp)
          have cu6_0_3 : u6.cell? ⟨W.heap.size + 1, 3, none⟩ = some (.int .i64 hx) := cell_kx hhu6 (by show ¬ (v6.heap.size ≤ W.heap.size + 1); omega) (by go_simp)
          have cu6_0_4 : u6.cell? ⟨W.heap.size + 1, 4, none⟩ = some (.int .i64 hy) := cell_kx hhu6 (by show ¬ (v6.heap.size ≤ W.heap.size + 1); omega) (by go_simp)
          have cu6_0_5 : u6.cell? ⟨W.heap.size + 1, 5, none⟩ = some (.slice (some ⟨C, oc, none⟩) m bcap) := cell_kx hhu6 (by show ¬ (v6.heap.size ≤ W.heap.size + 1); omega) (by go_simp)
          have zu6_0 : W.heap.size + 1 < u6.heap.size := World.block_lt_of_cell? _ _ cu6_0_0
          have cu6_1_0 : u6.cell? ⟨W.heap.size + 1 + 1 + 1, 0, none⟩ = some (.int .i64 y) := cell_kx hhu6 (by show ¬ (v6.heap.size ≤ W.heap.size + 1 + 1 + 1); omega) (by go_simp)
          have zu6_1 : W.heap.size + 1 + 1 + 1 < u6.heap.size := World.block_lt_of_cell? _ _ cu6_1_0
          have cu6_2_0 : u6.cell? ⟨C, oc + j * 2, none⟩ = some (.int .i64 xi) := cell_kx hhu6 (by show ¬ (v6.heap.size ≤ C); omega) (by go_simp)
          have cu6_2_1 : u6.cell? ⟨C, oc + j * 2 + 1, none⟩ = some (.int .i64 yi) := cell_kx hhu6 (by show ¬ (v6.heap.size ≤ C); omega) (by go_simp)
          have zu6_2 : C < u6.heap.size := World.block_lt_of_cell? _ _ cu6_2_0
          have cu6_3_0 : u6.cell? ⟨B5, 0, none⟩ = some (.int .i64 kq) := cell_kx hhu6 (by show ¬ (v6.heap.size ≤ B5); omega) (by go_simp)
          have fu6_3_0 : u6.frozen? ⟨B5, 0, none⟩ = false := frozen_kx (v := .int .i64 kq) hhu6 (by show ¬ (v6.heap.size ≤ B5); omega) (by go_simp) (by go_simp)
          have cu6_3_1 : u6.cell? ⟨B5, 1, none⟩ = some (.int .i64 lx) := cell_kx hhu6 (by show ¬ (v6.heap.size ≤ B5); omega) (by go_simp)
          have fu6_3_1 : u6.frozen? ⟨B5, 1, none⟩ = false := frozen_kx (v := .int .i64 lx) hhu6 (by show ¬ (v6.heap.size ≤ B5); omega) (by go_simp) (by go_simp)
          have cu6_3_2 : u6.cell? ⟨B5, 2, none⟩ = some (.int .i64 ul) := cell_kx hhu6 (by show ¬ (v6.heap.size ≤ B5); omega) (by go_simp)
          have fu6_3_2 : u6.frozen? ⟨B5, 2, none⟩ = false := frozen_kx (v := .int .i64 ul) hhu6 (by show ¬ (v6.heap.size ≤ B5); omega) (by go_simp) (by go_simp)
          have cu6_3_3 : u6.cell? ⟨B5, 3, none⟩ = some (.int .i64 hx) := cell_kx hhu6 (by show ¬ (v6.heap.size ≤ B5); omega) (by go_simp)
          have fu6_3_3 : u6.frozen? ⟨B5, 3, none⟩ = false := frozen_kx (v := .int .i64 hx) hhu6 (by show ¬ (v6.heap.size ≤ B5); omega) (by go_simp) (by go_simp)
          have cu6_3_4 : u6.cell? ⟨B5, 4, none⟩ = some (.int .i64 uh) := cell_kx hhu6 (by show ¬ (v6.heap.size ≤ B5); omega) (by go_simp)
          have fu6_3_4 : u6.frozen? ⟨B5, 4, none⟩ = false := frozen_kx (v := .int .i64 uh) hhu6 (by show ¬ (v6.heap.size ≤ B5); omega) (by go_simp) (by go_simp)
          have cu6_3_5 : u6.cell? ⟨B5, 5, none⟩ = some (cc) := cell_kx hhu6 (by show ¬ (v6.heap.size ≤ B5); omega) (by go_simp)
          have fu6_3_5 : u6.frozen? ⟨B5, 5, none⟩ = false := frozen_kx (v := cc) hhu6 (by show ¬ (v6.heap.size ≤ B5); omega) (by go_simp) (by go_simp)
          have zu6_3 : B5 < u6.heap.size := World.block_lt_of_cell? _ _ cu6_3_0
          have gu6 : Gr wo u6 := Kx.gr hhu6 gu5 (fun k hk => by have hk2 : v6.heap.size ≤ k := hk; omega)
          have su6 := hhu6.size
          clear gu5 zu5_0 cu5_0_0 cu5_0_1 cu5_0_2 cu5_0_3 cu5_0_4 cu5_0_5 zu5_1 cu5_1_0 zu5_2 cu5_2_0 cu5_2_1 zu5_3 cu5_3_0 fu5_3_0 cu5_3_1 fu5_3_1 cu5_3_2 fu5_3_2 cu5_3_3 fu5_3_3 cu5_3_4 fu5_3_4 cu5_3_5 fu5_3_5 zu5_4 cu5_4_0 cu5_4_1
          clear hhu6
          try simp only [Act.put, List.setIfInBounds_toArray, List.set_cons_zero, List.set_cons_succ]
          repeat (first | (refine Oe.wpO_skip (by simp only [List.getElem?_toArray, List.getElem?_cons_succ, List.getElem?_cons_zero] <;> rfl) rfl ?_; simp only [Act.put, List.setIfInBounds_toArray, List.set_cons_zero, List.set_cons_succ]) | (refine Oe.wpO_pure (by simp only [List.getElem?_toArray, List.getElem?_cons_succ, List.getElem?_cons_zero] <;> rfl) rfl ?_; apply Exists.intro; refine ⟨?_, ?_⟩; (· intro wx gx; have cx_0_0 : wx.cell? ⟨W.heap.size + 1, 0, none⟩ = some (.int .i64 kq) := cell_kx gx (by show ¬ (v6.heap.size ≤ W.heap.size + 1); omega) cu6_0_0; have cx_0_1 : wx.cell? ⟨W.heap.size + 1, 1, none⟩ = some (.int .i64 lx) := cell_kx gx (by show ¬ (v6.heap.size ≤ W.heap.size + 1); omega) cu6_0_1; have cx_0_2 : wx.cell? ⟨W.heap.size + 1, 2, none⟩ = some (.int .i64 ly) := cell_kx gx (by show ¬ (v6.heap.size ≤ W.heap.size + 1); omega) cu6_0_2; have cx_0_3 : wx.cell? ⟨W.heap.size + 1, 3, none⟩ = some (.int .i64 hx) := cell_kx gx (by show ¬ (v6.heap.size ≤ W.heap.size + 1); omega) cu6_0_3; have cx_0_4 : wx.cell? ⟨W.heap.size + 1, 4, none⟩ = some (.int .i64 hy) := cell_kx gx (by show ¬ (v6.heap.size ≤ W.heap.size + 1); omega) cu6_0_4; have cx_0_5 : wx.cell? ⟨W.heap.size + 1, 5, none⟩ = some (.slice (some ⟨C, oc, none⟩) m bcap) := cell_kx gx (by show ¬ (v6.heap.size ≤ W.heap.size + 1); omega) cu6_0_5; have zx_0 : W.heap.size + 1 < wx.heap.size := World.block_lt_of_cell? _ _ cx_0_0; have cx_1_0 : wx.cell? ⟨W.heap.size + 1 + 1 + 1, 0, none⟩ = some (.int .i64 y) := cell_kx gx (by show ¬ (v6.heap.size ≤ W.heap.size + 1 + 1 + 1); omega) cu6_1_0; have zx_1 : W.heap.size + 1 + 1 + 1 < wx.heap.size := World.block_lt_of_cell? _ _ cx_1_0; have cx_2_0 : wx.cell? ⟨C, oc + j * 2, none⟩ = some (.int .i64 xi) := cell_kx gx (by show ¬ (v6.heap.size ≤ C); omega) cu6_2_0; have cx_2_1 : wx.cell? ⟨C, oc + j * 2 + 1, none⟩ = some (.int .i64 yi) := cell_kx gx (by show ¬ (v6.heap.size ≤ C); omega) cu6_2_1; have zx_2 : C < wx.heap.size := World.block_lt_of_cell? _ _ cx_2_0; have cx_3_0 : wx.cell? ⟨B5, 0, none⟩ = some (.int .i64 kq) := cell_kx gx (by show ¬ (v6.heap.size ≤ B5); omega) cu6_3_0; have cx_3_1 : wx.cell? ⟨B5, 1, none⟩ = some (.int .i64 lx) := cell_kx gx (by show ¬ (v6.heap.size ≤ B5); omega) cu6_3_1; have cx_3_2 : wx.cell? ⟨B5, 2, none⟩ = some (.int .i64 ul) := cell_kx gx (by show ¬ (v6.heap.size ≤ B5); omega) cu6_3_2; have cx_3_3 : wx.cell? ⟨B5, 3, none⟩ = some (.int .i64 hx) := cell_kx gx (by show ¬ (v6.heap.size ≤ B5); omega) cu6_3_3; have cx_3_4 : wx.cell? ⟨B5, 4, none⟩ = some (.int .i64 uh) := cell_kx gx (by show ¬ (v6.heap.size ≤ B5); omega) cu6_3_4; have cx_3_5 : wx.cell? ⟨B5, 5, none⟩ = some (cc) := cell_kx gx (by show ¬ (v6.heap.size ≤ B5); omega) cu6_3_5; have zx_3 : B5 < wx.heap.size := World.block_lt_of_cell? _ _ cx_3_0; clear gx; all_goals (apply Oe.pAt_of_quiet; intro K hK; go_big_quiet_op; first | exact hK _ rfl | (apply Exists.intro; refine ⟨fun _ => ?_, ?_⟩; (· fail); exact hK _ rfl))); try simp only [Act.put, List.setIfInBounds_toArray, List.set_cons_zero, List.set_cons_succ]))
          have O6 := Lib.hid (show u6.ownsRow v6.heap.size 26 2 b6' (j + 1) (rowP P (fun i => upZ y (Q i)) (j + 1)) by rw [HE.out]; exact o6)
          clear o6 g6 O5 N5
          obtain ⟨rg, rc, rfl, _⟩ := row_form O6.out (by omega)
          refine Oe.wpO_nil (hKQ _ _ ?_)
          clear hKQ KQ
          go_wp2_with fail
          go_roundg (m - (j + 1))
          case measure => exact hmm
          case rel => exact ⟨j + 1, by go_num, hlt, rfl, ⟨by go_simp, by go_simp, by go_simp, by go_simp, by go_simp⟩, ⟨_, by go_simp, ownsRow_setCell_below O6.out (by simp; omega) _⟩, ⟨by go_simp, by go_simp, by go_simp, by go_simp, by go_simp, by go_simp⟩, by simp; omega, by have gg := gu6; have gs := gg.size; go_grown⟩
        · obtain rfl : j = m := by omega
          have ti : decide ((j : Int) < (j : Int)) = false := decide_eq_false (by omega)
          have ti2 : decide (j < j) = false := decide_eq_false (by omega)
          have hPr := own_pts HO.out
          have hPm := pts_gr HP.out gwt
          have gT : Gr W wr := Gr.trans G3.out gwt
          have L1 := Lib.hid (fun w (g : Gr wr w) => HK1.out w bb (Gr.trans gT g) (pts_gr hPm g))
          have L2 := Lib.hid (fun w (g : Gr wr w) => HM2.out w cc (Gr.trans gT g) (pts_gr hPr g))
          have L4 := Lib.hid (fun q1 q2 w (g : Gr wr w) => HM4.out q1 q2 w bb cc (Gr.trans gT g) (pts_gr hPm g) (pts_gr hPr g))
          have L5 := Lib.hid (fun w (g : Gr wr w) => HK5.out w (Gr.trans gT g))
          have L6 := Lib.hid (fun q1 q2 w (g : Gr wr w) => HM6.out q1 q2 w bb (Gr.trans gT g) (pts_gr hPm g))
          have L7 := Lib.hid (fun w (g : Gr wr w) => HK7.out w (Gr.trans gT g))
          have L8 := Lib.hid (fun w (g : Gr wr w) => H4.out w (Gr.trans gT g))
          have GT := Lib.hid gT
          have LP := Lib.hid (fun w (g : Gr wr w) => HCP.out w (Gr.trans gwt g))
          clear hPr hPm gT HO hgj f0 f1 f2 f3 f4 f5 HP HK1 HM2 HM4 HK5 HM6 HK7 H4 HR3 HR4 HCP gwt
          have t3 : (z == z) = true := by simp
          have t4 : decide (z = z) = true := by simp
          by_cases z4 : c4 = 0
          · by_cases z5 : c5 = 0
            · cases b6
              · subst z4 z5
                clear L4 L5 L6 L7
                go_wp2_with fail
                go_at_call 33
                refine ((L1.out _ (by go_grown))).mono ?_
                rintro e y1 ⟨rfl, hy1⟩
                have cy1_0_0 : y1.cell? ⟨W.heap.size, 0, none⟩ = some (.int .i64 k) := cell_gr hy1 (by go_simp)
                have cy1_0_1 : y1.cell? ⟨W.heap.size, 1, none⟩ = some (.slice ad i cap) := cell_gr hy1 (by go_simp)
                have zy1_0 : W.heap.size < y1.heap.size := World.block_lt_of_cell? _ _ cy1_0_0
                have cy1_1_0 : y1.cell? ⟨W.heap.size + 1, 0, none⟩ = some (.int .i64 kq) := cell_gr hy1 (by go_simp)
                have cy1_1_1 : y1.cell? ⟨W.heap.size + 1, 1, none⟩ = some (.int .i64 lx) := cell_gr hy1 (by go_simp)
                have cy1_1_2 : y1.cell? ⟨W.heap.size + 1, 2, none⟩ = some (.int .i64 ly) := cell_gr hy1 (by go_simp)
                have cy1_1_3 : y1.cell? ⟨W.heap.size + 1, 3, none⟩ = some (.int .i64 hx) := cell_gr hy1 (by go_simp)
                have cy1_1_4 : y1.cell? ⟨W.heap.size + 1, 4, none⟩ = some (.int .i64 hy) := cell_gr hy1 (by go_simp)
                have cy1_1_5 : y1.cell? ⟨W.heap.size + 1, 5, none⟩ = some (.slice bd j bcap) := cell_gr hy1 (by go_simp)
                have zy1_1 : W.heap.size + 1 < y1.heap.size := World.block_lt_of_cell? _ _ cy1_1_0
                have cy1_2_0 : y1.cell? ⟨W.heap.size + 1 + 1, 0, none⟩ = some (.int .i64 px) := cell_gr hy1 (by go_simp)
                have cy1_2_1 : y1.cell? ⟨W.heap.size + 1 + 1, 1, none⟩ = some (.int .i64 py) := cell_gr hy1 (by go_simp)
                have zy1_2 : W.heap.size + 1 + 1 < y1.heap.size := World.block_lt_of_cell? _ _ cy1_2_0
                have cy1_3_0 : y1.cell? ⟨W.heap.size + 1 + 1 + 1, 0, none⟩ = some (.int .i64 y) := cell_gr hy1 (by go_simp)
                have zy1_3 : W.heap.size + 1 + 1 + 1 < y1.heap.size := World.block_lt_of_cell? _ _ cy1_3_0
                have cy1_4_0 : y1.cell? ⟨w3.heap.size, 0, none⟩ = some (.int .i64 k) := cell_gr hy1 (by go_simp)
                have cy1_4_1 : y1.cell? ⟨w3.heap.size, 1, none⟩ = some (bb) := cell_gr hy1 (by go_simp)
                have zy1_4 : w3.heap.size < y1.heap.size := World.block_lt_of_cell? _ _ cy1_4_0
                have cy1_5_0 : y1.cell? ⟨B5, 0, none⟩ = some (.int .i64 kq) := cell_gr hy1 (by go_simp)
                have cy1_5_1 : y1.cell? ⟨B5, 1, none⟩ = some (.int .i64 lx) := cell_gr hy1 (by go_simp)
                have cy1_5_2 : y1.cell? ⟨B5, 2, none⟩ = some (.int .i64 ul) := cell_gr hy1 (by go_simp)
                have cy1_5_3 : y1.cell? ⟨B5, 3, none⟩ = some (.int .i64 hx) := cell_gr hy1 (by go_simp)
                have cy1_5_4 : y1.cell? ⟨B5, 4, none⟩ = some (.int .i64 uh) := cell_gr hy1 (by go_simp)
                have cy1_5_5 : y1.cell? ⟨B5, 5, none⟩ = some (cc) := cell_gr hy1 (by go_simp)
                have zy1_5 : B5 < y1.heap.size := World.block_lt_of_cell? _ _ cy1_5_0
                have gy1 : Gr wr y1 := Gr.trans (by go_grown) hy1
                clear hy1
                go_wp2_with fail
                go_at_call 31
                refine ((L2.out _ (by have gg := gy1; have gs := gg.size; go_grown))).mono ?_
                rintro e y2 ⟨rfl, hy2⟩
                have cy2_0_0 : y2.cell? ⟨W.heap.size, 0, none⟩ = some (.int .i64 k) := cell_gr hy2 (by go_simp)
                have cy2_0_1 : y2.cell? ⟨W.heap.size, 1, none⟩ = some (.slice ad i cap) := cell_gr hy2 (by go_simp)
                have zy2_0 : W.heap.size < y2.heap.size := World.block_lt_of_cell? _ _ cy2_0_0
                have cy2_1_0 : y2.cell? ⟨W.heap.size + 1, 0, none⟩ = some (.int .i64 kq) := cell_gr hy2 (by go_simp)
                have cy2_1_1 : y2.cell? ⟨W.heap.size + 1, 1, none⟩ = some (.int .i64 lx) := cell_gr hy2 (by go_simp)
                have cy2_1_2 : y2.cell? ⟨W.heap.size + 1, 2, none⟩ = some (.int .i64 ly) := cell_gr hy2 (by go_simp)
                have cy2_1_3 : y2.cell? ⟨W.heap.size + 1, 3, none⟩ = some (.int .i64 hx) := cell_gr hy2 (by go_simp)
                have cy2_1_4 : y2.cell? ⟨W.heap.size + 1, 4, none⟩ = some (.int .i64 hy) := cell_gr hy2 (by go_simp)
                have cy2_1_5 : y2.cell? ⟨W.heap.size + 1, 5, none⟩ = some (.slice bd j bcap) := cell_gr hy2 (by go_simp)
                have zy2_1 : W.heap.size + 1 < y2.heap.size := World.block_lt_of_cell? _ _ cy2_1_0
                have cy2_2_0 : y2.cell? ⟨W.heap.size + 1 + 1, 0, none⟩ = some (.int .i64 px) := cell_gr hy2 (by go_simp)
                have cy2_2_1 : y2.cell? ⟨W.heap.size + 1 + 1, 1, none⟩ = some (.int .i64 py) := cell_gr hy2 (by go_simp)
                have zy2_2 : W.heap.size + 1 + 1 < y2.heap.size := World.block_lt_of_cell? _ _ cy2_2_0
                have cy2_3_0 : y2.cell? ⟨W.heap.size + 1 + 1 + 1, 0, none⟩ = some (.int .i64 y) := cell_gr hy2 (by go_simp)
                have zy2_3 : W.heap.size + 1 + 1 + 1 < y2.heap.size := World.block_lt_of_cell? _ _ cy2_3_0
                have cy2_4_0 : y2.cell? ⟨w3.heap.size, 0, none⟩ = some (.int .i64 k) := cell_gr hy2 (by go_simp)
                have cy2_4_1 : y2.cell? ⟨w3.heap.size, 1, none⟩ = some (bb) := cell_gr hy2 (by go_simp)
                have zy2_4 : w3.heap.size < y2.heap.size := World.block_lt_of_cell? _ _ cy2_4_0
                have cy2_5_0 : y2.cell? ⟨B5, 0, none⟩ = some (.int .i64 kq) := cell_gr hy2 (by go_simp)
                have cy2_5_1 : y2.cell? ⟨B5, 1, none⟩ = some (.int .i64 lx) := cell_gr hy2 (by go_simp)
                have cy2_5_2 : y2.cell? ⟨B5, 2, none⟩ = some (.int .i64 ul) := cell_gr hy2 (by go_simp)
                have cy2_5_3 : y2.cell? ⟨B5, 3, none⟩ = some (.int .i64 hx) := cell_gr hy2 (by go_simp)
                have cy2_5_4 : y2.cell? ⟨B5, 4, none⟩ = some (.int .i64 uh) := cell_gr hy2 (by go_simp)
                have cy2_5_5 : y2.cell? ⟨B5, 5, none⟩ = some (cc) := cell_gr hy2 (by go_simp)
                have zy2_5 : B5 < y2.heap.size := World.block_lt_of_cell? _ _ cy2_5_0
                have gy2 : Gr wr y2 := Gr.trans (by have gg := gy1; have gs := gg.size; go_grown) hy2
                clear hy2 gy1 zy1_0 cy1_0_0 cy1_0_1 zy1_1 cy1_1_0 cy1_1_1 cy1_1_2 cy1_1_3 cy1_1_4 cy1_1_5 zy1_2 cy1_2_0 cy1_2_1 zy1_3 cy1_3_0 zy1_4 cy1_4_0 cy1_4_1 zy1_5 cy1_5_0 cy1_5_1 cy1_5_2 cy1_5_3 cy1_5_4 cy1_5_5
                go_wp2_with fail
                go_at_call 32
                refine ((LP.out _ (by have gg := gy2; have gs := gg.size; go_grown))).mono ?_
                rintro e y3 ⟨rfl, hy3⟩
                have cy3_0_0 : y3.cell? ⟨W.heap.size, 0, none⟩ = some (.int .i64 k) := cell_gr hy3 (by go_simp)
                have cy3_0_1 : y3.cell? ⟨W.heap.size, 1, none⟩ = some (.slice ad i cap) := cell_gr hy3 (by go_simp)
                have zy3_0 : W.heap.size < y3.heap.size := World.block_lt_of_cell? _ _ cy3_0_0
                have cy3_1_0 : y3.cell? ⟨W.heap.size + 1, 0, none⟩ = some (.int .i64 kq) := cell_gr hy3 (by go_simp)
                have cy3_1_1 : y3.cell? ⟨W.heap.size + 1, 1, none⟩ = some (.int .i64 lx) := cell_gr hy3 (by go_simp)
                have cy3_1_2 : y3.cell? ⟨W.heap.size + 1, 2, none⟩ = some (.int .i64 ly) := cell_gr hy3 (by go_simp)
                have cy3_1_3 : y3.cell? ⟨W.heap.size + 1, 3, none⟩ = some (.int .i64 hx) := cell_gr hy3 (by go_simp)
                have cy3_1_4 : y3.cell? ⟨W.heap.size + 1, 4, none⟩ = some (.int .i64 hy) := cell_gr hy3 (by go_simp)
                have cy3_1_5 : y3.cell? ⟨W.heap.size + 1, 5, none⟩ = some (.slice bd j bcap) := cell_gr hy3 (by go_simp)
                have zy3_1 : W.heap.size + 1 < y3.heap.size := World.block_lt_of_cell? _ _ cy3_1_0
                have cy3_2_0 : y3.cell? ⟨W.heap.size + 1 + 1, 0, none⟩ = some (.int .i64 px) := cell_gr hy3 (by go_simp)
                have cy3_2_1 : y3.cell? ⟨W.heap.size + 1 + 1, 1, none⟩ = some (.int .i64 py) := cell_gr hy3 (by go_simp)
                have zy3_2 : W.heap.size + 1 + 1 < y3.heap.size := World.block_lt_of_cell? _ _ cy3_2_0
                have cy3_3_0 : y3.cell? ⟨W.heap.size + 1 + 1 + 1, 0, none⟩ = some (.int .i64 y) := cell_gr hy3 (by go_simp)
                have zy3_3 : W.heap.size + 1 + 1 + 1 < y3.heap.size := World.block_lt_of_cell? _ _ cy3_3_0
                have cy3_4_0 : y3.cell? ⟨w3.heap.size, 0, none⟩ = some (.int .i64 k) := cell_gr hy3 (by go_simp)
                have cy3_4_1 : y3.cell? ⟨w3.heap.size, 1, none⟩ = some (bb) := cell_gr hy3 (by go_simp)
                have zy3_4 : w3.heap.size < y3.heap.size := World.block_lt_of_cell? _ _ cy3_4_0
                have cy3_5_0 : y3.cell? ⟨B5, 0, none⟩ = some (.int .i64 kq) := cell_gr hy3 (by go_simp)
                have cy3_5_1 : y3.cell? ⟨B5, 1, none⟩ = some (.int .i64 lx) := cell_gr hy3 (by go_simp)
                have cy3_5_2 : y3.cell? ⟨B5, 2, none⟩ = some (.int .i64 ul) := cell_gr hy3 (by go_simp)
                have cy3_5_3 : y3.cell? ⟨B5, 3, none⟩ = some (.int .i64 hx) := cell_gr hy3 (by go_simp)
                have cy3_5_4 : y3.cell? ⟨B5, 4, none⟩ = some (.int .i64 uh) := cell_gr hy3 (by go_simp)
                have cy3_5_5 : y3.cell? ⟨B5, 5, none⟩ = some (cc) := cell_gr hy3 (by go_simp)
                have zy3_5 : B5 < y3.heap.size := World.block_lt_of_cell? _ _ cy3_5_0
                have gy3 : Gr wr y3 := Gr.trans (by have gg := gy2; have gs := gg.size; go_grown) hy3
                clear hy3 gy2 zy2_0 cy2_0_0 cy2_0_1 zy2_1 cy2_1_0 cy2_1_1 cy2_1_2 cy2_1_3 cy2_1_4 cy2_1_5 zy2_2 cy2_2_0 cy2_2_1 zy2_3 cy2_3_0 zy2_4 cy2_4_0 cy2_4_1 zy2_5 cy2_5_0 cy2_5_1 cy2_5_2 cy2_5_3 cy2_5_4 cy2_5_5
                go_wp2_with fail
                go_at_call 24
                refine ((HM3.out _)).mono ?_
                rintro e y4 ⟨rfl, hy4⟩
                have cy4_0_0 : y4.cell? ⟨W.heap.size, 0, none⟩ = some (.int .i64 k) := cell_gr hy4 (by go_simp)
                have cy4_0_1 : y4.cell? ⟨W.heap.size, 1, none⟩ = some (.slice ad i cap) := cell_gr hy4 (by go_simp)
                have zy4_0 : W.heap.size < y4.heap.size := World.block_lt_of_cell? _ _ cy4_0_0
                have cy4_1_0 : y4.cell? ⟨W.heap.size + 1, 0, none⟩ = some (.int .i64 kq) := cell_gr hy4 (by go_simp)
                have cy4_1_1 : y4.cell? ⟨W.heap.size + 1, 1, none⟩ = some (.int .i64 lx) := cell_gr hy4 (by go_simp)
                have cy4_1_2 : y4.cell? ⟨W.heap.size + 1, 2, none⟩ = some (.int .i64 ly) := cell_gr hy4 (by go_simp)
                have cy4_1_3 : y4.cell? ⟨W.heap.size + 1, 3, none⟩ = some (.int .i64 hx) := cell_gr hy4 (by go_simp)
                have cy4_1_4 : y4.cell? ⟨W.heap.size + 1, 4, none⟩ = some (.int .i64 hy) := cell_gr hy4 (by go_simp)
                have cy4_1_5 : y4.cell? ⟨W.heap.size + 1, 5, none⟩ = some (.slice bd j bcap) := cell_gr hy4 (by go_simp)
                have zy4_1 : W.heap.size + 1 < y4.heap.size := World.block_lt_of_cell? _ _ cy4_1_0
                have cy4_2_0 : y4.cell? ⟨W.heap.size + 1 + 1, 0, none⟩ = some (.int .i64 px) := cell_gr hy4 (by go_simp)
                have cy4_2_1 : y4.cell? ⟨W.heap.size + 1 + 1, 1, none⟩ = some (.int .i64 py) := cell_gr hy4 (by go_simp)
                have zy4_2 : W.heap.size + 1 + 1 < y4.heap.size := World.block_lt_of_cell? _ _ cy4_2_0
                have cy4_3_0 : y4.cell? ⟨W.heap.size + 1 + 1 + 1, 0, none⟩ = some (.int .i64 y) := cell_gr hy4 (by go_simp)
                have zy4_3 : W.heap.size + 1 + 1 + 1 < y4.heap.size := World.block_lt_of_cell? _ _ cy4_3_0
                have cy4_4_0 : y4.cell? ⟨w3.heap.size, 0, none⟩ = some (.int .i64 k) := cell_gr hy4 (by go_simp)
                have cy4_4_1 : y4.cell? ⟨w3.heap.size, 1, none⟩ = some (bb) := cell_gr hy4 (by go_simp)
                have zy4_4 : w3.heap.size < y4.heap.size := World.block_lt_of_cell? _ _ cy4_4_0
                have cy4_5_0 : y4.cell? ⟨B5, 0, none⟩ = some (.int .i64 kq) := cell_gr hy4 (by go_simp)
                have cy4_5_1 : y4.cell? ⟨B5, 1, none⟩ = some (.int .i64 lx) := cell_gr hy4 (by go_simp)
                have cy4_5_2 : y4.cell? ⟨B5, 2, none⟩ = some (.int .i64 ul) := cell_gr hy4 (by go_simp)
                have cy4_5_3 : y4.cell? ⟨B5, 3, none⟩ = some (.int .i64 hx) := cell_gr hy4 (by go_simp)
                have cy4_5_4 : y4.cell? ⟨B5, 4, none⟩ = some (.int .i64 uh) := cell_gr hy4 (by go_simp)
                have cy4_5_5 : y4.cell? ⟨B5, 5, none⟩ = some (cc) := cell_gr hy4 (by go_simp)
                have zy4_5 : B5 < y4.heap.size := World.block_lt_of_cell? _ _ cy4_5_0
                have gy4 : Gr wr y4 := Gr.trans (by have gg := gy3; have gs := gg.size; go_grown) hy4
                clear hy4 gy3 zy3_0 cy3_0_0 cy3_0_1 zy3_1 cy3_1_0 cy3_1_1 cy3_1_2 cy3_1_3 cy3_1_4 cy3_1_5 zy3_2 cy3_2_0 cy3_2_1 zy3_3 cy3_3_0 zy3_4 cy3_4_0 cy3_4_1 zy3_5 cy3_5_0 cy3_5_1 cy3_5_2 cy3_5_3 cy3_5_4 cy3_5_5
                go_wp2_with fail
                go_at_call 9
                refine ((L8.out _ (by have gg := gy4; have gs := gg.size; go_grown))).mono ?_
                rintro e y5 ⟨rfl, hy5⟩
                have cy5_0_0 : y5.cell? ⟨W.heap.size, 0, none⟩ = some (.int .i64 k) := cell_gr hy5 (by go_simp)
                have cy5_0_1 : y5.cell? ⟨W.heap.size, 1, none⟩ = some (.slice ad i cap) := cell_gr hy5 (by go_simp)
                have zy5_0 : W.heap.size < y5.heap.size := World.block_lt_of_cell? _ _ cy5_0_0
                have cy5_1_0 : y5.cell? ⟨W.heap.size + 1, 0, none⟩ = some (.int .i64 kq) := cell_gr hy5 (by go_simp)
                have cy5_1_1 : y5.cell? ⟨W.heap.size + 1, 1, none⟩ = some (.int .i64 lx) := cell_gr hy5 (by go_simp)
                have cy5_1_2 : y5.cell? ⟨W.heap.size + 1, 2, none⟩ = some (.int .i64 ly) := cell_gr hy5 (by go_simp)
                have cy5_1_3 : y5.cell? ⟨W.heap.size + 1, 3, none⟩ = some (.int .i64 hx) := cell_gr hy5 (by go_simp)
                have cy5_1_4 : y5.cell? ⟨W.heap.size + 1, 4, none⟩ = some (.int .i64 hy) := cell_gr hy5 (by go_simp)
                have cy5_1_5 : y5.cell? ⟨W.heap.size + 1, 5, none⟩ = some (.slice bd j bcap) := cell_gr hy5 (by go_simp)
                have zy5_1 : W.heap.size + 1 < y5.heap.size := World.block_lt_of_cell? _ _ cy5_1_0
                have cy5_2_0 : y5.cell? ⟨W.heap.size + 1 + 1, 0, none⟩ = some (.int .i64 px) := cell_gr hy5 (by go_simp)
                have cy5_2_1 : y5.cell? ⟨W.heap.size + 1 + 1, 1, none⟩ = some (.int .i64 py) := cell_gr hy5 (by go_simp)
                have zy5_2 : W.heap.size + 1 + 1 < y5.heap.size := World.block_lt_of_cell? _ _ cy5_2_0
                have cy5_3_0 : y5.cell? ⟨W.heap.size + 1 + 1 + 1, 0, none⟩ = some (.int .i64 y) := cell_gr hy5 (by go_simp)
                have zy5_3 : W.heap.size + 1 + 1 + 1 < y5.heap.size := World.block_lt_of_cell? _ _ cy5_3_0
                have cy5_4_0 : y5.cell? ⟨w3.heap.size, 0, none⟩ = some (.int .i64 k) := cell_gr hy5 (by go_simp)
                have cy5_4_1 : y5.cell? ⟨w3.heap.size, 1, none⟩ = some (bb) := cell_gr hy5 (by go_simp)
                have zy5_4 : w3.heap.size < y5.heap.size := World.block_lt_of_cell? _ _ cy5_4_0
                have cy5_5_0 : y5.cell? ⟨B5, 0, none⟩ = some (.int .i64 kq) := cell_gr hy5 (by go_simp)
                have cy5_5_1 : y5.cell? ⟨B5, 1, none⟩ = some (.int .i64 lx) := cell_gr hy5 (by go_simp)
                have cy5_5_2 : y5.cell? ⟨B5, 2, none⟩ = some (.int .i64 ul) := cell_gr hy5 (by go_simp)
                have cy5_5_3 : y5.cell? ⟨B5, 3, none⟩ = some (.int .i64 hx) := cell_gr hy5 (by go_simp)
                have cy5_5_4 : y5.cell? ⟨B5, 4, none⟩ = some (.int .i64 uh) := cell_gr hy5 (by go_simp)
                have cy5_5_5 : y5.cell? ⟨B5, 5, none⟩ = some (cc) := cell_gr hy5 (by go_simp)
                have zy5_5 : B5 < y5.heap.size := World.block_lt_of_cell? _ _ cy5_5_0
                have gy5 : Gr wr y5 := Gr.trans (by have gg := gy4; have gs := gg.size; go_grown) hy5
                clear hy5 gy4 zy4_0 cy4_0_0 cy4_0_1 zy4_1 cy4_1_0 cy4_1_1 cy4_1_2 cy4_1_3 cy4_1_4 cy4_1_5 zy4_2 cy4_2_0 cy4_2_1 zy4_3 cy4_3_0 zy4_4 cy4_4_0 cy4_4_1 zy4_5 cy4_5_0 cy4_5_1 cy4_5_2 cy4_5_3 cy4_5_4 cy4_5_5
                go_wp2_with fail
                go_ret
                exact ⟨rfl, Gr.trans GT.out gy5⟩
              · have N4 := Lib.hid (L4.out z4 z5)
                have N6 := Lib.hid (L6.out z4 rfl)
                subst z4 z5
                clear L4 L6
                have hD := HDD.out
                go_wp2_with fail
                go_at_call 33
                refine ((L1.out _ (by go_grown))).mono ?_
                rintro e y1 ⟨rfl, hy1⟩
                have cy1_0_0 : y1.cell? ⟨W.heap.size, 0, none⟩ = some (.int .i64 k) := cell_gr hy1 (by go_simp)
                have cy1_0_1 : y1.cell? ⟨W.heap.size, 1, none⟩ = some (.slice ad i cap) := cell_gr hy1 (by go_simp)
                have zy1_0 : W.heap.size < y1.heap.size := World.block_lt_of_cell? _ _ cy1_0_0
                have cy1_1_0 : y1.cell? ⟨W.heap.size + 1, 0, none⟩ = some (.int .i64 kq) := cell_gr hy1 (by go_simp)
                have cy1_1_1 : y1.cell? ⟨W.heap.size + 1, 1, none⟩ = some (.int .i64 lx) := cell_gr hy1 (by go_simp)
                have cy1_1_2 : y1.cell? ⟨W.heap.size + 1, 2, none⟩ = some (.int .i64 ly) := cell_gr hy1 (by go_simp)
                have cy1_1_3 : y1.cell? ⟨W.heap.size + 1, 3, none⟩ = some (.int .i64 hx) := cell_gr hy1 (by go_simp)
                have cy1_1_4 : y1.cell? ⟨W.heap.size + 1, 4, none⟩ = some (.int .i64 hy) := cell_gr hy1 (by go_simp)
                have cy1_1_5 : y1.cell? ⟨W.heap.size + 1, 5, none⟩ = some (.slice bd j bcap) := cell_gr hy1 (by go_simp)
                have zy1_1 : W.heap.size + 1 < y1.heap.size := World.block_lt_of_cell? _ _ cy1_1_0
                have cy1_2_0 : y1.cell? ⟨W.heap.size + 1 + 1, 0, none⟩ = some (.int .i64 px) := cell_gr hy1 (by go_simp)
                have cy1_2_1 : y1.cell? ⟨W.heap.size + 1 + 1, 1, none⟩ = some (.int .i64 py) := cell_gr hy1 (by go_simp)
                have zy1_2 : W.heap.size + 1 + 1 < y1.heap.size := World.block_lt_of_cell? _ _ cy1_2_0
                have cy1_3_0 : y1.cell? ⟨W.heap.size + 1 + 1 + 1, 0, none⟩ = some (.int .i64 y) := cell_gr hy1 (by go_simp)
                have zy1_3 : W.heap.size + 1 + 1 + 1 < y1.heap.size := World.block_lt_of_cell? _ _ cy1_3_0
                have cy1_4_0 : y1.cell? ⟨w3.heap.size, 0, none⟩ = some (.int .i64 k) := cell_gr hy1 (by go_simp)
                have cy1_4_1 : y1.cell? ⟨w3.heap.size, 1, none⟩ = some (bb) := cell_gr hy1 (by go_simp)
                have zy1_4 : w3.heap.size < y1.heap.size := World.block_lt_of_cell? _ _ cy1_4_0
                have cy1_5_0 : y1.cell? ⟨B5, 0, none⟩ = some (.int .i64 kq) := cell_gr hy1 (by go_simp)
                have cy1_5_1 : y1.cell? ⟨B5, 1, none⟩ = some (.int .i64 lx) := cell_gr hy1 (by go_simp)
                have cy1_5_2 : y1.cell? ⟨B5, 2, none⟩ = some (.int .i64 ul) := cell_gr hy1 (by go_simp)
                have cy1_5_3 : y1.cell? ⟨B5, 3, none⟩ = some (.int .i64 hx) := cell_gr hy1 (by go_simp)
                have cy1_5_4 : y1.cell? ⟨B5, 4, none⟩ = some (.int .i64 uh) := cell_gr hy1 (by go_simp)
                have cy1_5_5 : y1.cell? ⟨B5, 5, none⟩ = some (cc) := cell_gr hy1 (by go_simp)
                have zy1_5 : B5 < y1.heap.size := World.block_lt_of_cell? _ _ cy1_5_0
                have gy1 : Gr wr y1 := Gr.trans (by go_grown) hy1
                clear hy1
                go_wp2_with fail
                go_at_call 31
                refine ((L2.out _ (by have gg := gy1; have gs := gg.size; go_grown))).mono ?_
                rintro e y2 ⟨rfl, hy2⟩
                have cy2_0_0 : y2.cell? ⟨W.heap.size, 0, none⟩ = some (.int .i64 k) := cell_gr hy2 (by go_simp)
                have cy2_0_1 : y2.cell? ⟨W.heap.size, 1, none⟩ = some (.slice ad i cap) := cell_gr hy2 (by go_simp)
                have zy2_0 : W.heap.size < y2.heap.size := World.block_lt_of_cell? _ _ cy2_0_0
                have cy2_1_0 : y2.cell? ⟨W.heap.size + 1, 0, none⟩ = some (.int .i64 kq) := cell_gr hy2 (by go_simp)
                have cy2_1_1 : y2.cell? ⟨W.heap.size + 1, 1, none⟩ = some (.int .i64 lx) := cell_gr hy2 (by go_simp)
                have cy2_1_2 : y2.cell? ⟨W.heap.size + 1, 2, none⟩ = some (.int .i64 ly) := cell_gr hy2 (by go_simp)
                have cy2_1_3 : y2.cell? ⟨W.heap.size + 1, 3, none⟩ = some (.int .i64 hx) := cell_gr hy2 (by go_simp)
                have cy2_1_4 : y2.cell? ⟨W.heap.size + 1, 4, none⟩ = some (.int .i64 hy) := cell_gr hy2 (by go_simp)
                have cy2_1_5 : y2.cell? ⟨W.heap.size + 1, 5, none⟩ = some (.slice bd j bcap) := cell_gr hy2 (by go_simp)
                have zy2_1 : W.heap.size + 1 < y2.heap.size := World.block_lt_of_cell? _ _ cy2_1_0
                have cy2_2_0 : y2.cell? ⟨W.heap.size + 1 + 1, 0, none⟩ = some (.int .i64 px) := cell_gr hy2 (by go_simp)
                have cy2_2_1 : y2.cell? ⟨W.heap.size + 1 + 1, 1, none⟩ = some (.int .i64 py) := cell_gr hy2 (by go_simp)
                have zy2_2 : W.heap.size + 1 + 1 < y2.heap.size := World.block_lt_of_cell? _ _ cy2_2_0
                have cy2_3_0 : y2.cell? ⟨W.heap.size + 1 + 1 + 1, 0, none⟩ = some (.int .i64 y) := cell_gr hy2 (by go_simp)
                have zy2_3 : W.heap.size + 1 + 1 + 1 < y2.heap.size := World.block_lt_of_cell? _ _ cy2_3_0
                have cy2_4_0 : y2.cell? ⟨w3.heap.size, 0, none⟩ = some (.int .i64 k) := cell_gr hy2 (by go_simp)
                have cy2_4_1 : y2.cell? ⟨w3.heap.size, 1, none⟩ = some (bb) := cell_gr hy2 (by go_simp)
                have zy2_4 : w3.heap.size < y2.heap.size := World.block_lt_of_cell? _ _ cy2_4_0
                have cy2_5_0 : y2.cell? ⟨B5, 0, none⟩ = some (.int .i64 kq) := cell_gr hy2 (by go_simp)
                have cy2_5_1 : y2.cell? ⟨B5, 1, none⟩ = some (.int .i64 lx) := cell_gr hy2 (by go_simp)
                have cy2_5_2 : y2.cell? ⟨B5, 2, none⟩ = some (.int .i64 ul) := cell_gr hy2 (by go_simp)
                have cy2_5_3 : y2.cell? ⟨B5, 3, none⟩ = some (.int .i64 hx) := cell_gr hy2 (by go_simp)
                have cy2_5_4 : y2.cell? ⟨B5, 4, none⟩ = some (.int .i64 uh) := cell_gr hy2 (by go_simp)
                have cy2_5_5 : y2.cell? ⟨B5, 5, none⟩ = some (cc) := cell_gr hy2 (by go_simp)
                have zy2_5 : B5 < y2.heap.size := World.block_lt_of_cell? _ _ cy2_5_0
                have gy2 : Gr wr y2 := Gr.trans (by have gg := gy1; have gs := gg.size; go_grown) hy2
                clear hy2 gy1 zy1_0 cy1_0_0 cy1_0_1 zy1_1 cy1_1_0 cy1_1_1 cy1_1_2 cy1_1_3 cy1_1_4 cy1_1_5 zy1_2 cy1_2_0 cy1_2_1 zy1_3 cy1_3_0 zy1_4 cy1_4_0 cy1_4_1 zy1_5 cy1_5_0 cy1_5_1 cy1_5_2 cy1_5_3 cy1_5_4 cy1_5_5
                go_wp2_with fail
                go_at_call 32
                refine ((LP.out _ (by have gg := gy2; have gs := gg.size; go_grown))).mono ?_
                rintro e y3 ⟨rfl, hy3⟩
                have cy3_0_0 : y3.cell? ⟨W.heap.size, 0, none⟩ = some (.int .i64 k) := cell_gr hy3 (by go_simp)
                have cy3_0_1 : y3.cell? ⟨W.heap.size, 1, none⟩ = some (.slice ad i cap) := cell_gr hy3 (by go_simp)
                have zy3_0 : W.heap.size < y3.heap.size := World.block_lt_of_cell? _ _ cy3_0_0
                have cy3_1_0 : y3.cell? ⟨W.heap.size + 1, 0, none⟩ = some (.int .i64 kq) := cell_gr hy3 (by go_simp)
                have cy3_1_1 : y3.cell? ⟨W.heap.size + 1, 1, none⟩ = some (.int .i64 lx) := cell_gr hy3 (by go_simp)
                have cy3_1_2 : y3.cell? ⟨W.heap.size + 1, 2, none⟩ = some (.int .i64 ly) := cell_gr hy3 (by go_simp)
                have cy3_1_3 : y3.cell? ⟨W.heap.size + 1, 3, none⟩ = some (.int .i64 hx) := cell_gr hy3 (by go_simp)
                have cy3_1_4 : y3.cell? ⟨W.heap.size + 1, 4, none⟩ = some (.int .i64 hy) := cell_gr hy3 (by go_simp)
                have cy3_1_5 : y3.cell? ⟨W.heap.size + 1, 5, none⟩ = some (.slice bd j bcap) := cell_gr hy3 (by go_simp)
                have zy3_1 : W.heap.size + 1 < y3.heap.size := World.block_lt_of_cell? _ _ cy3_1_0
                have cy3_2_0 : y3.cell? ⟨W.heap.size + 1 + 1, 0, none⟩ = some (.int .i64 px) := cell_gr hy3 (by go_simp)
                have cy3_2_1 : y3.cell? ⟨W.heap.size + 1 + 1, 1, none⟩ = some (.int .i64 py) := cell_gr hy3 (by go_simp)
                have zy3_2 : W.heap.size + 1 + 1 < y3.heap.size := World.block_lt_of_cell? _ _ cy3_2_0
                have cy3_3_0 : y3.cell? ⟨W.heap.size + 1 + 1 + 1, 0, none⟩ = some (.int .i64 y) := cell_gr hy3 (by go_simp)
                have zy3_3 : W.heap.size + 1 + 1 + 1 < y3.heap.size := World.block_lt_of_cell? _ _ cy3_3_0
                have cy3_4_0 : y3.cell? ⟨w3.heap.size, 0, none⟩ = some (.int .i64 k) := cell_gr hy3 (by go_simp)
                have cy3_4_1 : y3.cell? ⟨w3.heap.size, 1, none⟩ = some (bb) := cell_gr hy3 (by go_simp)
                have zy3_4 : w3.heap.size < y3.heap.size := World.block_lt_of_cell? _ _ cy3_4_0
                have cy3_5_0 : y3.cell? ⟨B5, 0, none⟩ = some (.int .i64 kq) := cell_gr hy3 (by go_simp)
                have cy3_5_1 : y3.cell? ⟨B5, 1, none⟩ = some (.int .i64 lx) := cell_gr hy3 (by go_simp)
                have cy3_5_2 : y3.cell? ⟨B5, 2, none⟩ = some (.int .i64 ul) := cell_gr hy3 (by go_simp)
                have cy3_5_3 : y3.cell? ⟨B5, 3, none⟩ = some (.int .i64 hx) := cell_gr hy3 (by go_simp)
                have cy3_5_4 : y3.cell? ⟨B5, 4, none⟩ = some (.int .i64 uh) := cell_gr hy3 (by go_simp)
                have cy3_5_5 : y3.cell? ⟨B5, 5, none⟩ = some (cc) := cell_gr hy3 (by go_simp)
                have zy3_5 : B5 < y3.heap.size := World.block_lt_of_cell? _ _ cy3_5_0
                have gy3 : Gr wr y3 := Gr.trans (by have gg := gy2; have gs := gg.size; go_grown) hy3
                clear hy3 gy2 zy2_0 cy2_0_0 cy2_0_1 zy2_1 cy2_1_0 cy2_1_1 cy2_1_2 cy2_1_3 cy2_1_4 cy2_1_5 zy2_2 cy2_2_0 cy2_2_1 zy2_3 cy2_3_0 zy2_4 cy2_4_0 cy2_4_1 zy2_5 cy2_5_0 cy2_5_1 cy2_5_2 cy2_5_3 cy2_5_4 cy2_5_5
                go_wp2_with fail
                go_at_call 24
                refine ((HM3.out _)).mono ?_
                rintro e y4 ⟨rfl, hy4⟩
                have cy4_0_0 : y4.cell? ⟨W.heap.size, 0, none⟩ = some (.int .i64 k) := cell_gr hy4 (by go_simp)
                have cy4_0_1 : y4.cell? ⟨W.heap.size, 1, none⟩ = some (.slice ad i cap) := cell_gr hy4 (by go_simp)
                have zy4_0 : W.heap.size < y4.heap.size := World.block_lt_of_cell? _ _ cy4_0_0
                have cy4_1_0 : y4.cell? ⟨W.heap.size + 1, 0, none⟩ = some (.int .i64 kq) := cell_gr hy4 (by go_simp)
                have cy4_1_1 : y4.cell? ⟨W.heap.size + 1, 1, none⟩ = some (.int .i64 lx) := cell_gr hy4 (by go_simp)
                have cy4_1_2 : y4.cell? ⟨W.heap.size + 1, 2, none⟩ = some (.int .i64 ly) := cell_gr hy4 (by go_simp)
                have cy4_1_3 : y4.cell? ⟨W.heap.size + 1, 3, none⟩ = some (.int .i64 hx) := cell_gr hy4 (by go_simp)
                have cy4_1_4 : y4.cell? ⟨W.heap.size + 1, 4, none⟩ = some (.int .i64 hy) := cell_gr hy4 (by go_simp)
                have cy4_1_5 : y4.cell? ⟨W.heap.size + 1, 5, none⟩ = some (.slice bd j bcap) := cell_gr hy4 (by go_simp)
                have zy4_1 : W.heap.size + 1 < y4.heap.size := World.block_lt_of_cell? _ _ cy4_1_0
                have cy4_2_0 : y4.cell? ⟨W.heap.size + 1 + 1, 0, none⟩ = some (.int .i64 px) := cell_gr hy4 (by go_simp)
                have cy4_2_1 : y4.cell? ⟨W.heap.size + 1 + 1, 1, none⟩ = some (.int .i64 py) := cell_gr hy4 (by go_simp)
                have zy4_2 : W.heap.size + 1 + 1 < y4.heap.size := World.block_lt_of_cell? _ _ cy4_2_0
                have cy4_3_0 : y4.cell? ⟨W.heap.size + 1 + 1 + 1, 0, none⟩ = some (.int .i64 y) := cell_gr hy4 (by go_simp)
                have zy4_3 : W.heap.size + 1 + 1 + 1 < y4.heap.size := World.block_lt_of_cell? _ _ cy4_3_0
                have cy4_4_0 : y4.cell? ⟨w3.heap.size, 0, none⟩ = some (.int .i64 k) := cell_gr hy4 (by go_simp)
                have cy4_4_1 : y4.cell? ⟨w3.heap.size, 1, none⟩ = some (bb) := cell_gr hy4 (by go_simp)
                have zy4_4 : w3.heap.size < y4.heap.size := World.block_lt_of_cell? _ _ cy4_4_0
                have cy4_5_0 : y4.cell? ⟨B5, 0, none⟩ = some (.int .i64 kq) := cell_gr hy4 (by go_simp)
                have cy4_5_1 : y4.cell? ⟨B5, 1, none⟩ = some (.int .i64 lx) := cell_gr hy4 (by go_simp)
                have cy4_5_2 : y4.cell? ⟨B5, 2, none⟩ = some (.int .i64 ul) := cell_gr hy4 (by go_simp)
                have cy4_5_3 : y4.cell? ⟨B5, 3, none⟩ = some (.int .i64 hx) := cell_gr hy4 (by go_simp)
                have cy4_5_4 : y4.cell? ⟨B5, 4, none⟩ = some (.int .i64 uh) := cell_gr hy4 (by go_simp)
                have cy4_5_5 : y4.cell? ⟨B5, 5, none⟩ = some (cc) := cell_gr hy4 (by go_simp)
                have zy4_5 : B5 < y4.heap.size := World.block_lt_of_cell? _ _ cy4_5_0
                have gy4 : Gr wr y4 := Gr.trans (by have gg := gy3; have gs := gg.size; go_grown) hy4
                clear hy4 gy3 zy3_0 cy3_0_0 cy3_0_1 zy3_1 cy3_1_0 cy3_1_1 cy3_1_2 cy3_1_3 cy3_1_4 cy3_1_5 zy3_2 cy3_2_0 cy3_2_1 zy3_3 cy3_3_0 zy3_4 cy3_4_0 cy3_4_1 zy3_5 cy3_5_0 cy3_5_1 cy3_5_2 cy3_5_3 cy3_5_4 cy3_5_5
                go_wp2_with fail
                try simp only [List.append]
                refine Od.wp_region_ord [(0, false), (1, false), (3, false), (4, false), (2, true), (5, true), (6, false), (7, false), (8, false), (9, false), (10, false), (13, false), (14, false), (11, true), (12, true), (15, true), (16, false), (17, false), (18, false), (19, true), (20, false), (21, false)] (by kernel_rfl) (by kernel_rfl) ?_
                intro y5 hy5 KQ hKQ
                have cy5_0_0 : y5.cell? ⟨W.heap.size, 0, none⟩ = some (.int .i64 k) := cell_gr hy5 (by go_simp)
                have cy5_0_1 : y5.cell? ⟨W.heap.size, 1, none⟩ = some (.slice ad i cap) := cell_gr hy5 (by go_simp)
                have zy5_0 : W.heap.size < y5.heap.size := World.block_lt_of_cell? _ _ cy5_0_0
                have cy5_1_0 : y5.cell? ⟨W.heap.size + 1, 0, none⟩ = some (.int .i64 kq) := cell_gr hy5 (by go_simp)
                have cy5_1_1 : y5.cell? ⟨W.heap.size + 1, 1, none⟩ = some (.int .i64 lx) := cell_gr hy5 (by go_simp)
                have cy5_1_2 : y5.cell? ⟨W.heap.size + 1, 2, none⟩ = some (.int .i64 ly) := cell_gr hy5 (by go_simp)
                have cy5_1_3 : y5.cell? ⟨W.heap.size + 1, 3, none⟩ = some (.int .i64 hx) := cell_gr hy5 (by go_simp)
                have cy5_1_4 : y5.cell? ⟨W.heap.size + 1, 4, none⟩ = some (.int .i64 hy) := cell_gr hy5 (by go_simp)
                have cy5_1_5 : y5.cell? ⟨W.heap.size + 1, 5, none⟩ = some (.slice bd j bcap) := cell_gr hy5 (by go_simp)
                have zy5_1 : W.heap.size + 1 < y5.heap.size := World.block_lt_of_cell? _ _ cy5_1_0
                have cy5_2_0 : y5.cell? ⟨W.heap.size + 1 + 1, 0, none⟩ = some (.int .i64 px) := cell_gr hy5 (by go_simp)
                have cy5_2_1 : y5.cell? ⟨W.heap.size + 1 + 1, 1, none⟩ = some (.int .i64 py) := cell_gr hy5 (by go_simp)
                have zy5_2 : W.heap.size + 1 + 1 < y5.heap.size := World.block_lt_of_cell? _ _ cy5_2_0
                have cy5_3_0 : y5.cell? ⟨W.heap.size + 1 + 1 + 1, 0, none⟩ = some (.int .i64 y) := cell_gr hy5 (by go_simp)
                have zy5_3 : W.heap.size + 1 + 1 + 1 < y5.heap.size := World.block_lt_of_cell? _ _ cy5_3_0
                have cy5_4_0 : y5.cell? ⟨w3.heap.size, 0, none⟩ = some (.int .i64 k) := cell_gr hy5 (by go_simp)
                have cy5_4_1 : y5.cell? ⟨w3.heap.size, 1, none⟩ = some (bb) := cell_gr hy5 (by go_simp)
                have zy5_4 : w3.heap.size < y5.heap.size := World.block_lt_of_cell? _ _ cy5_4_0
                have cy5_5_0 : y5.cell? ⟨B5, 0, none⟩ = some (.int .i64 kq) := cell_gr hy5 (by go_simp)
                have cy5_5_1 : y5.cell? ⟨B5, 1, none⟩ = some (.int .i64 lx) := cell_gr hy5 (by go_simp)
                have cy5_5_2 : y5.cell? ⟨B5, 2, none⟩ = some (.int .i64 ul) := cell_gr hy5 (by go_simp)
                have cy5_5_3 : y5.cell? ⟨B5, 3, none⟩ = some (.int .i64 hx) := cell_gr hy5 (by go_simp)
                have cy5_5_4 : y5.cell? ⟨B5, 4, none⟩ = some (.int .i64 uh) := cell_gr hy5 (by go_simp)
                have cy5_5_5 : y5.cell? ⟨B5, 5, none⟩ = some (cc) := cell_gr hy5 (by go_simp)
                have zy5_5 : B5 < y5.heap.size := World.block_lt_of_cell? _ _ cy5_5_0
                have gy5 : Gr wr y5 := Gr.trans (by have gg := gy4; have gs := gg.size; go_grown) hy5
                clear gy4 zy4_0 cy4_0_0 cy4_0_1 zy4_1 cy4_1_0 cy4_1_1 cy4_1_2 cy4_1_3 cy4_1_4 cy4_1_5 zy4_2 cy4_2_0 cy4_2_1 zy4_3 cy4_3_0 zy4_4 cy4_4_0 cy4_4_1 zy4_5 cy4_5_0 cy4_5_1 cy4_5_2 cy4_5_3 cy4_5_4 cy4_5_5
                clear hy5
                repeat (first | (refine Od.wpO_skip (by simp only [List.getElem?_toArray, List.getElem?_cons_succ, List.getElem?_cons_zero] <;> rfl) rfl ?_; simp only [Act.put, List.setIfInBounds_toArray, List.set_cons_zero, List.set_cons_succ]) | (refine Od.wpO_pure (by simp only [List.getElem?_toArray, List.getElem?_cons_succ, List.getElem?_cons_zero] <;> rfl) rfl ?_; apply Exists.intro; refine ⟨?_, ?_⟩; (· intro wx gx; obtain ⟨mx, rfl⟩ := spread_of_gr gx; clear gx; all_goals (apply Od.pAt_of_quiet; intro K hK; go_big_quiet_op; first | exact hK _ rfl | (apply Exists.intro; refine ⟨fun _ => ?_, ?_⟩; (· fail); exact hK _ rfl))); try simp only [Act.put, List.setIfInBounds_toArray, List.set_cons_zero, List.set_cons_succ]))
                refine Od.wpO_call (by simp only [List.getElem?_toArray, List.getElem?_cons_succ, List.getElem?_cons_zero] <;> rfl) rfl ?_
                intro QS hQS
                go_wp2_with fail
                go_at_call 13
                (with_reducible refine ((N4.out _ gy5)).mono ?_)
                rintro e y6 ⟨rfl, hy6⟩
                go_wp2_with fail
                apply Exists.intro
                refine ⟨?_, hy6, ?_⟩
                · simp only [Act.put, List.setIfInBounds_toArray, List.set_cons_zero, List.set_cons_succ]; rfl
                have cy6_0_0 : y6.cell? ⟨W.heap.size, 0, none⟩ = some (.int .i64 k) := cell_gr hy6 (by go_simp)
                have cy6_0_1 : y6.cell? ⟨W.heap.size, 1, none⟩ = some (.slice ad i cap) := cell_gr hy6 (by go_simp)
                have zy6_0 : W.heap.size < y6.heap.size := World.block_lt_of_cell? _ _ cy6_0_0
                have cy6_1_0 : y6.cell? ⟨W.heap.size + 1, 0, none⟩ = some (.int .i64 kq) := cell_gr hy6 (by go_simp)
                have cy6_1_1 : y6.cell? ⟨W.heap.size + 1, 1, none⟩ = some (.int .i64 lx) := cell_gr hy6 (by go_simp)
                have cy6_1_2 : y6.cell? ⟨W.heap.size + 1, 2, none⟩ = some (.int .i64 ly) := cell_gr hy6 (by go_simp)
                have cy6_1_3 : y6.cell? ⟨W.heap.size + 1, 3, none⟩ = some (.int .i64 hx) := cell_gr hy6 (by go_simp)
                have cy6_1_4 : y6.cell? ⟨W.heap.size + 1, 4, none⟩ = some (.int .i64 hy) := cell_gr hy6 (by go_simp)
                have cy6_1_5 : y6.cell? ⟨W.heap.size + 1, 5, none⟩ = some (.slice bd j bcap) := cell_gr hy6 (by go_simp)
                have zy6_1 : W.heap.size + 1 < y6.heap.size := World.block_lt_of_cell? _ _ cy6_1_0
                have cy6_2_0 : y6.cell? ⟨W.heap.size + 1 + 1, 0, none⟩ = some (.int .i64 px) := cell_gr hy6 (by go_simp)
                have cy6_2_1 : y6.cell? ⟨W.heap.size + 1 + 1, 1, none⟩ = some (.int .i64 py) := cell_gr hy6 (by go_simp)
                have zy6_2 : W.heap.size + 1 + 1 < y6.heap.size := World.block_lt_of_cell? _ _ cy6_2_0
                have cy6_3_0 : y6.cell? ⟨W.heap.size + 1 + 1 + 1, 0, none⟩ = some (.int .i64 y) := cell_gr hy6 (by go_simp)
                have zy6_3 : W.heap.size + 1 + 1 + 1 < y6.heap.size := World.block_lt_of_cell? _ _ cy6_3_0
                have cy6_4_0 : y6.cell? ⟨w3.heap.size, 0, none⟩ = some (.int .i64 k) := cell_gr hy6 (by go_simp)
                have cy6_4_1 : y6.cell? ⟨w3.heap.size, 1, none⟩ = some (bb) := cell_gr hy6 (by go_simp)
                have zy6_4 : w3.heap.size < y6.heap.size := World.block_lt_of_cell? _ _ cy6_4_0
                have cy6_5_0 : y6.cell? ⟨B5, 0, none⟩ = some (.int .i64 kq) := cell_gr hy6 (by go_simp)
                have cy6_5_1 : y6.cell? ⟨B5, 1, none⟩ = some (.int .i64 lx) := cell_gr hy6 (by go_simp)
                have cy6_5_2 : y6.cell? ⟨B5, 2, none⟩ = some (.int .i64 ul) := cell_gr hy6 (by go_simp)
                have cy6_5_3 : y6.cell? ⟨B5, 3, none⟩ = some (.int .i64 hx) := cell_gr hy6 (by go_simp)
                have cy6_5_4 : y6.cell? ⟨B5, 4, none⟩ = some (.int .i64 uh) := cell_gr hy6 (by go_simp)
                have cy6_5_5 : y6.cell? ⟨B5, 5, none⟩ = some (cc) := cell_gr hy6 (by go_simp)
                have zy6_5 : B5 < y6.heap.size := World.block_lt_of_cell? _ _ cy6_5_0
                have gy6 : Gr wr y6 := Gr.trans (by have gg := gy5; have gs := gg.size; go_grown) hy6
                clear gy5 zy5_0 cy5_0_0 cy5_0_1 zy5_1 cy5_1_0 cy5_1_1 cy5_1_2 cy5_1_3 cy5_1_4 cy5_1_5 zy5_2 cy5_2_0 cy5_2_1 zy5_3 cy5_3_0 zy5_4 cy5_4_0 cy5_4_1 zy5_5 cy5_5_0 cy5_5_1 cy5_5_2 cy5_5_3 cy5_5_4 cy5_5_5
                clear hy6
                try simp only [Act.put, List.setIfInBounds_toArray, List.set_cons_zero, List.set_cons_succ]
                repeat (first | (refine Od.wpO_skip (by simp only [List.getElem?_toArray, List.getElem?_cons_succ, List.getElem?_cons_zero] <;> rfl) rfl ?_; simp only [Act.put, List.setIfInBounds_toArray, List.set_cons_zero, List.set_cons_succ]) | (refine Od.wpO_pure (by simp only [List.getElem?_toArray, List.getElem?_cons_succ, List.getElem?_cons_zero] <;> rfl) rfl ?_; apply Exists.intro; refine ⟨?_, ?_⟩; (· intro wx gx; obtain ⟨mx, rfl⟩ := spread_of_gr gx; clear gx; all_goals (apply Od.pAt_of_quiet; intro K hK; go_big_quiet_op; first | exact hK _ rfl | (apply Exists.intro; refine ⟨fun _ => ?_, ?_⟩; (· fail); exact hK _ rfl))); try simp only [Act.put, List.setIfInBounds_toArray, List.set_cons_zero, List.set_cons_succ]))
                refine Od.wpO_call (by simp only [List.getElem?_toArray, List.getElem?_cons_succ, List.getElem?_cons_zero] <;> rfl) rfl ?_
                intro QS hQS
                go_wp2_with fail
                go_at_call 13
                (with_reducible refine ((L5.out _ gy6)).mono ?_)
                rintro e y7 ⟨rfl, hy7⟩
                go_wp2_with fail
                apply Exists.intro
                refine ⟨?_, hy7, ?_⟩
                · simp only [Act.put, List.setIfInBounds_toArray, List.set_cons_zero, List.set_cons_succ]; rfl
                have cy7_0_0 : y7.cell? ⟨W.heap.size, 0, none⟩ = some (.int .i64 k) := cell_gr hy7 (by go_simp)
                have cy7_0_1 : y7.cell? ⟨W.heap.size, 1, none⟩ = some (.slice ad i cap) := cell_gr hy7 (by go_simp)
                have zy7_0 : W.heap.size < y7.heap.size := World.block_lt_of_cell? _ _ cy7_0_0
                have cy7_1_0 : y7.cell? ⟨W.heap.size + 1, 0, none⟩ = some (.int .i64 kq) := cell_gr hy7 (by go_simp)
                have cy7_1_1 : y7.cell? ⟨W.heap.size + 1, 1, none⟩ = some (.int .i64 lx) := cell_gr hy7 (by go_simp)
                have cy7_1_2 : y7.cell? ⟨W.heap.size + 1, 2, none⟩ = some (.int .i64 ly) := cell_gr hy7 (by go_simp)
                have cy7_1_3 : y7.cell? ⟨W.heap.size + 1, 3, none⟩ = some (.int .i64 hx) := cell_gr hy7 (by go_simp)
                have cy7_1_4 : y7.cell? ⟨W.heap.size + 1, 4, none⟩ = some (.int .i64 hy) := cell_gr hy7 (by go_simp)
                have cy7_1_5 : y7.cell? ⟨W.heap.size + 1, 5, none⟩ = some (.slice bd j bcap) := cell_gr hy7 (by go_simp)
                have zy7_1 : W.heap.size + 1 < y7.heap.size := World.block_lt_of_cell? _ _ cy7_1_0
                have cy7_2_0 : y7.cell? ⟨W.heap.size + 1 + 1, 0, none⟩ = some (.int .i64 px) := cell_gr hy7 (by go_simp)
                have cy7_2_1 : y7.cell? ⟨W.heap.size + 1 + 1, 1, none⟩ = some (.int .i64 py) := cell_gr hy7 (by go_simp)
                have zy7_2 : W.heap.size + 1 + 1 < y7.heap.size := World.block_lt_of_cell? _ _ cy7_2_0
                have cy7_3_0 : y7.cell? ⟨W.heap.size + 1 + 1 + 1, 0, none⟩ = some (.int .i64 y) := cell_gr hy7 (by go_simp)
                have zy7_3 : W.heap.size + 1 + 1 + 1 < y7.heap.size := World.block_lt_of_cell? _ _ cy7_3_0
                have cy7_4_0 : y7.cell? ⟨w3.heap.size, 0, none⟩ = some (.int .i64 k) := cell_gr hy7 (by go_simp)
                have cy7_4_1 : y7.cell? ⟨w3.heap.size, 1, none⟩ = some (bb) := cell_gr hy7 (by go_simp)
                have zy7_4 : w3.heap.size < y7.heap.size := World.block_lt_of_cell? _ _ cy7_4_0
                have cy7_5_0 : y7.cell? ⟨B5, 0, none⟩ = some (.int .i64 kq) := cell_gr hy7 (by go_simp)
                have cy7_5_1 : y7.cell? ⟨B5, 1, none⟩ = some (.int .i64 lx) := cell_gr hy7 (by go_simp)
                have cy7_5_2 : y7.cell? ⟨B5, 2, none⟩ = some (.int .i64 ul) := cell_gr hy7 (by go_simp)
                have cy7_5_3 : y7.cell? ⟨B5, 3, none⟩ = some (.int .i64 hx) := cell_gr hy7 (by go_simp)
                have cy7_5_4 : y7.cell? ⟨B5, 4, none⟩ = some (.int .i64 uh) := cell_gr hy7 (by go_simp)
                have cy7_5_5 : y7.cell? ⟨B5, 5, none⟩ = some (cc) := cell_gr hy7 (by go_simp)
                have zy7_5 : B5 < y7.heap.size := World.block_lt_of_cell? _ _ cy7_5_0
                have gy7 : Gr wr y7 := Gr.trans (by have gg := gy6; have gs := gg.size; go_grown) hy7
                clear gy6 zy6_0 cy6_0_0 cy6_0_1 zy6_1 cy6_1_0 cy6_1_1 cy6_1_2 cy6_1_3 cy6_1_4 cy6_1_5 zy6_2 cy6_2_0 cy6_2_1 zy6_3 cy6_3_0 zy6_4 cy6_4_0 cy6_4_1 zy6_5 cy6_5_0 cy6_5_1 cy6_5_2 cy6_5_3 cy6_5_4 cy6_5_5
                clear hy7
                try simp only [Act.put, List.setIfInBounds_toArray, List.set_cons_zero, List.set_cons_succ]
                repeat (first | (refine Od.wpO_skip (by simp only [List.getElem?_toArray, List.getElem?_cons_succ, List.getElem?_cons_zero] <;> rfl) rfl ?_; simp only [Act.put, List.setIfInBounds_toArray, List.set_cons_zero, List.set_cons_succ]) | (refine Od.wpO_pure (by simp only [List.getElem?_toArray, List.getElem?_cons_succ, List.getElem?_cons_zero] <;> rfl) rfl ?_; apply Exists.intro; refine ⟨?_, ?_⟩; (· intro wx gx; obtain ⟨mx, rfl⟩ := spread_of_gr gx; clear gx; all_goals (apply Od.pAt_of_quiet; intro K hK; go_big_quiet_op; first | exact hK _ rfl | (apply Exists.intro; refine ⟨fun _ => ?_, ?_⟩; (· fail); exact hK _ rfl))); try simp only [Act.put, List.setIfInBounds_toArray, List.set_cons_zero, List.set_cons_succ]))
                refine Od.wpO_call (by simp only [List.getElem?_toArray, List.getElem?_cons_succ, List.getElem?_cons_zero] <;> rfl) rfl ?_
                intro QS hQS
                go_wp2_with fail
                go_at_call 32
                (with_reducible refine ((LP.out _ gy7)).mono ?_)
                rintro e y8 ⟨rfl, hy8⟩
                go_wp2_with fail
                apply Exists.intro
                refine ⟨?_, hy8, ?_⟩
                · simp only [Act.put, List.setIfInBounds_toArray, List.set_cons_zero, List.set_cons_succ]; rfl
                have cy8_0_0 : y8.cell? ⟨W.heap.size, 0, none⟩ = some (.int .i64 k) := cell_gr hy8 (by go_simp)
                have cy8_0_1 : y8.cell? ⟨W.heap.size, 1, none⟩ = some (.slice ad i cap) := cell_gr hy8 (by go_simp)
                have zy8_0 : W.heap.size < y8.heap.size := World.block_lt_of_cell? _ _ cy8_0_0
                have cy8_1_0 : y8.cell? ⟨W.heap.size + 1, 0, none⟩ = some (.int .i64 kq) := cell_gr hy8 (by go_simp)
                have cy8_1_1 : y8.cell? ⟨W.heap.size + 1, 1, none⟩ = some (.int .i64 lx) := cell_gr hy8 (by go_simp)
                have cy8_1_2 : y8.cell? ⟨W.heap.size + 1, 2, none⟩ = some (.int .i64 ly) := cell_gr hy8 (by go_simp)
                have cy8_1_3 : y8.cell? ⟨W.heap.size + 1, 3, none⟩ = some (.int .i64 hx) := cell_gr hy8 (by go_simp)
                have cy8_1_4 : y8.cell? ⟨W.heap.size + 1, 4, none⟩ = some (.int .i64 hy) := cell_gr hy8 (by go_simp)
                have cy8_1_5 : y8.cell? ⟨W.heap.size + 1, 5, none⟩ = some (.slice bd j bcap) := cell_gr hy8 (by go_simp)
                have zy8_1 : W.heap.size + 1 < y8.heap.size := World.block_lt_of_cell? _ _ cy8_1_0
                have cy8_2_0 : y8.cell? ⟨W.heap.size + 1 + 1, 0, none⟩ = some (.int .i64 px) := cell_gr hy8 (by go_simp)
                have cy8_2_1 : y8.cell? ⟨W.heap.size + 1 + 1, 1, none⟩ = some (.int .i64 py) := cell_gr hy8 (by go_simp)
                have zy8_2 : W.heap.size + 1 + 1 < y8.heap.size := World.block_lt_of_cell? _ _ cy8_2_0
                have cy8_3_0 : y8.cell? ⟨W.heap.size + 1 + 1 + 1, 0, none⟩ = some (.int .i64 y) := cell_gr hy8 (by go_simp)
                have zy8_3 : W.heap.size + 1 + 1 + 1 < y8.heap.size := World.block_lt_of_cell? _ _ cy8_3_0
                have cy8_4_0 : y8.cell? ⟨w3.heap.size, 0, none⟩ = some (.int .i64 k) := cell_gr hy8 (by go_simp)
                have cy8_4_1 : y8.cell? ⟨w3.heap.size, 1, none⟩ = some (bb) := cell_gr hy8 (by go_simp)
                have zy8_4 : w3.heap.size < y8.heap.size := World.block_lt_of_cell? _ _ cy8_4_0
                have cy8_5_0 : y8.cell? ⟨B5, 0, none⟩ = some (.int .i64 kq) := cell_gr hy8 (by go_simp)
                have cy8_5_1 : y8.cell? ⟨B5, 1, none⟩ = some (.int .i64 lx) := cell_gr hy8 (by go_simp)
                have cy8_5_2 : y8.cell? ⟨B5, 2, none⟩ = some (.int .i64 ul) := cell_gr hy8 (by go_simp)
                have cy8_5_3 : y8.cell? ⟨B5, 3, none⟩ = some (.int .i64 hx) := cell_gr hy8 (by go_simp)
                have cy8_5_4 : y8.cell? ⟨B5, 4, none⟩ = some (.int .i64 uh) := cell_gr hy8 (by go_simp)
                have cy8_5_5 : y8.cell? ⟨B5, 5, none⟩ = some (cc) := cell_gr hy8 (by go_simp)
                have zy8_5 : B5 < y8.heap.size := World.block_lt_of_cell? _ _ cy8_5_0
                have gy8 : Gr wr y8 := Gr.trans (by have gg := gy7; have gs := gg.size; go_grown) hy8
                clear gy7 zy7_0 cy7_0_0 cy7_0_1 zy7_1 cy7_1_0 cy7_1_1 cy7_1_2 cy7_1_3 cy7_1_4 cy7_1_5 zy7_2 cy7_2_0 cy7_2_1 zy7_3 cy7_3_0 zy7_4 cy7_4_0 cy7_4_1 zy7_5 cy7_5_0 cy7_5_1 cy7_5_2 cy7_5_3 cy7_5_4 cy7_5_5
                clear hy8
                try simp only [Act.put, List.setIfInBounds_toArray, List.set_cons_zero, List.set_cons_succ]
                repeat (first | (refine Od.wpO_skip (by simp only [List.getElem?_toArray, List.getElem?_cons_succ, List.getElem?_cons_zero] <;> rfl) rfl ?_; simp only [Act.put, List.setIfInBounds_toArray, List.set_cons_zero, List.set_cons_succ]) | (refine Od.wpO_pure (by simp only [List.getElem?_toArray, List.getElem?_cons_succ, List.getElem?_cons_zero] <;> rfl) rfl ?_; apply Exists.intro; refine ⟨?_, ?_⟩; (· intro wx gx; obtain ⟨mx, rfl⟩ := spread_of_gr gx; clear gx; all_goals (apply Od.pAt_of_quiet; intro K hK; go_big_quiet_op; first | exact hK _ rfl | (apply Exists.intro; refine ⟨fun _ => ?_, ?_⟩; (· fail); exact hK _ rfl))); try simp only [Act.put, List.setIfInBounds_toArray, List.set_cons_zero, List.set_cons_succ]))
                refine Od.wpO_call (by simp only [List.getElem?_toArray, List.getElem?_cons_succ, List.getElem?_cons_zero] <;> rfl) rfl ?_
                intro QS hQS
                go_wp2_with fail
                go_at_call 15
                (with_reducible refine ((N6.out _ gy8)).mono ?_)
                rintro e y9 ⟨rfl, hy9⟩
                go_wp2_with fail
                apply Exists.intro
                refine ⟨?_, hy9, ?_⟩
                · simp only [Act.put, List.setIfInBounds_toArray, List.set_cons_zero, List.set_cons_succ]; rfl
                have cy9_0_0 : y9.cell? ⟨W.heap.size, 0, none⟩ = some (.int .i64 k) := cell_gr hy9 (by go_simp)
                have cy9_0_1 : y9.cell? ⟨W.heap.size, 1, none⟩ = some (.slice ad i cap) := cell_gr hy9 (by go_simp)
                have zy9_0 : W.heap.size < y9.heap.size := World.block_lt_of_cell? _ _ cy9_0_0
                have cy9_1_0 : y9.cell? ⟨W.heap.size + 1, 0, none⟩ = some (.int .i64 kq) := cell_gr hy9 (by go_simp)
                have cy9_1_1 : y9.cell? ⟨W.heap.size + 1, 1, none⟩ = some (.int .i64 lx) := cell_gr hy9 (by go_simp)
                have cy9_1_2 : y9.cell? ⟨W.heap.size + 1, 2, none⟩ = some (.int .i64 ly) := cell_gr hy9 (by go_simp)
                have cy9_1_3 : y9.cell? ⟨W.heap.size + 1, 3, none⟩ = some (.int .i64 hx) := cell_gr hy9 (by go_simp)
                have cy9_1_4 : y9.cell? ⟨W.heap.size + 1, 4, none⟩ = some (.int .i64 hy) := cell_gr hy9 (by go_simp)
                have cy9_1_5 : y9.cell? ⟨W.heap.size + 1, 5, none⟩ = some (.slice bd j bcap) := cell_gr hy9 (by go_simp)
                have zy9_1 : W.heap.size + 1 < y9.heap.size := World.block_lt_of_cell? _ _ cy9_1_0
                have cy9_2_0 : y9.cell? ⟨W.heap.size + 1 + 1, 0, none⟩ = some (.int .i64 px) := cell_gr hy9 (by go_simp)
                have cy9_2_1 : y9.cell? ⟨W.heap.size + 1 + 1, 1, none⟩ = some (.int .i64 py) := cell_gr hy9 (by go_simp)
                have zy9_2 : W.heap.size + 1 + 1 < y9.heap.size := World.block_lt_of_cell? _ _ cy9_2_0
                have cy9_3_0 : y9.cell? ⟨W.heap.size + 1 + 1 + 1, 0, none⟩ = some (.int .i64 y) := cell_gr hy9 (by go_simp)
                have zy9_3 : W.heap.size + 1 + 1 + 1 < y9.heap.size := World.block_lt_of_cell? _ _ cy9_3_0
                have cy9_4_0 : y9.cell? ⟨w3.heap.size, 0, none⟩ = some (.int .i64 k) := cell_gr hy9 (by go_simp)
                have cy9_4_1 : y9.cell? ⟨w3.heap.size, 1, none⟩ = some (bb) := cell_gr hy9 (by go_simp)
                have zy9_4 : w3.heap.size < y9.heap.size := World.block_lt_of_cell? _ _ cy9_4_0
                have cy9_5_0 : y9.cell? ⟨B5, 0, none⟩ = some (.int .i64 kq) := cell_gr hy9 (by go_simp)
                have cy9_5_1 : y9.cell? ⟨B5, 1, none⟩ = some (.int .i64 lx) := cell_gr hy9 (by go_simp)
                have cy9_5_2 : y9.cell? ⟨B5, 2, none⟩ = some (.int .i64 ul) := cell_gr hy9 (by go_simp)
                have cy9_5_3 : y9.cell? ⟨B5, 3, none⟩ = some (.int .i64 hx) := cell_gr hy9 (by go_simp)
                have cy9_5_4 : y9.cell? ⟨B5, 4, none⟩ = some (.int .i64 uh) := cell_gr hy9 (by go_simp)
                have cy9_5_5 : y9.cell? ⟨B5, 5, none⟩ = some (cc) := cell_gr hy9 (by go_simp)
                have zy9_5 : B5 < y9.heap.size := World.block_lt_of_cell? _ _ cy9_5_0
                have gy9 : Gr wr y9 := Gr.trans (by have gg := gy8; have gs := gg.size; go_grown) hy9
                clear gy8 zy8_0 cy8_0_0 cy8_0_1 zy8_1 cy8_1_0 cy8_1_1 cy8_1_2 cy8_1_3 cy8_1_4 cy8_1_5 zy8_2 cy8_2_0 cy8_2_1 zy8_3 cy8_3_0 zy8_4 cy8_4_0 cy8_4_1 zy8_5 cy8_5_0 cy8_5_1 cy8_5_2 cy8_5_3 cy8_5_4 cy8_5_5
                clear hy9
                try simp only [Act.put, List.setIfInBounds_toArray, List.set_cons_zero, List.set_cons_succ]
                repeat (first | (refine Od.wpO_skip (by simp only [List.getElem?_toArray, List.getElem?_cons_succ, List.getElem?_cons_zero] <;> rfl) rfl ?_; simp only [Act.put, List.setIfInBounds_toArray, List.set_cons_zero, List.set_cons_succ]) | (refine Od.wpO_pure (by simp only [List.getElem?_toArray, List.getElem?_cons_succ, List.getElem?_cons_zero] <;> rfl) rfl ?_; apply Exists.intro; refine ⟨?_, ?_⟩; (· intro wx gx; obtain ⟨mx, rfl⟩ := spread_of_gr gx; clear gx; all_goals (apply Od.pAt_of_quiet; intro K hK; go_big_quiet_op; first | exact hK _ rfl | (apply Exists.intro; refine ⟨fun _ => ?_, ?_⟩; (· fail); exact hK _ rfl))); try simp only [Act.put, List.setIfInBounds_toArray, List.set_cons_zero, List.set_cons_succ]))
                refine Od.wpO_call (by simp only [List.getElem?_toArray, List.getElem?_cons_succ, List.getElem?_cons_zero] <;> rfl) rfl ?_
                intro QS hQS
                go_wp2_with fail
                go_at_call 15
                (with_reducible refine ((L7.out _ gy9)).mono ?_)
                rintro e ya ⟨rfl, hya⟩
                go_wp2_with fail
                apply Exists.intro
                refine ⟨?_, hya, ?_⟩
                · simp only [Act.put, List.setIfInBounds_toArray, List.set_cons_zero, List.set_cons_succ]; rfl
                have cya_0_0 : ya.cell? ⟨W.heap.size, 0, none⟩ = some (.int .i64 k) := cell_gr hya (by go_simp)
                have cya_0_1 : ya.cell? ⟨W.heap.size, 1, none⟩ = some (.slice ad i cap) := cell_gr hya (by go_simp)
                have zya_0 : W.heap.size < ya.heap.size := World.block_lt_of_cell? _ _ cya_0_0
                have cya_1_0 : ya.cell? ⟨W.heap.size + 1, 0, none⟩ = some (.int .i64 kq) := cell_gr hya (by go_simp)
                have cya_1_1 : ya.cell? ⟨W.heap.size + 1, 1, none⟩ = some (.int .i64 lx) := cell_gr hya (by go_simp)
                have cya_1_2 : ya.cell? ⟨W.heap.size + 1, 2, none⟩ = some (.int .i64 ly) := cell_gr hya (by go_simp)
                have cya_1_3 : ya.cell? ⟨W.heap.size + 1, 3, none⟩ = some (.int .i64 hx) := cell_gr hya (by go_simp)
                have cya_1_4 : ya.cell? ⟨W.heap.size + 1, 4, none⟩ = some (.int .i64 hy) := cell_gr hya (by go_simp)
                have cya_1_5 : ya.cell? ⟨W.heap.size + 1, 5, none⟩ = some (.slice bd j bcap) := cell_gr hya (by go_simp)
                have zya_1 : W.heap.size + 1 < ya.heap.size := World.block_lt_of_cell? _ _ cya_1_0
                have cya_2_0 : ya.cell? ⟨W.heap.size + 1 + 1, 0, none⟩ = some (.int .i64 px) := cell_gr hya (by go_simp)
                have cya_2_1 : ya.cell? ⟨W.heap.size + 1 + 1, 1, none⟩ = some (.int .i64 py) := cell_gr hya (by go_simp)
                have zya_2 : W.heap.size + 1 + 1 < ya.heap.size := World.block_lt_of_cell? _ _ cya_2_0
                have cya_3_0 : ya.cell? ⟨W.heap.size + 1 + 1 + 1, 0, none⟩ = some (.int .i64 y) := cell_gr hya (by go_simp)
                have zya_3 : W.heap.size + 1 + 1 + 1 < ya.heap.size := World.block_lt_of_cell? _ _ cya_3_0
                have cya_4_0 : ya.cell? ⟨w3.heap.size, 0, none⟩ = some (.int .i64 k) := cell_gr hya (by go_simp)
                have cya_4_1 : ya.cell? ⟨w3.heap.size, 1, none⟩ = some (bb) := cell_gr hya (by go_simp)
                have zya_4 : w3.heap.size < ya.heap.size := World.block_lt_of_cell? _ _ cya_4_0
                have cya_5_0 : ya.cell? ⟨B5, 0, none⟩ = some (.int .i64 kq) := cell_gr hya (by go_simp)
                have cya_5_1 : ya.cell? ⟨B5, 1, none⟩ = some (.int .i64 lx) := cell_gr hya (by go_simp)
                have cya_5_2 : ya.cell? ⟨B5, 2, none⟩ = some (.int .i64 ul) := cell_gr hya (by go_simp)
                have cya_5_3 : ya.cell? ⟨B5, 3, none⟩ = some (.int .i64 hx) := cell_gr hya (by go_simp)
                have cya_5_4 : ya.cell? ⟨B5, 4, none⟩ = some (.int .i64 uh) := cell_gr hya (by go_simp)
                have cya_5_5 : ya.cell? ⟨B5, 5, none⟩ = some (cc) := cell_gr hya (by go_simp)
                have zya_5 : B5 < ya.heap.size := World.block_lt_of_cell? _ _ cya_5_0
                have gya : Gr wr ya := Gr.trans (by have gg := gy9; have gs := gg.size; go_grown) hya
                clear gy9 zy9_0 cy9_0_0 cy9_0_1 zy9_1 cy9_1_0 cy9_1_1 cy9_1_2 cy9_1_3 cy9_1_4 cy9_1_5 zy9_2 cy9_2_0 cy9_2_1 zy9_3 cy9_3_0 zy9_4 cy9_4_0 cy9_4_1 zy9_5 cy9_5_0 cy9_5_1 cy9_5_2 cy9_5_3 cy9_5_4 cy9_5_5
                clear hya
                try simp only [Act.put, List.setIfInBounds_toArray, List.set_cons_zero, List.set_cons_succ]
                repeat (first | (refine Od.wpO_skip (by simp only [List.getElem?_toArray, List.getElem?_cons_succ, List.getElem?_cons_zero] <;> rfl) rfl ?_; simp only [Act.put, List.setIfInBounds_toArray, List.set_cons_zero, List.set_cons_succ]) | (refine Od.wpO_pure (by simp only [List.getElem?_toArray, List.getElem?_cons_succ, List.getElem?_cons_zero] <;> rfl) rfl ?_; apply Exists.intro; refine ⟨?_, ?_⟩; (· intro wx gx; obtain ⟨mx, rfl⟩ := spread_of_gr gx; clear gx; all_goals (apply Od.pAt_of_quiet; intro K hK; go_big_quiet_op; first | exact hK _ rfl | (apply Exists.intro; refine ⟨fun _ => ?_, ?_⟩; (· fail); exact hK _ rfl))); try simp only [Act.put, List.setIfInBounds_toArray, List.set_cons_zero, List.set_cons_succ]))
                refine Od.wpO_call (by simp only [List.getElem?_toArray, List.getElem?_cons_succ, List.getElem?_cons_zero] <;> rfl) rfl ?_
                intro QS hQS
                go_wp2_with fail
                go_at_call 9
                (with_reducible refine ((L8.out _ gya)).mono ?_)
                rintro e yb ⟨rfl, hyb⟩
                go_wp2_with fail
                apply Exists.intro
                refine ⟨?_, hyb, ?_⟩
                · simp only [Act.put, List.setIfInBounds_toArray, List.set_cons_zero, List.set_cons_succ]; rfl
                have cyb_0_0 : yb.cell? ⟨W.heap.size, 0, none⟩ = some (.int .i64 k) := cell_gr hyb (by go_simp)
                have cyb_0_1 : yb.cell? ⟨W.heap.size, 1, none⟩ = some (.slice ad i cap) := cell_gr hyb (by go_simp)
                have zyb_0 : W.heap.size < yb.heap.size := World.block_lt_of_cell? _ _ cyb_0_0
                have cyb_1_0 : yb.cell? ⟨W.heap.size + 1, 0, none⟩ = some (.int .i64 kq) := cell_gr hyb (by go_simp)
                have cyb_1_1 : yb.cell? ⟨W.heap.size + 1, 1, none⟩ = some (.int .i64 lx) := cell_gr hyb (by go_simp)
                have cyb_1_2 : yb.cell? ⟨W.heap.size + 1, 2, none⟩ = some (.int .i64 ly) := cell_gr hyb (by go_simp)
                have cyb_1_3 : yb.cell? ⟨W.heap.size + 1, 3, none⟩ = some (.int .i64 hx) := cell_gr hyb (by go_simp)
                have cyb_1_4 : yb.cell? ⟨W.heap.size + 1, 4, none⟩ = some (.int .i64 hy) := cell_gr hyb (by go_simp)
                have cyb_1_5 : yb.cell? ⟨W.heap.size + 1, 5, none⟩ = some (.slice bd j bcap) := cell_gr hyb (by go_simp)
                have zyb_1 : W.heap.size + 1 < yb.heap.size := World.block_lt_of_cell? _ _ cyb_1_0
                have cyb_2_0 : yb.cell? ⟨W.heap.size + 1 + 1, 0, none⟩ = some (.int .i64 px) := cell_gr hyb (by go_simp)
                have cyb_2_1 : yb.cell? ⟨W.heap.size + 1 + 1, 1, none⟩ = some (.int .i64 py) := cell_gr hyb (by go_simp)
                have zyb_2 : W.heap.size + 1 + 1 < yb.heap.size := World.block_lt_of_cell? _ _ cyb_2_0
                have cyb_3_0 : yb.cell? ⟨W.heap.size + 1 + 1 + 1, 0, none⟩ = some (.int .i64 y) := cell_gr hyb (by go_simp)
                have zyb_3 : W.heap.size + 1 + 1 + 1 < yb.heap.size := World.block_lt_of_cell? _ _ cyb_3_0
                have cyb_4_0 : yb.cell? ⟨w3.heap.size, 0, none⟩ = some (.int .i64 k) := cell_gr hyb (by go_simp)
                have cyb_4_1 : yb.cell? ⟨w3.heap.size, 1, none⟩ = some (bb) := cell_gr hyb (by go_simp)
                have zyb_4 : w3.heap.size < yb.heap.size := World.block_lt_of_cell? _ _ cyb_4_0
                have cyb_5_0 : yb.cell? ⟨B5, 0, none⟩ = some (.int .i64 kq) := cell_gr hyb (by go_simp)
                have cyb_5_1 : yb.cell? ⟨B5, 1, none⟩ = some (.int .i64 lx) := cell_gr hyb (by go_simp)
                have cyb_5_2 : yb.cell? ⟨B5, 2, none⟩ = some (.int .i64 ul) := cell_gr hyb (by go_simp)
                have cyb_5_3 : yb.cell? ⟨B5, 3, none⟩ = some (.int .i64 hx) := cell_gr hyb (by go_simp)
                have cyb_5_4 : yb.cell? ⟨B5, 4, none⟩ = some (.int .i64 uh) := cell_gr hyb (by go_simp)
                have cyb_5_5 : yb.cell? ⟨B5, 5, none⟩ = some (cc) := cell_gr hyb (by go_simp)
                have zyb_5 : B5 < yb.heap.size := World.block_lt_of_cell? _ _ cyb_5_0
                have gyb : Gr wr yb := Gr.trans (by have gg := gya; have gs := gg.size; go_grown) hyb
                clear gya zya_0 cya_0_0 cya_0_1 zya_1 cya_1_0 cya_1_1 cya_1_2 cya_1_3 cya_1_4 cya_1_5 zya_2 cya_2_0 cya_2_1 zya_3 cya_3_0 zya_4 cya_4_0 cya_4_1 zya_5 cya_5_0 cya_5_1 cya_5_2 cya_5_3 cya_5_4 cya_5_5
                clear hyb
                try simp only [Act.put, List.setIfInBounds_toArray, List.set_cons_zero, List.set_cons_succ]
                repeat (first | (refine Od.wpO_skip (by simp only [List.getElem?_toArray, List.getElem?_cons_succ, List.getElem?_cons_zero] <;> rfl) rfl ?_; simp only [Act.put, List.setIfInBounds_toArray, List.set_cons_zero, List.set_cons_succ]) | (refine Od.wpO_pure (by simp only [List.getElem?_toArray, List.getElem?_cons_succ, List.getElem?_cons_zero] <;> rfl) rfl ?_; apply Exists.intro; refine ⟨?_, ?_⟩; (· intro wx gx; obtain ⟨mx, rfl⟩ := spread_of_gr gx; clear gx; all_goals (apply Od.pAt_of_quiet; intro K hK; go_big_quiet_op; first | exact hK _ rfl | (apply Exists.intro; refine ⟨fun _ => ?_, ?_⟩; (· fail); exact hK _ rfl))); try simp only [Act.put, List.setIfInBounds_toArray, List.set_cons_zero, List.set_cons_succ]))
                refine Od.wpO_nil (hKQ _ _ ?_)
                clear hKQ KQ
                go_wp2_with fail
                go_ret
                exact ⟨rfl, Gr.trans GT.out gyb⟩
            · have e5 : ((c5 : Int) != 0) = true := by simp; omega
              have e6 : (c5 != 0) = true := by simp; omega
              subst z4
              clear L4 L5 L6 L7
              go_wp2_with fail
              go_at_call 33
              refine ((L1.out _ (by go_grown))).mono ?_
              rintro e y1 ⟨rfl, hy1⟩
              have cy1_0_0 : y1.cell? ⟨W.heap.size, 0, none⟩ = some (.int .i64 k) := cell_gr hy1 (by go_simp)
              have cy1_0_1 : y1.cell? ⟨W.heap.size, 1, none⟩ = some (.slice ad i cap) := cell_gr hy1 (by go_simp)
              have zy1_0 : W.heap.size < y1.heap.size := World.block_lt_of_cell? _ _ cy1_0_0
              have cy1_1_0 : y1.cell? ⟨W.heap.size + 1, 0, none⟩ = some (.int .i64 kq) := cell_gr hy1 (by go_simp)
              have cy1_1_1 : y1.cell? ⟨W.heap.size + 1, 1, none⟩ = some (.int .i64 lx) := cell_gr hy1 (by go_simp)
              have cy1_1_2 : y1.cell? ⟨W.heap.size + 1, 2, none⟩ = some (.int .i64 ly) := cell_gr hy1 (by go_simp)
              have cy1_1_3 : y1.cell? ⟨W.heap.size + 1, 3, none⟩ = some (.int .i64 hx) := cell_gr hy1 (by go_simp)
              have cy1_1_4 : y1.cell? ⟨W.heap.size + 1, 4, none⟩ = some (.int .i64 hy) := cell_gr hy1 (by go_simp)
              have cy1_1_5 : y1.cell? ⟨W.heap.size + 1, 5, none⟩ = some (.slice bd j bcap) := cell_gr hy1 (by go_simp)
              have zy1_1 : W.heap.size + 1 < y1.heap.size := World.block_lt_of_cell? _ _ cy1_1_0
              have cy1_2_0 : y1.cell? ⟨W.heap.size + 1 + 1, 0, none⟩ = some (.int .i64 px) := cell_gr hy1 (by go_simp)
              have cy1_2_1 : y1.cell? ⟨W.heap.size + 1 + 1, 1, none⟩ = some (.int .i64 py) := cell_gr hy1 (by go_simp)
              have zy1_2 : W.heap.size + 1 + 1 < y1.heap.size := World.block_lt_of_cell? _ _ cy1_2_0
              have cy1_3_0 : y1.cell? ⟨W.heap.size + 1 + 1 + 1, 0, none⟩ = some (.int .i64 y) := cell_gr hy1 (by go_simp)
              have zy1_3 : W.heap.size + 1 + 1 + 1 < y1.heap.size := World.block_lt_of_cell? _ _ cy1_3_0
              have cy1_4_0 : y1.cell? ⟨w3.heap.size, 0, none⟩ = some (.int .i64 k) := cell_gr hy1 (by go_simp)
              have cy1_4_1 : y1.cell? ⟨w3.heap.size, 1, none⟩ = some (bb) := cell_gr hy1 (by go_simp)
              have zy1_4 : w3.heap.size < y1.heap.size := World.block_lt_of_cell? _ _ cy1_4_0
              have cy1_5_0 : y1.cell? ⟨B5, 0, none⟩ = some (.int .i64 kq) := cell_gr hy1 (by go_simp)
              have cy1_5_1 : y1.cell? ⟨B5, 1, none⟩ = some (.int .i64 lx) := cell_gr hy1 (by go_simp)
              have cy1_5_2 : y1.cell? ⟨B5, 2, none⟩ = some (.int .i64 ul) := cell_gr hy1 (by go_simp)
              have cy1_5_3 : y1.cell? ⟨B5, 3, none⟩ = some (.int .i64 hx) := cell_gr hy1 (by go_simp)
              have cy1_5_4 : y1.cell? ⟨B5, 4, none⟩ = some (.int .i64 uh) := cell_gr hy1 (by go_simp)
              have cy1_5_5 : y1.cell? ⟨B5, 5, none⟩ = some (cc) := cell_gr hy1 (by go_simp)
              have zy1_5 : B5 < y1.heap.size := World.block_lt_of_cell? _ _ cy1_5_0
              have gy1 : Gr wr y1 := Gr.trans (by go_grown) hy1
              clear hy1
              go_wp2_with fail
              go_at_call 31
              refine ((L2.out _ (by have gg := gy1; have gs := gg.size; go_grown))).mono ?_
              rintro e y2 ⟨rfl, hy2⟩
              have cy2_0_0 : y2.cell? ⟨W.heap.size, 0, none⟩ = some (.int .i64 k) := cell_gr hy2 (by go_simp)
              have cy2_0_1 : y2.cell? ⟨W.heap.size, 1, none⟩ = some (.slice ad i cap) := cell_gr hy2 (by go_simp)
              have zy2_0 : W.heap.size < y2.heap.size := World.block_lt_of_cell? _ _ cy2_0_0
              have cy2_1_0 : y2.cell? ⟨W.heap.size + 1, 0, none⟩ = some (.int .i64 kq) := cell_gr hy2 (by go_simp)
              have cy2_1_1 : y2.cell? ⟨W.heap.size + 1, 1, none⟩ = some (.int .i64 lx) := cell_gr hy2 (by go_simp)
              have cy2_1_2 : y2.cell? ⟨W.heap.size + 1, 2, none⟩ = some (.int .i64 ly) := cell_gr hy2 (by go_simp)
              have cy2_1_3 : y2.cell? ⟨W.heap.size + 1, 3, none⟩ = some (.int .i64 hx) := cell_gr hy2 (by go_simp)
              have cy2_1_4 : y2.cell? ⟨W.heap.size + 1, 4, none⟩ = some (.int .i64 hy) := cell_gr hy2 (by go_simp)
              have cy2_1_5 : y2.cell? ⟨W.heap.size + 1, 5, none⟩ = some (.slice bd j bcap) := cell_gr hy2 (by go_simp)
              have zy2_1 : W.heap.size + 1 < y2.heap.size := World.block_lt_of_cell? _ _ cy2_1_0
              have cy2_2_0 : y2.cell? ⟨W.heap.size + 1 + 1, 0, none⟩ = some (.int .i64 px) := cell_gr hy2 (by go_simp)
              have cy2_2_1 : y2.cell? ⟨W.heap.size + 1 + 1, 1, none⟩ = some (.int .i64 py) := cell_gr hy2 (by go_simp)
              have zy2_2 : W.heap.size + 1 + 1 < y2.heap.size := World.block_lt_of_cell? _ _ cy2_2_0
              have cy2_3_0 : y2.cell? ⟨W.heap.size + 1 + 1 + 1, 0, none⟩ = some (.int .i64 y) := cell_gr hy2 (by go_simp)
              have zy2_3 : W.heap.size + 1 + 1 + 1 < y2.heap.size := World.block_lt_of_cell? _ _ cy2_3_0
              have cy2_4_0 : y2.cell? ⟨w3.heap.size, 0, none⟩ = some (.int .i64 k) := cell_gr hy2 (by go_simp)
              have cy2_4_1 : y2.cell? ⟨w3.heap.size, 1, none⟩ = some (bb) := cell_gr hy2 (by go_simp)
              have zy2_4 : w3.heap.size < y2.heap.size := World.block_lt_of_cell? _ _ cy2_4_0
              have cy2_5_0 : y2.cell? ⟨B5, 0, none⟩ = some (.int .i64 kq) := cell_gr hy2 (by go_simp)
              have cy2_5_1 : y2.cell? ⟨B5, 1, none⟩ = some (.int .i64 lx) := cell_gr hy2 (by go_simp)
              have cy2_5_2 : y2.cell? ⟨B5, 2, none⟩ = some (.int .i64 ul) := cell_gr hy2 (by go_simp)
              have cy2_5_3 : y2.cell? ⟨B5, 3, none⟩ = some (.int .i64 hx) := cell_gr hy2 (by go_simp)
              have cy2_5_4 : y2.cell? ⟨B5, 4, none⟩ = some (.int .i64 uh) := cell_gr hy2 (by go_simp)
              have cy2_5_5 : y2.cell? ⟨B5, 5, none⟩ = some (cc) := cell_gr hy2 (by go_simp)
              have zy2_5 : B5 < y2.heap.size := World.block_lt_of_cell? _ _ cy2_5_0
              have gy2 : Gr wr y2 := Gr.trans (by have gg := gy1; have gs := gg.size; go_grown) hy2
              clear hy2 gy1 zy1_0 cy1_0_0 cy1_0_1 zy1_1 cy1_1_0 cy1_1_1 cy1_1_2 cy1_1_3 cy1_1_4 cy1_1_5 zy1_2 cy1_2_0 cy1_2_1 zy1_3 cy1_3_0 zy1_4 cy1_4_0 cy1_4_1 zy1_5 cy1_5_0 cy1_5_1 cy1_5_2 cy1_5_3 cy1_5_4 cy1_5_5
              go_wp2_with fail
              go_at_call 9
              refine ((L8.out _ (by have gg := gy2; have gs := gg.size; go_grown))).mono ?_
              rintro e y5 ⟨rfl, hy5⟩
              have cy5_0_0 : y5.cell? ⟨W.heap.size, 0, none⟩ = some (.int .i64 k) := cell_gr hy5 (by go_simp)
              have cy5_0_1 : y5.cell? ⟨W.heap.size, 1, none⟩ = some (.slice ad i cap) := cell_gr hy5 (by go_simp)
              have zy5_0 : W.heap.size < y5.heap.size := World.block_lt_of_cell? _ _ cy5_0_0
              have cy5_1_0 : y5.cell? ⟨W.heap.size + 1, 0, none⟩ = some (.int .i64 kq) := cell_gr hy5 (by go_simp)
              have cy5_1_1 : y5.cell? ⟨W.heap.size + 1, 1, none⟩ = some (.int .i64 lx) := cell_gr hy5 (by go_simp)
              have cy5_1_2 : y5.cell? ⟨W.heap.size + 1, 2, none⟩ = some (.int .i64 ly) := cell_gr hy5 (by go_simp)
              have cy5_1_3 : y5.cell? ⟨W.heap.size + 1, 3, none⟩ = some (.int .i64 hx) := cell_gr hy5 (by go_simp)
              have cy5_1_4 : y5.cell? ⟨W.heap.size + 1, 4, none⟩ = some (.int .i64 hy) := cell_gr hy5 (by go_simp)
              have cy5_1_5 : y5.cell? ⟨W.heap.size + 1, 5, none⟩ = some (.slice bd j bcap) := cell_gr hy5 (by go_simp)
              have zy5_1 : W.heap.size + 1 < y5.heap.size := World.block_lt_of_cell? _ _ cy5_1_0
              have cy5_2_0 : y5.cell? ⟨W.heap.size + 1 + 1, 0, none⟩ = some (.int .i64 px) := cell_gr hy5 (by go_simp)
              have cy5_2_1 : y5.cell? ⟨W.heap.size + 1 + 1, 1, none⟩ = some (.int .i64 py) := cell_gr hy5 (by go_simp)
              have zy5_2 : W.heap.size + 1 + 1 < y5.heap.size := World.block_lt_of_cell? _ _ cy5_2_0
              have cy5_3_0 : y5.cell? ⟨W.heap.size + 1 + 1 + 1, 0, none⟩ = some (.int .i64 y) := cell_gr hy5 (by go_simp)
              have zy5_3 : W.heap.size + 1 + 1 + 1 < y5.heap.size := World.block_lt_of_cell? _ _ cy5_3_0
              have cy5_4_0 : y5.cell? ⟨w3.heap.size, 0, none⟩ = some (.int .i64 k) := cell_gr hy5 (by go_simp)
              have cy5_4_1 : y5.cell? ⟨w3.heap.size, 1, none⟩ = some (bb) := cell_gr hy5 (by go_simp)
              have zy5_4 : w3.heap.size < y5.heap.size := World.block_lt_of_cell? _ _ cy5_4_0
              have cy5_5_0 : y5.cell? ⟨B5, 0, none⟩ = some (.int .i64 kq) := cell_gr hy5 (by go_simp)
              have cy5_5_1 : y5.cell? ⟨B5, 1, none⟩ = some (.int .i64 lx) := cell_gr hy5 (by go_simp)
              have cy5_5_2 : y5.cell? ⟨B5, 2, none⟩ = some (.int .i64 ul) := cell_gr hy5 (by go_simp)
              have cy5_5_3 : y5.cell? ⟨B5, 3, none⟩ = some (.int .i64 hx) := cell_gr hy5 (by go_simp)
              have cy5_5_4 : y5.cell? ⟨B5, 4, none⟩ = some (.int .i64 uh) := cell_gr hy5 (by go_simp)
              have cy5_5_5 : y5.cell? ⟨B5, 5, none⟩ = some (cc) := cell_gr hy5 (by go_simp)
              have zy5_5 : B5 < y5.heap.size := World.block_lt_of_cell? _ _ cy5_5_0
              have gy5 : Gr wr y5 := Gr.trans (by have gg := gy2; have gs := gg.size; go_grown) hy5
              clear hy5 gy2 zy2_0 cy2_0_0 cy2_0_1 zy2_1 cy2_1_0 cy2_1_1 cy2_1_2 cy2_1_3 cy2_1_4 cy2_1_5 zy2_2 cy2_2_0 cy2_2_1 zy2_3 cy2_3_0 zy2_4 cy2_4_0 cy2_4_1 zy2_5 cy2_5_0 cy2_5_1 cy2_5_2 cy2_5_3 cy2_5_4 cy2_5_5
              go_wp2_with fail
              go_ret
              exact ⟨rfl, Gr.trans GT.out gy5⟩
          · have e5 : ((c4 : Int) != 0) = true := by simp; omega
            have e6 : (c4 != 0) = true := by simp; omega
            clear L4 L5 L6 L7
            go_wp2_with fail
            go_at_call 33
            refine ((L1.out _ (by go_grown))).mono ?_
            rintro e y1 ⟨rfl, hy1⟩
            have cy1_0_0 : y1.cell? ⟨W.heap.size, 0, none⟩ = some (.int .i64 k) := cell_gr hy1 (by go_simp)
            have cy1_0_1 : y1.cell? ⟨W.heap.size, 1, none⟩ = some (.slice ad i cap) := cell_gr hy1 (by go_simp)
            have zy1_0 : W.heap.size < y1.heap.size := World.block_lt_of_cell? _ _ cy1_0_0
            have cy1_1_0 : y1.cell? ⟨W.heap.size + 1, 0, none⟩ = some (.int .i64 kq) := cell_gr hy1 (by go_simp)
            have cy1_1_1 : y1.cell? ⟨W.heap.size + 1, 1, none⟩ = some (.int .i64 lx) := cell_gr hy1 (by go_simp)
            have cy1_1_2 : y1.cell? ⟨W.heap.size + 1, 2, none⟩ = some (.int .i64 ly) := cell_gr hy1 (by go_simp)
            have cy1_1_3 : y1.cell? ⟨W.heap.size + 1, 3, none⟩ = some (.int .i64 hx) := cell_gr hy1 (by go_simp)
            have cy1_1_4 : y1.cell? ⟨W.heap.size + 1, 4, none⟩ = some (.int .i64 hy) := cell_gr hy1 (by go_simp)
            have cy1_1_5 : y1.cell? ⟨W.heap.size + 1, 5, none⟩ = some (.slice bd j bcap) := cell_gr hy1 (by go_simp)
            have zy1_1 : W.heap.size + 1 < y1.heap.size := World.block_lt_of_cell? _ _ cy1_1_0
            have cy1_2_0 : y1.cell? ⟨W.heap.size + 1 + 1, 0, none⟩ = some (.int .i64 px) := cell_gr hy1 (by go_simp)
            have cy1_2_1 : y1.cell? ⟨W.heap.size + 1 + 1, 1, none⟩ = some (.int .i64 py) := cell_gr hy1 (by go_simp)
            have zy1_2 : W.heap.size + 1 + 1 < y1.heap.size := World.block_lt_of_cell? _ _ cy1_2_0
            have cy1_3_0 : y1.cell? ⟨W.heap.size + 1 + 1 + 1, 0, none⟩ = some (.int .i64 y) := cell_gr hy1 (by go_simp)
            have zy1_3 : W.heap.size + 1 + 1 + 1 < y1.heap.size := World.block_lt_of_cell? _ _ cy1_3_0
            have cy1_4_0 : y1.cell? ⟨w3.heap.size, 0, none⟩ = some (.int .i64 k) := cell_gr hy1 (by go_simp)
            have cy1_4_1 : y1.cell? ⟨w3.heap.size, 1, none⟩ = some (bb) := cell_gr hy1 (by go_simp)
            have zy1_4 : w3.heap.size < y1.heap.size := World.block_lt_of_cell? _ _ cy1_4_0
            have cy1_5_0 : y1.cell? ⟨B5, 0, none⟩ = some (.int .i64 kq) := cell_gr hy1 (by go_simp)
            have cy1_5_1 : y1.cell? ⟨B5, 1, none⟩ = some (.int .i64 lx) := cell_gr hy1 (by go_simp)
            have cy1_5_2 : y1.cell? ⟨B5, 2, none⟩ = some (.int .i64 ul) := cell_gr hy1 (by go_simp)
            have cy1_5_3 : y1.cell? ⟨B5, 3, none⟩ = some (.int .i64 hx) := cell_gr hy1 (by go_simp)
            have cy1_5_4 : y1.cell? ⟨B5, 4, none⟩ = some (.int .i64 uh) := cell_gr hy1 (by go_simp)
            have cy1_5_5 : y1.cell? ⟨B5, 5, none⟩ = some (cc) := cell_gr hy1 (by go_simp)
            have zy1_5 : B5 < y1.heap.size := World.block_lt_of_cell? _ _ cy1_5_0
            have gy1 : Gr wr y1 := Gr.trans (by go_grown) hy1
            clear hy1
            go_wp2_with fail
            go_at_call 9
            refine ((L8.out _ (by have gg := gy1; have gs := gg.size; go_grown))).mono ?_
            rintro e y5 ⟨rfl, hy5⟩
            have cy5_0_0 : y5.cell? ⟨W.heap.size, 0, none⟩ = some (.int .i64 k) := cell_gr hy5 (by go_simp)
            have cy5_0_1 : y5.cell? ⟨W.heap.size, 1, none⟩ = some (.slice ad i cap) := cell_gr hy5 (by go_simp)
            have zy5_0 : W.heap.size < y5.heap.size := World.block_lt_of_cell? _ _ cy5_0_0
            have cy5_1_0 : y5.cell? ⟨W.heap.size + 1, 0, none⟩ = some (.int .i64 kq) := cell_gr hy5 (by go_simp)
            have cy5_1_1 : y5.cell? ⟨W.heap.size + 1, 1, none⟩ = some (.int .i64 lx) := cell_gr hy5 (by go_simp)
            have cy5_1_2 : y5.cell? ⟨W.heap.size + 1, 2, none⟩ = some (.int .i64 ly) := cell_gr hy5 (by go_simp)
            have cy5_1_3 : y5.cell? ⟨W.heap.size + 1, 3, none⟩ = some (.int .i64 hx) := cell_gr hy5 (by go_simp)
            have cy5_1_4 : y5.cell? ⟨W.heap.size + 1, 4, none⟩ = some (.int .i64 hy) := cell_gr hy5 (by go_simp)
            have cy5_1_5 : y5.cell? ⟨W.heap.size + 1, 5, none⟩ = some (.slice bd j bcap) := cell_gr hy5 (by go_simp)
            have zy5_1 : W.heap.size + 1 < y5.heap.size := World.block_lt_of_cell? _ _ cy5_1_0
            have cy5_2_0 : y5.cell? ⟨W.heap.size + 1 + 1, 0, none⟩ = some (.int .i64 px) := cell_gr hy5 (by go_simp)
            have cy5_2_1 : y5.cell? ⟨W.heap.size + 1 + 1, 1, none⟩ = some (.int .i64 py) := cell_gr hy5 (by go_simp)
            have zy5_2 : W.heap.size + 1 + 1 < y5.heap.size := World.block_lt_of_cell? _ _ cy5_2_0
            have cy5_3_0 : y5.cell? ⟨W.heap.size + 1 + 1 + 1, 0, none⟩ = some (.int .i64 y) := cell_gr hy5 (by go_simp)
            have zy5_3 : W.heap.size + 1 + 1 + 1 < y5.heap.size := World.block_lt_of_cell? _ _ cy5_3_0
            have cy5_4_0 : y5.cell? ⟨w3.heap.size, 0, none⟩ = some (.int .i64 k) := cell_gr hy5 (by go_simp)
            have cy5_4_1 : y5.cell? ⟨w3.heap.size, 1, none⟩ = some (bb) := cell_gr hy5 (by go_simp)
            have zy5_4 : w3.heap.size < y5.heap.size := World.block_lt_of_cell? _ _ cy5_4_0
            have cy5_5_0 : y5.cell? ⟨B5, 0, none⟩ = some (.int .i64 kq) := cell_gr hy5 (by go_simp)
            have cy5_5_1 : y5.cell? ⟨B5, 1, none⟩ = some (.int .i64 lx) := cell_gr hy5 (by go_simp)
            have cy5_5_2 : y5.cell? ⟨B5, 2, none⟩ = some (.int .i64 ul) := cell_gr hy5 (by go_simp)
            have cy5_5_3 : y5.cell? ⟨B5, 3, none⟩ = some (.int .i64 hx) := cell_gr hy5 (by go_simp)
            have cy5_5_4 : y5.cell? ⟨B5, 4, none⟩ = some (.int .i64 uh) := cell_gr hy5 (by go_simp)
            have cy5_5_5 : y5.cell? ⟨B5, 5, none⟩ = some (cc) := cell_gr hy5 (by go_simp)
            have zy5_5 : B5 < y5.heap.size := World.block_lt_of_cell? _ _ cy5_5_0
            have gy5 : Gr wr y5 := Gr.trans (by have gg := gy1; have gs := gg.size; go_grown) hy5
            clear hy5 gy1 zy1_0 cy1_0_0 cy1_0_1 zy1_1 cy1_1_0 cy1_1_1 cy1_1_2 cy1_1_3 cy1_1_4 cy1_1_5 zy1_2 cy1_2_0 cy1_2_1 zy1_3 cy1_3_0 zy1_4 cy1_4_0 cy1_4_1 zy1_5 cy1_5_0 cy1_5_1 cy1_5_2 cy1_5_3 cy1_5_4 cy1_5_5
            go_wp2_with fail
            go_ret
            exact ⟨rfl, Gr.trans GT.out gy5⟩
end Go.Proofs.YtfobmlgpjhghdaaGreatDoor
namespace Go.Proofs.YtfobmlgpjhghdaaGreatDoor
set_option linter.unusedVariables false
set_option linter.unusedSimpArgs false
open Go.ChangeShapes Go.WideShapes Go.ChangeAt Go.RowKit
theorem pts_congr {w : World} {v : Value} {n : Nat} {X Y P Q : Nat → Int} (h : Pts w v n X Y) (e : ∀ i, i < n → X i = P i ∧ Y i = Q i) : Pts w v n P Q := by
  obtain ⟨ad, cap, B, off, rfl, q1, q2, q3, q4⟩ := h
  refine ⟨ad, cap, B, off, rfl, q1, q2, q3, fun k hk => ?_⟩
  rw [← (e k hk).1, ← (e k hk).2]
  exact q4 k hk
theorem up_near {a b y : Int} (h : nearB a b = true) (hy : -2147483648 ≤ y ∧ y ≤ 2147483648) : upZ y b = b + y := by
  have := Rg.nearB_iff'.1 h
  exact upZ_in (by omega) hy
theorem walk_RelMoves (W : World) (k : Int) (v : Value) (kq lx ly hx hy : Int) (u : Value) (px py y : Int) (h : (-9223372036854775808 ≤ k ∧ k ≤ 9223372036854775807) ∧ ∃ (n : Nat) (X Y : Nat → Int), Pts W v n X Y) (hu : ∃ (n : Nat) (X Y : Nat → Int), Pts W u n X Y) {p1 p2 : Prop} (_ : p1) (_ : p2) (hE : ErrT W) :
    Calls Tryz.prog 7 #[.agg #[.int .i64 k, v], qryV kq lx ly hx hy u, .agg #[.int .i64 px, .int .i64 py], .int .i64 y] W fun e w' => e = .returned (.bool true) ∧ Gr W w' := by
  obtain ⟨-, n, X, Y, h⟩ := h
  obtain ⟨m, P, Q, hu⟩ := hu
  have A4 : ∀ w, Gr W w → Calls Tryz.prog 9 #[] w fun e w' => e = .returned (.bool true) ∧ Gr w w' := fun w g => p6_awake w (errT_gr hE g)
  have A1 := fun w (g : Gr W w) => c_May6 k w (pts_gr h g)
  have A2 := fun w (g : Gr W w) => c_rCheckQuery kq lx ly hx hy w (pts_gr hu g)
  unfold RChTo at A2
  have A3 := c_rPoint px py
  have far : ∀ b1 b3 c, (∀ w, Gr W w → Calls Tryz.prog 23 #[.agg #[.int .i64 k, v]] w fun e w' => e = .returned (.bool b1) ∧ Gr w w') → (∀ w, Gr W w → Calls Tryz.prog 31 #[qryV kq lx ly hx hy u] w fun e w' => e = .returned (.int .i64 (c : Nat)) ∧ Gr w w') → (∀ w, Calls Tryz.prog 24 #[.agg #[.int .i64 px, .int .i64 py]] w fun e w' => e = .returned (.bool b3) ∧ Gr w w') →
      (b1 = false ∨ (b1 = true ∧ k = 2) ∨ (b1 = true ∧ k ≠ 2 ∧ c ≠ 0) ∨ (b1 = true ∧ k ≠ 2 ∧ c = 0 ∧ 64 < m) ∨ (b1 = true ∧ k ≠ 2 ∧ c = 0 ∧ m ≤ 64 ∧ b3 = false) ∨ (b1 = true ∧ k ≠ 2 ∧ c = 0 ∧ m ≤ 64 ∧ b3 = true ∧ y < -2147483648) ∨ (b1 = true ∧ k ≠ 2 ∧ c = 0 ∧ m ≤ 64 ∧ b3 = true ∧ 2147483648 < y)) → Calls Tryz.prog 7 #[.agg #[.int .i64 k, v], qryV kq lx ly hx hy u, .agg #[.int .i64 px, .int .i64 py], .int .i64 y] W fun e w' => e = .returned (.bool true) ∧ Gr W w' := fun b1 b3 c a1 a2 a3 hc => by
    obtain ⟨ad, cap, B, off, rfl, _⟩ := h
    obtain ⟨bd, bcap, C, oc, rfl, _⟩ := hu
    exact moves_no k kq lx ly hx hy px py y ad bd n cap m bcap c b1 b3 W hc a1 a2 a3 A4
  by_cases hc : objC k n X Y = 0
  · rw [decide_eq_true hc] at A1
    by_cases hk : k = 2
    · exact far _ _ _ A1 A2 A3 (Or.inr (Or.inl ⟨rfl, hk⟩))
    by_cases hq : qC kq lx ly hx hy m P Q = 0
    · rw [hq] at A2
      by_cases hm : 64 < m
      · exact far _ _ _ A1 A2 A3 (Or.inr (Or.inr (Or.inr (Or.inl ⟨rfl, hk, rfl, hm⟩))))
      cases hp : nearB px py
      · rw [hp] at A3
        exact far _ _ _ A1 A2 A3 (Or.inr (Or.inr (Or.inr (Or.inr (Or.inl ⟨rfl, hk, rfl, by omega, rfl⟩)))))
      rw [hp] at A3
      by_cases y1 : y < -2147483648
      · exact far _ _ _ A1 A2 A3 (Or.inr (Or.inr (Or.inr (Or.inr (Or.inr (Or.inl ⟨rfl, hk, rfl, by omega, rfl, y1⟩))))))
      by_cases y2 : 2147483648 < y
      · exact far _ _ _ A1 A2 A3 (Or.inr (Or.inr (Or.inr (Or.inr (Or.inr (Or.inr ⟨rfl, hk, rfl, by omega, rfl, y2⟩))))))
      have hy0 : -2147483648 ≤ y ∧ y ≤ 2147483648 := by omega
      have on := objC_near6 hc
      have conv : ∀ w x, Pts w x n X (fun i => upZ y (Y i)) → Pts w x n (fun i => X i + 0) (fun i => Y i + y) := fun w x hx' => pts_congr hx' fun i hi => ⟨(Int.add_zero _).symm, up_near (on.2.2.2.2 i hi) hy0⟩
      obtain ⟨P', Q', conv2, r4⟩ : ∃ P' Q' : Nat → Int, (∀ w x, Pts w x m P (fun i => upZ y (Q i)) → Pts w x m P' Q') ∧ (kq = 4 → P' = (fun i => P i + 0) ∧ Q' = (fun i => Q i + y)) := by
        by_cases q4 : kq = 4
        · refine ⟨fun i => P i + 0, fun i => Q i + y, fun w x hx' => pts_congr hx' fun i hi => ⟨(Int.add_zero _).symm, ?_⟩, fun _ => ⟨rfl, rfl⟩⟩
          rcases qC_cases hq with ⟨e, -⟩ | ⟨e, -⟩ | ⟨e, -⟩ | ⟨-, h0⟩
          · omega
          · omega
          · omega
          · exact up_near ((Rg.ringC_ok h0).2.1 i hi) hy0
        · exact ⟨P, fun i => upZ y (Q i), fun w x hx' => hx', fun e => absurd e q4⟩
      have r1 : kq = 1 ∨ kq = 2 → lx = lx + 0 ∧ upZ y ly = ly + y ∧ hx = hx + 0 ∧ upZ y hy = hy + y := fun e => by
        have hb : boxB lx ly hx hy = true := by
          rcases qC_cases hq with ⟨-, hb⟩ | ⟨-, hb⟩ | ⟨e', -⟩ | ⟨e', -⟩
          · exact hb
          · exact hb
          · omega
          · omega
        have bb := (boxB_iff.1 hb).1
        exact ⟨(Int.add_zero _).symm, up_near bb.1 hy0, (Int.add_zero _).symm, up_near bb.2 hy0⟩
      have r3 : kq = 3 → lx = lx + 0 ∧ upZ y ly = ly + y := fun e => by
        have hb : nearB lx ly = true := by
          rcases qC_cases hq with ⟨e', -⟩ | ⟨e', -⟩ | ⟨-, hb⟩ | ⟨e', -⟩
          · omega
          · omega
          · exact hb
          · omega
        exact ⟨(Int.add_zero _).symm, up_near hb hy0⟩
      refine moves_yes k kq lx ly hx hy px py y n m X Y P Q v u (objC k n (fun i => X i + 0) (fun i => Y i + y)) (qC kq lx (upZ y ly) hx (upZ y hy) m P' Q') (nearB px (upZ y py)) (maA k n X Y kq lx ly hx hy m P Q) _ _ _ W h hu on.2.2.1 (by omega) hk hy0 A1 A2 A3 A4 ?_ ?_ (c_rPoint px (upZ y py)) ?_ ?_ ?_ (fun w g => c_DistAny (k := k) px py w (errT_gr hE g) (pts_gr h g) hc hp)
      · intro w x g hx'
        exact c_rCheck k w (conv w x hx')
      · intro w x g hx'
        exact c_rCheckQuery kq lx (upZ y ly) hx (upZ y hy) w (conv2 w x hx')
      · intro h4 h5 w x r g hx' hr'
        have C := c_MatchAny (k := k) kq lx (upZ y ly) hx (upZ y hy) w (errT_gr hE g) (conv w x hx') h4 (conv2 w r hr') h5
        rw [mv_maA (x := 0) (y := y) hk hc h4 hq h5 r1 r3 r4] at C
        exact C
      · intro w g
        exact c_MatchAny (k := k) kq lx ly hx hy w (errT_gr hE g) (pts_gr h g) hc (pts_gr hu g) hq
      · intro h4 h6 w x g hx'
        have e : upZ y py = py + y := up_near hp hy0
        rw [e] at h6 ⊢
        have C := c_DistAny (k := k) px (py + y) w (errT_gr hE g) (conv w x hx') h4 h6
        have D := mv_diA (x := 0) (y := y) (px := px) (py := py) hk hc h4 hp (by rw [Int.add_zero]; exact h6)
        rw [Int.add_zero] at D
        rw [D] at C
        exact C
    · exact far _ _ _ A1 A2 A3 (Or.inr (Or.inr (Or.inl ⟨rfl, hk, hq⟩)))
  · rw [decide_eq_false hc] at A1
    exact far _ _ _ A1 A2 A3 (Or.inl rfl)
end Go.Proofs.YtfobmlgpjhghdaaGreatDoor
namespace Go.Proofs.YtfobmlgpjhghdaaGreatDoor.Qs
open Go.ChangeShapes Go.WideShapes
theorem laid : laidOutB Tryz.prog = true := by kernel_rfl
theorem laidP : laidOutB Tryz.pinned.checked.prog = true := laid
theorem maps : mapsRowed Tryz.pinned.checked.prog = true := by kernel_rfl
end Go.Proofs.YtfobmlgpjhghdaaGreatDoor.Qs
