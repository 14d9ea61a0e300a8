/- ModelKeeps: the walk -/
import Derived.Test.YtenngnlphecdeaaGreatDoorWg
namespace Go.Proofs.YtenngnlphecdeaaGreatDoor
set_option linter.unusedVariables false
set_option linter.unusedSimpArgs false
open Go.ChangeShapes Go.WideShapes Go.ChangeAt Go.RowKit Go.Maps

/-- What the law keeps: the map and its copy, the object in both, the object that is wanted. -/
structure Keep (w : World) (Q m C kC Bm cm B2 T n id : Nat) (k : Int) (X Y : Nat → Int) : Prop where
  q : w.cell? ⟨Q, 0, none⟩ = some (.map (some m))
  qm : w.ownsMap Tryz.prog 3 heldE m 1 (DO id (.agg #[.int .i64 k, .slice (some ⟨Bm, 0, none⟩) n cm]))
  c : w.cell? ⟨C, 0, none⟩ = some (.map (some kC))
  ck : w.ownsMap Tryz.prog 3 heldE kC 1 (DO id (.agg #[.int .i64 k, .slice (some ⟨Bm, 0, none⟩) n cm]))
  pm : Pts w (.slice (some ⟨Bm, 0, none⟩) n cm) n X Y
  p2 : Pts w (.slice (some ⟨B2, 0, none⟩) n n) n X Y
  t0 : w.cell? ⟨T, 0, none⟩ = some (.int .i64 k)
  t1 : w.cell? ⟨T, 1, none⟩ = some (.slice (some ⟨B2, 0, none⟩) n n)
section
variable {Q m C kC Bm cm B2 T n id : Nat} {k : Int} {X Y : Nat → Int} {a b : World}
theorem keep_kx {S : Nat → Prop} (hn : 0 < n) (h : Keep a Q m C kC Bm cm B2 T n id k X Y) (K : Kx S a b) (h1 : ¬ S Q) (h2 : ¬ S m) (h3 : ¬ S C) (h4 : ¬ S kC) (h5 : ¬ S Bm) (h6 : ¬ S B2) (h7 : ¬ S T) : Keep b Q m C kC Bm cm B2 T n id k X Y :=
  ⟨cell_kx K (p := ⟨Q, 0, none⟩) h1 h.q, ownsMap_kx h.qm K h2, cell_kx K (p := ⟨C, 0, none⟩) h3 h.c, ownsMap_kx h.ck K h4, pts_kxW hn h.pm K h5, pts_kxW hn h.p2 K h6, cell_kx K (p := ⟨T, 0, none⟩) h7 h.t0, cell_kx K (p := ⟨T, 1, none⟩) h7 h.t1⟩
theorem keep_gr (hn : 0 < n) (h : Keep a Q m C kC Bm cm B2 T n id k X Y) (g : Gr a b) : Keep b Q m C kC Bm cm B2 T n id k X Y := keep_kx (S := fun _ => False) hn h (Kx.of_gr g) (fun h => h) (fun h => h) (fun h => h) (fun h => h) (fun h => h) (fun h => h) (fun h => h)
end
theorem pts_at {w : World} {B n c : Nat} {X Y : Nat → Int} (hn : 0 < n) (h : Pts w (.slice (some ⟨B, 0, none⟩) n c) n X Y) : (n ≤ c ∧ c ≤ 9223372036854775807) ∧ w.cell? ⟨B, 0, none⟩ = some (.int .i64 (X 0)) ∧ w.cell? ⟨B, 1, none⟩ = some (.int .i64 (Y 0)) := by
  obtain ⟨ad, cap, B1, off, e, p1, p2, p3, p4⟩ := h
  simp only [Value.slice.injEq, true_and] at e
  obtain ⟨rfl, rfl⟩ := e
  have e3 := Option.some.inj (p3 hn)
  simp only [Addr.mk.injEq, and_true] at e3
  obtain ⟨rfl, rfl⟩ := e3
  exact ⟨⟨p1, p2⟩, (p4 0 hn).1, (p4 0 hn).2⟩
theorem md_shapeE (kd x : Int) (hk : -9223372036854775808 ≤ kd ∧ kd ≤ 9223372036854775807) (h1 : 0 ≤ x) (h2 : x ≤ 900) (id : Nat) (hid : id ≤ 1000) : ∃ (k : Int) (n : Nat) (X Y : Nat → Int), (0 < n ∧ n ≤ 4) ∧ X 0 = x ∧ (0 ≤ Y 0 ∧ Y 0 ≤ 2000) ∧ chgC 1 (id : Nat) k n X Y = 0 ∧
    ∀ W : World, Calls Tryz.prog 6 #[.int .i64 kd, .int .i64 x, .int .i64 x, .int .i64 3] W fun e w' => ∃ B, e = .returned (.agg #[.int .i64 k, .slice (some ⟨B, 0, none⟩) n n]) ∧ Pts w' (.slice (some ⟨B, 0, none⟩) n n) n X Y ∧ w'.frozen? ⟨B, 0, none⟩ = false ∧ W.heap.size ≤ B ∧ Gr W w' := by
  obtain ⟨q, hq, AS⟩ := md_shape kd x hk h1 h2
  refine ⟨shK q, shN q, shX q x, shY q x, shN_pos hq, ?_, ?_, chg_sh hq h1 h2 (by omega) (by omega), fun W => ?_⟩
  · rcases (by omega : q = 0 ∨ q = 1 ∨ q = 2 ∨ q = 3) with rfl | rfl | rfl | rfl <;> rfl
  · rcases (by omega : q = 0 ∨ q = 1 ∨ q = 2 ∨ q = 3) with rfl | rfl | rfl | rfl
    · show 0 ≤ x ∧ x ≤ 2000; omega
    · show 0 ≤ x + 4 ∧ x + 4 ≤ 2000; omega
    · show 0 ≤ x ∧ x ≤ 2000; omega
    · show 0 ≤ x ∧ x ≤ 2000; omega
  · refine (AS W).mono ?_
    rintro e w' ⟨B, rfl, h, f, hB, g⟩
    have := shN_pos hq
    exact ⟨B, rfl, ⟨_, _, B, 0, rfl, Nat.le_refl _, by omega, fun _ => rfl, h⟩, f, hB, g⟩
set_option maxHeartbeats 8000000 in
set_option maxRecDepth 100000 in
theorem keeps_core (kd x : Int) (id : Nat) (hk : -9223372036854775808 ≤ kd ∧ kd ≤ 9223372036854775807) (h1 : 0 ≤ x) (h2 : x ≤ 900) (hid : id ≤ 1000) (W : World) (hE : ErrT W) : Calls Tryz.prog 3 #[.int .i64 kd, .int .i64 x, .int .i64 (id : Nat)] W fun e w' => e = .returned (.bool true) ∧ Gr W w' := by
  have HE := Lib.hid hE
  obtain ⟨k, n, X, Y, ⟨hn, hn4⟩, hX, ⟨hY1, hY2⟩, hC, AS⟩ := md_shapeE kd x hk h1 h2 id hid
  obtain ⟨y, hy⟩ : ∃ y, y = Y 0 := ⟨_, rfl⟩
  rw [← hy] at hY1 hY2
  have HS := Lib.hid AS
  have HC := Lib.hid (And.intro hC (And.intro hX hy))
  have ex1 : wrap64 (x + 1) = x + 1 := wr_small (by omega)
  have ex2 : IntKind.i64.wrap (x + 1) = x + 1 := wk_small (by omega)
  have ex3 : wrap64 (x - 1) = x - 1 := wr_small (by omega)
  have ex4 : IntKind.i64.wrap (x - 1) = x - 1 := wk_small (by omega)
  have ey1 : wrap64 (y + 1) = y + 1 := wr_small (by omega)
  have ey2 : IntKind.i64.wrap (y + 1) = y + 1 := wk_small (by omega)
  have t1 : decide (x < 0) = false := decide_eq_false (by omega)
  have t2 : decide ((900 : Int) < x) = false := decide_eq_false (by omega)
  have t3 : decide ((id : Int) < 0) = false := decide_eq_false (by omega)
  have t4 : decide ((1000 : Int) < (id : Int)) = false := decide_eq_false (by omega)
  have tn : (0 : Int) < (n : Int) := by omega
  clear hE AS hC hX hy hk h1 h2 hY1 hY2
  go_enter Tryz.func3, Tryz.ntmps3
  go_wp2_with fail
  go_at_call 5
  refine (md_New _).mono ?_
  rintro e w0 ⟨rfl, rfl⟩
  go_wp2_with fail
  go_at_call 6
  refine (HS.out _).mono ?_
  rintro e w1 ⟨B1, rfl, p1, f1, hB1, g1⟩
  have hB1' : W.heap.size + 1 ≤ B1 := by simpa using hB1
  have q1 : w1.cell? ⟨W.heap.size, 0, none⟩ = some (.map none) := cell_gr g1 (by go_simp)
  have qf1 : w1.frozen? ⟨W.heap.size, 0, none⟩ = false := frozen_gr (v := .map none) g1 (by go_simp) (by go_simp)
  have b1 : w1.cell? ⟨B1, 0, none⟩ = some (.int .i64 x) := by
    have := (pts_at hn p1).2.1
    rw [HC.out.2.1] at this
    exact this
  have G1 : Gr W w1 := Gr.trans (by go_grown) g1
  have zB1 := World.block_lt_of_cell? _ _ b1
  have zQ1 := World.block_lt_of_cell? _ _ q1
  have HP1 := Lib.hid p1
  have hB1w : B1 < w1.heap.size := zB1
  have hWw : W.heap.size < w1.heap.size := zQ1
  clear g1 p1 hB1
  go_wp2_with fail
  go_at_call 6
  refine (HS.out _).mono ?_
  rintro e w2 ⟨B2, rfl, p2, f2, hB2, g2⟩
  have hB2' : w1.heap.size + 1 ≤ B2 := by simpa using hB2
  have q2 : w2.cell? ⟨W.heap.size, 0, none⟩ = some (.map none) := cell_gr g2 (by go_simp)
  have qf2 : w2.frozen? ⟨W.heap.size, 0, none⟩ = false := frozen_gr (v := .map none) g2 (by go_simp) (by go_simp)
  have b2 : w2.cell? ⟨B1, 0, none⟩ = some (.int .i64 x) := cell_gr g2 (by go_simp)
  have bf2 : w2.frozen? ⟨B1, 0, none⟩ = false := frozen_gr (v := .int .i64 x) g2 (by go_simp) (by go_simp)
  have o20 : w2.cell? ⟨w1.heap.size, 0, none⟩ = some (.int .i64 k) := cell_gr g2 (by go_simp)
  have o21 : w2.cell? ⟨w1.heap.size, 1, none⟩ = some (.slice (some ⟨B1, 0, none⟩) n n) := cell_gr g2 (by go_simp)
  have G12 : Gr w1 w2 := Gr.trans (by go_grown) g2
  have zB2 : B2 < w2.heap.size := World.block_lt_of_cell? _ _ (pts_at hn p2).2.1
  have zO2 : w1.heap.size < w2.heap.size := World.block_lt_of_cell? _ _ o20
  have zB12 := World.block_lt_of_cell? _ _ b2
  have zQ2 := World.block_lt_of_cell? _ _ q2
  have HP2 := Lib.hid (And.intro (pts_gr HP1.out G12) p2)
  have HG2 := Lib.hid (Gr.trans G1 G12)
  have AA := Lib.hid (fun w (g : Gr w2 w) => md_apply_new (Q := W.heap.size) (id := id) (k := k) (by omega : B1 ≠ W.heap.size) (by omega) hn (by omega) w (pts_gr HP2.out.1 g) HC.out.1)
  clear g2 p2 hB2 f2 f1 q1 qf1 b1 G1 G12 zB1 zQ1
  go_wp2_with fail
  go_at_call 7
  refine (AA.out _ (by go_grown) (by go_simp) (by go_simp)).mono ?_
  rintro e w3 ⟨m, Bm, cm, rfl, q3, m3, K3, pm, hBm, hm, hBmm⟩
  have hBm' : w2.heap.size + 1 ≤ Bm := by simpa using hBm
  have hm' : w2.heap.size + 1 ≤ m := by simpa using hm
  have K23 : Kx (fun j => j = W.heap.size) w2 w3 := Kx.trans (Kx.of_gr (by go_grown)) K3
  have hTQ : ¬ w2.heap.size = W.heap.size := by omega
  have t30 : w3.cell? ⟨w2.heap.size, 0, none⟩ = some (.int .i64 k) := cell_kx K3 (p := ⟨w2.heap.size, 0, none⟩) hTQ (by go_simp)
  have t31 : w3.cell? ⟨w2.heap.size, 1, none⟩ = some (.slice (some ⟨B2, 0, none⟩) n n) := cell_kx K3 (p := ⟨w2.heap.size, 1, none⟩) hTQ (by go_simp)
  have o31 : w3.cell? ⟨w1.heap.size, 1, none⟩ = some (.slice (some ⟨B1, 0, none⟩) n n) := cell_kx K23 (p := ⟨w1.heap.size, 1, none⟩) (by omega : ¬ w1.heap.size = W.heap.size) o21
  have b3 : w3.cell? ⟨B1, 0, none⟩ = some (.int .i64 x) := cell_kx K23 (p := ⟨B1, 0, none⟩) (by omega : ¬ B1 = W.heap.size) b2
  have bf3 : w3.frozen? ⟨B1, 0, none⟩ = false := frozen_kx K23 (p := ⟨B1, 0, none⟩) (by omega : ¬ B1 = W.heap.size) b2 bf2
  have P23 := pts_kxW hn HP2.out.2 K23 (by omega : ¬ B2 = W.heap.size)
  have G3 : Gr W w3 := Kx.gr K23 HG2.out (fun j hj => Nat.le_of_eq (show W.heap.size = j from hj.symm))
  have zm3 := m3.lt
  have zBm3 : Bm < w3.heap.size := World.block_lt_of_cell? _ _ (pts_at hn pm.1).2.1
  have zT3 : w2.heap.size < w3.heap.size := World.block_lt_of_cell? _ _ t30
  have AC := Lib.hid (md_copy w3 q3 m3)
  have HK3 := Lib.hid (And.intro q3 (And.intro m3 (And.intro pm.1 (And.intro P23 (And.intro t30 (And.intro t31 G3))))))
  clear q3 m3 K3 K23 pm hBm hm t30 t31 P23 G3 AA q2 qf2 b2 bf2 o20 o21
  go_wp2_with fail
  go_at_call 8
  refine (AC.out).mono ?_
  rintro e w4 ⟨C, kC, rfl, hC1, hC2, c4, k4, g4⟩
  obtain ⟨q3, m3, pm3, P23, t30, t31, G3⟩ := HK3.out
  have KP4 : Keep w4 W.heap.size m C kC Bm cm B2 w2.heap.size n id k X Y := ⟨cell_gr g4 q3, ownsMap_kx m3 (Kx.of_gr (S := fun _ => False) g4) (fun h => h), c4, k4, pts_gr pm3 g4, pts_gr P23 g4, cell_gr g4 t30, cell_gr g4 t31⟩
  have o4 := cell_gr g4 o31
  have b4 := cell_gr g4 b3
  have bf4 := frozen_gr g4 b3 bf3
  have zC4 : C < w4.heap.size := World.block_lt_of_cell? _ _ c4
  have zk4 := k4.lt
  have zB14 := World.block_lt_of_cell? _ _ b4
  have zO4 := World.block_lt_of_cell? _ _ o4
  have s4 := g4.size
  have K9 : Kx (fun j => j = B1) w4 (w4.setCell ⟨B1, 0, none⟩ (.int .i64 (x + 1))) := (Kx.refl (S := fun j => j = B1) w4).setCell (p := ⟨B1, 0, none⟩) rfl _
  have KP9 := keep_kx hn KP4 K9 (by omega : ¬ W.heap.size = B1) (by omega : ¬ m = B1) (by omega : ¬ C = B1) (by omega : ¬ kC = B1) (by omega : ¬ Bm = B1) (by omega : ¬ B2 = B1) (by omega : ¬ w2.heap.size = B1)
  have AG := Lib.hid (md_get_hit (id := id) (by omega) hn (by omega) _ KP9.q KP9.qm (dO_has _ _) (dO_at _ _) KP9.pm)
  have HKP9 := Lib.hid KP9
  have G9 : Gr W (w4.setCell ⟨B1, 0, none⟩ (.int .i64 (x + 1))) := (Gr.trans G3 g4).setCell (p := ⟨B1, 0, none⟩) (by show W.heap.size ≤ B1; omega) _
  have HG9 := Lib.hid G9
  clear q3 m3 pm3 P23 t30 t31 G3 KP4 c4 k4 g4 K9 KP9 G9 o31 b3 bf3 HK3 AC
  go_wp2_with fail
  go_at_call 9
  refine (AG.out).mono ?_
  rintro e w5 ⟨Ba, ca, rfl, pa, hBa, g5⟩
  have hBa' : w4.heap.size ≤ Ba := by simpa using hBa
  have KP5 := keep_gr hn HKP9.out g5
  have G5 := Gr.trans HG9.out g5
  have AS5 := Lib.hid (fun w (g : Gr w5 w) => c_rSame k k true w (pts_gr pa.1 g) (pts_gr KP5.p2 g) (by omega) (by simp))
  have a0 : w5.cell? ⟨Ba, 0, none⟩ = some (.int .i64 x) := by
    have := (pts_at hn pa.1).2.1
    rw [HC.out.2.1] at this
    exact this
  have af := fr2_f pa.2 0
  have t50 := KP5.t0
  have t51 := KP5.t1
  have hca := (pts_at hn pa.1).1
  have zBa : Ba < w5.heap.size := World.block_lt_of_cell? _ _ a0
  have zT5 := World.block_lt_of_cell? _ _ t50
  have HK5 := Lib.hid (And.intro KP5 (And.intro pa G5))
  clear KP5 G5 pa hBa g5 o4 b4 bf4 AG
  go_wp2_with fail
  go_at_call 10
  refine (AS5.out _ (by go_grown)).mono ?_
  rintro e w6 ⟨rfl, g6⟩
  have a61 : w6.cell? ⟨w5.heap.size, 1, none⟩ = some (.slice (some ⟨Ba, 0, none⟩) n ca) := cell_gr g6 (by go_simp)
  have a60 : w6.cell? ⟨Ba, 0, none⟩ = some (.int .i64 x) := cell_gr g6 (by go_simp)
  have af6 : w6.frozen? ⟨Ba, 0, none⟩ = false := frozen_gr (v := .int .i64 x) g6 (by go_simp) (by go_simp)
  have G56 : Gr w5 w6 := Gr.trans (by go_grown) g6
  have KP6 := keep_gr hn HK5.out.1 G56
  have K13 : Kx (fun j => j = Ba) w6 (w6.setCell ⟨Ba, 0, none⟩ (.int .i64 (x - 1))) := (Kx.refl (S := fun j => j = Ba) w6).setCell (p := ⟨Ba, 0, none⟩) rfl _
  have KP13 := keep_kx hn KP6 K13 (by omega : ¬ W.heap.size = Ba) (by omega : ¬ m = Ba) (by omega : ¬ C = Ba) (by omega : ¬ kC = Ba) (by omega : ¬ Bm = Ba) (by omega : ¬ B2 = Ba) (by omega : ¬ w2.heap.size = Ba)
  have AI := Lib.hid (md_items_1 (id := id) (by omega) hn (by omega) _ KP13.q KP13.qm KP13.pm)
  have G13 : Gr W (w6.setCell ⟨Ba, 0, none⟩ (.int .i64 (x - 1))) := (Gr.trans HK5.out.2.2 G56).setCell (p := ⟨Ba, 0, none⟩) (by show W.heap.size ≤ Ba; omega) _
  have s6 := G56.size
  have zA6 := World.block_lt_of_cell? _ _ a61
  have zBa6 := World.block_lt_of_cell? _ _ a60
  have HK13 := Lib.hid (And.intro KP13 G13)
  clear KP6 K13 KP13 G13 G56 g6 a0 af t50 t51 AS5 zT5
  go_wp2_with fail
  go_at_call 11
  refine (AI.out).mono ?_
  rintro e w7 ⟨L, lc, Bl, cl, rfl, hlc, l0, l1, l2, pl, hL, hBl, hLB, g7⟩
  have hL' : w6.heap.size ≤ L := by simpa using hL
  have hBl' : w6.heap.size ≤ Bl := by simpa using hBl
  have KP7 := keep_gr hn HK13.out.1 g7
  have G7 := Gr.trans HK13.out.2 g7
  have AS7 := Lib.hid (fun w (g : Gr w7 w) => c_rSame k k true w (pts_gr pl.1 g) (pts_gr KP7.p2 g) (by omega) (by simp))
  have y0 : w7.cell? ⟨Bl, 0, none⟩ = some (.int .i64 x) := by
    have := (pts_at hn pl.1).2.1
    rw [HC.out.2.1] at this
    exact this
  have y1 : w7.cell? ⟨Bl, 1, none⟩ = some (.int .i64 y) := by
    have := (pts_at hn pl.1).2.2
    rw [← HC.out.2.2] at this
    exact this
  have yf0 := fr2_f pl.2 0
  have yf1 := fr2_f pl.2 1
  have hcl := (pts_at hn pl.1).1
  have t70 := KP7.t0
  have t71 := KP7.t1
  have zL7 := World.block_lt_of_cell? _ _ l0
  have zBl7 := World.block_lt_of_cell? _ _ y0
  have zT7 := World.block_lt_of_cell? _ _ t70
  have HK7 := Lib.hid (And.intro KP7 (And.intro pl G7))
  clear KP7 G7 pl hL hBl g7 AI a61 a60 af6
  go_wp2_with fail
  try simp only [List.append]
  refine Od.wp_region_ord [(0, false), (1, false), (2, false), (3, false), (4, false), (5, false), (6, false), (7, false), (8, false), (9, true), (10, false), (11, false)] (by kernel_rfl) (by kernel_rfl) ?_
  intro w8 hw8 KQ hKQ
  have cw8_0_0 : w8.cell? ⟨L, 0, none⟩ = some (.int .i64 (id : Nat)) := cell_gr hw8 (by go_simp)
  have cw8_0_1 : w8.cell? ⟨L, 1, none⟩ = some (.int .i64 k) := cell_gr hw8 (by go_simp)
  have cw8_0_2 : w8.cell? ⟨L, 2, none⟩ = some (.slice (some ⟨Bl, 0, none⟩) n cl) := cell_gr hw8 (by go_simp)
  have zw8_0 : L < w8.heap.size := World.block_lt_of_cell? _ _ cw8_0_0
  have cw8_1_0 : w8.cell? ⟨w2.heap.size, 0, none⟩ = some (.int .i64 k) := cell_gr hw8 (by go_simp)
  have cw8_1_1 : w8.cell? ⟨w2.heap.size, 1, none⟩ = some (.slice (some ⟨B2, 0, none⟩) n n) := cell_gr hw8 (by go_simp)
  have zw8_1 : w2.heap.size < w8.heap.size := World.block_lt_of_cell? _ _ cw8_1_0
  have cw8_2_0 : w8.cell? ⟨Bl, 0, none⟩ = some (.int .i64 x) := cell_gr hw8 (by go_simp)
  have fw8_2_0 : w8.frozen? ⟨Bl, 0, none⟩ = false := frozen_gr (v := .int .i64 x) hw8 (by go_simp) (by go_simp)
  have cw8_2_1 : w8.cell? ⟨Bl, 1, none⟩ = some (.int .i64 y) := cell_gr hw8 (by go_simp)
  have fw8_2_1 : w8.frozen? ⟨Bl, 1, none⟩ = false := frozen_gr (v := .int .i64 y) hw8 (by go_simp) (by go_simp)
  have zw8_2 : Bl < w8.heap.size := World.block_lt_of_cell? _ _ cw8_2_0
  have gw8 : Gr w7 w8 := Gr.trans (by go_grown) hw8
  skip
  clear hw8
  repeat (first | (refine Od.wpO_skip (by simp only [List.getElem?_toArray, List.getElem?_cons_succ, List.getElem?_cons_zero] <;> rfl) rfl ?_; simp only [Act.put, List.setIfInBounds_toArray, List.set_cons_zero, List.set_cons_succ]) | (refine Od.wpO_pure (by simp only [List.getElem?_toArray, List.getElem?_cons_succ, List.getElem?_cons_zero] <;> rfl) rfl ?_; apply Exists.intro; refine ⟨?_, ?_⟩; (· intro wx gx; obtain ⟨mx, rfl⟩ := spread_of_gr gx; clear gx; all_goals (apply Od.pAt_of_quiet; intro K hK; go_big_quiet_op; first | exact hK _ rfl | (apply Exists.intro; refine ⟨fun _ => ?_, ?_⟩; (· fail); exact hK _ rfl))); try simp only [Act.put, List.setIfInBounds_toArray, List.set_cons_zero, List.set_cons_succ]))
  refine Od.wpO_call (by simp only [List.getElem?_toArray, List.getElem?_cons_succ, List.getElem?_cons_zero] <;> rfl) rfl ?_
  intro QS hQS
  go_wp2_with fail
  go_at_call 10
  (with_reducible refine ((AS7.out _ gw8)).mono ?_)
  rintro e w9 ⟨rfl, hw9⟩
  go_wp2_with fail
  apply Exists.intro
  refine ⟨?_, hw9, ?_⟩
  · simp only [Act.put, List.setIfInBounds_toArray, List.set_cons_zero, List.set_cons_succ]; rfl
  have cw9_0_0 : w9.cell? ⟨L, 0, none⟩ = some (.int .i64 (id : Nat)) := cell_gr hw9 (by go_simp)
  have cw9_0_1 : w9.cell? ⟨L, 1, none⟩ = some (.int .i64 k) := cell_gr hw9 (by go_simp)
  have cw9_0_2 : w9.cell? ⟨L, 2, none⟩ = some (.slice (some ⟨Bl, 0, none⟩) n cl) := cell_gr hw9 (by go_simp)
  have zw9_0 : L < w9.heap.size := World.block_lt_of_cell? _ _ cw9_0_0
  have cw9_1_0 : w9.cell? ⟨w2.heap.size, 0, none⟩ = some (.int .i64 k) := cell_gr hw9 (by go_simp)
  have cw9_1_1 : w9.cell? ⟨w2.heap.size, 1, none⟩ = some (.slice (some ⟨B2, 0, none⟩) n n) := cell_gr hw9 (by go_simp)
  have zw9_1 : w2.heap.size < w9.heap.size := World.block_lt_of_cell? _ _ cw9_1_0
  have cw9_2_0 : w9.cell? ⟨Bl, 0, none⟩ = some (.int .i64 x) := cell_gr hw9 (by go_simp)
  have fw9_2_0 : w9.frozen? ⟨Bl, 0, none⟩ = false := frozen_gr (v := .int .i64 x) hw9 (by go_simp) (by go_simp)
  have cw9_2_1 : w9.cell? ⟨Bl, 1, none⟩ = some (.int .i64 y) := cell_gr hw9 (by go_simp)
  have fw9_2_1 : w9.frozen? ⟨Bl, 1, none⟩ = false := frozen_gr (v := .int .i64 y) hw9 (by go_simp) (by go_simp)
  have zw9_2 : Bl < w9.heap.size := World.block_lt_of_cell? _ _ cw9_2_0
  have gw9 : Gr w7 w9 := Gr.trans (by have gg := gw8; have gs := gg.size; go_grown) hw9
  clear gw8 zw8_0 cw8_0_0 cw8_0_1 cw8_0_2 zw8_1 cw8_1_0 cw8_1_1 zw8_2 cw8_2_0 fw8_2_0 cw8_2_1 fw8_2_1
  clear hw9
  try simp only [Act.put, List.setIfInBounds_toArray, List.set_cons_zero, List.set_cons_succ]
  repeat (first | (refine Od.wpO_skip (by simp only [List.getElem?_toArray, List.getElem?_cons_succ, List.getElem?_cons_zero] <;> rfl) rfl ?_; simp only [Act.put, List.setIfInBounds_toArray, List.set_cons_zero, List.set_cons_succ]) | (refine Od.wpO_pure (by simp only [List.getElem?_toArray, List.getElem?_cons_succ, List.getElem?_cons_zero] <;> rfl) rfl ?_; apply Exists.intro; refine ⟨?_, ?_⟩; (· intro wx gx; obtain ⟨mx, rfl⟩ := spread_of_gr gx; clear gx; all_goals (apply Od.pAt_of_quiet; intro K hK; go_big_quiet_op; first | exact hK _ rfl | (apply Exists.intro; refine ⟨fun _ => ?_, ?_⟩; (· fail); exact hK _ rfl))); try simp only [Act.put, List.setIfInBounds_toArray, List.set_cons_zero, List.set_cons_succ]))
  refine Od.wpO_nil (hKQ _ _ ?_)
  clear hKQ KQ
  have KP9 := keep_gr hn HK7.out.1 gw9
  have s79 := gw9.size
  have K17 : Kx (fun j => j = Bl) w9 (w9.setCell ⟨Bl, 1, none⟩ (.int .i64 (y + 1))) := (Kx.refl (S := fun j => j = Bl) w9).setCell (p := ⟨Bl, 1, none⟩) rfl _
  have KP17 := keep_kx hn KP9 K17 (by omega : ¬ W.heap.size = Bl) (by omega : ¬ m = Bl) (by omega : ¬ C = Bl) (by omega : ¬ kC = Bl) (by omega : ¬ Bm = Bl) (by omega : ¬ B2 = Bl) (by omega : ¬ w2.heap.size = Bl)
  have AG2 := Lib.hid (md_get_hit (id := id) (by omega) hn (by omega) _ KP17.q KP17.qm (dO_has _ _) (dO_at _ _) KP17.pm)
  have G17 : Gr W (w9.setCell ⟨Bl, 1, none⟩ (.int .i64 (y + 1))) := (Gr.trans HK7.out.2.2 gw9).setCell (p := ⟨Bl, 1, none⟩) (by show W.heap.size ≤ Bl; omega) _
  have HK17 := Lib.hid (And.intro KP17 G17)
  clear KP9 K17 KP17 G17
  go_wp2_with fail
  go_at_call 9
  refine (AG2.out).mono ?_
  rintro e wa ⟨Bb, cb, rfl, pb, hBb, ga⟩
  have KPa := keep_gr hn HK17.out.1 ga
  have Ga := Gr.trans HK17.out.2 ga
  have AG3 := Lib.hid (fun w (g : Gr wa w) => md_get_hit (id := id) (by omega) hn (by omega) w (keep_gr hn KPa g).c (keep_gr hn KPa g).ck (dO_has _ _) (dO_at _ _) (keep_gr hn KPa g).pm)
  have ASa := Lib.hid (fun w (g : Gr wa w) => c_rSame k k true w (pts_gr pb.1 g) (pts_gr KPa.p2 g) (by omega) (by simp))
  have ta0 := KPa.t0
  have ta1 := KPa.t1
  have zTa := World.block_lt_of_cell? _ _ ta0
  have HKa := Lib.hid (And.intro KPa Ga)
  clear KPa Ga pb hBb ga AG2 cw9_0_0 cw9_0_1 cw9_0_2 zw9_0 cw9_1_0 cw9_1_1 zw9_1 cw9_2_0 cw9_2_1 fw9_2_0 fw9_2_1 zw9_2 gw9 l0 l1 l2 y0 y1 yf0 yf1 t70 t71
  go_wp2_with fail
  go_at_call 9
  refine (AG3.out _ (by go_grown)).mono ?_
  rintro e wb ⟨Bd, cd, rfl, pd, hBd, gb⟩
  have Gab : Gr wa wb := Gr.trans (by go_grown) gb
  have d0 : wb.cell? ⟨wa.heap.size, 0, none⟩ = some (.int .i64 k) := cell_gr gb (by go_simp)
  have d1 : wb.cell? ⟨wa.heap.size, 1, none⟩ = some (.slice (some ⟨Bb, 0, none⟩) n cb) := cell_gr gb (by go_simp)
  have tb0 : wb.cell? ⟨w2.heap.size, 0, none⟩ = some (.int .i64 k) := cell_gr Gab ta0
  have tb1 : wb.cell? ⟨w2.heap.size, 1, none⟩ = some (.slice (some ⟨B2, 0, none⟩) n n) := cell_gr Gab ta1
  have zd := World.block_lt_of_cell? _ _ d0
  have zTb := World.block_lt_of_cell? _ _ tb0
  have ASb := Lib.hid (fun w (g : Gr wb w) => c_rSame k k true w (pts_gr pd.1 g) (pts_gr HKa.out.1.p2 (Gr.trans Gab g)) (by omega) (by simp))
  have HGab := Lib.hid Gab
  clear gb Gab pd hBd AG3 ta0 ta1 zTa
  go_wp2_with fail
  go_at_call 10
  refine (ASa.out _ (Gr.trans HGab.out (by go_grown))).mono ?_
  rintro e wc ⟨rfl, gc⟩
  have Gbc : Gr wb wc := Gr.trans (by go_grown) gc
  have e0 : wc.cell? ⟨wb.heap.size, 0, none⟩ = some (.int .i64 k) := cell_gr gc (by go_simp)
  have e1 : wc.cell? ⟨wb.heap.size, 1, none⟩ = some (.slice (some ⟨Bd, 0, none⟩) n cd) := cell_gr gc (by go_simp)
  have tc0 := cell_gr Gbc tb0
  have tc1 := cell_gr Gbc tb1
  have ze := World.block_lt_of_cell? _ _ e0
  have zTc := World.block_lt_of_cell? _ _ tc0
  have HGbc := Lib.hid Gbc
  clear gc Gbc tb0 tb1 d0 d1 zd zTb
  go_wp2_with fail
  go_at_call 10
  refine (ASb.out _ HGbc.out).mono ?_
  rintro e wd ⟨rfl, gd⟩
  have Gd := Lib.hid (Gr.trans HKa.out.2 (Gr.trans HGab.out (Gr.trans HGbc.out gd)))
  clear gd e0 e1 tc0 tc1
  go_wp2_with fail
  go_at_call 4
  refine (p23_awake _ (errT_gr HE.out Gd.out)).mono ?_
  rintro e we ⟨rfl, ge⟩
  go_wp2_with fail
  go_ret
  exact ⟨rfl, Gr.trans Gd.out ge⟩
set_option maxHeartbeats 2000000 in
set_option maxRecDepth 100000 in
theorem walk_ModelKeeps (kd x id : Int) (hk : -9223372036854775808 ≤ kd ∧ kd ≤ 9223372036854775807) (hx : -9223372036854775808 ≤ x ∧ x ≤ 9223372036854775807) (hi : -9223372036854775808 ≤ id ∧ id ≤ 9223372036854775807) (W : World) (hE : ErrT W) : Calls Tryz.prog 3 #[.int .i64 kd, .int .i64 x, .int .i64 id] W fun e w' => e = .returned (.bool true) ∧ Gr W w' := by
  have step : (decide (x < 0) = true) ∨ (decide (x < 0) = false ∧ decide ((900 : Int) < x) = true) ∨ (decide (x < 0) = false ∧ decide ((900 : Int) < x) = false ∧ decide (id < 0) = true) ∨ (decide (x < 0) = false ∧ decide ((900 : Int) < x) = false ∧ decide (id < 0) = false ∧ decide ((1000 : Int) < id) = true) ∨ ((0 ≤ x ∧ x ≤ 900) ∧ 0 ≤ id ∧ id ≤ 1000) := by
    by_cases c1 : x < 0
    · exact Or.inl (decide_eq_true c1)
    by_cases c2 : 900 < x
    · exact Or.inr (Or.inl ⟨decide_eq_false c1, decide_eq_true c2⟩)
    by_cases c3 : id < 0
    · exact Or.inr (Or.inr (Or.inl ⟨decide_eq_false c1, decide_eq_false c2, decide_eq_true c3⟩))
    by_cases c4 : 1000 < id
    · exact Or.inr (Or.inr (Or.inr (Or.inl ⟨decide_eq_false c1, decide_eq_false c2, decide_eq_false c3, decide_eq_true c4⟩)))
    · exact Or.inr (Or.inr (Or.inr (Or.inr ⟨⟨by omega, by omega⟩, by omega, by omega⟩)))
  have AW := Lib.hid (fun w (g : Gr W w) => p23_awake w (errT_gr hE g))
  rcases step with t1 | ⟨t1, t2⟩ | ⟨t1, t2, t3⟩ | ⟨t1, t2, t3, t4⟩ | ⟨⟨h1, h2⟩, h3, h4⟩
  case inr.inr.inr.inr =>
    obtain ⟨i, rfl⟩ : ∃ i : Nat, id = i := ⟨id.toNat, by omega⟩
    exact keeps_core kd x i hk h1 h2 (by omega) W hE
  all_goals
    clear hk hx hi hE
    go_enter Tryz.func3, Tryz.ntmps3
    go_wp2_with fail
    go_at_call 4
    refine (AW.out _ (Below.refl _ _)).mono ?_
    rintro e w1 ⟨rfl, g1⟩
    go_wp2_with fail
    go_ret
    exact ⟨rfl, g1⟩
end Go.Proofs.YtenngnlphecdeaaGreatDoor
