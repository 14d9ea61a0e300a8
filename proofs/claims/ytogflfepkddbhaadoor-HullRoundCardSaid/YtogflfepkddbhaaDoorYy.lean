/- HullBoxes: the box of points is the box of their hull's corners; one more point -/
import Derived.Test.YtogflfepkddbhaaDoorYv
namespace Go.Proofs.YtogflfepkddbhaaDoor
set_option linter.unusedVariables false
set_option linter.unusedSimpArgs false
open Go.ChangeShapes Go.WideShapes Go.ChangeAt Go.RowKit

/-- A number more behind. -/
def pF (n : Nat) (X : Nat → Int) (z : Int) (k : Nat) : Int := if k < n then X k else z
theorem pF_lt {n k : Nat} {X : Nat → Int} {z : Int} (h : k < n) : pF n X z k = X k := if_pos h
theorem pF_n (n : Nat) (X : Nat → Int) (z : Int) : pF n X z n = z := if_neg (Nat.lt_irrefl _)
theorem mn_congr {F G : Nat → Int} : ∀ n, (∀ k, k < n → F k = G k) → mnN F n = mnN G n
  | 0, _ => rfl
  | n + 1, h => by
    by_cases c : n = 0
    · rw [mnN_0 F c, mnN_0 G c]; exact h n (by omega)
    · rw [mnN_s F c, mnN_s G c, mn_congr n (fun k hk => h k (by omega)), h n (by omega)]
theorem mx_congr {F G : Nat → Int} : ∀ n, (∀ k, k < n → F k = G k) → mxN F n = mxN G n
  | 0, _ => rfl
  | n + 1, h => by
    by_cases c : n = 0
    · rw [mxN_0 F c, mxN_0 G c]; exact h n (by omega)
    · rw [mxN_s F c, mxN_s G c, mx_congr n (fun k hk => h k (by omega)), h n (by omega)]
theorem mn_more {n : Nat} {X : Nat → Int} {z : Int} (h : 1 ≤ n) : mnN (pF n X z) (n + 1) = minZ (mnN X n) z := by
  rw [mnN_s _ (by omega), pF_n, mn_congr n (fun k hk => pF_lt hk)]
theorem mx_more {n : Nat} {X : Nat → Int} {z : Int} (h : 1 ≤ n) : mxN (pF n X z) (n + 1) = maxZ (mxN X n) z := by
  rw [mxN_s _ (by omega), pF_n, mx_congr n (fun k hk => pF_lt hk)]
/-- The box of a hull's corners is the box of all. -/
theorem hull_box {n k : Nat} {X Y : Nat → Int} {a : List Hp.Pt} (h : Hp.HullOK (lsP n X Y) k (fun i => a.getD i (0, 0))) (hn : 1 ≤ n) : mnN (fX a) k = mnN X n ∧ mnN (fY a) k = mnN Y n ∧ mxN (fX a) k = mxN X n ∧ mxN (fY a) k = mxN Y n := by
  have hk := h.pos
  have mem : ∀ i, i < k → ∃ t, t < n ∧ fX a i = X t ∧ fY a i = Y t := fun i hi => by
    obtain ⟨t, ht, e⟩ := lsP_mem.1 (h.mem i hi)
    exact ⟨t, ht, congrArg Prod.fst e, congrArg Prod.snd e⟩
  have dir : ∀ (A B : Int) t, t < n → ∃ i, i < k ∧ A * X t + B * Y t ≤ A * fX a i + B * fY a i := fun A B t ht => h.dir A B (lsP_in ht)
  obtain ⟨⟨i1, h1, e1⟩, l1⟩ := hmn X n hn
  obtain ⟨⟨i2, h2, e2⟩, l2⟩ := hmn Y n hn
  obtain ⟨⟨i3, h3, e3⟩, l3⟩ := hmx X n hn
  obtain ⟨⟨i4, h4, e4⟩, l4⟩ := hmx Y n hn
  obtain ⟨⟨j1, g1, f1⟩, m1⟩ := hmn (fX a) k hk
  obtain ⟨⟨j2, g2, f2⟩, m2⟩ := hmn (fY a) k hk
  obtain ⟨⟨j3, g3, f3⟩, m3⟩ := hmx (fX a) k hk
  obtain ⟨⟨j4, g4, f4⟩, m4⟩ := hmx (fY a) k hk
  refine ⟨?_, ?_, ?_, ?_⟩
  · obtain ⟨t, ht, u, -⟩ := mem j1 g1
    obtain ⟨q, hq, v⟩ := dir (-1) 0 i1 h1
    have := l1 t ht; have := m1 q hq; omega
  · obtain ⟨t, ht, -, u⟩ := mem j2 g2
    obtain ⟨q, hq, v⟩ := dir 0 (-1) i2 h2
    have := l2 t ht; have := m2 q hq; omega
  · obtain ⟨t, ht, u, -⟩ := mem j3 g3
    obtain ⟨q, hq, v⟩ := dir 1 0 i3 h3
    have := l3 t ht; have := m3 q hq; omega
  · obtain ⟨t, ht, -, u⟩ := mem j4 g4
    obtain ⟨q, hq, v⟩ := dir 0 1 i4 h4
    have := l4 t ht; have := m4 q hq; omega
theorem lsP_pF_mem {n : Nat} {X Y : Nat → Int} {px py : Int} {p : Hp.Pt} : p ∈ lsP (n + 1) (pF n X px) (pF n Y py) ↔ p ∈ (px, py) :: lsP n X Y := by
  rw [List.mem_cons, lsP_mem, lsP_mem]
  constructor
  · rintro ⟨k, hk, rfl⟩
    by_cases c : k < n
    · right; exact ⟨k, c, by rw [pF_lt c, pF_lt c]⟩
    · left; obtain rfl : k = n := by omega
      rw [pF_n, pF_n]
  · rintro (rfl | ⟨k, hk, rfl⟩)
    · exact ⟨n, by omega, by rw [pF_n, pF_n]⟩
    · exact ⟨k, by omega, by rw [pF_lt hk, pF_lt hk]⟩
theorem mnC_pF {n : Nat} {X Y : Nat → Int} {px py : Int} (h : (mnC 1 n X Y).1 = 0) (hn : n ≤ 100) (hp : nearB px py = true) : (mnC 1 (n + 1) (pF n X px) (pF n Y py)).1 = 0 := by
  obtain ⟨a, -, c⟩ := mnC_ok.1 h
  refine mnC_ok.2 ⟨by omega, by omega, fun k hk => ?_⟩
  by_cases e : k < n
  · rw [pF_lt e, pF_lt e]; exact c k e
  · obtain rfl : k = n := by omega
    rw [pF_n, pF_n]; exact hp
theorem pts_pF {w : World} {base n : Nat} {v : Value} {X Y : Nat → Int} {px py : Int} (h : w.ownsRow base 30 2 v (n + 1) (rowL (lsP n X Y) ++ [.int .i64 px, .int .i64 py])) : Pts w v (n + 1) (pF n X px) (pF n Y py) := by
  refine ownP_X (base := base) ?_
  unfold OwnP
  rw [lsP_len, rowL_lsP_succ]
  have e : lsP n (pF n X px) (pF n Y py) = lsP n X Y := lsP_congr fun k hk => ⟨pF_lt hk, pF_lt hk⟩
  rw [e, pF_n, pF_n]; exact h
theorem near_boxP {n : Nat} {X Y : Nat → Int} (h : ∀ k, k < n → nearB (X k) (Y k) = true) (hn : 1 ≤ n) : boxB (mnN X n) (mnN Y n) (mxN X n) (mxN Y n) = true := by
  obtain ⟨⟨i1, h1, e1⟩, l1⟩ := hmn X n hn
  obtain ⟨⟨i2, h2, e2⟩, l2⟩ := hmn Y n hn
  obtain ⟨⟨i3, h3, e3⟩, l3⟩ := hmx X n hn
  obtain ⟨⟨i4, h4, e4⟩, l4⟩ := hmx Y n hn
  have a1 := nearB_iff.1 (h i1 h1)
  have a2 := nearB_iff.1 (h i2 h2)
  have a3 := nearB_iff.1 (h i3 h3)
  have a4 := nearB_iff.1 (h i4 h4)
  have b1 := l1 i3 h3
  have b2 := l2 i4 h4
  refine boxB_iff.2 ⟨⟨nearB_iff.2 ?_, nearB_iff.2 ?_⟩, ?_, ?_⟩ <;> omega
set_option maxHeartbeats 2000000 in
set_option maxRecDepth 100000 in
theorem c_hBox {n : Nat} {X Y : Nat → Int} {v : Value} (W : World) (h : Pts W v n X Y) (h0 : (mnC 1 n X Y).1 = 0) :
    Calls Tryd.prog 20 #[v] W fun e w' => e = .returned (.tuple #[.agg #[.int .i64 (mnN X n), .int .i64 (mnN Y n), .int .i64 (mxN X n), .int .i64 (mxN Y n)], .nilIface]) ∧ Gr W w' := by
  have HC := Lib.hid (hcheck_ok 1 1 rfl W h (by decide) h0)
  have HA := Lib.hid (fun w (g : Gr W w) => c_AroundN w (pts_gr h g) (by have := (mnC_ok.1 h0).2.1; omega))
  generalize mnN X n = q1 at *
  generalize mnN Y n = q2 at *
  generalize mxN X n = q3 at *
  generalize mxN Y n = q4 at *
  clear h h0
  go_enter Tryd.func20, Tryd.ntmps20
  go_wp2_with fail
  go_at_call 24
  (with_reducible refine (HC.out _ (by go_grown)).mono ?_)
  rintro e w1 ⟨rfl, g1⟩
  have c0 : w1.cell? ⟨W.heap.size, 0, none⟩ = some (.int .i64 0) := cell_gr g1 (by go_simp)
  have c1 : w1.cell? ⟨W.heap.size, 1, none⟩ = some (.int .i64 0) := cell_gr g1 (by go_simp)
  have c2 : w1.cell? ⟨W.heap.size, 2, none⟩ = some (.int .i64 0) := cell_gr g1 (by go_simp)
  have c3 : w1.cell? ⟨W.heap.size, 3, none⟩ = some (.int .i64 0) := cell_gr g1 (by go_simp)
  have f0 : w1.frozen? ⟨W.heap.size, 0, none⟩ = false := frozen_gr (v := .int .i64 0) g1 (by go_simp) (by go_simp)
  have f1 : w1.frozen? ⟨W.heap.size, 1, none⟩ = false := frozen_gr (v := .int .i64 0) g1 (by go_simp) (by go_simp)
  have f2 : w1.frozen? ⟨W.heap.size, 2, none⟩ = false := frozen_gr (v := .int .i64 0) g1 (by go_simp) (by go_simp)
  have f3 : w1.frozen? ⟨W.heap.size, 3, none⟩ = false := frozen_gr (v := .int .i64 0) g1 (by go_simp) (by go_simp)
  have gw1 : Gr W w1 := Gr.trans (by go_grown) g1
  clear g1
  have cw1_0_0 := c0
  have cw1_0_1 := c1
  have cw1_0_2 := c2
  have cw1_0_3 := c3
  have fw1_0_0 := f0
  have fw1_0_1 := f1
  have fw1_0_2 := f2
  have fw1_0_3 := f3
  go_wp2_with fail
  go_at_call 43
  (with_reducible refine (HA.out _ gw1).mono ?_)
  rintro e w2 ⟨rfl, g2⟩
  have d0 := cell_gr g2 c0
  have d1 := cell_gr g2 c1
  have d2 := cell_gr g2 c2
  have d3 := cell_gr g2 c3
  have e0 := frozen_gr g2 c0 f0
  have e1 := frozen_gr g2 c1 f1
  have e2 := frozen_gr g2 c2 f2
  have e3 := frozen_gr g2 c3 f3
  have zB := World.block_lt_of_cell? _ _ d0
  have gw2 : Gr W w2 := Gr.trans gw1 g2
  clear g2 gw1 c0 c1 c2 c3 f0 f1 f2 f3 cw1_0_0 cw1_0_1 cw1_0_2 cw1_0_3 fw1_0_0 fw1_0_1 fw1_0_2 fw1_0_3
  go_wp2_with fail
  refine bodyPost_ret (v := .tuple #[.agg #[.int .i64 q1, .int .i64 q2, .int .i64 q3, .int .i64 q4], .nilIface]) (by simp [results, Tryd.results20, go_sem, *]) rfl ⟨rfl, ?_⟩
  exact (((gw2.setCell (p := ⟨W.heap.size, 0, none⟩) (Nat.le_refl _) _).setCell (p := ⟨W.heap.size, 1, none⟩) (Nat.le_refl _) _).setCell (p := ⟨W.heap.size, 2, none⟩) (Nat.le_refl _) _).setCell (p := ⟨W.heap.size, 3, none⟩) (Nat.le_refl _) _
set_option maxHeartbeats 2000000 in
set_option maxRecDepth 100000 in
/-- More than a hundred, none, or a point that may not be. -/
theorem boxes_no {n cap : Nat} {a : Option Addr} (px py : Int) (W : World) (hE : ErrT W) (h : 100 < n ∨ n = 0 ∨ nearB px py = false) : Calls Tryd.prog 5 #[.slice a n cap, .agg #[.int .i64 px, .int .i64 py]] W fun e w' => e = .returned (.bool true) ∧ Gr W w' := by
  have HAW := Lib.hid (fun w (g : Gr W w) => p21_awake w (errT_gr hE g))
  by_cases c : 100 < n
  · have hb : decide (n ≤ 100) = false := decide_eq_false (by omega)
    have HS := Lib.hid (fun w => h_small a n cap false hb.symm w)
    clear hE h hb c
    go_enter Tryd.func5, Tryd.ntmps5
    go_wp2_with fail
    go_at_call 7
    refine ((HS.out _)).mono ?_
    rintro e w1 ⟨rfl, hw1⟩
    have cw1_0_0 : w1.cell? ⟨W.heap.size, 0, none⟩ = some (.int .i64 px) := cell_gr hw1 (by go_simp)
    have cw1_0_1 : w1.cell? ⟨W.heap.size, 1, none⟩ = some (.int .i64 py) := cell_gr hw1 (by go_simp)
    have zw1_0 : W.heap.size < w1.heap.size := World.block_lt_of_cell? _ _ cw1_0_0
    have gw1 : Gr W w1 := Gr.trans (by go_grown) hw1
    clear hw1
    go_wp2_with fail
    go_at_call 8
    refine ((HAW.out _ gw1)).mono ?_
    rintro e w2 ⟨rfl, hw2⟩
    have cw2_0_0 : w2.cell? ⟨W.heap.size, 0, none⟩ = some (.int .i64 px) := cell_gr hw2 (by go_simp)
    have cw2_0_1 : w2.cell? ⟨W.heap.size, 1, none⟩ = some (.int .i64 py) := cell_gr hw2 (by go_simp)
    have zw2_0 : W.heap.size < w2.heap.size := World.block_lt_of_cell? _ _ cw2_0_0
    have gw2 : Gr W w2 := Gr.trans (by have gg := gw1; have gs := gg.size; go_grown) hw2
    clear hw2 gw1 zw1_0 cw1_0_0 cw1_0_1
    go_wp2_with fail
    go_ret
    exact ⟨rfl, gw2⟩
  have hb : decide (n ≤ 100) = true := decide_eq_true (by omega)
  have HS := Lib.hid (fun w => h_small a n cap true hb.symm w)
  by_cases c0 : n = 0
  · have t1 : ((n : Int) == 0) = true := by simp; omega
    have t2 : (n == 0) = true := by simp; omega
    clear hE h hb c c0
    go_enter Tryd.func5, Tryd.ntmps5
    go_wp2_with fail
    go_at_call 7
    refine ((HS.out _)).mono ?_
    rintro e w1 ⟨rfl, hw1⟩
    have cw1_0_0 : w1.cell? ⟨W.heap.size, 0, none⟩ = some (.int .i64 px) := cell_gr hw1 (by go_simp)
    have cw1_0_1 : w1.cell? ⟨W.heap.size, 1, none⟩ = some (.int .i64 py) := cell_gr hw1 (by go_simp)
    have zw1_0 : W.heap.size < w1.heap.size := World.block_lt_of_cell? _ _ cw1_0_0
    have gw1 : Gr W w1 := Gr.trans (by go_grown) hw1
    clear hw1
    go_wp2_with fail
    go_at_call 8
    refine ((HAW.out _ gw1)).mono ?_
    rintro e w2 ⟨rfl, hw2⟩
    have cw2_0_0 : w2.cell? ⟨W.heap.size, 0, none⟩ = some (.int .i64 px) := cell_gr hw2 (by go_simp)
    have cw2_0_1 : w2.cell? ⟨W.heap.size, 1, none⟩ = some (.int .i64 py) := cell_gr hw2 (by go_simp)
    have zw2_0 : W.heap.size < w2.heap.size := World.block_lt_of_cell? _ _ cw2_0_0
    have gw2 : Gr W w2 := Gr.trans (by have gg := gw1; have gs := gg.size; go_grown) hw2
    clear hw2 gw1 zw1_0 cw1_0_0 cw1_0_1
    go_wp2_with fail
    go_ret
    exact ⟨rfl, gw2⟩
  · have t1 : ((n : Int) == 0) = false := by simp; omega
    have t2 : (n == 0) = false := by simp; omega
    have hq : nearB px py = false := by
      rcases h with h | h | h
      · exact absurd h c
      · exact absurd h c0
      · exact h
    have CP := fun w => c_rPoint px py w
    rw [hq] at CP
    have HCP := Lib.hid CP
    clear hE h hb c c0 hq CP
    go_enter Tryd.func5, Tryd.ntmps5
    go_wp2_with fail
    go_at_call 7
    refine ((HS.out _)).mono ?_
    rintro e w1 ⟨rfl, hw1⟩
    have cw1_0_0 : w1.cell? ⟨W.heap.size, 0, none⟩ = some (.int .i64 px) := cell_gr hw1 (by go_simp)
    have cw1_0_1 : w1.cell? ⟨W.heap.size, 1, none⟩ = some (.int .i64 py) := cell_gr hw1 (by go_simp)
    have zw1_0 : W.heap.size < w1.heap.size := World.block_lt_of_cell? _ _ cw1_0_0
    have gw1 : Gr W w1 := Gr.trans (by go_grown) hw1
    clear hw1
    go_wp2_with fail
    go_at_call 19
    refine ((HCP.out _)).mono ?_
    rintro e w3 ⟨rfl, hw3⟩
    have cw3_0_0 : w3.cell? ⟨W.heap.size, 0, none⟩ = some (.int .i64 px) := cell_gr hw3 (by go_simp)
    have cw3_0_1 : w3.cell? ⟨W.heap.size, 1, none⟩ = some (.int .i64 py) := cell_gr hw3 (by go_simp)
    have zw3_0 : W.heap.size < w3.heap.size := World.block_lt_of_cell? _ _ cw3_0_0
    have gw3 : Gr W w3 := Gr.trans (by have gg := gw1; have gs := gg.size; go_grown) hw3
    clear hw3 gw1 zw1_0 cw1_0_0 cw1_0_1
    go_wp2_with fail
    go_at_call 8
    refine ((HAW.out _ gw3)).mono ?_
    rintro e w2 ⟨rfl, hw2⟩
    have cw2_0_0 : w2.cell? ⟨W.heap.size, 0, none⟩ = some (.int .i64 px) := cell_gr hw2 (by go_simp)
    have cw2_0_1 : w2.cell? ⟨W.heap.size, 1, none⟩ = some (.int .i64 py) := cell_gr hw2 (by go_simp)
    have zw2_0 : W.heap.size < w2.heap.size := World.block_lt_of_cell? _ _ cw2_0_0
    have gw2 : Gr W w2 := Gr.trans (by have gg := gw3; have gs := gg.size; go_grown) hw2
    clear hw2 gw3 zw3_0 cw3_0_0 cw3_0_1
    go_wp2_with fail
    go_ret
    exact ⟨rfl, gw2⟩
set_option maxHeartbeats 2000000 in
set_option maxRecDepth 100000 in
theorem boxes_err {n : Nat} {X Y : Nat → Int} {v : Value} (px py : Int) (W : World) (hE : ErrT W) (h : Pts W v n X Y) (h1 : n ≤ 100) (h2 : 1 ≤ n) (hq : nearB px py = true) (h0 : (mnC 1 n X Y).1 ≠ 0) : Calls Tryd.prog 5 #[v, .agg #[.int .i64 px, .int .i64 py]] W fun e w' => e = .returned (.bool true) ∧ Gr W w' := by
  have HAW := Lib.hid (fun w (g : Gr W w) => p21_awake w (errT_gr hE g))
  have HHL := Lib.hid (fun w (g : Gr W w) => hull_no w (pts_gr h g) h0)
  obtain ⟨a, cap, B, off, rfl, -, -, -, -⟩ := h
  have HS := Lib.hid (fun w => h_small a n cap true (decide_eq_true h1).symm w)
  have t1 : ((n : Int) == 0) = false := by simp; omega
  have t2 : (n == 0) = false := by simp; omega
  have CP := fun w => c_rPoint px py w
  rw [hq] at CP
  have HCP := Lib.hid CP
  clear hE hq CP h0
  go_enter Tryd.func5, Tryd.ntmps5
  go_wp2_with fail
  go_at_call 7
  refine ((HS.out _)).mono ?_
  rintro e w1 ⟨rfl, hw1⟩
  have cw1_0_0 : w1.cell? ⟨W.heap.size, 0, none⟩ = some (.int .i64 px) := cell_gr hw1 (by go_simp)
  have cw1_0_1 : w1.cell? ⟨W.heap.size, 1, none⟩ = some (.int .i64 py) := cell_gr hw1 (by go_simp)
  have zw1_0 : W.heap.size < w1.heap.size := World.block_lt_of_cell? _ _ cw1_0_0
  have gw1 : Gr W w1 := Gr.trans (by go_grown) hw1
  clear hw1
  go_wp2_with fail
  go_at_call 19
  refine ((HCP.out _)).mono ?_
  rintro e w3 ⟨rfl, hw3⟩
  have cw3_0_0 : w3.cell? ⟨W.heap.size, 0, none⟩ = some (.int .i64 px) := cell_gr hw3 (by go_simp)
  have cw3_0_1 : w3.cell? ⟨W.heap.size, 1, none⟩ = some (.int .i64 py) := cell_gr hw3 (by go_simp)
  have zw3_0 : W.heap.size < w3.heap.size := World.block_lt_of_cell? _ _ cw3_0_0
  have gw3 : Gr W w3 := Gr.trans (by have gg := gw1; have gs := gg.size; go_grown) hw3
  clear hw3 gw1 zw1_0 cw1_0_0 cw1_0_1
  go_wp2_with fail
  go_at_call 9
  (with_reducible refine (HHL.out _ gw3).mono ?_)
  rintro e w4 ⟨B1, rfl, hF, g4⟩
  have gw4 : Gr W w4 := Gr.trans gw3 g4
  clear g4 gw3 hF
  go_wp2_with fail
  go_at_call 8
  (with_reducible refine (HAW.out _ gw4).mono ?_)
  rintro e w7 ⟨rfl, g7⟩
  go_wp2_with fail
  go_ret
  exact ⟨rfl, Gr.trans gw4 g7⟩
end Go.Proofs.YtogflfepkddbhaaDoor
