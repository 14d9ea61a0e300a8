/- HullBoxes, where there is something to be held against something -/
import Derived.Test.YtogflfepkddbhaaDoorYy
namespace Go.Proofs.YtogflfepkddbhaaDoor
set_option linter.unusedVariables false
set_option linter.unusedSimpArgs false
open Go.ChangeShapes Go.WideShapes Go.ChangeAt Go.RowKit

/-- What is said of the values of the region that makes the longer row. -/
def bV (B0 n : Nat) (X Y : Nat → Int) (px py : Int) (l : Value) : Nat → (Nat → Value) → World → Prop
  | 0, us, w => ∃ h, us 0 = .slice (some ⟨h, 0, none⟩) 0 0 ∧ w.ownsRow B0 30 2 (us 0) 0 []
  | 1, us, _ => us 1 = l
  | 2, us, w => ∃ g c, us 2 = .slice (some ⟨g, 0, none⟩) n c ∧ OwnP w B0 (us 2) (lsP n X Y)
  | 3, us, _ => us 3 = .agg #[.int .i64 px, .int .i64 py]
  | 4, us, w => ∃ p, us 4 = .slice (some ⟨p, 0, none⟩) 1 1 ∧ B0 ≤ p ∧ w.heap[p]? = some (Obj.cells #[.int .i64 px, .int .i64 py] 30 (0, 0))
  | 5, us, w => ∃ g c, us 5 = .slice (some ⟨g, 0, none⟩) (n + 1) c ∧ Pts w (us 5) (n + 1) (pF n X px) (pF n Y py)
  | 6, us, w => ∃ g c, us 6 = .slice (some ⟨g, 0, none⟩) (n + 1) c ∧ Pts w (us 6) (n + 1) (pF n X px) (pF n Y py)
  | _, _, _ => True
def bT (w0 : World) (i : Nat) (x y : World) : Prop := if i = 5 then cS w0 x y else if i = 2 then cT w0 2 x y else Gr x y
def bK (i : Nat) : Bool := i == 6
def bU : Nat → List Nat | 2 => [0, 1] | 4 => [3] | 5 => [2, 4] | 6 => [5] | _ => []
theorem bV_upd {B0 n : Nat} {X Y : Nat → Int} {px py : Int} {l : Value} {w : World} {us : Nat → Value} {v : Value} {q : Nat} : ∀ j, j ≠ q → bV B0 n X Y px py l j us w → bV B0 n X Y px py l j (Og.upd us q v) w
  | 0, h, k => by simp only [bV, upd_ne h] at k ⊢; exact k
  | 1, h, k => by simp only [bV, upd_ne h] at k ⊢; exact k
  | 2, h, k => by simp only [bV, upd_ne h] at k ⊢; exact k
  | 3, h, k => by simp only [bV, upd_ne h] at k ⊢; exact k
  | 4, h, k => by simp only [bV, upd_ne h] at k ⊢; exact k
  | 5, h, k => by simp only [bV, upd_ne h] at k ⊢; exact k
  | 6, h, k => by simp only [bV, upd_ne h] at k ⊢; exact k
  | j + 7, h, k => trivial
theorem bV_gr {B0 n : Nat} {X Y : Nat → Int} {px py : Int} {l : Value} {a b : World} {us : Nat → Value} (g : Gr a b) : ∀ j, bV B0 n X Y px py l j us a → bV B0 n X Y px py l j us b
  | 0, ⟨h, e, o⟩ => ⟨h, e, rowOwn_gr o g⟩
  | 1, h => h
  | 2, ⟨h, c, e, o⟩ => ⟨h, c, e, ownP_gr o g⟩
  | 3, h => h
  | 4, ⟨p, e, h, c⟩ => ⟨p, e, h, Hm.heap_gr g c⟩
  | 5, ⟨h, c, e, o⟩ => ⟨h, c, e, pts_gr o g⟩
  | 6, ⟨h, c, e, o⟩ => ⟨h, c, e, pts_gr o g⟩
  | j + 7, h => trivial
theorem bT_S {w0 : World} {i : Nat} {a b : World} (h : bT w0 i a b) : cS w0 a b := by
  unfold bT at h
  split at h
  · exact h
  · split at h
    · exact cT_S h
    · exact ⟨h.size, fun k => Gr.trans k h⟩
theorem bT_gr {w0 : World} {i : Nat} {a b : World} (h : i ≠ 5 ∧ i ≠ 2) (g : Gr a b) : bT w0 i a b := by
  unfold bT; rw [if_neg h.1, if_neg h.2]; exact g
theorem bT_2 {w0 a b : World} (h : cT w0 2 a b) : bT w0 2 a b := by unfold bT; rw [if_neg (by decide), if_pos rfl]; exact h
theorem bT_5 {w0 a b : World} (h : cS w0 a b) : bT w0 5 a b := by unfold bT; rw [if_pos rfl]; exact h
theorem b_st {ops : Array Oper} {w0 : World} {B0 n : Nat} {X Y : Nat → Int} {px py : Int} {l : Value} (hk : ([0, 2, 4, 6].all fun j => Og.needB ops 7 bU bK 5 j == false) = true) (hk2 : ([0, 5, 6].all fun j => Og.needB ops 7 bU bK 2 j == false) = true) :
    ∀ q j us v w w', q < 7 → j < 7 → Og.needB ops 7 bU bK q j = true → cS w0 w0 w → bV B0 n X Y px py l j us w → bT w0 q w w' → bV B0 n X Y px py l j (Og.upd us q v) w' := by
  intro q j us v w w' hq hj hn hS hV hT
  have hjq : j ≠ q := fun e => by subst e; unfold Og.needB at hn; simp at hn
  have no5 : ∀ j', j' ∈ [0, 2, 4, 6] → Og.needB ops 7 bU bK 5 j' = false := fun j' h => by simpa using List.all_eq_true.1 hk j' h
  have no2 : ∀ j', j' ∈ [0, 5, 6] → Og.needB ops 7 bU bK 2 j' = false := fun j' h => by simpa using List.all_eq_true.1 hk2 j' h
  refine bV_upd j hjq ?_
  by_cases c5 : q = 5
  · subst c5
    have nj : ∀ j', j' ∈ [0, 2, 4, 6] → j ≠ j' := fun j' h e => by subst e; rw [no5 j h] at hn; cases hn
    match j, hj, hV with
    | 0, _, _ => exact absurd rfl (nj 0 (by simp))
    | 1, _, h => exact h
    | 2, _, _ => exact absurd rfl (nj 2 (by simp))
    | 3, _, h => exact h
    | 4, _, _ => exact absurd rfl (nj 4 (by simp))
    | 5, _, _ => exact absurd rfl hjq
    | 6, _, _ => exact absurd rfl (nj 6 (by simp))
  by_cases c2 : q = 2
  · subst c2
    have nj : ∀ j', j' ∈ [0, 5, 6] → j ≠ j' := fun j' h e => by subst e; rw [no2 j h] at hn; cases hn
    have hT2 : cT w0 2 w w' := by unfold bT at hT; rwa [if_neg (by decide), if_pos rfl] at hT
    unfold cT at hT2
    rw [if_neg (by decide), if_neg (by decide), if_pos rfl] at hT2
    match j, hj, hV with
    | 0, _, _ => exact absurd rfl (nj 0 (by simp))
    | 1, _, h => exact h
    | 2, _, _ => exact absurd rfl hjq
    | 3, _, h => exact h
    | 4, _, ⟨p, e, hb, hh⟩ => exact ⟨p, e, hb, (hT2.2.2 p _ _ hh (by simp)).trans hh⟩
    | 5, _, _ => exact absurd rfl (nj 5 (by simp))
    | 6, _, _ => exact absurd rfl (nj 6 (by simp))
  · unfold bT at hT
    rw [if_neg c5, if_neg c2] at hT
    exact bV_gr hT j hV
theorem neBox0 (a b c d e f g h : Int) (w : World) : (binOp .neq 45 (.agg #[.int .i64 a, .int .i64 b, .int .i64 c, .int .i64 d]) (.agg #[.int .i64 e, .int .i64 f, .int .i64 g, .int .i64 h])).run Tryd.prog w = .ok (.bool (!(decide (a = e ∧ b = f ∧ c = g ∧ d = h)))) w := by
  by_cases h1 : a = e <;> by_cases h2 : b = f <;> by_cases h3 : c = g <;> by_cases h4 : d = h <;> simp [go_sem, h1, h2, h3, h4]
theorem neBox (a b c d e f g h : Int) (r : Bool) (hr : r = true ↔ ¬ (a = e ∧ b = f ∧ c = g ∧ d = h)) (w : World) : (binOp .neq 45 (.agg #[.int .i64 a, .int .i64 b, .int .i64 c, .int .i64 d]) (.agg #[.int .i64 e, .int .i64 f, .int .i64 g, .int .i64 h])).run Tryd.prog w = .ok (.bool r) w := by
  rw [neBox0]
  by_cases hp : a = e ∧ b = f ∧ c = g ∧ d = h
  · rw [decide_eq_true hp]
    cases r
    · rfl
    · exact absurd hp (hr.1 rfl)
  · rw [decide_eq_false hp, hr.2 hp]; rfl
theorem nx_ltY {n i : Nat} (h : i < n) : Rg.nx1 n i < n := by unfold Rg.nx1; split <;> omega
theorem nx_remY {n j : Nat} (h : j < n) (hn : n ≤ 1000000) : Int.tmod ((j : Int) + 1) (n : Int) = (Rg.nx1 n j : Nat) ∧ ((j : Int) + 1) % (n : Int) = (Rg.nx1 n j : Nat) := by
  have e : ((j : Int) + 1) % (n : Int) = (Rg.nx1 n j : Nat) := by
    unfold Rg.nx1
    split
    · rename_i h1
      have : (j : Int) + 1 = (n : Int) := by omega
      rw [this]; simp
    · rename_i h1
      rw [Int.emod_eq_of_lt (by omega) (by omega)]; omega
  refine ⟨?_, e⟩
  rw [Int.tmod_eq_emod_of_nonneg (by omega)]
  exact e
theorem nx_mod {n i : Nat} (h : i < n) : (i + 1) % n = Rg.nx1 n i := by
  unfold Rg.nx1
  split
  · rename_i e
    rw [e]; exact Nat.mod_self n
  · exact Nat.mod_eq_of_lt (by omega)
theorem orient_ge {a b p : Hp.Pt} (h1 : nearB a.1 a.2 = true) (h2 : nearB b.1 b.2 = true) (h3 : nearB p.1 p.2 = true) : decide (0 ≤ cmpZ (crossZ a.1 a.2 b.1 b.2 p.1 p.2) 0) = decide (0 ≤ Hp.cz a b p) := by
  rw [near_cz h1 h2 h3, decide_eq_decide]
  unfold cmpZ
  split <;> (try split) <;> omega
set_option maxHeartbeats 40000000 in
set_option maxRecDepth 100000 in
theorem boxes_yes {n : Nat} {X Y : Nat → Int} {v : Value} (px py : Int) (W : World) (hE : ErrT W) (h : Pts W v n X Y) (h1 : n ≤ 100) (h2 : 1 ≤ n) (hq : nearB px py = true) (h0 : (mnC 1 n X Y).1 = 0) : Calls Tryd.prog 5 #[v, .agg #[.int .i64 px, .int .i64 py]] W fun e w' => e = .returned (.bool true) ∧ Gr W w' := by
  obtain ⟨i0, hi0, hz0, hz1, hz2⟩ := info_parts (P := Tryd.prog) (e := 30) (z := zP) (size := 2) (bytes := 16) (by kernel_rfl)
  have HI := Lib.hid (And.intro hi0 (And.intro hz0 (And.intro hz1 hz2)))
  have HAW := Lib.hid (fun w (g : Gr W w) => p21_awake w (errT_gr hE g))
  have HHL := Lib.hid (fun w (g : Gr W w) => hull_yes w (pts_gr h g) h0)
  have HBL := Lib.hid (fun w (g : Gr W w) => c_hBox w (pts_gr h g) h0)
  have HNR := Lib.hid (mnC_ok.1 h0).2.2
  have H00 := Lib.hid (And.intro h0 hq)
  obtain ⟨ad, cap, B, off, rfl, k1, k2, k3, k4⟩ := h
  obtain rfl := k3 (by omega)
  have HX := Lib.hid k4
  have zB := World.block_lt_of_cell? _ _ (k4 0 (by omega)).1
  have HS := Lib.hid (fun w => h_small (some ⟨B, off, none⟩) n cap true (decide_eq_true h1).symm w)
  have t1 : ((n : Int) == 0) = false := by simp; omega
  have t2 : (n == 0) = false := by simp; omega
  have CP := fun w => c_rPoint px py w
  rw [hq] at CP
  have HCP := Lib.hid CP
  have hni : (n : Int) ≤ 100 := by omega
  obtain ⟨b1, eb1⟩ : ∃ b, b = mnN X n := ⟨_, rfl⟩
  obtain ⟨b2, eb2⟩ : ∃ b, b = mnN Y n := ⟨_, rfl⟩
  obtain ⟨b3, eb3⟩ : ∃ b, b = mxN X n := ⟨_, rfl⟩
  obtain ⟨b4, eb4⟩ : ∃ b, b = mxN Y n := ⟨_, rfl⟩
  rw [← eb1, ← eb2, ← eb3, ← eb4] at HBL
  have HB := Lib.hid (And.intro eb1 (And.intro eb2 (And.intro eb3 eb4)))
  clear hE h0 hq hi0 hz0 hz1 hz2 k3 k4 CP eb1 eb2 eb3 eb4
  go_enter Tryd.func5, Tryd.ntmps5
  go_wp2_with fail
  go_at_call 7
  refine ((HS.out _)).mono ?_
  rintro e w1 ⟨rfl, hw1⟩
  have cw1_0_0 : w1.cell? ⟨W.heap.size, 0, none⟩ = some (.int .i64 px) := cell_gr hw1 (by go_simp)
  have cw1_0_1 : w1.cell? ⟨W.heap.size, 1, none⟩ = some (.int .i64 py) := cell_gr hw1 (by go_simp)
  have zw1_0 : W.heap.size < w1.heap.size := World.block_lt_of_cell? _ _ cw1_0_0
  have gw1 : Gr W w1 := Gr.trans (by go_grown) hw1
  clear hw1
  go_wp2_with fail
  go_at_call 19
  refine ((HCP.out _)).mono ?_
  rintro e w3 ⟨rfl, hw3⟩
  have cw3_0_0 : w3.cell? ⟨W.heap.size, 0, none⟩ = some (.int .i64 px) := cell_gr hw3 (by go_simp)
  have cw3_0_1 : w3.cell? ⟨W.heap.size, 1, none⟩ = some (.int .i64 py) := cell_gr hw3 (by go_simp)
  have zw3_0 : W.heap.size < w3.heap.size := World.block_lt_of_cell? _ _ cw3_0_0
  have gw3 : Gr W w3 := Gr.trans (by have gg := gw1; have gs := gg.size; go_grown) hw3
  clear hw3 gw1 zw1_0 cw1_0_0 cw1_0_1
  go_wp2_with fail
  go_at_call 9
  (with_reducible refine (HHL.out _ gw3).mono ?_)
  rintro e w4 ⟨ga, ca, ka, a, rfl, oa, hoka, g4⟩
  have gw4 : Gr W w4 := Gr.trans gw3 g4
  have cw4_0_0 := cell_gr g4 cw3_0_0
  have cw4_0_1 := cell_gr g4 cw3_0_1
  have zw4_0 := World.block_lt_of_cell? _ _ cw4_0_0
  have hka : ka = a.length := (ownP_blk oa).2.2.1
  have PA := Lib.hid (pts_len hka (ownP_pts oa))
  have hga := (ownP_blk oa).1
  have hka2 : ka ≤ n := by have := hoka.le_len; rwa [lsP_len] at this
  have hkap : 1 ≤ ka := hoka.pos
  have hca : ka ≤ ca := (ownP_blk oa).2.2.2
  have hka9 : (ka : Int) ≤ 100 := by omega
  have nc : ∀ q, q < ka → nearB (fX a q) (fY a q) = true := fun q hq => near_lsP HNR.out _ (hoka.mem q hq)
  have HNC := Lib.hid nc
  have hb := hull_box hoka h2
  rw [← HB.out.1, ← HB.out.2.1, ← HB.out.2.2.1, ← HB.out.2.2.2] at hb
  have HOKA := Lib.hid hoka
  have CBA := fun w (g : Gr w4 w) => c_hBox w (pts_gr PA.out g) (mnC_ok.2 ⟨hkap, by omega, nc⟩)
  rw [hb.1, hb.2.1, hb.2.2.1, hb.2.2.2] at CBA
  have HBA := Lib.hid CBA
  have HBX := Lib.hid hb
  clear g4 gw3 cw3_0_0 cw3_0_1 zw3_0 oa hka hoka nc hb CBA
  go_wp2_with fail
  go_at_call 20
  (with_reducible refine (HBL.out _ gw4).mono ?_)
  rintro e w5 ⟨rfl, g5⟩
  have gw5 : Gr W w5 := Gr.trans gw4 g5
  have cw5_0_0 := cell_gr g5 cw4_0_0
  have cw5_0_1 := cell_gr g5 cw4_0_1
  have zw5_0 := World.block_lt_of_cell? _ _ cw5_0_0
  clear gw4 cw4_0_0 cw4_0_1 zw4_0
  go_wp2_with fail
  have g56 : Gr w4 (w5.alloc (.cells #[.int .i64 b1, .int .i64 b2, .int .i64 b3, .int .i64 b4] 45)) := g5.alloc g5.size _
  generalize hhw6 : (w5.alloc (.cells #[.int .i64 b1, .int .i64 b2, .int .i64 b3, .int .i64 b4] 45)) = w6 at g56 ⊢
  have cw6_0_0 : w6.cell? ⟨W.heap.size, 0, none⟩ = some (.int .i64 px) := by subst hhw6; go_simp
  have cw6_0_1 : w6.cell? ⟨W.heap.size, 1, none⟩ = some (.int .i64 py) := by subst hhw6; go_simp
  have zw6_0 : W.heap.size < w6.heap.size := World.block_lt_of_cell? _ _ cw6_0_0
  have cw6_1_0 : w6.cell? ⟨w5.heap.size, 0, none⟩ = some (.int .i64 b1) := by subst hhw6; go_simp
  have cw6_1_1 : w6.cell? ⟨w5.heap.size, 1, none⟩ = some (.int .i64 b2) := by subst hhw6; go_simp
  have cw6_1_2 : w6.cell? ⟨w5.heap.size, 2, none⟩ = some (.int .i64 b3) := by subst hhw6; go_simp
  have cw6_1_3 : w6.cell? ⟨w5.heap.size, 3, none⟩ = some (.int .i64 b4) := by subst hhw6; go_simp
  have zw6_1 : w5.heap.size < w6.heap.size := World.block_lt_of_cell? _ _ cw6_1_0
  have gw6 : Gr W w6 := by subst hhw6; have gg := gw5; have gs := gg.size; go_grown
  clear hhw6 gw5
  obtain ⟨B7, eB7⟩ : ∃ b, b = w5.heap.size := ⟨_, rfl⟩
  rw [← eB7] at cw6_1_0 cw6_1_1 cw6_1_2 cw6_1_3 zw6_1 ⊢
  clear eB7 g5
  go_at_call 20
  (with_reducible refine (HBA.out _ g56).mono ?_)
  rintro e w7 ⟨rfl, g7⟩
  have gw7 : Gr W w7 := Gr.trans gw6 g7
  have g47 : Gr w4 w7 := Gr.trans g56 g7
  have cw7_0_0 := cell_gr g7 cw6_0_0
  have cw7_0_1 := cell_gr g7 cw6_0_1
  have zw7_0 := World.block_lt_of_cell? _ _ cw7_0_0
  have cw7_1_0 := cell_gr g7 cw6_1_0
  have cw7_1_1 := cell_gr g7 cw6_1_1
  have cw7_1_2 := cell_gr g7 cw6_1_2
  have cw7_1_3 := cell_gr g7 cw6_1_3
  have zw7_1 := World.block_lt_of_cell? _ _ cw7_1_0
  clear gw6 g7 g56 cw6_0_0 cw6_0_1 zw6_0 cw6_1_0 cw6_1_1 cw6_1_2 cw6_1_3 zw6_1
  go_wp2_with fail
  replace g47 : Gr w4 (w7.alloc (.cells #[.int .i64 b1, .int .i64 b2, .int .i64 b3, .int .i64 b4] 45)) := g47.alloc g47.size _
  generalize hhw8 : (w7.alloc (.cells #[.int .i64 b1, .int .i64 b2, .int .i64 b3, .int .i64 b4] 45)) = w8 at g47 ⊢
  have cw8_0_0 : w8.cell? ⟨W.heap.size, 0, none⟩ = some (.int .i64 px) := by subst hhw8; go_simp
  have cw8_0_1 : w8.cell? ⟨W.heap.size, 1, none⟩ = some (.int .i64 py) := by subst hhw8; go_simp
  have zw8_0 : W.heap.size < w8.heap.size := World.block_lt_of_cell? _ _ cw8_0_0
  have cw8_1_0 : w8.cell? ⟨B7, 0, none⟩ = some (.int .i64 b1) := by subst hhw8; go_simp
  have cw8_1_1 : w8.cell? ⟨B7, 1, none⟩ = some (.int .i64 b2) := by subst hhw8; go_simp
  have cw8_1_2 : w8.cell? ⟨B7, 2, none⟩ = some (.int .i64 b3) := by subst hhw8; go_simp
  have cw8_1_3 : w8.cell? ⟨B7, 3, none⟩ = some (.int .i64 b4) := by subst hhw8; go_simp
  have zw8_1 : B7 < w8.heap.size := World.block_lt_of_cell? _ _ cw8_1_0
  have cw8_2_0 : w8.cell? ⟨w7.heap.size, 0, none⟩ = some (.int .i64 b1) := by subst hhw8; go_simp
  have cw8_2_1 : w8.cell? ⟨w7.heap.size, 1, none⟩ = some (.int .i64 b2) := by subst hhw8; go_simp
  have cw8_2_2 : w8.cell? ⟨w7.heap.size, 2, none⟩ = some (.int .i64 b3) := by subst hhw8; go_simp
  have cw8_2_3 : w8.cell? ⟨w7.heap.size, 3, none⟩ = some (.int .i64 b4) := by subst hhw8; go_simp
  have zw8_2 : w7.heap.size < w8.heap.size := World.block_lt_of_cell? _ _ cw8_2_0
  have gw8 : Gr W w8 := by subst hhw8; have gg := gw7; have gs := gg.size; go_grown
  clear hhw8 gw7
  obtain ⟨B9, eB9⟩ : ∃ b, b = w7.heap.size := ⟨_, rfl⟩
  rw [← eB9] at cw8_2_0 cw8_2_1 cw8_2_2 cw8_2_3 zw8_2 ⊢
  have PA8 := Lib.hid (pts_gr PA.out g47)
  clear eB9 g47 PA hga
  have HGW := Lib.hid gw8
  refine Og.wp_region_all 7 (cS w8) (bT w8) (bV w8.heap.size n X Y px py (.slice (some ⟨B, off, none⟩) n cap)) bU bK (by kernel_rfl) rfl (by kernel_rfl) ⟨Nat.le_refl _, fun h => h.drew⟩ cS_tr (fun i a b _ h => bT_S h) (b_st (by kernel_rfl) (by kernel_rfl)) (fun k hk => match k, hk with | 0, _ => ?_ | 1, _ => ?_ | 2, _ => ?_ | 3, _ => ?_ | 4, _ => ?_ | 5, _ => ?_ | 6, _ => ?_ | k + 7, h => absurd h (by omega)) ?_
  · intro o ho us w hS hV QE hQ
    simp only [List.getElem?_toArray, List.getElem?_cons_succ, List.getElem?_cons_zero] at ho
    obtain rfl := Option.some.inj ho
    have g := hS.2 (Below.refl _ _)
    have sz := hS.1
    clear cw8_0_0 cw8_0_1 cw8_1_0 cw8_1_1 cw8_1_2 cw8_1_3 cw8_2_0 cw8_2_1 cw8_2_2 cw8_2_3
    simp only [Og.putN, List.getElem?_toArray, List.getElem?_cons_succ, List.getElem?_cons_zero, Act.put, List.setIfInBounds_toArray, List.set_cons_zero, List.set_cons_succ] at hQ ⊢
    go_wp2_with fail
    exact ⟨bT_gr (by decide) (by go_grown), w.heap.size, upd_eq, by rw [upd_eq]; exact World.ownsRow_made w #[] 0 sz (Nat.zero_le _) (by simp)⟩
  · intro o ho us w hS hV QE hQ
    simp only [List.getElem?_toArray, List.getElem?_cons_succ, List.getElem?_cons_zero] at ho
    obtain rfl := Option.some.inj ho
    have g := hS.2 (Below.refl _ _)
    have sz := hS.1
    clear cw8_0_0 cw8_0_1 cw8_1_0 cw8_1_1 cw8_1_2 cw8_1_3 cw8_2_0 cw8_2_1 cw8_2_2 cw8_2_3
    simp only [Og.putN, List.getElem?_toArray, List.getElem?_cons_succ, List.getElem?_cons_zero, Act.put, List.setIfInBounds_toArray, List.set_cons_zero, List.set_cons_succ] at hQ ⊢
    go_wp2_with fail
    exact ⟨bT_gr (by decide) (by go_grown), upd_eq⟩
  · intro o ho us w hS hV QE hQ
    simp only [List.getElem?_toArray, List.getElem?_cons_succ, List.getElem?_cons_zero] at ho
    obtain rfl := Option.some.inj ho
    have g := hS.2 (Below.refl _ _)
    have sz := hS.1
    clear cw8_0_0 cw8_0_1 cw8_1_0 cw8_1_1 cw8_1_2 cw8_1_3 cw8_2_0 cw8_2_1 cw8_2_2 cw8_2_3
    simp only [Og.putN, List.getElem?_toArray, List.getElem?_cons_succ, List.getElem?_cons_zero, Act.put, List.setIfInBounds_toArray, List.set_cons_zero, List.set_cons_succ] at hQ ⊢
    obtain ⟨h0, e0, o0⟩ := hV 0 (by simp [bU])
    have e1 : us 1 = _ := hV 1 (by simp [bU])
    rw [e0] at o0
    simp only [e0, e1] at hQ ⊢
    have O0 := Lib.hid o0
    have G1 := Lib.hid (Gr.trans HGW.out g)
    clear o0 e0 e1
    go_wp2_with (at_builtin; (refine wpList_append_own2 _ rfl (.tmp 50) (.tmp 51) 22 rfl w8.heap.size 30 i0 zP 2 16 Tryd.underlying22 HI.out.1 HI.out.2.1 HI.out.2.2.1 HI.out.2.2.2 rfl (by decide) (.slice (some ⟨h0, 0, none⟩) 0 0) 0 [] rfl O0.out ⟨B, off, none⟩ n cap (rowL (lsP n X Y)) rfl (by rw [rowL_len, lsP_len]) (lsP_news fun k hk => ⟨cell_gr G1.out (HX.out k hk).1, cell_gr G1.out (HX.out k hk).2⟩) (rowL_one _) (by unfold maxLen; omega) (by omega) sz ?_); intro u w' o1 g1; obtain ⟨gu, cu, rfl, -⟩ := row_form o1 (by omega); have O1 := Lib.hid (And.intro o1 g1); clear o1 g1)
    refine ⟨bT_2 (c_T2 O0.out O1.out.2), gu, cu, by rw [upd_eq], ?_⟩
    rw [upd_eq]
    unfold OwnP
    rw [lsP_len]
    have := O1.out.1
    simp only [Nat.zero_add, List.nil_append] at this ⊢
    exact this
  · intro o ho us w hS hV QE hQ
    simp only [List.getElem?_toArray, List.getElem?_cons_succ, List.getElem?_cons_zero] at ho
    obtain rfl := Option.some.inj ho
    have g := hS.2 (Below.refl _ _)
    have sz := hS.1
    have d0 := cell_gr g cw8_0_0
    have d1 := cell_gr g cw8_0_1
    clear cw8_0_0 cw8_0_1 cw8_1_0 cw8_1_1 cw8_1_2 cw8_1_3 cw8_2_0 cw8_2_1 cw8_2_2 cw8_2_3
    simp only [Og.putN, List.getElem?_toArray, List.getElem?_cons_succ, List.getElem?_cons_zero, Act.put, List.setIfInBounds_toArray, List.set_cons_zero, List.set_cons_succ] at hQ ⊢
    go_wp2_with fail
    exact ⟨bT_gr (by decide) (by go_grown), upd_eq⟩
  · intro o ho us w hS hV QE hQ
    simp only [List.getElem?_toArray, List.getElem?_cons_succ, List.getElem?_cons_zero] at ho
    obtain rfl := Option.some.inj ho
    have g := hS.2 (Below.refl _ _)
    have sz := hS.1
    clear cw8_0_0 cw8_0_1 cw8_1_0 cw8_1_1 cw8_1_2 cw8_1_3 cw8_2_0 cw8_2_1 cw8_2_2 cw8_2_3
    simp only [Og.putN, List.getElem?_toArray, List.getElem?_cons_succ, List.getElem?_cons_zero, Act.put, List.setIfInBounds_toArray, List.set_cons_zero, List.set_cons_succ] at hQ ⊢
    have e3 : us 3 = _ := hV 3 (by simp [bU])
    simp only [e3] at hQ ⊢
    go_wp2_with fail
    exact ⟨bT_gr (by decide) (by go_grown), w.heap.size, upd_eq, sz, MapKept.heap_alloc w _ |>.1⟩
  · intro o ho us w hS hV QE hQ
    simp only [List.getElem?_toArray, List.getElem?_cons_succ, List.getElem?_cons_zero] at ho
    obtain rfl := Option.some.inj ho
    have g := hS.2 (Below.refl _ _)
    have sz := hS.1
    clear cw8_0_0 cw8_0_1 cw8_1_0 cw8_1_1 cw8_1_2 cw8_1_3 cw8_2_0 cw8_2_1 cw8_2_2 cw8_2_3
    simp only [Og.putN, List.getElem?_toArray, List.getElem?_cons_succ, List.getElem?_cons_zero, Act.put, List.setIfInBounds_toArray, List.set_cons_zero, List.set_cons_succ] at hQ ⊢
    obtain ⟨g2, c2, e2, o2⟩ := hV 2 (by simp [bU])
    obtain ⟨p7, e7, hp7, hh7⟩ := hV 4 (by simp [bU])
    rw [e2] at o2
    simp only [e2, e7] at hQ ⊢
    have O2 := Lib.hid (own_n o2)
    have H7 := Lib.hid hh7
    clear o2 e2 e7 hh7
    go_wp2_with (at_builtin; (refine wpList_append_own2 _ rfl (.tmp 52) (.tmp 54) 22 rfl w8.heap.size 30 i0 zP 2 16 Tryd.underlying22 HI.out.1 HI.out.2.1 HI.out.2.2.1 HI.out.2.2.2 rfl (by decide) (.slice (some ⟨g2, 0, none⟩) n c2) n (rowL (lsP n X Y)) rfl O2.out ⟨p7, 0, none⟩ 1 1 [.int .i64 px, .int .i64 py] rfl rfl (news2 H7.out) (by intro u hu; (simp at hu); rcases hu with rfl | rfl <;> rfl) (by unfold maxLen; omega) (by omega) sz ?_); intro u w' o1 g1; obtain ⟨gu, cu, rfl, -⟩ := row_form o1 (by omega); have O1 := Lib.hid (And.intro o1 g1); clear o1 g1)
    refine ⟨bT_5 (cT_S (c_T8 O2.out O1.out.2)), gu, cu, upd_eq, ?_⟩
    rw [upd_eq]
    exact pts_pF (base := _) O1.out.1
  · intro o ho us w hS hV QE hQ
    simp only [List.getElem?_toArray, List.getElem?_cons_succ, List.getElem?_cons_zero] at ho
    obtain rfl := Option.some.inj ho
    have g := hS.2 (Below.refl _ _)
    have sz := hS.1
    clear cw8_0_0 cw8_0_1 cw8_1_0 cw8_1_1 cw8_1_2 cw8_1_3 cw8_2_0 cw8_2_1 cw8_2_2 cw8_2_3
    simp only [Og.putN, List.getElem?_toArray, List.getElem?_cons_succ, List.getElem?_cons_zero, Act.put, List.setIfInBounds_toArray, List.set_cons_zero, List.set_cons_succ] at hQ ⊢
    obtain ⟨g5, c5, e5, P5⟩ := hV 5 (by simp [bU])
    simp only [e5] at hQ ⊢
    rw [e5] at P5
    go_wp2_with fail
    exact ⟨bT_gr (by decide) (by go_grown), g5, c5, upd_eq, by rw [upd_eq]; exact P5⟩
  intro us w9 hS hV
  have g89 := hS.2 (Below.refl _ _)
  obtain ⟨gm, cm, e6, PM⟩ := hV 6 (by decide) rfl
  rw [e6] at PM
  simp only [Og.putN, List.getElem?_toArray, List.getElem?_cons_succ, List.getElem?_cons_zero, Act.put, List.setIfInBounds_toArray, List.set_cons_zero, List.set_cons_succ, e6]
  have gw9 : Gr W w9 := Gr.trans gw8 g89
  have cw9_0_0 := cell_gr g89 cw8_0_0
  have cw9_0_1 := cell_gr g89 cw8_0_1
  have cw9_1_0 := cell_gr g89 cw8_1_0
  have cw9_1_1 := cell_gr g89 cw8_1_1
  have cw9_1_2 := cell_gr g89 cw8_1_2
  have cw9_1_3 := cell_gr g89 cw8_1_3
  have cw9_2_0 := cell_gr g89 cw8_2_0
  have cw9_2_1 := cell_gr g89 cw8_2_1
  have cw9_2_2 := cell_gr g89 cw8_2_2
  have cw9_2_3 := cell_gr g89 cw8_2_3
  have zw9_0 := World.block_lt_of_cell? _ _ cw9_0_0
  have zw9_1 := World.block_lt_of_cell? _ _ cw9_1_0
  have zw9_2 := World.block_lt_of_cell? _ _ cw9_2_0
  have PA9 := Lib.hid (pts_gr PA8.out g89)
  have hm0 := mnC_pF H00.out.1 h1 H00.out.2
  have HHM := Lib.hid (hull_yes w9 PM hm0)
  have HBM := Lib.hid (fun w (g : Gr w9 w) => c_hBox w (pts_gr PM g) hm0)
  clear hS hV g89 gw8 e6 PM hm0 PA8 HGW cw8_0_0 cw8_0_1 zw8_0 cw8_1_0 cw8_1_1 cw8_1_2 cw8_1_3 zw8_1 cw8_2_0 cw8_2_1 cw8_2_2 cw8_2_3 zw8_2
  generalize us 0 = u0
  generalize us 1 = u1
  generalize us 2 = u2
  generalize us 3 = u3
  generalize us 4 = u4
  generalize us 5 = u5
  clear us
  go_wp2_with fail
  go_at_call 9
  (with_reducible refine HHM.out.mono ?_)
  rintro e w10 ⟨gb, cb, kb, b, rfl, ob, hokb, g10⟩
  have gw10 : Gr W w10 := Gr.trans gw9 g10
  have PB10 := pts_len (ownP_blk ob).2.2.1 (ownP_pts ob)
  have PA10 := pts_gr PA9.out g10
  go_wp2_with fail
  go_at_call 20
  (with_reducible refine (HBM.out _ g10).mono ?_)
  rintro e w11 ⟨rfl, g11⟩
  rw [mn_more h2, mn_more h2, mx_more h2, mx_more h2, ← HB.out.1, ← HB.out.2.1, ← HB.out.2.2.1, ← HB.out.2.2.2]
  obtain ⟨d1, ed1⟩ : ∃ d, d = minZ b1 px := ⟨_, rfl⟩
  obtain ⟨d2, ed2⟩ : ∃ d, d = minZ b2 py := ⟨_, rfl⟩
  obtain ⟨d3, ed3⟩ : ∃ d, d = maxZ b3 px := ⟨_, rfl⟩
  obtain ⟨d4, ed4⟩ : ∃ d, d = maxZ b4 py := ⟨_, rfl⟩
  rw [← ed1, ← ed2, ← ed3, ← ed4]
  have gw11 : Gr W w11 := Gr.trans gw10 g11
  have g911 : Gr w9 w11 := Gr.trans g10 g11
  have cw11_0_0 := cell_gr g911 cw9_0_0
  have cw11_0_1 := cell_gr g911 cw9_0_1
  have cw11_1_0 := cell_gr g911 cw9_1_0
  have cw11_1_1 := cell_gr g911 cw9_1_1
  have cw11_1_2 := cell_gr g911 cw9_1_2
  have cw11_1_3 := cell_gr g911 cw9_1_3
  have cw11_2_0 := cell_gr g911 cw9_2_0
  have cw11_2_1 := cell_gr g911 cw9_2_1
  have cw11_2_2 := cell_gr g911 cw9_2_2
  have cw11_2_3 := cell_gr g911 cw9_2_3
  have zw11_0 := World.block_lt_of_cell? _ _ cw11_0_0
  have zw11_1 := World.block_lt_of_cell? _ _ cw11_1_0
  have zw11_2 := World.block_lt_of_cell? _ _ cw11_2_0
  have PA11 := pts_gr PA10 g11
  have PB11 := pts_gr PB10 g11
  have HOKB := Lib.hid hokb
  have HED := Lib.hid (And.intro ed1 (And.intro ed2 (And.intro ed3 ed4)))
  clear g10 g11 g911 gw9 gw10 ob hokb PB10 PA10 ed1 ed2 ed3 ed4 cw9_0_0 cw9_0_1 zw9_0 cw9_1_0 cw9_1_1 cw9_1_2 cw9_1_3 zw9_1 cw9_2_0 cw9_2_1 cw9_2_2 cw9_2_3 zw9_2 HHM HBM PA9
  -- what the two boxes say
  have hbb : boxB b1 b2 b3 b4 = true := by
    have := near_boxP HNR.out h2
    rwa [← HB.out.1, ← HB.out.2.1, ← HB.out.2.2.1, ← HB.out.2.2.2] at this
  obtain ⟨r, er⟩ : ∃ r, r = inB b1 b2 b3 b4 px py := ⟨_, rfl⟩
  have BH := fun w => c_rBoxHas b1 b2 b3 b4 px py w
  rw [hbb, H00.out.2, ← er] at BH
  simp only [Bool.true_and] at BH
  have HBH := Lib.hid BH
  have NE1 : ∀ w, (binOp .neq 45 (.agg #[.int .i64 b1, .int .i64 b2, .int .i64 b3, .int .i64 b4]) (.agg #[.int .i64 b1, .int .i64 b2, .int .i64 b3, .int .i64 b4])).run Tryd.prog w = .ok (.bool false) w := neBox _ _ _ _ _ _ _ _ false (by simp)
  have hd : r = true ↔ (d1 = b1 ∧ d2 = b2 ∧ d3 = b3 ∧ d4 = b4) := by
    obtain ⟨e1, e2, e3, e4⟩ := HED.out
    rw [er, e1, e2, e3, e4]
    unfold inB minZ maxZ
    simp only [Bool.and_eq_true, decide_eq_true_eq]
    constructor
    · rintro ⟨⟨⟨c1, c2⟩, c3⟩, c4⟩
      refine ⟨?_, ?_, ?_, ?_⟩ <;> split <;> omega
    · rintro ⟨c1, c2, c3, c4⟩
      refine ⟨⟨⟨?_, ?_⟩, ?_⟩, ?_⟩
      · split at c1 <;> omega
      · split at c3 <;> omega
      · split at c2 <;> omega
      · split at c4 <;> omega
  have HD := Lib.hid hd
  have HPA := Lib.hid PA11
  have HPB := Lib.hid PB11
  clear hbb er BH hd PA11 PB11
  go_wp2_with fail
  have g12 : Gr w11 (w11.alloc (.cells #[.int .i64 d1, .int .i64 d2, .int .i64 d3, .int .i64 d4] 45)) := (Below.refl _ _).alloc (Nat.le_refl _) _
  generalize hhw12 : (w11.alloc (.cells #[.int .i64 d1, .int .i64 d2, .int .i64 d3, .int .i64 d4] 45)) = w12 at g12 ⊢
  have cw12_0_0 : w12.cell? ⟨W.heap.size, 0, none⟩ = some (.int .i64 px) := by subst hhw12; go_simp
  have cw12_0_1 : w12.cell? ⟨W.heap.size, 1, none⟩ = some (.int .i64 py) := by subst hhw12; go_simp
  have zw12_0 : W.heap.size < w12.heap.size := World.block_lt_of_cell? _ _ cw12_0_0
  have cw12_1_0 : w12.cell? ⟨B7, 0, none⟩ = some (.int .i64 b1) := by subst hhw12; go_simp
  have cw12_1_1 : w12.cell? ⟨B7, 1, none⟩ = some (.int .i64 b2) := by subst hhw12; go_simp
  have cw12_1_2 : w12.cell? ⟨B7, 2, none⟩ = some (.int .i64 b3) := by subst hhw12; go_simp
  have cw12_1_3 : w12.cell? ⟨B7, 3, none⟩ = some (.int .i64 b4) := by subst hhw12; go_simp
  have zw12_1 : B7 < w12.heap.size := World.block_lt_of_cell? _ _ cw12_1_0
  have cw12_2_0 : w12.cell? ⟨B9, 0, none⟩ = some (.int .i64 b1) := by subst hhw12; go_simp
  have cw12_2_1 : w12.cell? ⟨B9, 1, none⟩ = some (.int .i64 b2) := by subst hhw12; go_simp
  have cw12_2_2 : w12.cell? ⟨B9, 2, none⟩ = some (.int .i64 b3) := by subst hhw12; go_simp
  have cw12_2_3 : w12.cell? ⟨B9, 3, none⟩ = some (.int .i64 b4) := by subst hhw12; go_simp
  have zw12_2 : B9 < w12.heap.size := World.block_lt_of_cell? _ _ cw12_2_0
  have cw12_3_0 : w12.cell? ⟨w11.heap.size, 0, none⟩ = some (.int .i64 d1) := by subst hhw12; go_simp
  have cw12_3_1 : w12.cell? ⟨w11.heap.size, 1, none⟩ = some (.int .i64 d2) := by subst hhw12; go_simp
  have cw12_3_2 : w12.cell? ⟨w11.heap.size, 2, none⟩ = some (.int .i64 d3) := by subst hhw12; go_simp
  have cw12_3_3 : w12.cell? ⟨w11.heap.size, 3, none⟩ = some (.int .i64 d4) := by subst hhw12; go_simp
  have zw12_3 : w11.heap.size < w12.heap.size := World.block_lt_of_cell? _ _ cw12_3_0
  have gw12 : Gr W w12 := by subst hhw12; have gg := gw11; have gs := gg.size; go_grown
  clear hhw12 gw11
  obtain ⟨B14, eB14⟩ : ∃ b, b = w11.heap.size := ⟨_, rfl⟩
  rw [← eB14] at cw12_3_0 cw12_3_1 cw12_3_2 cw12_3_3 zw12_3 ⊢
  have PA12 := Lib.hid (pts_gr HPA.out g12)
  have PB12 := Lib.hid (pts_gr HPB.out g12)
  have hkb9 : kb ≤ 101 := by have := HOKB.out.le_len; rw [lsP_len] at this; omega
  have hkb0 : 1 ≤ kb := HOKB.out.pos
  clear eB14 g12 HPA HPB
  go_wp2_with fail
  go_at_call 21
  (with_reducible refine (HBH.out _).mono ?_)
  rintro e w13 ⟨rfl, g13⟩
  have gw13 : Gr W w13 := Gr.trans gw12 g13
  have PA13 := Lib.hid (pts_gr PA12.out g13)
  have PB13 := Lib.hid (pts_gr PB12.out g13)
  have cw13_0_0 := cell_gr g13 cw12_0_0
  have cw13_0_1 := cell_gr g13 cw12_0_1
  have cw13_1_0 := cell_gr g13 cw12_1_0
  have cw13_1_1 := cell_gr g13 cw12_1_1
  have cw13_1_2 := cell_gr g13 cw12_1_2
  have cw13_1_3 := cell_gr g13 cw12_1_3
  have cw13_3_0 := cell_gr g13 cw12_3_0
  have cw13_3_1 := cell_gr g13 cw12_3_1
  have cw13_3_2 := cell_gr g13 cw12_3_2
  have cw13_3_3 := cell_gr g13 cw12_3_3
  have zw13_0 := World.block_lt_of_cell? _ _ cw13_0_0
  have zw13_1 := World.block_lt_of_cell? _ _ cw13_1_0
  have zw13_3 := World.block_lt_of_cell? _ _ cw13_3_0
  clear g13 gw12 PA12 PB12 HBH NE1 cw12_0_0 cw12_0_1 zw12_0 cw12_1_0 cw12_1_1 cw12_1_2 cw12_1_3 zw12_1 cw12_2_0 cw12_2_1 cw12_2_2 cw12_2_3 zw12_2 cw12_3_0 cw12_3_1 cw12_3_2 cw12_3_3 zw12_3
  cases r
  · -- outside: both change
    have hne : ¬ (d1 = b1 ∧ d2 = b2 ∧ d3 = b3 ∧ d4 = b4) := fun h => Bool.noConfusion (HD.out.2 h)
    have NE2 := neBox d1 d2 d3 d4 b1 b2 b3 b4 true ⟨fun _ => hne, fun _ => rfl⟩
    have hpt : ¬ (kb = ka ∧ ∀ i, i < kb → fX b i = fX a i ∧ fY b i = fY a i) := by
      rintro ⟨rfl, hh⟩
      have u := hull_box HOKB.out (by omega)
      have v := HBX.out
      rw [mn_more h2, mn_more h2, mx_more h2, mx_more h2, ← HB.out.1, ← HB.out.2.1, ← HB.out.2.2.1, ← HB.out.2.2.2, ← HED.out.1, ← HED.out.2.1, ← HED.out.2.2.1, ← HED.out.2.2.2] at u
      have c1 := mn_congr kb (fun k hk => (hh k hk).1)
      have c2 := mn_congr kb (fun k hk => (hh k hk).2)
      have c3 := mx_congr kb (fun k hk => (hh k hk).1)
      have c4 := mx_congr kb (fun k hk => (hh k hk).2)
      exact hne ⟨by rw [← u.1, c1, v.1], by rw [← u.2.1, c2, v.2.1], by rw [← u.2.2.1, c3, v.2.2.1], by rw [← u.2.2.2, c4, v.2.2.2]⟩
    have CP := fun w (g : Gr w13 w) => h_rPoints false w (pts_gr PB13.out g) (pts_gr PA13.out g) (by omega) ⟨fun h => (Bool.noConfusion h), fun h => absurd h hpt⟩
    have HCPP := Lib.hid CP
    clear CP hpt hne HD
    go_wp2_with fail
    go_at_call 12
    (with_reducible refine (HCPP.out _ (Below.refl _ _)).mono ?_)
    rintro e w14 ⟨rfl, g14⟩
    go_wp2_with fail
    go_at_call 8
    (with_reducible refine (HAW.out _ (Gr.trans gw13 g14)).mono ?_)
    rintro e w15 ⟨rfl, g15⟩
    go_wp2_with fail
    go_ret
    exact ⟨rfl, Gr.trans (Gr.trans gw13 g14) g15⟩
  · -- inside
    have EQ := fun w => eqBox d1 d2 d3 d4 b1 b2 b3 b4 w
    rw [decide_eq_true (HD.out.1 rfl)] at EQ
    obtain ⟨q0, eq0⟩ : ∃ q, q = decide (3 ≤ ka) := ⟨_, rfl⟩
    have tq1 : decide ((2 : Int) < (ka : Int)) = q0 := by rw [eq0, decide_eq_decide]; omega
    have tq2 : decide (2 < ka) = q0 := by rw [eq0, decide_eq_decide]; omega
    have HQ0 := Lib.hid eq0
    clear eq0
    go_wp2_with fail
    go_loopg [16, 17] ka (fun gk z u wr => ∃ (i : Nat) (q : Bool), u = .int .i64 i ∧ z = .bool q ∧ i ≤ ka ∧ gk = ka - i ∧ (q = true → 3 ≤ ka ∧ ∀ t, t < i → 0 ≤ Hp.cz (fX a t, fY a t) (fX a ((t + 1) % ka), fY a ((t + 1) % ka)) (px, py)) ∧ Gr w13 wr)
    case atStart => exact ⟨0, q0, rfl, rfl, Nat.zero_le _, rfl, fun h => ⟨by rw [HQ0.out] at h; exact of_decide_eq_true h, fun t ht => absurd ht (by omega)⟩, Below.refl _ _⟩
    case round =>
      obtain ⟨i, q, rfl, rfl, hi, hgk, hq, g13r⟩ := hrel
      have gwr : Gr W wr := Gr.trans gw13 g13r
      have cwr_0_0 := cell_gr g13r cw13_0_0
      have cwr_0_1 := cell_gr g13r cw13_0_1
      have cwr_1_0 := cell_gr g13r cw13_1_0
      have cwr_1_1 := cell_gr g13r cw13_1_1
      have cwr_1_2 := cell_gr g13r cw13_1_2
      have cwr_1_3 := cell_gr g13r cw13_1_3
      have cwr_3_0 := cell_gr g13r cw13_3_0
      have cwr_3_1 := cell_gr g13r cw13_3_1
      have cwr_3_2 := cell_gr g13r cw13_3_2
      have cwr_3_3 := cell_gr g13r cw13_3_3
      have zwr_0 := World.block_lt_of_cell? _ _ cwr_0_0
      have zwr_1 := World.block_lt_of_cell? _ _ cwr_1_0
      have zwr_3 := World.block_lt_of_cell? _ _ cwr_3_0
      have HGR := Lib.hid g13r
      have HQQ := Lib.hid hq
      clear cw13_0_0 cw13_0_1 zw13_0 cw13_1_0 cw13_1_1 cw13_1_2 cw13_1_3 zw13_1 cw13_3_0 cw13_3_1 cw13_3_2 cw13_3_3 zw13_3 hq tq1 tq2
      by_cases hik : i < ka
      · have ti : decide ((i : Int) < (ka : Int)) = true := decide_eq_true (by omega)
        have ti2 : decide (i < ka) = true := decide_eq_true hik
        have ti3 : (i : Int) < (ka : Int) := by omega
        have hmm : ka - (i + 1) < gk := by omega
        have hii : (i : Int) ≤ 100 := by omega
        clear hgk EQ
        cases q
        · go_wp2_with fail
          go_wp2_with fail
          refine wp_region_spread (by kernel_rfl) (by kernel_rfl) ?_
          try simp only [List.append]
          repeat (first | go_big_quiet_skip | (go_big_quiet_want; go_big_quiet_op; (first | go_big_quiet_on | (apply Exists.intro; refine ⟨fun _ => ?_, ?_⟩; (· fail); go_big_quiet_on))))
          refine wpQuiet_nil ?_
          intro wa hhwa
          have hwa := Hd.gr_of_spread hhwa
          have gwa : Gr wr wa := Gr.trans (by go_grown) hwa
          clear hwa hhwa
          go_wp2_with fail
          go_roundg (ka - (i + 1))
          case measure => exact hmm
          case rel => exact ⟨i + 1, false, by go_num, rfl, hik, rfl, fun h => (Bool.noConfusion h), Gr.trans HGR.out gwa⟩
        · have hnx := nx_ltY hik
          have hrem := nx_remY hik (by omega : ka ≤ 1000000)
          have EX := Lib.hid (nx_mod hik)
          have hpa := pts_gr PA13.out g13r
          obtain ⟨ad', cap', B', off', e, -, -, e2, e3⟩ := hpa
          cases e
          have e4 := e2 (by omega)
          cases e4
          obtain ⟨k0, k1⟩ := e3 i hik
          obtain ⟨l0, l1⟩ := e3 _ hnx
          rw [Nat.zero_add] at k0 k1 l0 l1
          have CO := fun w => c_rOrient (fX a i) (fY a i) (fX a (Rg.nx1 ka i)) (fY a (Rg.nx1 ka i)) px py w
          obtain ⟨q', eq'⟩ : ∃ q, q = decide (0 ≤ Hp.cz (fX a i, fY a i) (fX a (Rg.nx1 ka i), fY a (Rg.nx1 ka i)) (px, py)) := ⟨_, rfl⟩
          obtain ⟨o, eo⟩ : ∃ o, o = cmpZ (crossZ (fX a i) (fY a i) (fX a (Rg.nx1 ka i)) (fY a (Rg.nx1 ka i)) px py) 0 := ⟨_, rfl⟩
          have tor : decide ((0 : Int) ≤ o) = q' := by
            rw [eo, eq']
            exact orient_ge (a := (fX a i, fY a i)) (b := (fX a (Rg.nx1 ka i), fY a (Rg.nx1 ka i))) (p := (px, py)) (HNC.out i hik) (HNC.out _ hnx) H00.out.2
          rw [← eo] at CO
          have HQ1 := Lib.hid eq'
          clear eo eq' e2 e3
          generalize fX a i = xi at k0 CO
          generalize fY a i = yi at k1 CO
          generalize fX a (Rg.nx1 ka i) = xj at l0 CO
          generalize fY a (Rg.nx1 ka i) = yj at l1 CO
          generalize ej : Rg.nx1 ka i = j at hnx hrem l0 l1
          have HCO := Lib.hid CO
          have hj9 : (j : Int) ≤ 100 := by omega
          have tj3 : (j : Int) < (ka : Int) := by omega
          have nz : ((ka : Int) == 0) = false := by simp; omega
          have nz2 : (ka : Int) ≠ 0 := by omega
          have nz3 : (0 : Int) < ka := by omega
          have q1 := hrem.1
          have q2 := hrem.2
          have w1 : IntKind.i64.wrap ((i : Int) + 1) = (i : Int) + 1 := IntWalk.i64_in _ (by omega)
          have w2 : IntKind.i64.wrap (j : Int) = (j : Int) := IntWalk.i64_in _ (by omega)
          clear CO hrem ej
          go_wp2_with fail
          refine wp_region_spread (by kernel_rfl) (by kernel_rfl) ?_
          try simp only [List.append]
          repeat (first | go_big_quiet_skip | (go_big_quiet_want; go_big_quiet_op; (first | go_big_quiet_on | (apply Exists.intro; refine ⟨fun _ => ?_, ?_⟩; (· (first | (go_at_call 10; first | ((with_reducible refine ((HCO.out _)).mono ?_); rintro e w' ⟨rfl, hg⟩; exact ⟨rfl, spread_gr hg⟩)))); go_big_quiet_on))))
          refine wpQuiet_nil ?_
          intro wa hhwa
          have hwa := Hd.gr_of_spread hhwa
          have cwa_0_0 : wa.cell? ⟨W.heap.size, 0, none⟩ = some (.int .i64 px) := cell_gr hwa (by go_simp)
          have cwa_0_1 : wa.cell? ⟨W.heap.size, 1, none⟩ = some (.int .i64 py) := cell_gr hwa (by go_simp)
          have zwa_0 : W.heap.size < wa.heap.size := World.block_lt_of_cell? _ _ cwa_0_0
          have gwa : Gr wr wa := Gr.trans (by go_grown) hwa
          clear hwa hhwa
          go_wp2_with fail
          go_roundg (ka - (i + 1))
          case measure => exact hmm
          case rel =>
            refine ⟨i + 1, q', by go_num, rfl, hik, rfl, fun h => ⟨(HQQ.out (by trivial)).1, fun t ht => ?_⟩, Gr.trans HGR.out gwa⟩
            by_cases c : t < i
            · exact (HQQ.out (by trivial)).2 t c
            · obtain rfl : t = i := by omega
              rw [HQ1.out] at h
              rw [EX.out]
              exact of_decide_eq_true h
      · obtain rfl : ka = i := by omega
        have ti : decide ((ka : Int) < (ka : Int)) = false := decide_eq_false (by omega)
        have ti2 : decide (ka < ka) = false := decide_eq_false (by omega)
        clear hgk
        cases q
        · go_wp2_with fail
          go_at_call 8
          (with_reducible refine (HAW.out _ gwr).mono ?_)
          rintro e w15 ⟨rfl, g15⟩
          go_wp2_with fail
          go_ret
          exact ⟨rfl, Gr.trans gwr g15⟩
        · have hm := Hp.HullOK.more HOKA.out (HQQ.out (by trivial)).1 (p := (px, py)) (HQQ.out (by trivial)).2
          have hs := hull_same hm HOKB.out (fun p => lsP_pF_mem)
          have CP := fun w (g : Gr w13 w) => h_rPoints true w (pts_gr PB13.out g) (pts_gr PA13.out g) (by omega) ⟨fun _ => ⟨hs.1.symm, fun i hi => ⟨((hs.2 i (by omega)).1).symm, ((hs.2 i (by omega)).2).symm⟩⟩, fun _ => rfl⟩
          have HCPP := Lib.hid CP
          clear CP hm hs
          go_wp2_with fail
          go_at_call 12
          (with_reducible refine (HCPP.out _ HGR.out).mono ?_)
          rintro e w14 ⟨rfl, g14⟩
          go_wp2_with fail
          go_at_call 8
          (with_reducible refine (HAW.out _ (Gr.trans gwr g14)).mono ?_)
          rintro e w15 ⟨rfl, g15⟩
          go_wp2_with fail
          go_ret
          exact ⟨rfl, Gr.trans (Gr.trans gwr g14) g15⟩
end Go.Proofs.YtogflfepkddbhaaDoor
