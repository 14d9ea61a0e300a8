/- the document's RingBox -/
import Derived.Test.YtkodmfkchbbmiaaDoorGt
import Derived.Test.YtkodmfkchbbmiaaDoorPq
import Derived.Test.YtkodmfkchbbmiaaDoorEa
namespace Go.Proofs.YtkodmfkchbbmiaaDoor
set_option linter.unusedVariables false
set_option linter.unusedSimpArgs false
open Go.ChangeShapes Go.WideShapes Go.ChangeAt Go.RowKit

theorem acc_mn (F : Nat → Int) : ∀ n, 1 ≤ n → accMin F n = mnN F n
  | 0, h => absurd h (by omega)
  | 1, _ => by
    rw [mnN_0 F rfl]
    show minZ (F 0) (F 0) = F 0
    unfold minZ; split <;> rfl
  | n + 2, _ => by
    rw [mnN_s F (by omega), ← acc_mn F (n + 1) (by omega)]; rfl
theorem acc_mx (F : Nat → Int) : ∀ n, 1 ≤ n → accMax F n = mxN F n
  | 0, h => absurd h (by omega)
  | 1, _ => by
    rw [mxN_0 F rfl]
    show maxZ (F 0) (F 0) = F 0
    unfold maxZ; split <;> rfl
  | n + 2, _ => by
    rw [mxN_s F (by omega), ← acc_mx F (n + 1) (by omega)]; rfl
/-- The cells of n boxes of one point each. -/
def rowB (X Y : Nat → Int) : Nat → List Value
  | 0 => []
  | n + 1 => rowB X Y n ++ [.int .i64 (X n), .int .i64 (Y n), .int .i64 (X n), .int .i64 (Y n)]
theorem rowB_len (X Y : Nat → Int) : ∀ n, (rowB X Y n).length = n * 4
  | 0 => rfl
  | n + 1 => by simp only [rowB, List.length_append, rowB_len X Y n, List.length_cons, List.length_nil]; omega
theorem rowB_at (X Y : Nat → Int) : ∀ n k, k < n → (rowB X Y n)[k * 4]? = some (.int .i64 (X k)) ∧ (rowB X Y n)[k * 4 + 1]? = some (.int .i64 (Y k)) ∧ (rowB X Y n)[k * 4 + 2]? = some (.int .i64 (X k)) ∧ (rowB X Y n)[k * 4 + 3]? = some (.int .i64 (Y k))
  | 0, k, h => absurd h (by omega)
  | n + 1, k, h => by
    have hl := rowB_len X Y n
    simp only [rowB]
    by_cases hk : k < n
    · rw [List.getElem?_append_left (by omega), List.getElem?_append_left (by omega), List.getElem?_append_left (by omega), List.getElem?_append_left (by omega)]
      exact rowB_at X Y n k hk
    · obtain rfl : k = n := by omega
      rw [List.getElem?_append_right (by omega), List.getElem?_append_right (by omega), List.getElem?_append_right (by omega), List.getElem?_append_right (by omega), hl, Nat.sub_self, show k * 4 + 1 - k * 4 = 1 by omega, show k * 4 + 2 - k * 4 = 2 by omega, show k * 4 + 3 - k * 4 = 3 by omega]
      exact ⟨rfl, rfl, rfl, rfl⟩
theorem allBox_pts {X Y : Nat → Int} {n : Nat} (h : ∀ k, k < n → nearB (X k) (Y k) = true) : allBox X Y X Y n = true := by
  rw [allBox_iff]
  intro k hk
  exact boxB_iff.2 ⟨⟨h k hk, h k hk⟩, Int.le_refl _, Int.le_refl _⟩
theorem c_rUnionP {n : Nat} {X Y : Nat → Int} {e : TypeId} {v : Value} {base : Nat} (w : World) (hn : 1 ≤ n) (hn2 : n ≤ 200) (hnr : ∀ k, k < n → nearB (X k) (Y k) = true) (h : w.ownsRow base e 4 v n (rowB X Y n)) :
    Calls Tryd.prog 61 #[v] w fun e w' => e = .returned (.tuple #[.agg #[.int .i64 (mnN X n), .int .i64 (mnN Y n), .int .i64 (mxN X n), .int .i64 (mxN Y n)], .int .i64 0]) ∧ Gr w w' := by
  obtain ⟨g, cap, rfl, hg1, hg2, hc1, hc2⟩ := row_form h (by omega)
  rw [← acc_mn X n hn, ← acc_mn Y n hn, ← acc_mx X n hn, ← acc_mx Y n hn]
  refine c_rUnionN n cap X Y X Y g 0 w hn hn2 _ (fun k hk => ?_) (fun j hj _ h2 => ?_) (fun _ => rfl)
  · rw [Nat.zero_add]
    obtain ⟨r0, r1, r2, r3⟩ := rowB_at X Y n k hk
    exact ⟨by rw [h.cellAt (k * 4) (by omega)]; exact r0, by rw [h.cellAt (k * 4 + 1) (by omega)]; exact r1, by rw [h.cellAt (k * 4 + 2) (by omega)]; exact r2, by rw [h.cellAt (k * 4 + 3) (by omega)]; exact r3⟩
  · rw [boxB_iff.2 ⟨⟨hnr j hj, hnr j hj⟩, Int.le_refl _, Int.le_refl _⟩] at h2
    cases h2
theorem Grown.frozen {a b : World} {u v : Value} (h : Grown a b u v) {p : Addr} (hp : p.block < a.heap.size) (hn : ∀ k, u.ownBlock = some k → k ≠ p.block) : b.frozen? p = a.frozen? p :=
  World.frozen?_of_block (w := a) (h.1.block p.block hp (fun e => hn p.block e.symm rfl))
theorem ones4 (a b c d : Int) : ∀ u ∈ [Value.int .i64 a, .int .i64 b, .int .i64 c, .int .i64 d], u.oneCell' = true := by
  intro u hu
  simp only [List.mem_cons, List.not_mem_nil, or_false] at hu
  rcases hu with rfl | rfl | rfl | rfl <;> rfl
theorem news4 {w : World} {B : Nat} {a b c d : Value} (h0 : w.cell? ⟨B, 0, none⟩ = some a) (h1 : w.cell? ⟨B, 1, none⟩ = some b) (h2 : w.cell? ⟨B, 2, none⟩ = some c) (h3 : w.cell? ⟨B, 3, none⟩ = some d) :
    ∀ j u, [a, b, c, d][j]? = some u → w.cell? ((⟨B, 0, none⟩ : Addr).add j) = some u := by
  intro j u hj
  have e : (⟨B, 0, none⟩ : Addr).add j = ⟨B, j, none⟩ := by unfold Addr.add; split <;> simp_all
  rw [e]
  match j, hj with
  | 0, hj => simp at hj; subst hj; exact h0
  | 1, hj => simp at hj; subst hj; exact h1
  | 2, hj => simp at hj; subst hj; exact h2
  | 3, hj => simp at hj; subst hj; exact h3
  | j + 4, hj => simp at hj
set_option maxHeartbeats 8000000 in
set_option maxRecDepth 100000 in
theorem c_rRingBox_ok {n : Nat} {X Y : Nat → Int} {v : Value} (W : World) (h : Pts W v n X Y) (h0 : Rg.ringC n X Y = (0, 0)) :
    Calls Tryd.prog 15 #[v] W fun e w' => e = .returned (.tuple #[.agg #[.int .i64 (mnN X n), .int .i64 (mnN Y n), .int .i64 (mxN X n), .int .i64 (mxN Y n)], .int .i64 0, .int .i64 0]) ∧ Gr W w' := by
  obtain ⟨hh, hnr, _, _⟩ := Rg.ringC_ok (show (Rg.ringC n X Y).1 = 0 by rw [h0])
  have A1 := r_ok W h
  rw [h0] at A1
  have A2 : ∀ (w : World) v', w.ownsRow (W.heap.size + 1) 30 4 v' n (rowB X Y n) → _ := fun w v' ho => c_rUnionP (X := X) (Y := Y) w (by omega) (by omega) hnr ho
  generalize mnN X n = m1 at A2 ⊢
  generalize mnN Y n = m2 at A2 ⊢
  generalize mxN X n = m3 at A2 ⊢
  generalize mxN Y n = m4 at A2 ⊢
  obtain ⟨i0, hi0, hz0, hz1, hz2⟩ := info_parts (P := Tryd.prog) (e := 30) (z := .agg #[.int .i64 0, .int .i64 0, .int .i64 0, .int .i64 0]) (size := 4) (bytes := 32) (by kernel_rfl)
  have HI := Lib.hid (And.intro hi0 (And.intro hz0 (And.intro hz1 hz2)))
  have hn64 : n ≤ 64 := by omega
  have hn9 : (n : Int) ≤ 64 := by omega
  obtain ⟨ad, cap, B, off, rfl, h1, h2, h3, h4⟩ := h
  have H3 := Lib.hid h3
  have H4 := Lib.hid h4
  have H1 := Lib.hid A1
  clear A1
  have HA2 := Lib.hid A2
  clear h3 h4 h0 hh hnr A2 hi0 hz0 hz1 hz2
  go_enter Tryd.func15, Tryd.ntmps15
  go_wp2_with fail
  go_at_call 13
  refine ((H1.out _ (by go_grown))).mono ?_
  rintro e w1 ⟨rfl, hw1⟩
  have cw1_0_0 : w1.cell? ⟨W.heap.size, 0, none⟩ = some (.int .i64 0) := cell_gr hw1 (by go_simp)
  have fw1_0_0 : w1.frozen? ⟨W.heap.size, 0, none⟩ = false := frozen_gr (v := .int .i64 0) hw1 (by go_simp) (by go_simp)
  have cw1_0_1 : w1.cell? ⟨W.heap.size, 1, none⟩ = some (.int .i64 0) := cell_gr hw1 (by go_simp)
  have fw1_0_1 : w1.frozen? ⟨W.heap.size, 1, none⟩ = false := frozen_gr (v := .int .i64 0) hw1 (by go_simp) (by go_simp)
  have cw1_0_2 : w1.cell? ⟨W.heap.size, 2, none⟩ = some (.int .i64 0) := cell_gr hw1 (by go_simp)
  have fw1_0_2 : w1.frozen? ⟨W.heap.size, 2, none⟩ = false := frozen_gr (v := .int .i64 0) hw1 (by go_simp) (by go_simp)
  have cw1_0_3 : w1.cell? ⟨W.heap.size, 3, none⟩ = some (.int .i64 0) := cell_gr hw1 (by go_simp)
  have fw1_0_3 : w1.frozen? ⟨W.heap.size, 3, none⟩ = false := frozen_gr (v := .int .i64 0) hw1 (by go_simp) (by go_simp)
  have zw1_0 : W.heap.size < w1.heap.size := World.block_lt_of_cell? _ _ cw1_0_0
  have gw1 : Gr W w1 := Gr.trans (by go_grown) hw1
  clear hw1
  go_wp2_with fail
  go_loopg [7, 8] n (fun k x u wr => ∃ i : Nat, u = .int .i64 i ∧ i ≤ n ∧ k = n - i ∧ wr.ownsRow (W.heap.size + 1) 30 4 x i (rowB X Y i) ∧ wr.cell? ⟨W.heap.size, 0, none⟩ = some (.int .i64 0) ∧ wr.cell? ⟨W.heap.size, 1, none⟩ = some (.int .i64 0) ∧ wr.cell? ⟨W.heap.size, 2, none⟩ = some (.int .i64 0) ∧ wr.cell? ⟨W.heap.size, 3, none⟩ = some (.int .i64 0) ∧
    wr.frozen? ⟨W.heap.size, 0, none⟩ = false ∧ wr.frozen? ⟨W.heap.size, 1, none⟩ = false ∧ wr.frozen? ⟨W.heap.size, 2, none⟩ = false ∧ wr.frozen? ⟨W.heap.size, 3, none⟩ = false ∧ Gr W wr)
  case atStart => exact ⟨0, rfl, Nat.zero_le _, by omega, World.ownsRow_nil _ _ _ _, cw1_0_0, cw1_0_1, cw1_0_2, cw1_0_3, fw1_0_0, fw1_0_1, fw1_0_2, fw1_0_3, gw1⟩
  case round =>
    obtain ⟨i, rfl, hi, hk, hO, c0, c1, c2, c3, f0, f1, f2, f3, gwr⟩ := hrel
    have HO := Lib.hid hO
    have zwr0 : W.heap.size < wr.heap.size := World.block_lt_of_cell? _ _ c0
    clear hO gw1 cw1_0_0 cw1_0_1 cw1_0_2 cw1_0_3 fw1_0_0 fw1_0_1 fw1_0_2 fw1_0_3 zw1_0
    by_cases hlt : i < n
    · have ti : decide ((i : Int) < (n : Int)) = true := decide_eq_true (by omega)
      have ti2 : decide (i < n) = true := decide_eq_true hlt
      have ti3 : (i : Int) < (n : Int) := by omega
      have hii : (i : Int) ≤ 64 := by omega
      have hmm : n - (i + 1) < gk := by omega
      obtain ⟨k0, k1⟩ := H4.out i hlt
      obtain rfl := H3.out (by omega)
      have s0 := cell_gr gwr k0
      have s1 := cell_gr gwr k1
      have zB : B < W.heap.size := World.block_lt_of_cell? _ _ k0
      have hrw : rowB X Y (i + 1) = rowB X Y i ++ [.int .i64 (X i), .int .i64 (Y i), .int .i64 (X i), .int .i64 (Y i)] := rfl
      have HR := Lib.hid hrw
      generalize X i = xi at s0 HR
      generalize Y i = yi at s1 HR
      clear hk k0 k1 hrw
      go_wp2_with fail
      try simp only [List.append]
      refine Od.wp_region_ordT 11 [(0, false), (1, false), (2, false), (3, false), (4, false), (5, false), (6, false), (7, false), (8, false), (9, false), (10, true)] (by kernel_rfl) (by kernel_rfl) ?_
      intro w4 hw4 KQ hKQ
      have cw4_0_0 : w4.cell? ⟨W.heap.size, 0, none⟩ = some (.int .i64 0) := cell_gr hw4 (by go_simp)
      have fw4_0_0 : w4.frozen? ⟨W.heap.size, 0, none⟩ = false := frozen_gr (v := .int .i64 0) hw4 (by go_simp) (by go_simp)
      have cw4_0_1 : w4.cell? ⟨W.heap.size, 1, none⟩ = some (.int .i64 0) := cell_gr hw4 (by go_simp)
      have fw4_0_1 : w4.frozen? ⟨W.heap.size, 1, none⟩ = false := frozen_gr (v := .int .i64 0) hw4 (by go_simp) (by go_simp)
      have cw4_0_2 : w4.cell? ⟨W.heap.size, 2, none⟩ = some (.int .i64 0) := cell_gr hw4 (by go_simp)
      have fw4_0_2 : w4.frozen? ⟨W.heap.size, 2, none⟩ = false := frozen_gr (v := .int .i64 0) hw4 (by go_simp) (by go_simp)
      have cw4_0_3 : w4.cell? ⟨W.heap.size, 3, none⟩ = some (.int .i64 0) := cell_gr hw4 (by go_simp)
      have fw4_0_3 : w4.frozen? ⟨W.heap.size, 3, none⟩ = false := frozen_gr (v := .int .i64 0) hw4 (by go_simp) (by go_simp)
      have zw4_0 : W.heap.size < w4.heap.size := World.block_lt_of_cell? _ _ cw4_0_0
      have cw4_1_0 : w4.cell? ⟨B, off + i * 2, none⟩ = some (.int .i64 xi) := cell_gr hw4 (by go_simp)
      have cw4_1_1 : w4.cell? ⟨B, off + i * 2 + 1, none⟩ = some (.int .i64 yi) := cell_gr hw4 (by go_simp)
      have zw4_1 : B < w4.heap.size := World.block_lt_of_cell? _ _ cw4_1_0
      have gw4 : Gr wr w4 := Gr.trans (by go_grown) hw4
      skip
      clear hw4
      repeat (first | (refine Od.wpO_skip (by simp only [List.getElem?_toArray, List.getElem?_cons_succ, List.getElem?_cons_zero] <;> rfl) rfl ?_; simp only [Act.put, List.setIfInBounds_toArray, List.set_cons_zero, List.set_cons_succ]) | (refine Od.wpO_pure (by simp only [List.getElem?_toArray, List.getElem?_cons_succ, List.getElem?_cons_zero] <;> rfl) rfl ?_; apply Exists.intro; refine ⟨?_, ?_⟩; (· intro wx gx; obtain ⟨mx, rfl⟩ := spread_of_gr gx; clear gx; all_goals (apply Od.pAt_of_quiet; intro K hK; go_big_quiet_op; first | exact hK _ rfl | (apply Exists.intro; refine ⟨fun _ => ?_, ?_⟩; (· fail); exact hK _ rfl))); try simp only [Act.put, List.setIfInBounds_toArray, List.set_cons_zero, List.set_cons_succ]))
      refine Od.wpO_call (by simp only [List.getElem?_toArray, List.getElem?_cons_succ, List.getElem?_cons_zero] <;> rfl) rfl ?_
      intro QS hQS
      go_wp2_with fail
      first | (apply Exists.intro; refine ⟨?_, (by go_grown), ?_⟩; (· simp only [Act.put, List.setIfInBounds_toArray, List.set_cons_zero, List.set_cons_succ]; rfl)) | (refine ⟨(by go_grown), ?_⟩)
      generalize hhw5 : (w4.alloc (.cells #[.int .i64 xi, .int .i64 yi, .int .i64 xi, .int .i64 yi] 30)) = w5
      have hw5 : Gr w4 w5 := by subst hhw5; go_grown
      have cw5_0_0 : w5.cell? ⟨W.heap.size, 0, none⟩ = some (.int .i64 0) := by subst hhw5; go_simp
      have fw5_0_0 : w5.frozen? ⟨W.heap.size, 0, none⟩ = false := by subst hhw5; go_simp
      have cw5_0_1 : w5.cell? ⟨W.heap.size, 1, none⟩ = some (.int .i64 0) := by subst hhw5; go_simp
      have fw5_0_1 : w5.frozen? ⟨W.heap.size, 1, none⟩ = false := by subst hhw5; go_simp
      have cw5_0_2 : w5.cell? ⟨W.heap.size, 2, none⟩ = some (.int .i64 0) := by subst hhw5; go_simp
      have fw5_0_2 : w5.frozen? ⟨W.heap.size, 2, none⟩ = false := by subst hhw5; go_simp
      have cw5_0_3 : w5.cell? ⟨W.heap.size, 3, none⟩ = some (.int .i64 0) := by subst hhw5; go_simp
      have fw5_0_3 : w5.frozen? ⟨W.heap.size, 3, none⟩ = false := by subst hhw5; go_simp
      have zw5_0 : W.heap.size < w5.heap.size := World.block_lt_of_cell? _ _ cw5_0_0
      have cw5_1_0 : w5.cell? ⟨B, off + i * 2, none⟩ = some (.int .i64 xi) := by subst hhw5; go_simp
      have cw5_1_1 : w5.cell? ⟨B, off + i * 2 + 1, none⟩ = some (.int .i64 yi) := by subst hhw5; go_simp
      have zw5_1 : B < w5.heap.size := World.block_lt_of_cell? _ _ cw5_1_0
      have cw5_2_0 : w5.cell? ⟨w4.heap.size, 0, none⟩ = some (.int .i64 xi) := by subst hhw5; go_simp
      have cw5_2_1 : w5.cell? ⟨w4.heap.size, 1, none⟩ = some (.int .i64 yi) := by subst hhw5; go_simp
      have cw5_2_2 : w5.cell? ⟨w4.heap.size, 2, none⟩ = some (.int .i64 xi) := by subst hhw5; go_simp
      have cw5_2_3 : w5.cell? ⟨w4.heap.size, 3, none⟩ = some (.int .i64 yi) := by subst hhw5; go_simp
      have zw5_2 : w4.heap.size < w5.heap.size := World.block_lt_of_cell? _ _ cw5_2_0
      have gw5 : Gr wr w5 := Gr.trans (by have gg := gw4; have gs := gg.size; go_grown) hw5
      clear hhw5 hw5 gw4 zw4_0 cw4_0_0 fw4_0_0 cw4_0_1 fw4_0_1 cw4_0_2 fw4_0_2 cw4_0_3 fw4_0_3 zw4_1 cw4_1_0 cw4_1_1
      try simp only [Act.put, List.setIfInBounds_toArray, List.set_cons_zero, List.set_cons_succ]
      repeat (first | (refine Od.wpO_skip (by simp only [List.getElem?_toArray, List.getElem?_cons_succ, List.getElem?_cons_zero] <;> rfl) rfl ?_; simp only [Act.put, List.setIfInBounds_toArray, List.set_cons_zero, List.set_cons_succ]) | (refine Od.wpO_pure (by simp only [List.getElem?_toArray, List.getElem?_cons_succ, List.getElem?_cons_zero] <;> rfl) rfl ?_; apply Exists.intro; refine ⟨?_, ?_⟩; (· intro wx gx; obtain ⟨mx, rfl⟩ := spread_of_gr gx; clear gx; all_goals (apply Od.pAt_of_quiet; intro K hK; go_big_quiet_op; first | exact hK _ rfl | (apply Exists.intro; refine ⟨fun _ => ?_, ?_⟩; (· fail); exact hK _ rfl))); try simp only [Act.put, List.setIfInBounds_toArray, List.set_cons_zero, List.set_cons_succ]))
      refine Od.wpO_nil (hKQ _ _ ?_)
      clear hKQ KQ
      have O5 := rowOwn_gr HO.out gw5
      have hne : ∀ k, u7.ownBlock = some k → W.heap.size + 1 ≤ k := fun k hk => (World.ownsRow.lt HO.out k hk).1
      have HNE := Lib.hid hne
      have sz5 := gw5.size
      have N5 := news4 cw5_2_0 cw5_2_1 cw5_2_2 cw5_2_3
      have HN5 := Lib.hid N5
      have HO5 := Lib.hid O5
      clear hne N5 O5
      refine wpList_append_own2 _ rfl (.tmp 27) (.tmp 37) 104 rfl (W.heap.size + 1) 30 i0 (.agg #[.int .i64 0, .int .i64 0, .int .i64 0, .int .i64 0]) 4 32 Tryd.underlying104 HI.out.1 HI.out.2.1 HI.out.2.2.1 HI.out.2.2.2 rfl (by decide) u7 i (rowB X Y i) rfl HO5.out ⟨w4.heap.size, 0, none⟩ 1 1 [.int .i64 xi, .int .i64 yi, .int .i64 xi, .int .i64 yi] rfl rfl HN5.out (ones4 _ _ _ _) (by unfold maxLen; omega) (by omega) (by omega) ?_
      intro v3 w3 own3 gr3
      go_wp2_with fail
      have own4 : w3.ownsRow (W.heap.size + 1) 30 4 v3 (i + 1) (rowB X Y (i + 1)) := by rw [HR.out]; exact own3
      have nb : ∀ k, u7.ownBlock = some k → k ≠ W.heap.size := fun k hk => by have := HNE.out k hk; omega
      have G3 : Gr W w3 := gr3.gr (Gr.trans gwr gw5) (fun k hk => by have := HNE.out k hk; omega)
      go_roundg (n - (i + 1))
      case measure => exact hmm
      case rel => exact ⟨i + 1, by go_num, hlt, rfl, own4, gr3.cell cw5_0_0 nb, gr3.cell cw5_0_1 nb, gr3.cell cw5_0_2 nb, gr3.cell cw5_0_3 nb, (gr3.frozen zw5_0 nb).trans fw5_0_0, (gr3.frozen zw5_0 nb).trans fw5_0_1, (gr3.frozen zw5_0 nb).trans fw5_0_2, (gr3.frozen zw5_0 nb).trans fw5_0_3, G3⟩
    · obtain rfl : i = n := by omega
      have ti : decide ((i : Int) < (i : Int)) = false := decide_eq_false (by omega)
      have ti2 : decide (i < i) = false := decide_eq_false (by omega)
      have A2 := fun (w : World) (g : Gr wr w) => HA2.out w _ (rowOwn_gr HO.out g)
      have H2 := Lib.hid A2
      clear A2 hk
      go_wp2_with fail
      go_at_call 61
      refine ((H2.out _ (by go_grown))).mono ?_
      rintro e w6 ⟨rfl, hw6⟩
      have cw6_0_0 : w6.cell? ⟨W.heap.size, 0, none⟩ = some (.int .i64 0) := cell_gr hw6 (by go_simp)
      have fw6_0_0 : w6.frozen? ⟨W.heap.size, 0, none⟩ = false := frozen_gr (v := .int .i64 0) hw6 (by go_simp) (by go_simp)
      have cw6_0_1 : w6.cell? ⟨W.heap.size, 1, none⟩ = some (.int .i64 0) := cell_gr hw6 (by go_simp)
      have fw6_0_1 : w6.frozen? ⟨W.heap.size, 1, none⟩ = false := frozen_gr (v := .int .i64 0) hw6 (by go_simp) (by go_simp)
      have cw6_0_2 : w6.cell? ⟨W.heap.size, 2, none⟩ = some (.int .i64 0) := cell_gr hw6 (by go_simp)
      have fw6_0_2 : w6.frozen? ⟨W.heap.size, 2, none⟩ = false := frozen_gr (v := .int .i64 0) hw6 (by go_simp) (by go_simp)
      have cw6_0_3 : w6.cell? ⟨W.heap.size, 3, none⟩ = some (.int .i64 0) := cell_gr hw6 (by go_simp)
      have fw6_0_3 : w6.frozen? ⟨W.heap.size, 3, none⟩ = false := frozen_gr (v := .int .i64 0) hw6 (by go_simp) (by go_simp)
      have zw6_0 : W.heap.size < w6.heap.size := World.block_lt_of_cell? _ _ cw6_0_0
      have gw6 : Gr wr w6 := Gr.trans (by go_grown) hw6
      clear hw6
      go_wp2_with fail
      refine bodyPost_ret (v := .tuple #[.agg #[.int .i64 m1, .int .i64 m2, .int .i64 m3, .int .i64 m4], .int .i64 0, .int .i64 0]) (by simp [results, Tryd.results15, go_sem, *]) rfl ⟨rfl, by have gg := Gr.trans gwr gw6; have gs := gg.size; go_grown⟩
set_option maxHeartbeats 2000000 in
set_option maxRecDepth 100000 in
theorem c_rRingBox_no {n k id : Nat} {X Y : Nat → Int} {v : Value} (W : World) (h : Pts W v n X Y) (e0 : Rg.ringC n X Y = (k, id)) (hk : k ≠ 0) :
    Calls Tryd.prog 15 #[v] W fun e w' => e = .returned (.tuple #[.agg #[.int .i64 0, .int .i64 0, .int .i64 0, .int .i64 0], .int .i64 k, .int .i64 id]) ∧ Gr W w' := by
  have A1 := r_ok W h
  rw [e0] at A1
  obtain ⟨ad, cap, B, off, rfl, _⟩ := h
  have t1 : ((k : Int) == 0) = false := by simp; omega
  have t2 : (k == 0) = false := by simp; omega
  have t3 : ((k : Int) != 0) = true := by simp; omega
  have t4 : (k != 0) = true := by simp; omega
  have H1 := Lib.hid A1
  clear A1
  clear e0
  go_enter Tryd.func15, Tryd.ntmps15
  go_wp2_with fail
  go_at_call 13
  refine ((H1.out _ (by go_grown))).mono ?_
  rintro e w1 ⟨rfl, hw1⟩
  have cw1_0_0 : w1.cell? ⟨W.heap.size, 0, none⟩ = some (.int .i64 0) := cell_gr hw1 (by go_simp)
  have fw1_0_0 : w1.frozen? ⟨W.heap.size, 0, none⟩ = false := frozen_gr (v := .int .i64 0) hw1 (by go_simp) (by go_simp)
  have cw1_0_1 : w1.cell? ⟨W.heap.size, 1, none⟩ = some (.int .i64 0) := cell_gr hw1 (by go_simp)
  have fw1_0_1 : w1.frozen? ⟨W.heap.size, 1, none⟩ = false := frozen_gr (v := .int .i64 0) hw1 (by go_simp) (by go_simp)
  have cw1_0_2 : w1.cell? ⟨W.heap.size, 2, none⟩ = some (.int .i64 0) := cell_gr hw1 (by go_simp)
  have fw1_0_2 : w1.frozen? ⟨W.heap.size, 2, none⟩ = false := frozen_gr (v := .int .i64 0) hw1 (by go_simp) (by go_simp)
  have cw1_0_3 : w1.cell? ⟨W.heap.size, 3, none⟩ = some (.int .i64 0) := cell_gr hw1 (by go_simp)
  have fw1_0_3 : w1.frozen? ⟨W.heap.size, 3, none⟩ = false := frozen_gr (v := .int .i64 0) hw1 (by go_simp) (by go_simp)
  have zw1_0 : W.heap.size < w1.heap.size := World.block_lt_of_cell? _ _ cw1_0_0
  have gw1 : Gr W w1 := Gr.trans (by go_grown) hw1
  clear hw1
  go_wp2_with fail
  refine bodyPost_ret (v := .tuple #[.agg #[.int .i64 0, .int .i64 0, .int .i64 0, .int .i64 0], .int .i64 k, .int .i64 id]) (by simp [results, Tryd.results15, go_sem, *]) rfl ⟨rfl, by have gg := gw1; have gs := gg.size; go_grown⟩
end Go.Proofs.YtkodmfkchbbmiaaDoor
