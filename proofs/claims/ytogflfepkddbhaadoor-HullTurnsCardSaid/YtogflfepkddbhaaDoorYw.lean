/- HullTurns, where there is something to be held against something -/
import Derived.Test.YtogflfepkddbhaaDoorYv
namespace Go.Proofs.YtogflfepkddbhaaDoor
set_option linter.unusedVariables false
set_option linter.unusedSimpArgs false
open Go.ChangeShapes Go.WideShapes Go.ChangeAt Go.RowKit
set_option maxHeartbeats 20000000 in
set_option maxRecDepth 100000 in
theorem turns_yes {n : Nat} {X Y : Nat → Int} {v : Value} (zi : Int) (W : World) (hE : ErrT W) (h : Pts W v n X Y) (h1 : n ≤ 100) (h2 : 2 ≤ n) (h0 : (mnC 1 n X Y).1 = 0)
    (hi : -9223372036854775808 ≤ zi ∧ zi ≤ 9223372036854775807) : Calls Tryd.prog 4 #[v, .int .i64 zi] W fun e w' => e = .returned (.bool true) ∧ Gr W w' := by
  obtain ⟨i0, hi0, hz0, hz1, hz2⟩ := info_parts (P := Tryd.prog) (e := 30) (z := zP) (size := 2) (bytes := 16) (by kernel_rfl)
  have HI := Lib.hid (And.intro hi0 (And.intro hz0 (And.intro hz1 hz2)))
  have HAW := Lib.hid (fun w (g : Gr W w) => p21_awake w (errT_gr hE g))
  have HHL := Lib.hid (fun w (g : Gr W w) => hull_yes w (pts_gr h g) h0)
  have HCL := Lib.hid (fun w (g : Gr W w) => yes_Closest w (pts_gr h g) ((mnC_12 h2).1 h0))
  have HWI := Lib.hid (fun w (g : Gr W w) => yes_Widest w (pts_gr h g) ((mnC_12 h2).1 h0))
  have HNR := Lib.hid (mnC_ok.1 h0).2.2
  obtain ⟨k, ei⟩ : ∃ i : Nat, zi % (n : Int) = i := ⟨(zi % (n : Int)).toNat, (Int.toNat_of_nonneg (Int.emod_nonneg _ (by omega))).symm⟩
  have hkn : k < n := by have := Int.emod_lt_of_pos zi (show (0 : Int) < n by omega); omega
  have R1 := fun w => h_Round zi hi.1 hi.2 n (by omega) (by omega) w
  rw [ei] at R1
  have HR1 := Lib.hid R1
  have H00 := Lib.hid h0
  obtain ⟨ad, cap, B, off, rfl, k1, k2, k3, k4⟩ := h
  obtain rfl := k3 (by omega)
  have HX := Lib.hid k4
  have HXK := Lib.hid (cell_sh (k := k) k4)
  have zB := World.block_lt_of_cell? _ _ (k4 0 (by omega)).1
  have HS := Lib.hid (fun w => h_small (some ⟨B, off, none⟩) n cap true (decide_eq_true h1).symm w)
  have t1 : decide ((n : Int) < 2) = false := decide_eq_false (by omega)
  have t2 : ¬ (n : Int) < 2 := by omega
  have hni : (n : Int) ≤ 100 := by omega
  have u1 : (k : Int) < (n : Int) := by omega
  have u2 : (k : Int) ≤ (n : Int) := by omega
  have u3 : (n : Int) ≤ (cap : Int) := by omega
  clear hE h0 hi0 hz0 hz1 hz2 ei R1 k3 k4 hi
  go_enter Tryd.func4, Tryd.ntmps4
  go_wp2_with fail
  go_at_call 7
  refine ((HS.out _)).mono ?_
  rintro e w1 ⟨rfl, hw1⟩
  have gw1 : Gr W w1 := Gr.trans (by go_grown) hw1
  clear hw1
  go_wp2_with fail
  go_at_call 14
  refine ((HR1.out _)).mono ?_
  rintro e w2 ⟨rfl, hw2⟩
  have gw2 : Gr W w2 := Gr.trans (by have gg := gw1; have gs := gg.size; go_grown) hw2
  clear hw2 gw1
  have GA := Lib.hid (show Gr W (w2.alloc (.cells #[] 30)) from Gr.trans gw2 ((Below.refl _ _).alloc (Nat.le_refl _) _))
  have s2 := gw2.size
  go_wp2_with (at_builtin; first
    | (refine wpList_append_own2 _ rfl (.tmp 35) (.tmp 38) 22 rfl w2.heap.size 30 i0 zP 2 16 Tryd.underlying22 HI.out.1 HI.out.2.1 HI.out.2.2.1 HI.out.2.2.2 rfl (by decide) _ 0 [] rfl (World.ownsRow_made w2 #[] 0 (Nat.le_refl _) (Nat.zero_le _) (by simp)) ⟨B, off + k * 2, none⟩ (n - k) (cap - k) (rowL (lsP (n - k) (shF X k) (shF Y k))) rfl (by rw [rowL_len, lsP_len]) (lsP_news fun t ht => ⟨cell_gr GA.out (HXK.out t ht).1, cell_gr GA.out (HXK.out t ht).2⟩) (rowL_one _) (by unfold maxLen; omega) (by omega) (by simp) ?_; intro v3 w3 o3 g3; simp only [Nat.zero_add, List.nil_append] at o3 ⊢; obtain ⟨g3', c3, rfl, hb3, -⟩ := row_form o3 (by omega); have G3 : Gr W w3 := g3.gr GA.out (fun k hk => by cases hk; exact s2); have O3 := Lib.hid o3; clear o3 g3)
    | (refine wpList_append_own2 _ rfl (.tmp 39) (.tmp 40) 22 rfl w2.heap.size 30 i0 zP 2 16 Tryd.underlying22 HI.out.1 HI.out.2.1 HI.out.2.2.1 HI.out.2.2.2 rfl (by decide) (.slice (some ⟨g3', 0, none⟩) (n - k) c3) (n - k) (rowL (lsP (n - k) (shF X k) (shF Y k))) rfl O3.out ⟨B, off, none⟩ n cap (rowL (lsP n X Y)) rfl (by rw [rowL_len, lsP_len]) (lsP_news fun t ht => ⟨cell_gr G3 (HX.out t ht).1, cell_gr G3 (HX.out t ht).2⟩) (rowL_one _) (by unfold maxLen; omega) (by omega) (by have h := World.ownsRow.lt O3.out _ rfl; omega) ?_; intro v4 w4 o4 g4; obtain ⟨g4', c4, rfl, hb4, -⟩ := row_form o4 (by omega); have gw4 : Gr W w4 := g4.gr G3 (fun k hk => by cases hk; exact Nat.le_trans s2 hb3); have O4 := Lib.hid o4; clear o4 g4))
  have hL := turnL_len n k X Y
  obtain ⟨N, eN⟩ : ∃ N, N = n - k + n := ⟨_, rfl⟩
  rw [← eN] at hL ⊢
  have o4 := O4.out
  rw [← eN, ← rowL_app] at o4
  have hP := pts_own (l := turnL n k X Y) hL.symm o4
  have HP := Lib.hid hP
  have hN : N ≤ 1000 := by omega
  have hN1 : 1 ≤ N := by omega
  have HMN := Lib.hid (mnC_list (fun p => turnL_mem (n := n) (k := k) (X := X) (Y := Y)) (by rw [hL]; exact ⟨hN1, hN⟩) (show 1 ≤ n ∧ n ≤ 1000 by omega))
  have HLL := Lib.hid hL
  clear hP o4 O4 O3 hL eN GA HXK G3
  go_at_call 9
  (with_reducible refine (HHL.out _ gw4).mono ?_)
  rintro e w5 ⟨ga, ca, ka, a, rfl, oa, hoka, g5⟩
  have gw5 : Gr W w5 := Gr.trans gw4 g5
  have hm0 : (mnC 1 N (fX (turnL n k X Y)) (fY (turnL n k X Y))).1 = 0 := by
    have := HMN.out.2 H00.out
    rwa [HLL.out] at this
  have HHM := Lib.hid (hull_yes w5 (pts_gr HP.out g5) hm0)
  have OA := Lib.hid oa
  have HOKA := Lib.hid hoka
  clear g5 gw4 hm0 oa hoka
  go_wp2_with fail
  go_at_call 9
  (with_reducible refine HHM.out.mono ?_)
  rintro e w6 ⟨gb, cb, kb, b, rfl, ob, hokb, g6⟩
  have gw6 : Gr W w6 := Gr.trans gw5 g6
  have eL : lsP N (fX (turnL n k X Y)) (fY (turnL n k X Y)) = turnL n k X Y := by
    have := lsP_list (turnL n k X Y)
    rwa [HLL.out] at this
  rw [eL] at hokb
  have HSA := hull_same HOKA.out hokb (fun p => turnL_mem)
  have hka : ka = a.length := (ownP_blk OA.out).2.2.1
  have hkb : kb = b.length := (ownP_blk ob).2.2.1
  have hca : ka ≤ ca := (ownP_blk OA.out).2.2.2
  have hgaW : w4.heap.size ≤ ga := (ownP_blk OA.out).1
  have PA := Lib.hid (pts_gr (pts_len hka (ownP_pts OA.out)) g6)
  have PB := Lib.hid (pts_len hkb (ownP_pts ob))
  have HPT := Lib.hid (fun w (g : Gr w6 w) => h_rPoints true w (pts_gr PA.out g) (pts_gr PB.out g) (by have := HOKA.out.le_len; rw [lsP_len] at this; omega) ⟨fun _ => HSA, fun _ => rfl⟩)
  have hka2 : ka ≤ n := by have := HOKA.out.le_len; rwa [lsP_len] at this
  have hka9 : (ka : Int) ≤ 100 := by omega
  clear g6 gw5 ob hokb eL HSA hka hkb hgaW
  go_wp2_with fail
  go_at_call 15
  (with_reducible refine (HWI.out _ gw6).mono ?_)
  rintro e w7 ⟨i, j, hb, rfl, g7⟩
  have gw7 : Gr W w7 := Gr.trans gw6 g7
  have HPT7 := Lib.hid (fun w (g : Gr w7 w) => HPT.out w (Gr.trans g7 g))
  have PA7 := Lib.hid (pts_gr PA.out g7)
  have hlt := hb.lt
  obtain ⟨d, ed⟩ : ∃ d, d = sqN X Y i j := ⟨_, rfl⟩
  rw [← ed]
  have HD := Lib.hid ed
  have HBW := Lib.hid hb
  have SQ := fun w => c_rSq (X i) (Y i) (X j) (Y j) (HNR.out i (by omega)) (HNR.out j hlt.2) d (by rw [ed]; exact sqN_eq X Y i j) w
  have m0 := cell_gr gw7 (HX.out i (by omega)).1
  have m1 := cell_gr gw7 (HX.out i (by omega)).2
  have m2 := cell_gr gw7 (HX.out j hlt.2).1
  have m3 := cell_gr gw7 (HX.out j hlt.2).2
  have HSQ := Lib.hid SQ
  have v1 : decide ((i : Int) < 0) = false := decide_eq_false (by omega)
  have v2 : decide ((j : Int) ≤ (i : Int)) = false := decide_eq_false (by omega)
  have v2' : decide (j ≤ i) = false := decide_eq_false (by omega)
  have v3 : decide ((n : Int) ≤ (j : Int)) = false := decide_eq_false (by omega)
  have v3' : decide (n ≤ j) = false := decide_eq_false (by omega)
  have v4 : (i : Int) < (n : Int) := by omega
  have v5 : (j : Int) < (n : Int) := by omega
  have v6 : ¬ (i : Int) < 0 := by omega
  have v7 : ¬ (j : Int) ≤ (i : Int) := by omega
  have v8 : ¬ (n : Int) ≤ (j : Int) := by omega
  have hwd : Wd d := by rw [ed]; exact sqN_wd (HNR.out i (by omega)) (HNR.out j hlt.2)
  have HWD := Lib.hid hwd
  clear g7 gw6 hb ed SQ hlt hwd HPT PA PB OA HHM HHL HMN HP HLL
  generalize X i = xi at m0 HSQ
  generalize Y i = yi at m1 HSQ
  generalize X j = xj at m2 HSQ
  generalize Y j = yj at m3 HSQ
  go_wp2_with fail
  have g78 : Gr w7 (w7.alloc (.cells #[.int .u64 0, .int .u64 d, .int .u64 1] 37)) := (Below.refl _ _).alloc (Nat.le_refl _) _
  have hga7 : ga < w7.heap.size := by
    have := PA7.out
    obtain ⟨ad', cap', B', off', e, -, -, e2, e3⟩ := this
    cases e
    have hpos := HOKA.out.pos
    have e4 := e2 (by omega)
    cases e4
    exact World.block_lt_of_cell? _ _ (e3 0 (by omega)).1
  generalize hhw8 : (w7.alloc (.cells #[.int .u64 0, .int .u64 d, .int .u64 1] 37)) = w8 at g78 ⊢
  have cw8_0_0 : w8.cell? ⟨w7.heap.size, 0, none⟩ = some (.int .u64 0) := by subst hhw8; go_simp
  have cw8_0_1 : w8.cell? ⟨w7.heap.size, 1, none⟩ = some (.int .u64 d) := by subst hhw8; go_simp
  have cw8_0_2 : w8.cell? ⟨w7.heap.size, 2, none⟩ = some (.int .u64 1) := by subst hhw8; go_simp
  have zw8_0 : w7.heap.size < w8.heap.size := World.block_lt_of_cell? _ _ cw8_0_0
  have gw8 : Gr W w8 := by subst hhw8; have gg := gw7; have gs := gg.size; go_grown
  clear hhw8 gw7
  have HPT8 := Lib.hid (fun w (g : Gr w8 w) => HPT7.out w (Gr.trans g78 g))
  have PA8 := Lib.hid (pts_gr PA7.out g78)
  replace m0 := cell_gr g78 m0
  replace m1 := cell_gr g78 m1
  replace m2 := cell_gr g78 m2
  replace m3 := cell_gr g78 m3
  obtain ⟨B7, eB7⟩ : ∃ b, b = w7.heap.size := ⟨_, rfl⟩
  rw [← eB7] at cw8_0_0 cw8_0_1 cw8_0_2 zw8_0 hga7 ⊢
  clear eB7 g78 HPT7 PA7
  go_wp2_with fail
  refine wp_region_spread (by kernel_rfl) (by kernel_rfl) ?_
  try simp only [List.append]
  repeat (first | go_big_quiet_skip | (go_big_quiet_want; go_big_quiet_op; (first | go_big_quiet_on | (apply Exists.intro; refine ⟨fun _ => ?_, ?_⟩; (· (first | (go_at_call 12; first | ((with_reducible refine ((HPT8.out _ (gr_spread _ _))).mono ?_); rintro e w' ⟨rfl, hg⟩; exact ⟨rfl, spread_gr hg⟩)) | (go_at_call 16; first | ((with_reducible refine ((HSQ.out _)).mono ?_); rintro e w' ⟨rfl, hg⟩; exact ⟨rfl, spread_gr hg⟩)))); go_big_quiet_on))))
  refine wpQuiet_nil ?_
  intro w9 hhw9
  have hw9 := Hd.gr_of_spread hhw9
  have cw9_0_0 : w9.cell? ⟨B7, 0, none⟩ = some (.int .u64 0) := cell_gr hw9 (by go_simp)
  have cw9_0_1 : w9.cell? ⟨B7, 1, none⟩ = some (.int .u64 d) := cell_gr hw9 (by go_simp)
  have cw9_0_2 : w9.cell? ⟨B7, 2, none⟩ = some (.int .u64 1) := cell_gr hw9 (by go_simp)
  have zw9_0 : B7 < w9.heap.size := World.block_lt_of_cell? _ _ cw9_0_0
  have gw9 : Gr W w9 := Gr.trans (by have gg := gw8; have gs := gg.size; go_grown) hw9
  have Kw9 := Lib.hid hw9
  clear hw9 hhw9 gw8
  have PA9 := Lib.hid (pts_gr PA8.out Kw9.out)
  clear m0 m1 m2 m3 v1 v2 v2' v3 v3' v4 v5 v6 v7 v8 Kw9 PA8 HPT8 HSQ
  go_wp2_with fail
  go_at_call 17
  (with_reducible refine (HCL.out _ gw9).mono ?_)
  rintro e w10 ⟨i2, j2, hb2, rfl, g10⟩
  have gw10 : Gr W w10 := Gr.trans gw9 g10
  have s10 := gw10.size
  have cw10_0_0 := cell_gr g10 cw9_0_0
  have cw10_0_1 := cell_gr g10 cw9_0_1
  have cw10_0_2 := cell_gr g10 cw9_0_2
  have zw10_0 := World.block_lt_of_cell? _ _ cw10_0_0
  have PA10 := Lib.hid (pts_gr PA9.out g10)
  obtain ⟨dd, edd⟩ : ∃ d, d = sqN X Y i2 j2 := ⟨_, rfl⟩
  rw [← edd]
  have HB2 := Lib.hid (And.intro hb2 edd)
  clear g10 gw9 cw9_0_0 cw9_0_1 cw9_0_2 zw9_0 PA9 hb2 edd
  go_wp2_with fail
  have g1011 : Gr w10 ((w10.alloc (.cells #[.int .u64 0, .int .u64 dd, .int .u64 1] 37)).alloc (.cells #[.int .u64 0, .int .u64 0, .int .u64 1] 37)) := ((Below.refl _ _).alloc (Nat.le_refl _) _).alloc (by simp) _
  generalize hhw11 : ((w10.alloc (.cells #[.int .u64 0, .int .u64 dd, .int .u64 1] 37)).alloc (.cells #[.int .u64 0, .int .u64 0, .int .u64 1] 37)) = w11 at g1011 ⊢
  have cw11_0_0 : w11.cell? ⟨B7, 0, none⟩ = some (.int .u64 0) := by subst hhw11; go_simp
  have cw11_0_1 : w11.cell? ⟨B7, 1, none⟩ = some (.int .u64 d) := by subst hhw11; go_simp
  have cw11_0_2 : w11.cell? ⟨B7, 2, none⟩ = some (.int .u64 1) := by subst hhw11; go_simp
  have zw11_0 : B7 < w11.heap.size := World.block_lt_of_cell? _ _ cw11_0_0
  have cw11_1_0 : w11.cell? ⟨w10.heap.size, 0, none⟩ = some (.int .u64 0) := by subst hhw11; go_simp
  have cw11_1_1 : w11.cell? ⟨w10.heap.size, 1, none⟩ = some (.int .u64 dd) := by subst hhw11; go_simp
  have cw11_1_2 : w11.cell? ⟨w10.heap.size, 2, none⟩ = some (.int .u64 1) := by subst hhw11; go_simp
  have zw11_1 : w10.heap.size < w11.heap.size := World.block_lt_of_cell? _ _ cw11_1_0
  have cw11_2_0 : w11.cell? ⟨w10.heap.size + 1, 0, none⟩ = some (.int .u64 0) := by subst hhw11; go_simp
  have fw11_2_0 : w11.frozen? ⟨w10.heap.size + 1, 0, none⟩ = false := by subst hhw11; go_simp
  have cw11_2_1 : w11.cell? ⟨w10.heap.size + 1, 1, none⟩ = some (.int .u64 0) := by subst hhw11; go_simp
  have fw11_2_1 : w11.frozen? ⟨w10.heap.size + 1, 1, none⟩ = false := by subst hhw11; go_simp
  have cw11_2_2 : w11.cell? ⟨w10.heap.size + 1, 2, none⟩ = some (.int .u64 1) := by subst hhw11; go_simp
  have fw11_2_2 : w11.frozen? ⟨w10.heap.size + 1, 2, none⟩ = false := by subst hhw11; go_simp
  have zw11_2 : w10.heap.size + 1 < w11.heap.size := World.block_lt_of_cell? _ _ cw11_2_0
  have gw11 : Gr W w11 := by subst hhw11; have gg := gw10; have gs := gg.size; go_grown
  clear hhw11 gw10
  have PA11 := pts_gr PA10.out g1011
  obtain ⟨B16, eB16⟩ : ∃ b, b = w10.heap.size := ⟨_, rfl⟩
  have hB1a := s10
  obtain ⟨B18, eB18⟩ : ∃ b, b = w10.heap.size + 1 := ⟨_, rfl⟩
  have hB1 : W.heap.size ≤ B18 := by omega
  have hB2 : ga ≠ B18 := by omega
  have hB3 : B7 ≠ B18 := by omega
  have hB4 : B16 ≠ B18 := by omega
  have hB5 : B7 ≠ B16 := by omega
  rw [← eB18] at cw11_2_0 cw11_2_1 cw11_2_2 fw11_2_0 fw11_2_1 fw11_2_2 ⊢
  rw [← eB16] at cw11_1_0 cw11_1_1 cw11_1_2 ⊢
  clear eB18 eB16 g1011 PA10 hga7 hB1a s10
  have HF := Lib.hid hB1
  go_loopg [19] ka (fun gk s19 wr => ∃ (m x : Nat), s19 = .int .i64 m ∧ m ≤ ka ∧ gk = ka - m ∧ MaxTo a m 0 x ∧ wr.cell? ⟨B7, 0, none⟩ = some (.int .u64 0) ∧ wr.cell? ⟨B7, 1, none⟩ = some (.int .u64 d) ∧ wr.cell? ⟨B7, 2, none⟩ = some (.int .u64 1) ∧
    wr.cell? ⟨B16, 0, none⟩ = some (.int .u64 0) ∧ wr.cell? ⟨B16, 1, none⟩ = some (.int .u64 dd) ∧ wr.cell? ⟨B16, 2, none⟩ = some (.int .u64 1) ∧
    wr.cell? ⟨B18, 0, none⟩ = some (.int .u64 0) ∧ wr.cell? ⟨B18, 1, none⟩ = some (.int .u64 x) ∧ wr.cell? ⟨B18, 2, none⟩ = some (.int .u64 1) ∧
    wr.frozen? ⟨B18, 0, none⟩ = false ∧ wr.frozen? ⟨B18, 1, none⟩ = false ∧ wr.frozen? ⟨B18, 2, none⟩ = false ∧ Pts wr (.slice (some ⟨ga, 0, none⟩) ka ca) ka (fX a) (fY a) ∧ Gr W wr)
  case atStart => exact ⟨0, 0, rfl, Nat.zero_le _, rfl, MaxTo.start a, cw11_0_0, cw11_0_1, cw11_0_2, cw11_1_0, cw11_1_1, cw11_1_2, cw11_2_0, (show _ = some (Value.int .u64 ((0 : Nat) : Int)) from cw11_2_1), cw11_2_2, fw11_2_0, fw11_2_1, fw11_2_2, PA11, gw11⟩
  case round =>
    clear cw11_0_0 cw11_0_1 cw11_0_2 cw11_1_0 cw11_1_1 cw11_1_2 cw11_2_0 cw11_2_1 cw11_2_2 fw11_2_0 fw11_2_1 fw11_2_2 PA11 gw11 zw11_0 zw11_1 zw11_2
    obtain ⟨m, x, rfl, hm, hgk, hmx, a0, a1, a2, b0, b1, b2, c0, c1, c2, f0, f1, f2, hpa, gwr⟩ := hrel
    by_cases hmk : m < ka
    · have ti : decide ((m : Int) < (ka : Int)) = true := decide_eq_true (by omega)
      have ti2 : decide (m < ka) = true := decide_eq_true hmk
      have ti3 : (m : Int) < (ka : Int) := by omega
      have hmm : ka - (m + 1) < gk := by omega
      clear hgk
      go_wp2_with fail
      obtain ⟨wo, rfl⟩ : ∃ wo : World, wo = wr := ⟨_, rfl⟩
      go_loopg [20] m (fun gk s20 wr => ∃ (t x : Nat), s20 = .int .i64 t ∧ t ≤ m ∧ gk = m - t ∧ MaxTo a m t x ∧ wr.cell? ⟨B7, 0, none⟩ = some (.int .u64 0) ∧ wr.cell? ⟨B7, 1, none⟩ = some (.int .u64 d) ∧ wr.cell? ⟨B7, 2, none⟩ = some (.int .u64 1) ∧
    wr.cell? ⟨B16, 0, none⟩ = some (.int .u64 0) ∧ wr.cell? ⟨B16, 1, none⟩ = some (.int .u64 dd) ∧ wr.cell? ⟨B16, 2, none⟩ = some (.int .u64 1) ∧
    wr.cell? ⟨B18, 0, none⟩ = some (.int .u64 0) ∧ wr.cell? ⟨B18, 1, none⟩ = some (.int .u64 x) ∧ wr.cell? ⟨B18, 2, none⟩ = some (.int .u64 1) ∧
    wr.frozen? ⟨B18, 0, none⟩ = false ∧ wr.frozen? ⟨B18, 1, none⟩ = false ∧ wr.frozen? ⟨B18, 2, none⟩ = false ∧ Pts wr (.slice (some ⟨ga, 0, none⟩) ka ca) ka (fX a) (fY a) ∧ Gr W wr)
      case atStart => exact ⟨0, x, rfl, Nat.zero_le _, rfl, hmx, a0, a1, a2, b0, b1, b2, c0, c1, c2, f0, f1, f2, hpa, gwr⟩
      case round =>
        clear hmx a0 a1 a2 b0 b1 b2 c0 c1 c2 f0 f1 f2 hpa gwr
        obtain ⟨t, x, rfl, ht, hgk, hmx, a0, a1, a2, b0, b1, b2, c0, c1, c2, f0, f1, f2, hpa, gwr⟩ := hrel
        have HMX := Lib.hid hmx
        clear hmx
        by_cases htm : t < m
        · have tj : decide ((t : Int) < (m : Int)) = true := decide_eq_true (by omega)
          have tj2 : decide (t < m) = true := decide_eq_true htm
          have tj3 : (t : Int) < (ka : Int) := by omega
          have hmm2 : m - (t + 1) < gk := by omega
          have z18 := World.block_lt_of_cell? _ _ c0
          have z16 := World.block_lt_of_cell? _ _ b0
          have z7 := World.block_lt_of_cell? _ _ a0
          have hq := hpa
          obtain ⟨ad', cap', B', off', e, -, -, e2, e3⟩ := hq
          cases e
          have e4 := e2 (by omega)
          cases e4
          obtain ⟨k0, k1⟩ := e3 m hmk
          obtain ⟨l0, l1⟩ := e3 t (by omega)
          rw [Nat.zero_add] at k0 k1 l0 l1
          have nc : ∀ q, q < ka → nearB (fX a q) (fY a q) = true := fun q hq => near_lsP HNR.out _ (HOKA.out.mem q hq)
          obtain ⟨s, es⟩ : ∃ s, s = sqN (fX a) (fY a) m t := ⟨_, rfl⟩
          have SQ := fun w => c_rSq (fX a m) (fY a m) (fX a t) (fY a t) (nc m hmk) (nc t (by omega)) s (by rw [es]; exact sqN_eq (fX a) (fY a) m t) w
          have hws : Wd s := by rw [es]; exact sqN_wd (nc m hmk) (nc t (by omega))
          have hwx : Wd x := by
            rcases HMX.out.at_ with e | ⟨p, q, h1, h2, h3⟩
            · rw [e]; unfold Wd; omega
            · rw [h3]; exact sqN_wd (nc p (by omega)) (nc q (by omega))
          have CC := fun w => h_cmpD s x hws hwx w
          have HES := Lib.hid es
          have HPA := Lib.hid hpa
          generalize fX a m = xm at k0 SQ
          generalize fY a m = ym at k1 SQ
          generalize fX a t = xt at l0 SQ
          generalize fY a t = yt at l1 SQ
          have H1 := Lib.hid SQ
          obtain ⟨r, er⟩ : ∃ r, r = cmpZ (s : Int) (x : Int) := ⟨_, rfl⟩
          rw [← er] at CC
          have H2 := Lib.hid CC
          clear SQ CC e2 e3 nc es hws hwx hpa hgk
          by_cases hsx : x < s
          · have er1 : r = 1 := by rw [er]; exact cmpZ_gt (by omega)
            have HSX := Lib.hid hsx
            rw [er1] at H2
            clear er er1 hsx
            go_wp2_with fail
            refine Hm.wp_region_mk 10 9 21 #[.int .u64 0, .int .u64 0, .int .u64 0] 37 (by kernel_rfl) (by simp only [List.getElem?_toArray, List.getElem?_cons_succ, List.getElem?_cons_zero] <;> rfl) (by kernel_rfl) (fun _ _ => ?_) ?_
            · unfold Oper.wp; go_simp
            intro KQ hKQ
            repeat (first | (refine Hm.wpG_sp (by decide) ?_ ?_; (· (try dsimp only); first | (rw [if_neg (by decide)]; trivial) | (rw [if_pos rfl]; (intro B w' g hB hw; have c0 : w'.cell? ⟨B, 0, none⟩ = some (.int .u64 0) := Hm.cell_of_heap hw 0; have f0 := Hm.frozen_of_heap hw 0; have c1 : w'.cell? ⟨B, 1, none⟩ = some (.int .u64 0) := Hm.cell_of_heap hw 1; have f1 := Hm.frozen_of_heap hw 1; have c2 : w'.cell? ⟨B, 2, none⟩ = some (.int .u64 0) := Hm.cell_of_heap hw 2; have f2 := Hm.frozen_of_heap hw 2; unfold Oper.wp; go_simp; exact ⟨(((g.setCell hB _).setCell hB _).setCell hB _), (Hm.heap_set_same (Hm.heap_set_same (Hm.heap_set_same hw)))⟩)))) | (refine Hm.wpG_skip (by decide) rfl ?_; simp only [Act.put, List.setIfInBounds_toArray, List.set_cons_zero, List.set_cons_succ]) | (refine Hm.wpG_want (by decide) rfl ?_; apply Exists.intro; refine ⟨?_, ?_⟩; (· intro wx gx; (obtain ⟨mx, rfl⟩ := spread_of_gr gx; clear gx); all_goals (apply Hd.gAt_of_quiet; intro K hK; go_big_quiet_op; first | exact hK _ rfl | (apply Exists.intro; refine ⟨fun _ => ?_, ?_⟩; (· (first | (go_at_call 16; first | ((with_reducible refine ((H1.out _)).mono ?_); rintro e w' ⟨rfl, hg⟩; exact ⟨rfl, spread_gr hg⟩)))); exact hK _ rfl))); try simp only [Act.put, List.setIfInBounds_toArray, List.set_cons_zero, List.set_cons_succ]))
            refine Hm.wpG_nil (hKQ _ ?_)
            clear hKQ KQ
            intro B12 w12 hw12 hBw12 hhw12
            have cw12_0_0 : w12.cell? ⟨B7, 0, none⟩ = some (.int .u64 0) := cell_gr hw12 (by go_simp)
            have cw12_0_1 : w12.cell? ⟨B7, 1, none⟩ = some (.int .u64 d) := cell_gr hw12 (by go_simp)
            have cw12_0_2 : w12.cell? ⟨B7, 2, none⟩ = some (.int .u64 1) := cell_gr hw12 (by go_simp)
            have zw12_0 : B7 < w12.heap.size := World.block_lt_of_cell? _ _ cw12_0_0
            have cw12_1_0 : w12.cell? ⟨B16, 0, none⟩ = some (.int .u64 0) := cell_gr hw12 (by go_simp)
            have cw12_1_1 : w12.cell? ⟨B16, 1, none⟩ = some (.int .u64 dd) := cell_gr hw12 (by go_simp)
            have cw12_1_2 : w12.cell? ⟨B16, 2, none⟩ = some (.int .u64 1) := cell_gr hw12 (by go_simp)
            have zw12_1 : B16 < w12.heap.size := World.block_lt_of_cell? _ _ cw12_1_0
            have cw12_2_0 : w12.cell? ⟨B18, 0, none⟩ = some (.int .u64 0) := cell_gr hw12 (by go_simp)
            have fw12_2_0 : w12.frozen? ⟨B18, 0, none⟩ = false := frozen_gr (v := .int .u64 0) hw12 (by go_simp) (by go_simp)
            have cw12_2_1 : w12.cell? ⟨B18, 1, none⟩ = some (.int .u64 x) := cell_gr hw12 (by go_simp)
            have fw12_2_1 : w12.frozen? ⟨B18, 1, none⟩ = false := frozen_gr (v := .int .u64 x) hw12 (by go_simp) (by go_simp)
            have cw12_2_2 : w12.cell? ⟨B18, 2, none⟩ = some (.int .u64 1) := cell_gr hw12 (by go_simp)
            have fw12_2_2 : w12.frozen? ⟨B18, 2, none⟩ = false := frozen_gr (v := .int .u64 1) hw12 (by go_simp) (by go_simp)
            have zw12_2 : B18 < w12.heap.size := World.block_lt_of_cell? _ _ cw12_2_0
            have cw12_3_0 : w12.cell? ⟨B12, 0, none⟩ = some (.int .u64 0) := Hm.cell_of_heap hhw12 0
            have cw12_3_1 : w12.cell? ⟨B12, 1, none⟩ = some (.int .u64 0) := Hm.cell_of_heap hhw12 1
            have cw12_3_2 : w12.cell? ⟨B12, 2, none⟩ = some (.int .u64 0) := Hm.cell_of_heap hhw12 2
            have zw12_3 : B12 < w12.heap.size := World.block_lt_of_cell? _ _ cw12_3_0
            have gw12 : Gr wr w12 := Gr.trans (by go_grown) hw12
            have fw12_3_0 : w12.frozen? ⟨B12, 0, none⟩ = false := Hm.frozen_of_heap hhw12 0
            have fw12_3_1 : w12.frozen? ⟨B12, 1, none⟩ = false := Hm.frozen_of_heap hhw12 1
            have fw12_3_2 : w12.frozen? ⟨B12, 2, none⟩ = false := Hm.frozen_of_heap hhw12 2
            clear hw12 hhw12
            go_wp2_with fail
            go_at_call 18
            refine ((H2.out _)).mono ?_
            rintro e w13 ⟨rfl, hw13⟩
            have cw13_0_0 : w13.cell? ⟨B7, 0, none⟩ = some (.int .u64 0) := cell_gr hw13 (by go_simp)
            have cw13_0_1 : w13.cell? ⟨B7, 1, none⟩ = some (.int .u64 d) := cell_gr hw13 (by go_simp)
            have cw13_0_2 : w13.cell? ⟨B7, 2, none⟩ = some (.int .u64 1) := cell_gr hw13 (by go_simp)
            have zw13_0 : B7 < w13.heap.size := World.block_lt_of_cell? _ _ cw13_0_0
            have cw13_1_0 : w13.cell? ⟨B16, 0, none⟩ = some (.int .u64 0) := cell_gr hw13 (by go_simp)
            have cw13_1_1 : w13.cell? ⟨B16, 1, none⟩ = some (.int .u64 dd) := cell_gr hw13 (by go_simp)
            have cw13_1_2 : w13.cell? ⟨B16, 2, none⟩ = some (.int .u64 1) := cell_gr hw13 (by go_simp)
            have zw13_1 : B16 < w13.heap.size := World.block_lt_of_cell? _ _ cw13_1_0
            have cw13_2_0 : w13.cell? ⟨B18, 0, none⟩ = some (.int .u64 0) := cell_gr hw13 (by go_simp)
            have fw13_2_0 : w13.frozen? ⟨B18, 0, none⟩ = false := frozen_gr (v := .int .u64 0) hw13 (by go_simp) (by go_simp)
            have cw13_2_1 : w13.cell? ⟨B18, 1, none⟩ = some (.int .u64 x) := cell_gr hw13 (by go_simp)
            have fw13_2_1 : w13.frozen? ⟨B18, 1, none⟩ = false := frozen_gr (v := .int .u64 x) hw13 (by go_simp) (by go_simp)
            have cw13_2_2 : w13.cell? ⟨B18, 2, none⟩ = some (.int .u64 1) := cell_gr hw13 (by go_simp)
            have fw13_2_2 : w13.frozen? ⟨B18, 2, none⟩ = false := frozen_gr (v := .int .u64 1) hw13 (by go_simp) (by go_simp)
            have zw13_2 : B18 < w13.heap.size := World.block_lt_of_cell? _ _ cw13_2_0
            have cw13_3_0 : w13.cell? ⟨B12, 0, none⟩ = some (.int .u64 0) := cell_gr hw13 (by go_simp)
            have fw13_3_0 : w13.frozen? ⟨B12, 0, none⟩ = false := frozen_gr (v := .int .u64 0) hw13 (by go_simp) (by go_simp)
            have cw13_3_1 : w13.cell? ⟨B12, 1, none⟩ = some (.int .u64 s) := cell_gr hw13 (by go_simp)
            have fw13_3_1 : w13.frozen? ⟨B12, 1, none⟩ = false := frozen_gr (v := .int .u64 s) hw13 (by go_simp) (by go_simp)
            have cw13_3_2 : w13.cell? ⟨B12, 2, none⟩ = some (.int .u64 1) := cell_gr hw13 (by go_simp)
            have fw13_3_2 : w13.frozen? ⟨B12, 2, none⟩ = false := frozen_gr (v := .int .u64 1) hw13 (by go_simp) (by go_simp)
            have zw13_3 : B12 < w13.heap.size := World.block_lt_of_cell? _ _ cw13_3_0
            have gw13 : Gr wr w13 := Gr.trans (by have gg := gw12; have gs := gg.size; go_grown) hw13
            clear hw13 gw12 zw12_0 cw12_0_0 cw12_0_1 cw12_0_2 zw12_1 cw12_1_0 cw12_1_1 cw12_1_2 zw12_2 cw12_2_0 fw12_2_0 cw12_2_1 fw12_2_1 cw12_2_2 fw12_2_2 zw12_3 cw12_3_0 fw12_3_0 cw12_3_1 fw12_3_1 cw12_3_2 fw12_3_2
            go_wp2_with fail
            go_roundg (m - (t + 1))
            case measure => exact hmm2
            case rel =>
              refine ⟨t + 1, s, by go_num, by omega, rfl, by have := HMX.out.move htm (by rw [← HES.out]; exact HSX.out); rwa [← HES.out] at this, by go_simp, by go_simp, by go_simp, by go_simp, by go_simp, by go_simp, by go_simp, by go_simp, by go_simp, by go_simp, by go_simp, by go_simp, pts_set_other (pts_set_other (pts_set_other (pts_gr HPA.out gw13) hB2) hB2) hB2, ?_⟩
              exact (((Gr.trans gwr gw13).setCell (p := ⟨B18, 0, none⟩) hB1 _).setCell (p := ⟨B18, 1, none⟩) hB1 _).setCell (p := ⟨B18, 2, none⟩) hB1 _
          · have er0 : ¬ 0 < r := by rw [er]; unfold cmpZ; split <;> (try split) <;> omega
            have er1 : decide ((0 : Int) < r) = false := decide_eq_false er0
            have HSX := Lib.hid hsx
            clear er hsx
            go_wp2_with fail
            refine Hm.wp_region_mk 10 9 21 #[.int .u64 0, .int .u64 0, .int .u64 0] 37 (by kernel_rfl) (by simp only [List.getElem?_toArray, List.getElem?_cons_succ, List.getElem?_cons_zero] <;> rfl) (by kernel_rfl) (fun _ _ => ?_) ?_
            · unfold Oper.wp; go_simp
            intro KQ hKQ
            repeat (first | (refine Hm.wpG_sp (by decide) ?_ ?_; (· (try dsimp only); first | (rw [if_neg (by decide)]; trivial) | (rw [if_pos rfl]; (intro B w' g hB hw; have c0 : w'.cell? ⟨B, 0, none⟩ = some (.int .u64 0) := Hm.cell_of_heap hw 0; have f0 := Hm.frozen_of_heap hw 0; have c1 : w'.cell? ⟨B, 1, none⟩ = some (.int .u64 0) := Hm.cell_of_heap hw 1; have f1 := Hm.frozen_of_heap hw 1; have c2 : w'.cell? ⟨B, 2, none⟩ = some (.int .u64 0) := Hm.cell_of_heap hw 2; have f2 := Hm.frozen_of_heap hw 2; unfold Oper.wp; go_simp; exact ⟨(((g.setCell hB _).setCell hB _).setCell hB _), (Hm.heap_set_same (Hm.heap_set_same (Hm.heap_set_same hw)))⟩)))) | (refine Hm.wpG_skip (by decide) rfl ?_; simp only [Act.put, List.setIfInBounds_toArray, List.set_cons_zero, List.set_cons_succ]) | (refine Hm.wpG_want (by decide) rfl ?_; apply Exists.intro; refine ⟨?_, ?_⟩; (· intro wx gx; (obtain ⟨mx, rfl⟩ := spread_of_gr gx; clear gx); all_goals (apply Hd.gAt_of_quiet; intro K hK; go_big_quiet_op; first | exact hK _ rfl | (apply Exists.intro; refine ⟨fun _ => ?_, ?_⟩; (· (first | (go_at_call 16; first | ((with_reducible refine ((H1.out _)).mono ?_); rintro e w' ⟨rfl, hg⟩; exact ⟨rfl, spread_gr hg⟩)))); exact hK _ rfl))); try simp only [Act.put, List.setIfInBounds_toArray, List.set_cons_zero, List.set_cons_succ]))
            refine Hm.wpG_nil (hKQ _ ?_)
            clear hKQ KQ
            intro B12 w12 hw12 hBw12 hhw12
            have cw12_0_0 : w12.cell? ⟨B7, 0, none⟩ = some (.int .u64 0) := cell_gr hw12 (by go_simp)
            have cw12_0_1 : w12.cell? ⟨B7, 1, none⟩ = some (.int .u64 d) := cell_gr hw12 (by go_simp)
            have cw12_0_2 : w12.cell? ⟨B7, 2, none⟩ = some (.int .u64 1) := cell_gr hw12 (by go_simp)
            have zw12_0 : B7 < w12.heap.size := World.block_lt_of_cell? _ _ cw12_0_0
            have cw12_1_0 : w12.cell? ⟨B16, 0, none⟩ = some (.int .u64 0) := cell_gr hw12 (by go_simp)
            have cw12_1_1 : w12.cell? ⟨B16, 1, none⟩ = some (.int .u64 dd) := cell_gr hw12 (by go_simp)
            have cw12_1_2 : w12.cell? ⟨B16, 2, none⟩ = some (.int .u64 1) := cell_gr hw12 (by go_simp)
            have zw12_1 : B16 < w12.heap.size := World.block_lt_of_cell? _ _ cw12_1_0
            have cw12_2_0 : w12.cell? ⟨B18, 0, none⟩ = some (.int .u64 0) := cell_gr hw12 (by go_simp)
            have fw12_2_0 : w12.frozen? ⟨B18, 0, none⟩ = false := frozen_gr (v := .int .u64 0) hw12 (by go_simp) (by go_simp)
            have cw12_2_1 : w12.cell? ⟨B18, 1, none⟩ = some (.int .u64 x) := cell_gr hw12 (by go_simp)
            have fw12_2_1 : w12.frozen? ⟨B18, 1, none⟩ = false := frozen_gr (v := .int .u64 x) hw12 (by go_simp) (by go_simp)
            have cw12_2_2 : w12.cell? ⟨B18, 2, none⟩ = some (.int .u64 1) := cell_gr hw12 (by go_simp)
            have fw12_2_2 : w12.frozen? ⟨B18, 2, none⟩ = false := frozen_gr (v := .int .u64 1) hw12 (by go_simp) (by go_simp)
            have zw12_2 : B18 < w12.heap.size := World.block_lt_of_cell? _ _ cw12_2_0
            have cw12_3_0 : w12.cell? ⟨B12, 0, none⟩ = some (.int .u64 0) := Hm.cell_of_heap hhw12 0
            have cw12_3_1 : w12.cell? ⟨B12, 1, none⟩ = some (.int .u64 0) := Hm.cell_of_heap hhw12 1
            have cw12_3_2 : w12.cell? ⟨B12, 2, none⟩ = some (.int .u64 0) := Hm.cell_of_heap hhw12 2
            have zw12_3 : B12 < w12.heap.size := World.block_lt_of_cell? _ _ cw12_3_0
            have gw12 : Gr wr w12 := Gr.trans (by go_grown) hw12
            have fw12_3_0 : w12.frozen? ⟨B12, 0, none⟩ = false := Hm.frozen_of_heap hhw12 0
            have fw12_3_1 : w12.frozen? ⟨B12, 1, none⟩ = false := Hm.frozen_of_heap hhw12 1
            have fw12_3_2 : w12.frozen? ⟨B12, 2, none⟩ = false := Hm.frozen_of_heap hhw12 2
            clear hw12 hhw12
            go_wp2_with fail
            go_at_call 18
            refine ((H2.out _)).mono ?_
            rintro e w13 ⟨rfl, hw13⟩
            have cw13_0_0 : w13.cell? ⟨B7, 0, none⟩ = some (.int .u64 0) := cell_gr hw13 (by go_simp)
            have cw13_0_1 : w13.cell? ⟨B7, 1, none⟩ = some (.int .u64 d) := cell_gr hw13 (by go_simp)
            have cw13_0_2 : w13.cell? ⟨B7, 2, none⟩ = some (.int .u64 1) := cell_gr hw13 (by go_simp)
            have zw13_0 : B7 < w13.heap.size := World.block_lt_of_cell? _ _ cw13_0_0
            have cw13_1_0 : w13.cell? ⟨B16, 0, none⟩ = some (.int .u64 0) := cell_gr hw13 (by go_simp)
            have cw13_1_1 : w13.cell? ⟨B16, 1, none⟩ = some (.int .u64 dd) := cell_gr hw13 (by go_simp)
            have cw13_1_2 : w13.cell? ⟨B16, 2, none⟩ = some (.int .u64 1) := cell_gr hw13 (by go_simp)
            have zw13_1 : B16 < w13.heap.size := World.block_lt_of_cell? _ _ cw13_1_0
            have cw13_2_0 : w13.cell? ⟨B18, 0, none⟩ = some (.int .u64 0) := cell_gr hw13 (by go_simp)
            have fw13_2_0 : w13.frozen? ⟨B18, 0, none⟩ = false := frozen_gr (v := .int .u64 0) hw13 (by go_simp) (by go_simp)
            have cw13_2_1 : w13.cell? ⟨B18, 1, none⟩ = some (.int .u64 x) := cell_gr hw13 (by go_simp)
            have fw13_2_1 : w13.frozen? ⟨B18, 1, none⟩ = false := frozen_gr (v := .int .u64 x) hw13 (by go_simp) (by go_simp)
            have cw13_2_2 : w13.cell? ⟨B18, 2, none⟩ = some (.int .u64 1) := cell_gr hw13 (by go_simp)
            have fw13_2_2 : w13.frozen? ⟨B18, 2, none⟩ = false := frozen_gr (v := .int .u64 1) hw13 (by go_simp) (by go_simp)
            have zw13_2 : B18 < w13.heap.size := World.block_lt_of_cell? _ _ cw13_2_0
            have cw13_3_0 : w13.cell? ⟨B12, 0, none⟩ = some (.int .u64 0) := cell_gr hw13 (by go_simp)
            have fw13_3_0 : w13.frozen? ⟨B12, 0, none⟩ = false := frozen_gr (v := .int .u64 0) hw13 (by go_simp) (by go_simp)
            have cw13_3_1 : w13.cell? ⟨B12, 1, none⟩ = some (.int .u64 s) := cell_gr hw13 (by go_simp)
            have fw13_3_1 : w13.frozen? ⟨B12, 1, none⟩ = false := frozen_gr (v := .int .u64 s) hw13 (by go_simp) (by go_simp)
            have cw13_3_2 : w13.cell? ⟨B12, 2, none⟩ = some (.int .u64 1) := cell_gr hw13 (by go_simp)
            have fw13_3_2 : w13.frozen? ⟨B12, 2, none⟩ = false := frozen_gr (v := .int .u64 1) hw13 (by go_simp) (by go_simp)
            have zw13_3 : B12 < w13.heap.size := World.block_lt_of_cell? _ _ cw13_3_0
            have gw13 : Gr wr w13 := Gr.trans (by have gg := gw12; have gs := gg.size; go_grown) hw13
            clear hw13 gw12 zw12_0 cw12_0_0 cw12_0_1 cw12_0_2 zw12_1 cw12_1_0 cw12_1_1 cw12_1_2 zw12_2 cw12_2_0 fw12_2_0 cw12_2_1 fw12_2_1 cw12_2_2 fw12_2_2 zw12_3 cw12_3_0 fw12_3_0 cw12_3_1 fw12_3_1 cw12_3_2 fw12_3_2
            go_wp2_with fail
            go_roundg (m - (t + 1))
            case measure => exact hmm2
            case rel =>
              exact ⟨t + 1, x, by go_num, by omega, rfl, HMX.out.stay (by rw [← HES.out]; have := HSX.out; omega), by go_simp, by go_simp, by go_simp, by go_simp, by go_simp, by go_simp, by go_simp, by go_simp, by go_simp, by go_simp, by go_simp, by go_simp, pts_gr HPA.out gw13, Gr.trans gwr gw13⟩
        · obtain rfl : m = t := by omega
          have tj : decide ((m : Int) < (m : Int)) = false := decide_eq_false (by omega)
          have tj2 : decide (m < m) = false := decide_eq_false (by omega)
          clear hgk htm
          go_wp2_with fail
          go_roundg (ka - (m + 1))
          case measure => exact hmm
          case rel => exact ⟨m + 1, x, by go_num, hmk, rfl, HMX.out.row, a0, a1, a2, b0, b1, b2, c0, c1, c2, f0, f1, f2, hpa, gwr⟩
    · obtain rfl : ka = m := by omega
      have ti : decide ((ka : Int) < (ka : Int)) = false := decide_eq_false (by omega)
      have ti2 : decide (ka < ka) = false := decide_eq_false (by omega)
      have hx : x = d := by rw [far_is HOKA.out HBW.out hmx, ← HD.out]
      have hwd := HWD.out
      have hdd : ((dd : Nat) : Int) ≤ d := by
        have l := HB2.out.1.lt
        have := bst_all HBW.out (show i2 < n by omega) l.2 (by omega)
        rw [HB2.out.2, HD.out]; omega
      have hc : ¬ 0 < cmpZ (dd : Int) (d : Int) := by unfold cmpZ; split <;> (try split) <;> omega
      have hwdd : Wd dd := by unfold Wd at *; omega
      have CC := fun w => h_cmpD dd d hwdd hwd w
      obtain ⟨r, er⟩ : ∃ r, r = cmpZ (dd : Int) (d : Int) := ⟨_, rfl⟩
      rw [← er] at CC hc
      have er1 : decide (r ≤ (0 : Int)) = true := decide_eq_true (by omega)
      have er2 : r ≤ 0 := by omega
      have H2 := Lib.hid CC
      have lt1 : decide ((i2 : Int) < (j2 : Int)) = true := decide_eq_true (by have := HB2.out.1.lt; omega)
      have lt2 : decide (i2 < j2) = true := decide_eq_true (by have := HB2.out.1.lt; omega)
      subst hx
      clear hgk hmk hmx hwd hdd hc hwdd CC er hpa
      have zw0 := World.block_lt_of_cell? _ _ a0
      go_wp2_with fail
      go_at_call 18
      (with_reducible refine (H2.out _).mono ?_)
      rintro e w14 ⟨rfl, g14⟩
      go_wp2_with fail
      go_at_call 8
      (with_reducible refine (HAW.out _ (Gr.trans gwr g14)).mono ?_)
      rintro e w15 ⟨rfl, g15⟩
      go_wp2_with fail
      go_ret
      exact ⟨rfl, Gr.trans (Gr.trans gwr g14) g15⟩
end Go.Proofs.YtogflfepkddbhaaDoor
