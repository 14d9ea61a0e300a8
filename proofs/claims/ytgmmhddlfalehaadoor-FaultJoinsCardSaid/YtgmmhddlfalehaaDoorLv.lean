/- FaultJoins -/
import Derived.Test.YtgmmhddlfalehaaDoorLu
namespace Go.Proofs.YtgmmhddlfalehaaDoor
set_option linter.unusedVariables false
set_option linter.unusedSimpArgs false
open Go.ChangeShapes Go.WideShapes Go.ChangeAt Go.RowKit

theorem allS_app {W wr wd we : World} {L : List Int} {i : Nat} {z : Int} {sv x u : Value} {us : List Value} (q1 : wr.ownsRow W.heap.size 27 1 sv i us) (q2 : ∀ j, j < i → ∃ u, us[j]? = some u ∧ JAt wr (L.getD j 0) u) (hg : Gr W wr)
    (G : Gr wr wd) (g : Grown wd we sv x) (o : we.ownsRow W.heap.size 27 1 x (i + 1) (us ++ [u])) (ez : z = L.getD i 0) (hu : JAt wd z u) : AllS W we L (i + 1) x := by
  subst ez
  exact allS_put q1 q2 ((Kx.of_gr G).trans (kx_grown g)) o (jAt_kx hu (rowOwn_gr q1 G) (kx_grown g)) (g.gr (Gr.trans hg G) (fun k hk => (World.ownsRow.lt q1 k hk).1))
theorem al_hit {w : World} {t : Int} {u : Value} (hE : ErrT w) (hi : inR t = true) (h : ErT w (jE t) u) : ∃ F, u = .iface 29 (.pointer (some ⟨F, 0, none⟩)) ∧ ∀ w', Gr w w' → Calls Tryd.prog 15 #[.iface 29 (.pointer (some ⟨F, 0, none⟩)), .int .i64 t, .string ⟨#[120]⟩, .int .i64 t] w' fun e w'' => e = .returned (.bool true) ∧ Gr w' w'' := by
  rw [jE_in hi] at h
  obtain ⟨F, u', rfl, cF, hk⟩ := h
  obtain rfl : u' = .iface 25 (.int .i64 t) := hk
  obtain ⟨h1, h2⟩ := inR_iff.1 hi
  obtain ⟨q, rfl⟩ : ∃ q : Nat, t = q := ⟨t.toNat, by omega⟩
  exact ⟨F, rfl, fun w' g => c_AlIs_hit F xOp q q (by omega) w' (errT_gr hE g) (faultAt_gr ⟨Hm.cell_of_heap cF 0, Hm.cell_of_heap cF 1, Hm.cell_of_heap cF 2⟩ g)⟩
set_option maxHeartbeats 8000000 in
set_option maxRecDepth 100000 in
theorem joins_core (L : List Int) (v : Value) (W : World) (h : IntsR W v L) (hE : ErrT W) (hL : L.length ≤ 30) : Calls Tryd.prog 4 #[v] W fun e w' => e = .returned (.bool true) ∧ Gr W w' := by
  obtain ⟨i0, hi0, hz0, hz1, hz2⟩ := info_parts (P := Tryd.prog) (e := 27) (z := .nilIface) (size := 1) (bytes := 16) (by kernel_rfl)
  have HI := Lib.hid (And.intro hi0 (And.intro hz0 (And.intro hz1 hz2)))
  clear hi0 hz0 hz1 hz2
  obtain ⟨ad, cap, B, off, rfl, h1, h2, h3, h4, h5⟩ := h
  have HX := Lib.hid (And.intro h3 h4)
  have HE := Lib.hid hE
  clear h3 h4 h5 hE
  obtain ⟨n, hn⟩ : ∃ n, n = L.length := ⟨_, rfl⟩
  rw [← hn] at h1 hL HX ⊢
  clear hn
  have s1 : decide ((30 : Int) < (n : Int)) = false := decide_eq_false (by omega)
  have s2 : decide (30 < n) = false := decide_eq_false (by omega)
  have s3 : ¬ (30 : Int) < (n : Int) := by omega
  go_enter Tryd.func4, Tryd.ntmps4
  go_wp2_with fail
  go_loopg [3, 4, 5] n (fun j a f x wq => ∃ (i : Nat) (t : Int), x = .int .i64 i ∧ i ≤ n ∧ j = n - i ∧ f = .int .i64 t ∧ Hid (t = fzL L i) ∧ Hid (AllS W wq L i a))
  case atStart => exact ⟨0, 0, rfl, by omega, by omega, rfl, Lib.hid rfl, Lib.hid ⟨[], World.ownsRow_nil _ _ _ _, fun j hj => absurd hj (Nat.not_lt_zero _), Below.refl _ _⟩⟩
  case round =>
    obtain ⟨i, t, rfl, hi, hj, rfl, HT, HA⟩ := hrel
    by_cases hin : i < n
    · have ti : decide ((i : Int) < (n : Int)) = true := decide_eq_true (by omega)
      have ti2 : decide (i < n) = true := decide_eq_true hin
      have ti3 : (i : Int) < (n : Int) := by omega
      have tn1 : (i : Int) < (cap : Int) := by omega
      have t0 : (0 : Int) ≤ (i : Int) := by omega
      obtain rfl := HX.out.1 (by omega)
      obtain ⟨us, q1, q2, hg⟩ := HA.out
      have b0 := HX.out.2 i hin
      have hBW : B < W.heap.size := World.block_lt_of_cell? _ _ b0
      have y0 := cell_gr hg b0
      clear b0
      obtain ⟨z, ez⟩ : ∃ z, z = L.getD i 0 := ⟨_, rfl⟩
      rw [← ez] at y0
      have HEZ := Lib.hid ez
      obtain ⟨sa, sc, rfl⟩ := own_formE q1
      have HQ := Lib.hid (And.intro q1 (And.intro q2 hg))
      have sW := hg.size
      clear q1 q2 ez HA
      by_cases hz : inR z = true
      · obtain ⟨z1, z2⟩ := inR_iff.1 hz
        have tz1 : decide (z < 1) = false := decide_eq_false (by omega)
        have tz2 : decide ((15 : Int) < z) = false := decide_eq_false (by omega)
        have AN : ∀ w, Calls Tryd.prog 6 #[.string ⟨#[120]⟩, .int .i64 z, .iface 25 (.int .i64 z)] w fun e w' => ∃ F, e = .returned (.iface 29 (.pointer (some ⟨F, 0, none⟩))) ∧ JAt w' z (.iface 29 (.pointer (some ⟨F, 0, none⟩))) ∧ Gr w w' := fun w => new_j w hz
        have hcv : ∀ k, (Value.slice sa i sc).ownBlock = some k → W.heap.size ≤ k := fun k hk => (World.ownsRow.lt HQ.out.1 k hk).1
        have HN := Lib.hid AN
        clear AN
        go_upto_region 10 with fail
        have gwr := hg
        clear hg
        go_wp2_with fail
        try simp only [List.append]
        refine Oe.wp_region_ordT (R := Kx (fun k => W.heap.size ≤ k)) 13 [(0, false), (1, false), (2, false), (3, false), (4, false), (5, false), (6, false), (7, false), (8, false), (9, false), (10, true), (11, true), (12, true)] (by kernel_rfl) (by kernel_rfl) ?_
        intro w0 hw0 KQ hKQ
        have hhw0 := Kx.of_gr (S := (fun k => W.heap.size ≤ k)) hw0
        have cw0_0_0 : w0.cell? ⟨B, off + i, none⟩ = some (.int .i64 z) := cell_kx hhw0 (by show ¬ (W.heap.size ≤ B); omega) (by go_simp)
        have zw0_0 : B < w0.heap.size := World.block_lt_of_cell? _ _ cw0_0_0
        have gw0 : Gr W w0 := Kx.gr hhw0 (by have gg := gwr; have gs := gg.size; go_grown) (fun k hk => by have hk2 : W.heap.size ≤ k := hk; omega)
        have sw0 := hhw0.size
        clear gwr
        clear hhw0
        repeat (first | (refine Oe.wpO_skip (by simp only [List.getElem?_toArray, List.getElem?_cons_succ, List.getElem?_cons_zero] <;> rfl) rfl ?_; simp only [Act.put, List.setIfInBounds_toArray, List.set_cons_zero, List.set_cons_succ]) | (refine Oe.wpO_pure (by simp only [List.getElem?_toArray, List.getElem?_cons_succ, List.getElem?_cons_zero] <;> rfl) rfl ?_; apply Exists.intro; refine ⟨?_, ?_⟩; (· intro wx gx; have cx_0_0 : wx.cell? ⟨B, off + i, none⟩ = some (.int .i64 z) := cell_kx gx (by show ¬ (W.heap.size ≤ B); omega) cw0_0_0; have zx_0 : B < wx.heap.size := World.block_lt_of_cell? _ _ cx_0_0; clear gx; all_goals (apply Oe.pAt_of_quiet; intro K hK; go_big_quiet_op; first | exact hK _ rfl | (apply Exists.intro; refine ⟨fun _ => ?_, ?_⟩; (· fail); exact hK _ rfl))); try simp only [Act.put, List.setIfInBounds_toArray, List.set_cons_zero, List.set_cons_succ]))
        refine Oe.wpO_call (by simp only [List.getElem?_toArray, List.getElem?_cons_succ, List.getElem?_cons_zero] <;> rfl) rfl ?_
        intro QS hQS
        go_wp2_with fail
        go_at_call 6
        (with_reducible refine ((HN.out _)).mono ?_)
        rintro e w1 ⟨F, rfl, hJ, hw1⟩
        have hhw1 : Kx (fun k => W.heap.size ≤ k) w0 w1 := Kx.of_gr hw1
        go_wp2_with fail
        first | (apply Exists.intro; refine ⟨?_, hhw1, ?_⟩; (· simp only [Act.put, List.setIfInBounds_toArray, List.set_cons_zero, List.set_cons_succ]; rfl)) | (refine ⟨hhw1, ?_⟩)
        have cw1_0_0 : w1.cell? ⟨B, off + i, none⟩ = some (.int .i64 z) := cell_kx hhw1 (by show ¬ (W.heap.size ≤ B); omega) (by go_simp)
        have zw1_0 : B < w1.heap.size := World.block_lt_of_cell? _ _ cw1_0_0
        have gw1 : Gr W w1 := Kx.gr hhw1 gw0 (fun k hk => by have hk2 : W.heap.size ≤ k := hk; omega)
        have sw1 := hhw1.size
        clear gw0 zw0_0 cw0_0_0
        clear hhw1
        try simp only [Act.put, List.setIfInBounds_toArray, List.set_cons_zero, List.set_cons_succ]
        repeat (first | (refine Oe.wpO_skip (by simp only [List.getElem?_toArray, List.getElem?_cons_succ, List.getElem?_cons_zero] <;> rfl) rfl ?_; simp only [Act.put, List.setIfInBounds_toArray, List.set_cons_zero, List.set_cons_succ]) | (refine Oe.wpO_pure (by simp only [List.getElem?_toArray, List.getElem?_cons_succ, List.getElem?_cons_zero] <;> rfl) rfl ?_; apply Exists.intro; refine ⟨?_, ?_⟩; (· intro wx gx; have cx_0_0 : wx.cell? ⟨B, off + i, none⟩ = some (.int .i64 z) := cell_kx gx (by show ¬ (W.heap.size ≤ B); omega) cw1_0_0; have zx_0 : B < wx.heap.size := World.block_lt_of_cell? _ _ cx_0_0; clear gx; all_goals (apply Oe.pAt_of_quiet; intro K hK; go_big_quiet_op; first | exact hK _ rfl | (apply Exists.intro; refine ⟨fun _ => ?_, ?_⟩; (· fail); exact hK _ rfl))); try simp only [Act.put, List.setIfInBounds_toArray, List.set_cons_zero, List.set_cons_succ]))
        refine Oe.wpO_call (by simp only [List.getElem?_toArray, List.getElem?_cons_succ, List.getElem?_cons_zero] <;> rfl) rfl ?_
        intro QS hQS
        go_wp2_with fail
        first | (apply Exists.intro; refine ⟨?_, Kx.of_gr (by go_grown), ?_⟩; (· simp only [Act.put, List.setIfInBounds_toArray, List.set_cons_zero, List.set_cons_succ]; rfl)) | (refine ⟨Kx.of_gr (by go_grown), ?_⟩)
        generalize hhwd : (w1.alloc (.cells #[.iface 29 (.pointer (some ⟨F, 0, none⟩))] 27)) = wd
        have hwd : Gr w1 wd := by subst hhwd; go_grown
        have cwd_0_0 : wd.cell? ⟨B, off + i, none⟩ = some (.int .i64 z) := by subst hhwd; go_simp
        have zwd_0 : B < wd.heap.size := World.block_lt_of_cell? _ _ cwd_0_0
        have gwd : Gr W wd := Gr.trans (by have gg := gw1; have gs := gg.size; go_grown) hwd
        have swd := hwd.size
        have hone : ∀ j u, [Value.iface 29 (.pointer (some ⟨F, 0, none⟩))][j]? = some u → wd.cell? ((⟨w1.heap.size, 0, none⟩ : Addr).add j) = some u := by subst hhwd; exact cell_one_new _ _ _
        clear hhwd gw1 zw1_0 cw1_0_0
        try simp only [Act.put, List.setIfInBounds_toArray, List.set_cons_zero, List.set_cons_succ]
        repeat (first | (refine Oe.wpO_skip (by simp only [List.getElem?_toArray, List.getElem?_cons_succ, List.getElem?_cons_zero] <;> rfl) rfl ?_; simp only [Act.put, List.setIfInBounds_toArray, List.set_cons_zero, List.set_cons_succ]) | (refine Oe.wpO_pure (by simp only [List.getElem?_toArray, List.getElem?_cons_succ, List.getElem?_cons_zero] <;> rfl) rfl ?_; apply Exists.intro; refine ⟨?_, ?_⟩; (· intro wx gx; have cx_0_0 : wx.cell? ⟨B, off + i, none⟩ = some (.int .i64 z) := cell_kx gx (by show ¬ (W.heap.size ≤ B); omega) cwd_0_0; have zx_0 : B < wx.heap.size := World.block_lt_of_cell? _ _ cx_0_0; clear gx; all_goals (apply Oe.pAt_of_quiet; intro K hK; go_big_quiet_op; first | exact hK _ rfl | (apply Exists.intro; refine ⟨fun _ => ?_, ?_⟩; (· fail); exact hK _ rfl))); try simp only [Act.put, List.setIfInBounds_toArray, List.set_cons_zero, List.set_cons_succ]))
        have g1d : Gr wr wd := Gr.trans hw0 (Gr.trans hw1 hwd)
        have HRd := Lib.hid (rowOwn_gr HQ.out.1 g1d)
        have hbd : W.heap.size ≤ wd.heap.size := gwd.size
        refine Oe.wpO_call (by simp only [List.getElem?_toArray, List.getElem?_cons_succ, List.getElem?_cons_zero] <;> rfl) rfl ?_
        intro QS hQS
        refine (wpList_append_own2 _ rfl (.tmp 36) (.tmp 47) 40 rfl W.heap.size 27 i0 .nilIface 1 16 Tryd.underlying40 HI.out.1 HI.out.2.1 HI.out.2.2.1 HI.out.2.2.2 rfl (by decide) (.slice sa i sc) i us rfl HRd.out ⟨w1.heap.size, 0, none⟩ 1 1 [.iface 29 (.pointer (some ⟨F, 0, none⟩))] rfl rfl hone (by intro u hu; simp only [List.mem_cons, List.not_mem_nil, or_false] at hu; subst hu; rfl) (by unfold maxLen; omega) (by omega) hbd ?_)
        intro x9 we o9 g9
        have hhwe : Kx (fun k => W.heap.size ≤ k) wd we := (kx_grown g9).mono (fun k hk => hcv k hk)
        refine hQS _ _ ⟨_, rfl, hhwe, ?_⟩
        clear hQS QS
        have cwe_0_0 : we.cell? ⟨B, off + i, none⟩ = some (.int .i64 z) := cell_kx hhwe (by show ¬ (W.heap.size ≤ B); omega) (by go_simp)
        have zwe_0 : B < we.heap.size := World.block_lt_of_cell? _ _ cwe_0_0
        have gwe : Gr W we := Kx.gr hhwe gwd (fun k hk => by have hk2 : W.heap.size ≤ k := hk; omega)
        have swe := hhwe.size
        clear gwd zwd_0 cwd_0_0
        clear hhwe
        try simp only [Act.put, List.setIfInBounds_toArray, List.set_cons_zero, List.set_cons_succ]
        repeat (first | (refine Oe.wpO_skip (by simp only [List.getElem?_toArray, List.getElem?_cons_succ, List.getElem?_cons_zero] <;> rfl) rfl ?_; simp only [Act.put, List.setIfInBounds_toArray, List.set_cons_zero, List.set_cons_succ]) | (refine Oe.wpO_pure (by simp only [List.getElem?_toArray, List.getElem?_cons_succ, List.getElem?_cons_zero] <;> rfl) rfl ?_; apply Exists.intro; refine ⟨?_, ?_⟩; (· intro wx gx; have cx_0_0 : wx.cell? ⟨B, off + i, none⟩ = some (.int .i64 z) := cell_kx gx (by show ¬ (W.heap.size ≤ B); omega) cwe_0_0; have zx_0 : B < wx.heap.size := World.block_lt_of_cell? _ _ cx_0_0; clear gx; all_goals (apply Oe.pAt_of_quiet; intro K hK; go_big_quiet_op; first | exact hK _ rfl | (apply Exists.intro; refine ⟨fun _ => ?_, ?_⟩; (· fail); exact hK _ rfl))); try simp only [Act.put, List.setIfInBounds_toArray, List.set_cons_zero, List.set_cons_succ]))
        refine Oe.wpO_nil (hKQ _ _ ?_)
        clear hKQ KQ
        have HA9 := Lib.hid (allS_app HQ.out.1 HQ.out.2.1 HQ.out.2.2 g1d g9 o9 HEZ.out (jAt_gr hJ hwd))
        clear o9 g9 g1d hJ HRd hbd hone hcv hw0 hw1 hwd
        by_cases ht : t = 0
        · subst ht
          go_wp2_with fail
          go_roundg (n - (i + 1))
          case measure => omega
          case rel => exact ⟨i + 1, z, by go_num, by omega, rfl, rfl, Lib.hid (by rw [fz_in0 (by rw [← HEZ.out]; exact hz) HT.out.symm]; exact HEZ.out), HA9⟩
        · have tt : (t == 0) = false := by simpa using ht
          go_wp2_with fail
          go_roundg (n - (i + 1))
          case measure => omega
          case rel => exact ⟨i + 1, t, by go_num, by omega, rfl, rfl, Lib.hid (by rw [fz_in1 (by rw [← HEZ.out]; exact hz) (by rw [← HT.out]; exact ht)]; exact HT.out), HA9⟩
      · have hz' : inR z = false := by simpa using hz
        have hzz : z < 1 ∨ (¬ z < 1 ∧ 15 < z) := by
          by_cases e : z < 1
          · exact Or.inl e
          · by_cases e2 : 15 < z
            · exact Or.inr ⟨e, e2⟩
            · exact absurd (inR_iff.2 ⟨by omega, by omega⟩) hz
        have hfz : fzL L (i + 1) = fzL L i := fz_out (by rw [← HEZ.out]; exact hz')
        have HFZ := Lib.hid (And.intro hfz hz')
        clear hfz hz' hz
        have step : (decide (z < 1) = true) ∨ (decide (z < 1) = false ∧ decide ((15 : Int) < z) = true) := by
          rcases hzz with h | ⟨h, h'⟩
          · exact Or.inl (decide_eq_true h)
          · exact Or.inr ⟨decide_eq_false h, decide_eq_true h'⟩
        clear hzz
        rcases step with tz1 | ⟨tz1, tz2⟩
        all_goals
          go_wp2_with (at_builtin; go_loud ((refine wpList_append_own2 _ rfl (.tmp 33) (.tmp 34) 40 rfl W.heap.size 27 i0 .nilIface 1 16 Tryd.underlying40 HI.out.1 HI.out.2.1 HI.out.2.2.1 HI.out.2.2.2 rfl (by decide) (.slice sa i sc) i us rfl (rowOwn_gr HQ.out.1 (by go_grown)) ⟨wr.heap.size, 0, none⟩ 1 1 [.nilIface] rfl rfl (cell_one_new _ _ _) (by intro u hu; simp only [List.mem_cons, List.not_mem_nil, or_false] at hu; subst hu; rfl) (by unfold maxLen; omega) (by omega) (by simp; omega) ?_); intro x5 w5 o5 g5; (have HA5 := Lib.hid (allS_app HQ.out.1 HQ.out.2.1 HQ.out.2.2 (al_grw wr (.cells #[.nilIface] 27)) g5 o5 HEZ.out (Or.inl ⟨HFZ.out.2, rfl⟩))); clear o5 g5))
          go_roundg (n - (i + 1))
          case measure => omega
          case rel => exact ⟨i + 1, t, by go_num, by omega, rfl, rfl, Lib.hid (by rw [HFZ.out.1]; exact HT.out), HA5⟩
    · obtain rfl : i = n := by omega
      have ti : decide ((i : Int) < (i : Int)) = false := decide_eq_false (by omega)
      have ti3 : ¬ (i : Int) < (i : Int) := by omega
      have hA := HA.out
      have hEr := allS_errs hA
      obtain ⟨us, q1, -, hg⟩ := hA
      obtain ⟨sa, sc, rfl⟩ := own_formE q1
      have AJ := Lib.hid (c_fJoin wr hEr (by omega))
      have AF := Lib.hid (fun w (g : Gr wr w) => c_fFirst w (errs_gr hEr g) (by omega))
      rw [nn_zs] at AJ
      rw [fk_zs i 0 rfl, Nat.zero_add] at AF
      have HG := Lib.hid hg
      clear hEr q1 HA hj hi
      by_cases ht : t = 0
      · subst ht
        rw [fz_nil HT.out.symm] at AJ AF
        go_wp2_with fail
        go_at_call 13
        refine (AJ.out).mono ?_
        rintro e w1 ⟨j, rfl, hj, g1⟩
        obtain rfl : j = .nilIface := hj
        go_wp2_with fail
        go_at_call 14
        refine (AF.out _ g1).mono ?_
        rintro e w2 ⟨f, rfl, hf, g2⟩
        obtain rfl : f = .nilIface := hf
        go_wp2_with fail
        go_at_call 5
        refine (p7_awake _).mono ?_
        rintro e w3 ⟨rfl, g3⟩
        go_wp2_with fail
        go_ret
        exact ⟨rfl, Gr.trans hg (Gr.trans g1 (Gr.trans g2 g3))⟩
      have hT := HT.out
      have ht2 : fzL L i ≠ 0 := by rw [← hT]; exact ht
      obtain ⟨tl, hzs, hin15⟩ := fz_some ht2
      rw [← hT] at hzs hin15
      have tt : (t == 0) = false := by simpa using ht
      have ttt : (t == t) = true := beq_self_eq_true _
      have hne : zsL L i ≠ [] := by rw [hzs]; exact List.cons_ne_nil _ _
      have hhd : hdE (zsL L i) = jE t := by rw [hzs]; rfl
      rw [hhd] at AF
      have HZ := Lib.hid (And.intro hzs (And.intro hin15 hne))
      clear hzs hin15 hne hhd ht2 hT HT
      go_wp2_with fail
      go_at_call 13
      refine (AJ.out).mono ?_
      rintro e w1 ⟨j, rfl, hj, g1⟩
      obtain ⟨P, rfl⟩ := jT_form HZ.out.2.2 hj
      have HJ := Lib.hid hj
      clear hj AJ
      go_wp2_with fail
      go_at_call 14
      refine (AF.out _ g1).mono ?_
      rintro e w2 ⟨f, rfl, hf, g2⟩
      have GW2 : Gr W w2 := Gr.trans HG.out (Gr.trans g1 g2)
      clear AF
      have hf3 : ErT w2 (jE t) f := erT_gr g2 hf
      obtain ⟨F, rfl, AL⟩ := al_hit (errT_gr HE.out GW2) HZ.out.2.1 hf3
      have HL := Lib.hid AL
      have hJ2 := erT_gr g2 HJ.out
      have AC := Lib.hid (fun w (g : Gr w2 w) => show Calls Tryd.prog 9 #[.iface 89 (.pointer (some ⟨P, 0, none⟩))] w (fun e w' => e = .returned (.int .i64 t) ∧ Gr w w') from by
        have := c_fCode w (erT_gr g hJ2) (Nat.le_trans (jT_size _) (by have := zs_len (L := L) i; omega))
        rw [HZ.out.1, jT_first HZ.out.2.1] at this
        exact this)
      have AI : Hid (∀ (k : Nat) (b : Bool), 1 ≤ k → k ≤ 15 → b = metB L k i → ∀ w, Gr w2 w → Calls Tryd.prog 8 #[.iface 89 (.pointer (some ⟨P, 0, none⟩)), .iface 25 (.int .i64 k)] w fun e w' => e = .returned (.bool b) ∧ Gr w w') := Lib.hid (fun k b k1 k2 hb w g => by
        refine c_Is_join k w (joi_gr (jT_joi (fun z hz => zs_all i z hz) HZ.out.2.2 hJ2) g) b ?_
        rw [hb, met_iff, getD_ex, zs_mem (inR_iff.2 ⟨by omega, by omega⟩)])
      have HW2 := Lib.hid GW2
      have HGG := Lib.hid (Below.refl _ _ : Gr w2 w2)
      clear hf hf3 AL hJ2 g1 g2 hg HJ GW2
      go_wp2_with fail
      go_loopg [8] 15 (fun j x wq => ∃ k : Nat, x = .int .i64 k ∧ 1 ≤ k ∧ k ≤ 16 ∧ j = 16 - k ∧ Hid (Gr w2 wq))
      case atStart => exact ⟨1, rfl, by omega, by omega, rfl, HGG⟩
      case round =>
        obtain ⟨k, rfl, hk1, hk2, hkj, HG2⟩ := hrel
        by_cases hk : k ≤ 15
        · have tk : decide ((k : Int) ≤ 15) = true := decide_eq_true (by omega)
          have tk2 : (k : Int) ≤ 15 := by omega
          have tk3 : decide (k ≤ 15) = true := decide_eq_true hk
          go_wp2_with fail
          go_loopg [9, 10] i (fun j m x wq => ∃ (s : Nat) (b : Bool), x = .int .i64 s ∧ s ≤ i ∧ j = i - s ∧ m = .bool b ∧ Hid (b = metB L k s) ∧ Hid (Gr w2 wq))
          case atStart => exact ⟨0, false, rfl, by omega, by omega, rfl, Lib.hid rfl, HG2⟩
          case round =>
            obtain ⟨s, b, rfl, hs1, hs2, rfl, HB, HG3⟩ := hrel
            by_cases hsn : s < i
            · have ts : decide ((s : Int) < (i : Int)) = true := decide_eq_true (by omega)
              have ts2 : decide (s < i) = true := decide_eq_true hsn
              have ts3 : (s : Int) < (i : Int) := by omega
              have ts4 : (s : Int) < (cap : Int) := by omega
              have ts0 : (0 : Int) ≤ (s : Int) := by omega
              obtain rfl := HX.out.1 (by omega)
              have y0 := cell_gr (Gr.trans HW2.out HG3.out) (HX.out.2 s hsn)
              have hm : metB L k (s + 1) = (metB L k s || (L.getD s 0 == (k : Int))) := rfl
              obtain ⟨z, ez⟩ : ∃ z, z = L.getD s 0 := ⟨_, rfl⟩
              rw [← ez] at y0 hm
              have HM := Lib.hid hm
              clear hm ez
              cases b
              · go_wp2_with fail
                go_roundg (i - (s + 1))
                case measure => omega
                case rel => exact ⟨s + 1, (z == (k : Int)), by go_num, by omega, rfl, rfl, Lib.hid (by rw [HM.out, ← HB.out, Bool.false_or]), HG3⟩
              · go_wp2_with fail
                go_roundg (i - (s + 1))
                case measure => omega
                case rel => exact ⟨s + 1, true, by go_num, by omega, rfl, rfl, Lib.hid (by rw [HM.out, ← HB.out, Bool.true_or]), HG3⟩
            · obtain rfl : s = i := by omega
              have ts : decide ((s : Int) < (s : Int)) = false := decide_eq_false (by omega)
              have ts3 : ¬ (s : Int) < (s : Int) := by omega
              have AI2 := Lib.hid (AI.out k b hk1 hk HB.out)
              go_wp2_with fail
              go_at_call 8
              refine (AI2.out _ HG3.out).mono ?_
              rintro e w4 ⟨rfl, g4⟩
              have HG4 := Lib.hid (Gr.trans HG3.out g4)
              clear g4
              cases b
              all_goals
                go_wp2_with fail
                go_roundg (16 - (k + 1))
                case measure => omega
                case rel => exact ⟨k + 1, by go_num, by omega, by omega, rfl, HG4⟩
        · obtain rfl : k = 16 := by omega
          have tk : decide (((16 : Nat) : Int) ≤ 15) = false := by decide
          have GA := HG2.out
          go_wp2_with fail
          go_at_call 15
          refine (HL.out _ GA).mono ?_
          rintro e w5 ⟨rfl, g5⟩
          have G5 : Gr w2 w5 := Gr.trans GA g5
          go_wp2_with fail
          go_at_call 9
          refine (AC.out _ G5).mono ?_
          rintro e w6 ⟨rfl, g6⟩
          go_wp2_with fail
          go_at_call 5
          refine (p7_awake _).mono ?_
          rintro e w7 ⟨rfl, g7⟩
          go_wp2_with fail
          go_ret
          exact ⟨rfl, Gr.trans HW2.out (Gr.trans G5 (Gr.trans g6 g7))⟩
theorem walk_FaultJoins (W : World) (L : List Int) (v : Value) (h : IntsR W v L) (hE : ErrT W) : Calls Tryd.prog 4 #[v] W fun e w' => e = .returned (.bool true) ∧ Gr W w' := by
  by_cases hL : L.length ≤ 30
  · exact joins_core L v W h hE hL
  · obtain ⟨ad, cap, B, off, rfl, -⟩ := h
    have s1 : decide ((30 : Int) < (L.length : Int)) = true := decide_eq_true (by omega)
    have s2 : decide (30 < L.length) = true := decide_eq_true (by omega)
    have s3 : (30 : Int) < (L.length : Int) := by omega
    clear hE
    go_enter Tryd.func4, Tryd.ntmps4
    go_wp2_with fail
    go_at_call 5
    refine ((p7_awake _)).mono ?_
    rintro e w1 ⟨rfl, hw1⟩
    have gw1 : Gr W w1 := Gr.trans (by go_grown) hw1
    clear hw1
    go_wp2_with fail
    go_ret
    exact ⟨rfl, gw1⟩
end Go.Proofs.YtgmmhddlfalehaaDoor
