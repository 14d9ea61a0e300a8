/- RatioMins: the walk up to its last region -/
import Derived.Test.YthjhhnolkiejpaaDoorVi
import Derived.OwnWalk
namespace Go.Proofs.YthjhhnolkiejpaaDoor
set_option linter.unusedVariables false
open Go.ChangeShapes Go.WideShapes Go.ChangeAt Go.RowKit

set_option maxHeartbeats 40000000 in
set_option maxRecDepth 100000 in
theorem mins_core (b off n cap b' off' m cap' : Nat) (H L D H' L' D' : Nat → Nat) (W : World) (hp : Lib.TabIs Tryd.prog W "internal/strconv.uint64pow10" .u64 Lib.pow10Tab) (hn : 0 < n ∧ n ≤ 60) (hm : 0 < m ∧ m ≤ 60)
    (hw : ∀ k, k < n → Wd (H k) ∧ Wd (L k) ∧ Wd (D k)) (hw' : ∀ k, k < m → Wd (H' k) ∧ Wd (L' k) ∧ Wd (D' k))
    (hc : ∀ k, k < n → W.cell? ⟨b, off + k * 3, none⟩ = some (.int .u64 (H k)) ∧ W.cell? ⟨b, off + k * 3 + 1, none⟩ = some (.int .u64 (L k)) ∧ W.cell? ⟨b, off + k * 3 + 2, none⟩ = some (.int .u64 (D k)))
    (hc' : ∀ k, k < m → W.cell? ⟨b', off' + k * 3, none⟩ = some (.int .u64 (H' k)) ∧ W.cell? ⟨b', off' + k * 3 + 1, none⟩ = some (.int .u64 (L' k)) ∧ W.cell? ⟨b', off' + k * 3 + 2, none⟩ = some (.int .u64 (D' k))) :
    Calls Tryd.prog 7 #[.slice (some ⟨b, off, none⟩) n cap, .slice (some ⟨b', off', none⟩) m cap'] W fun e w' => e = .returned (.bool true) ∧ Gr W w' := by
  obtain ⟨i0, hi, hz0, hz1, hz2⟩ := info_parts (P := Tryd.prog) (e := 47) (z := .agg #[.int .u64 0, .int .u64 0, .int .u64 0]) (size := 3) (bytes := 24) (by kernel_rfl)
  have HI := Lib.hid hi
  have HZ0 := Lib.hid hz0
  have HZ1 := Lib.hid hz1
  have HZ2 := Lib.hid hz2
  have HN := Lib.hid hn
  have HM := Lib.hid hm
  have HW := Lib.hid hw
  have HW' := Lib.hid hw'
  have HC := Lib.hid hc
  have HC' := Lib.hid hc'
  have HP := Lib.hid hp
  have t1 : ((n : Int) == 0) = false := by simp; omega
  have t2 : (n == 0) = false := by simp; omega
  have t3 : ((m : Int) == 0) = false := by simp; omega
  have t4 : (m == 0) = false := by simp; omega
  have t5 : decide ((60 : Int) < (n : Int)) = false := decide_eq_false (by omega)
  have t6 : decide (60 < n) = false := decide_eq_false (by omega)
  have t7 : decide ((60 : Int) < (m : Int)) = false := decide_eq_false (by omega)
  have t8 : decide (60 < m) = false := decide_eq_false (by omega)
  have HAW := Lib.hid (fun w (gr : Gr W w) => p2_awake w (tab_below hp gr))
  obtain ⟨pa, epa⟩ : ∃ x, x = curI H L D H n := ⟨_, rfl⟩
  obtain ⟨pb, epb⟩ : ∃ x, x = curI H L D L n := ⟨_, rfl⟩
  obtain ⟨pc, epc⟩ : ∃ x, x = curI H L D D n := ⟨_, rfl⟩
  obtain ⟨qa, eqa⟩ : ∃ x, x = curI H' L' D' H' m := ⟨_, rfl⟩
  obtain ⟨qb, eqb⟩ : ∃ x, x = curI H' L' D' L' m := ⟨_, rfl⟩
  obtain ⟨qc, eqc⟩ : ∃ x, x = curI H' L' D' D' m := ⟨_, rfl⟩
  have hb1 : bestI H L D n < n := by
    obtain ⟨q, hq⟩ : ∃ q, n = q + 1 := ⟨n - 1, by omega⟩
    rw [hq]; exact best_lt _ _ _ q
  have hb2 : bestI H' L' D' m < m := by
    obtain ⟨q, hq⟩ : ∃ q, m = q + 1 := ⟨m - 1, by omega⟩
    rw [hq]; exact best_lt _ _ _ q
  have hnz : n ≠ 0 := by omega
  have hmz : m ≠ 0 := by omega
  have wp : Wd pa ∧ Wd pb ∧ Wd pc := by rw [epa, epb, epc]; unfold curI; rw [if_neg hnz, if_neg hnz, if_neg hnz]; exact hw _ hb1
  have wq : Wd qa ∧ Wd qb ∧ Wd qc := by rw [eqa, eqb, eqc]; unfold curI; rw [if_neg hmz, if_neg hmz, if_neg hmz]; exact hw' _ hb2
  have HA := Lib.hid (show ∀ w, Gr W w → Calls Tryd.prog 30 #[.slice (some ⟨b, off, none⟩) n cap] w fun e w' => e = .returned (.agg #[.int .u64 pa, .int .u64 pb, .int .u64 pc]) ∧ Gr w w' by
    intro w gr
    rw [epa, epb, epc]
    exact c_Min n cap H L D (some ⟨b, off, none⟩) b off (fun _ => rfl) w (by omega) hw (fun k hk => ⟨cell_gr gr (hc k hk).1, cell_gr gr (hc k hk).2.1, cell_gr gr (hc k hk).2.2⟩))
  have HB := Lib.hid (show ∀ w, Gr W w → Calls Tryd.prog 30 #[.slice (some ⟨b', off', none⟩) m cap'] w fun e w' => e = .returned (.agg #[.int .u64 qa, .int .u64 qb, .int .u64 qc]) ∧ Gr w w' by
    intro w gr
    rw [eqa, eqb, eqc]
    exact c_Min m cap' H' L' D' (some ⟨b', off', none⟩) b' off' (fun _ => rfl) w (by omega) hw' (fun k hk => ⟨cell_gr gr (hc' k hk).1, cell_gr gr (hc' k hk).2.1, cell_gr gr (hc' k hk).2.2⟩))
  have HNIL := Lib.hid (show ∀ w, Calls Tryd.prog 30 #[.slice none 0 0] w fun e w' => e = .returned (.agg #[.int .u64 0, .int .u64 0, .int .u64 0]) ∧ Gr w w' by
    intro w
    exact c_Min 0 0 H L D none 0 0 (fun h => by omega) w (by omega) (fun k hk => by omega) (fun k hk => by omega))
  have HX := Lib.hid (show ∀ B w, w.cell? ⟨B, 0, none⟩ = some (.int .u64 pa) → w.cell? ⟨B, 1, none⟩ = some (.int .u64 pb) → w.cell? ⟨B, 2, none⟩ = some (.int .u64 pc) → w.cell? ⟨B, 3, none⟩ = some (.int .u64 qa) → w.cell? ⟨B, 4, none⟩ = some (.int .u64 qb) → w.cell? ⟨B, 5, none⟩ = some (.int .u64 qc) →
      Calls Tryd.prog 30 #[.slice (some ⟨B, 0, none⟩) 2 2] w fun e w' => e = .returned (.agg #[.int .u64 (curI (catN n H H') (catN n L L') (catN n D D') (catN n H H') (n + m)), .int .u64 (curI (catN n H H') (catN n L L') (catN n D D') (catN n L L') (n + m)), .int .u64 (curI (catN n H H') (catN n L L') (catN n D D') (catN n D D') (n + m))]) ∧ Gr w w' by
    intro B w k0 k1 k2 k3 k4 k5
    rw [cur_cat n m H L D H H' L' D' H' (by omega) (by omega), cur_cat n m H L D L H' L' D' L' (by omega) (by omega), cur_cat n m H L D D H' L' D' D' (by omega) (by omega), ← epa, ← epb, ← epc, ← eqa, ← eqb, ← eqc, ← cur_two pa pb pc qa qb qc pa qa, ← cur_two pa pb pc qa qb qc pb qb, ← cur_two pa pb pc qa qb qc pc qc]
    refine c_Min 2 2 (twoN pa qa) (twoN pb qb) (twoN pc qc) (some ⟨B, 0, none⟩) B 0 (fun _ => rfl) w (by omega) ?_ ?_
    · intro k hk
      match k, hk with
      | 0, _ => exact wp
      | 1, _ => exact wq
    · intro k hk
      match k, hk with
      | 0, _ => exact ⟨k0, k1, k2⟩
      | 1, _ => exact ⟨k3, k4, k5⟩)
  clear epa epb epc eqa eqb eqc hb1 hb2 hnz hmz wp wq
  clear hi hz0 hz1 hz2 hn hm hw hw' hc hc' hp
  go_enter Tryd.func7, Tryd.ntmps7
  go_wp2_with (first
    | (at_builtin; refine wpList_append_grows _ rfl (.tmp 27) (.tmp 28) 48 rfl 47 i0 (.agg #[.int .u64 0, .int .u64 0, .int .u64 0]) 3 24 Tryd.underlying48 HI.out HZ0.out HZ1.out HZ2.out rfl (by decide) (some ⟨W.heap.size, 0, none⟩) 0 0 [] rfl (by intro h; cases h) rfl (by intro _ _ j u h; simp at h) ⟨b, off, none⟩ n cap (rowD H L D n) rfl (rowD_len ..) (by intro j u h; exact cell_gr (show Gr W _ by go_grown) (row_at HC.out j u h)) (rowD_one H L D n) (by have := HN.out; omega) (by have := HN.out; unfold maxLen; omega) (by have := HN.out; omega) ?_; intro v1 w2 own1 grow1; have gw2 : Gr W w2 := gr_of_grown (show Gr W _ by go_grown) grow1 (fun k h => by cases h); have gz2 : W.heap.size + 1 ≤ w2.heap.size := (by have := grow1.size; simpa using this); have HO := Lib.hid own1; clear own1 grow1)
    | (at_builtin; refine wpList_append_own _ rfl (.tmp 29) (.tmp 30) 48 rfl _ 47 i0 (.agg #[.int .u64 0, .int .u64 0, .int .u64 0]) 3 24 Tryd.underlying48 HI.out HZ0.out HZ1.out HZ2.out rfl (by decide) v1 (0 + n) ([] ++ rowD H L D n) rfl HO.out ⟨b', off', none⟩ m cap' (rowD H' L' D' m) rfl (rowD_len ..) (by intro j u h; exact cell_gr gw2 (row_at HC'.out j u h)) (rowD_one H' L' D' m) (by have := HN.out; have := HM.out; unfold maxLen; omega) (by have := HN.out; have := HM.out; omega) (by have := gz2; first | omega | (simp; omega)) ?_; intro v2 w3 own2 grow2 nil2))
  have gw3 : Gr W w3 := gr_of_grown gw2 grow2 (fun k h => by have := (HO.out.lt k h).1; simp at this; omega)
  rw [List.nil_append, rowD_cat, Nat.zero_add] at own2
  clear nil2 grow2 HO gz2
  obtain ⟨g, cap2, rfl⟩ : ∃ g c, v2 = .slice (some ⟨g, 0, none⟩) (n + m) c := by
    rcases own2.2 with ⟨_, h⟩ | ⟨g, c, cur, e, hg, hh, _⟩
    · have := HN.out; omega
    · exact ⟨g, c, e⟩
  have HR := Lib.hid (row_cells (size := 3) own2)
  clear own2
  have hw12 : ∀ k, k < n + m → Wd (catN n H H' k) ∧ Wd (catN n L L' k) ∧ Wd (catN n D D' k) := by
    intro k hk
    by_cases h : k < n
    · rw [cat_lt H H' h, cat_lt L L' h, cat_lt D D' h]; exact HW.out k h
    · obtain ⟨j, rfl⟩ : ∃ j, k = n + j := ⟨k - n, by omega⟩
      rw [cat_ge, cat_ge, cat_ge]; exact HW'.out j (by omega)
  have CM := c_Min (n + m) cap2 (catN n H H') (catN n L L') (catN n D D') (some ⟨g, 0, none⟩) g 0 (fun _ => rfl) w3 (by have := HN.out; have := HM.out; omega) hw12 HR.out
  have HW12 := Lib.hid hw12
  clear hw12
  obtain ⟨ma, ema⟩ : ∃ x, x = curI (catN n H H') (catN n L L') (catN n D D') (catN n H H') (n + m) := ⟨_, rfl⟩
  obtain ⟨mb, emb⟩ : ∃ x, x = curI (catN n H H') (catN n L L') (catN n D D') (catN n L L') (n + m) := ⟨_, rfl⟩
  obtain ⟨mc, emc⟩ : ∃ x, x = curI (catN n H H') (catN n L L') (catN n D D') (catN n D D') (n + m) := ⟨_, rfl⟩
  rw [← ema, ← emb, ← emc] at CM
  have HE := Lib.hid (And.intro ema (And.intro emb emc))
  clear ema emb emc
  refine CM.mono ?_
  clear CM
  rintro e w4 ⟨rfl, gw34⟩
  have gw4 := Gr.trans gw3 gw34
  go_wp2_with fail
  go_loopg [7] (n + m) (fun k v wr => ∃ i : Nat, i + k = n + m ∧ v = .int .i64 i ∧ wr.cell? ⟨w4.heap.size, 0, none⟩ = some (.int .u64 ma) ∧ wr.cell? ⟨w4.heap.size, 1, none⟩ = some (.int .u64 mb) ∧ wr.cell? ⟨w4.heap.size, 2, none⟩ = some (.int .u64 mc) ∧ Gr w4 wr)
  case atStart => exact ⟨0, by omega, rfl, by go_simp, by go_simp, by go_simp, by go_grown⟩
  case round =>
    obtain ⟨i, hk, rfl, a0, a1, a2, gwr⟩ := hrel
    have zwr := World.block_lt_of_cell? _ _ a0
    by_cases hin : i < n + m
    · have ti : decide ((i : Int) < ((n + m : Nat) : Int)) = true := decide_eq_true (by omega)
      have ti2 : decide (i < n + m) = true := decide_eq_true hin
      have bnd : (i : Int) + 1 ≤ 200 := by have := HN.out; have := HM.out; omega
      have ti3 : (i : Int) < ((n + m : Nat) : Int) := by omega
      have ti4 : decide ((i : Int) < (n : Int) + (m : Int)) = true := decide_eq_true (by omega)
      have hr := HR.out i hin
      rw [Nat.zero_add] at hr
      have s0 := cell_gr gwr (cell_gr gw34 hr.1)
      have s1 := cell_gr gwr (cell_gr gw34 hr.2.1)
      have s2 := cell_gr gwr (cell_gr gw34 hr.2.2)
      have hblt := World.block_lt_of_cell? _ _ s0
      clear hr
      obtain ⟨xa, exa⟩ : ∃ x, x = catN n H H' i := ⟨_, rfl⟩
      obtain ⟨xb, exb⟩ : ∃ x, x = catN n L L' i := ⟨_, rfl⟩
      obtain ⟨xc, exc⟩ : ∃ x, x = catN n D D' i := ⟨_, rfl⟩
      rw [← exa] at s0
      rw [← exb] at s1
      rw [← exc] at s2
      have bl : bestI (catN n H H') (catN n L L') (catN n D D') (n + m) < n + m := by
        obtain ⟨q, hq⟩ : ∃ q, n + m = q + 1 := ⟨n + m - 1, by omega⟩
        rw [hq]; exact best_lt _ _ _ q
      have wi := HW12.out i hin
      have wb := HW12.out _ bl
      have hnm : n + m ≠ 0 := by omega
      have A := c_rtCompare xa xb xc ma mb mc (by rw [exa]; exact wi.1) (by rw [exb]; exact wi.2.1) (by rw [exc]; exact wi.2.2) (by rw [HE.out.1]; unfold curI; rw [if_neg hnm]; exact wb.1) (by rw [HE.out.2.1]; unfold curI; rw [if_neg hnm]; exact wb.2.1) (by rw [HE.out.2.2]; unfold curI; rw [if_neg hnm]; exact wb.2.2)
      have lst := best_least (catN n H H') (catN n L L') (catN n D D') (n + m) i hin
      obtain ⟨k', ek⟩ : ∃ k', k' = cmpD (val xa xb) xc (val ma mb) mc := ⟨_, rfl⟩
      rw [← ek] at A
      have tk : decide (k' < 0) = false := decide_eq_false (by
        rw [ek, exa, exb, exc, HE.out.1, HE.out.2.1, HE.out.2.2]
        unfold curI
        rw [if_neg hnm, if_neg hnm, if_neg hnm]
        exact lst)
      have H1 := Lib.hid A
      clear A ek lst exa exb exc wi wb bl hnm
      go_wp2_with fail
      refine wp_region_spread (by kernel_rfl) (by kernel_rfl) ?_
      try simp only [List.append]
      repeat (first | go_big_quiet_skip | (go_big_quiet_want; go_big_quiet_op; (first | go_big_quiet_on | (apply Exists.intro; refine ⟨fun _ => ?_, ?_⟩; (· (first | (go_at_call 27; first | ((with_reducible refine ((H1.out _)).mono ?_); rintro e w' ⟨rfl, hg⟩; exact ⟨rfl, spread_gr hg⟩)))); go_big_quiet_on))))
      refine wpQuiet_nil ?_
      intro w5 hhw5
      have hw5 := Hd.gr_of_spread hhw5
      have cw5_0_0 : w5.cell? ⟨w4.heap.size, 0, none⟩ = some (.int .u64 ma) := cell_gr hw5 (by go_simp)
      have cw5_0_1 : w5.cell? ⟨w4.heap.size, 1, none⟩ = some (.int .u64 mb) := cell_gr hw5 (by go_simp)
      have cw5_0_2 : w5.cell? ⟨w4.heap.size, 2, none⟩ = some (.int .u64 mc) := cell_gr hw5 (by go_simp)
      have zw5_0 : w4.heap.size < w5.heap.size := World.block_lt_of_cell? _ _ cw5_0_0
      have gw5 : Gr w4 w5 := Gr.trans (by have gg := gwr; have gs := gg.size; go_grown) hw5
      clear hw5 hhw5 gwr
      go_wp2_with fail
      go_roundg (n + m - (i + 1))
      case measure => omega
      case rel => exact ⟨i + 1, by omega, by go_num, by go_simp, by go_simp, by go_simp, by have gg := gw5; have gs := gg.size; go_grown⟩
    · obtain rfl : i = n + m := by omega
      have te : decide (((n + m : Nat) : Int) < (n : Int) + (m : Int)) = false := decide_eq_false (by omega)
      go_wp2_with fail
      have HX' := Lib.hid (by have := HX.out; rw [← HE.out.1, ← HE.out.2.1, ← HE.out.2.2] at this; exact this)
      have gP : Gr W wr := Gr.trans gw4 gwr
      clear HX te hin HE HN HM HW HW' HC HC' HP HR HW12 HI HZ0 HZ1 HZ2 t1 t2 t3 t4 t5 t6 t7 t8 gw2 gw3 gw34 gw4 gwr hk zwr
      go_region_with (first | (go_at_call 30; (first | (with_reducible refine (HA.out _ (by have gg := gP; have gs := gg.size; go_grown)).mono ?_) | (with_reducible refine (HB.out _ (by have gg := gP; have gs := gg.size; go_grown)).mono ?_) | (with_reducible refine (HNIL.out _).mono ?_) | (refine (HX'.out _ _ (by go_simp) (by go_simp) (by go_simp) (by go_simp) (by go_simp) (by go_simp)).mono ?_)); rintro e wv ⟨rfl, hv⟩; have mc0 : wv.cell? ⟨w4.heap.size, 0, none⟩ = some (.int .u64 ma) := cell_gr hv (by go_simp); have mc1 : wv.cell? ⟨w4.heap.size, 1, none⟩ = some (.int .u64 mb) := cell_gr hv (by go_simp); have mc2 : wv.cell? ⟨w4.heap.size, 2, none⟩ = some (.int .u64 mc) := cell_gr hv (by go_simp); have mz := World.block_lt_of_cell? _ _ mc0; have gP : Gr W wv := Gr.trans (by have gg := gP; have gs := gg.size; go_grown) hv) | (go_at_call 25; refine (HAW.out _ (by have gg := gP; have gs := gg.size; go_grown)).mono ?_; rintro e wv ⟨rfl, hv⟩; have mc0 : wv.cell? ⟨w4.heap.size, 0, none⟩ = some (.int .u64 ma) := cell_gr hv (by go_simp); have mc1 : wv.cell? ⟨w4.heap.size, 1, none⟩ = some (.int .u64 mb) := cell_gr hv (by go_simp); have mc2 : wv.cell? ⟨w4.heap.size, 2, none⟩ = some (.int .u64 mc) := cell_gr hv (by go_simp); have mz := World.block_lt_of_cell? _ _ mc0; have gP : Gr W wv := Gr.trans (by have gg := gP; have gs := gg.size; go_grown) hv))
      all_goals
        go_wp2_with fail
        go_ret
        exact ⟨rfl, by have gg := gP; have gs := gg.size; go_grown⟩
end Go.Proofs.YthjhhnolkiejpaaDoor
