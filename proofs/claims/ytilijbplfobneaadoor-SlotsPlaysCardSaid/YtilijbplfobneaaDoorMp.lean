/- the document's page: Insert -/
import Derived.Test.YtilijbplfobneaaDoorMo
namespace Go.Proofs.YtilijbplfobneaaDoor
set_option linter.unusedVariables false
set_option linter.unusedSimpArgs false
open Go.ChangeShapes Go.WideShapes Go.ChangeAt Go.RowKit

theorem row_oth3 {base q n m' : Nat} {W w : World} {Z : Nat → Prop} {kd id : Int} {fs xs : List Value} {o : Nat → Sl} {bv hv : Value} {L : List UInt8} {ad : Addr} {m c : Nat} (h : RowOff W (fun _ => False) (.slice (some ad) m c) L) (hR : RefR base W w q Z kd id n fs m' xs o bv hv) : Row w (.slice (some ad) m c) L := by
  obtain ⟨T, K, O, -⟩ := hR.fr
  exact (rowOff_oth h K O).1
section
variable {base q : Nat} {Z : Nat → Prop} {kd id : Int} {S : List Sl} {bv hv : Value} {xs : List Value}
set_option maxHeartbeats 4000000 in
set_option maxRecDepth 100000 in
theorem r_insert {L : List UInt8} (m cap : Nat) (ad : Addr) (hm : m = L.length) (he : reS S (lfS S) m = 0) (W : World) (h : RefP base W q Z kd id S bv hv xs) (hz : ∀ k, Z k → k < W.heap.size) (hb : base ≤ W.heap.size) (hR : RowOff W (fun _ => False) (.slice (some ad) m cap) L) :
    Calls Tryd.prog 13 #[.pointer (some ⟨q, 0, none⟩), .slice (some ad) m cap] W fun e w' => e = .returned (.tuple #[.int .i64 (lfS S : Nat), .int .i64 0]) ∧ RefTo base W q Z kd id (insS S L) w' := by
  have h60 := h.le
  have hus := usS_le2 h
  have A2 := fun w (g : Gr W w) => r_used w (refP_gr h g)
  have hbf := lfS_before S
  have hat := lfS_at S
  have hle := lfS_le S
  have hcs := reS_ok he
  have hz0 : szO (S.getD (lfS S) none) = 0 := by rw [lfS_at]; rfl
  rw [hz0] at hcs
  have R0 := refR_of h hz hb
  obtain ⟨sq, -, -, c2, c3, -, -⟩ := refP_cells h
  obtain ⟨D, E, ha, ba, hc, bc, rfl, rfl, hp, l1, l2, m1, m2, hcc⟩ := refP_rows h
  have hfl : ∀ j, j < S.length → W.cell? ⟨D, j, none⟩ = some (.bool (S.getD j none).isSome) := fun j hj => (hcc j hj).1
  have hp2 : 0 < S.length → ha = some ⟨D, 0, none⟩ ∧ ba = some ⟨E, 0, none⟩ := fun h => ⟨(hp h).1, (hp h).2.1⟩
  have HF := Lib.hid (And.intro hfl (And.intro hbf hat))
  clear h hp hcc hfl hbf hat
  obtain ⟨f, hf⟩ : ∃ f, lfS S = f := ⟨_, rfl⟩
  obtain ⟨len, hlen⟩ : ∃ len, S.length = len := ⟨_, rfl⟩
  rw [hf] at hcs ⊢
  rw [hlen] at hcs
  have HS : Hid (insS S L = if f = len then S ++ [some L] else S.set f (some L)) := Lib.hid (by unfold insS putS; rw [hf, hlen])
  rw [hlen] at R0
  have HR0 := Lib.hid (And.intro R0 (And.intro hlen (And.intro hz (And.intro hm hR))))
  clear R0 hz hb hR
  rw [hf] at hle HF
  rw [hlen] at hle HF l1 l2 hp2 c2 c3 h60
  generalize usS S = us at *
  obtain ⟨c1, c6, c7⟩ := hcs
  have hm400 : m ≤ 400 := by omega
  have hm1000 : m ≤ 1000 := by omega
  have HF2 := Lib.hid (ins_facts hus hm1000)
  have t1 : decide ((400 : Int) < (m : Int)) = false := decide_eq_false (by omega)
  have t6 : decide ((60 : Int) ≤ (f : Int)) = false := decide_eq_false (by omega)
  have t6b : ¬ (60 : Int) ≤ (f : Int) := by omega
  have f0 : (0 : Int) ≤ (f : Int) := by omega
  clear he hz0 hf hlen hm
  have H2 := Lib.hid A2
  clear A2
  go_enter Tryd.func13, Tryd.ntmps13
  go_wp2_with fail
  go_loopg [6] f (fun k x wr => ∃ i : Nat, x = .int .i64 i ∧ i ≤ f ∧ k = f - i ∧ Gr W wr)
  case atStart => exact ⟨0, rfl, by omega, by omega, by go_grown⟩
  case round =>
    obtain ⟨i, rfl, hi, hk, hg⟩ := hrel
    have q2 := cell_gr hg c2
    have q3 := cell_gr hg c3
    have s3 := World.block_lt_of_cell? _ _ q3
    by_cases hif : i < f
    · have ti : decide ((i : Int) < (len : Int)) = true := decide_eq_true (by omega)
      have ti2 : decide (i < len) = true := decide_eq_true (by omega)
      have ti3 : (i : Int) < (len : Int) := by omega
      have ti4 : (i : Int) < (hc : Int) := by omega
      obtain ⟨rfl, rfl⟩ := hp2 (by omega)
      have k0 := HF.out.1 i (by omega)
      rw [HF.out.2.1 i hif] at k0
      have q0 := cell_gr hg k0
      have sD := World.block_lt_of_cell? _ _ q0
      clear k0
      go_wp2_with fail
      go_roundg (f - (i + 1))
      case measure => omega
      case rel => exact ⟨i + 1, by go_num, by omega, by omega, hg⟩
    · obtain rfl : i = f := by omega
      have gwr : Gr W wr := hg
      by_cases hfl : i < len
      · have ti : decide ((i : Int) < (len : Int)) = true := decide_eq_true (by omega)
        have ti2 : decide (i < len) = true := decide_eq_true (by omega)
        have ti3 : (i : Int) < (len : Int) := by omega
        have ti4 : (i : Int) < (hc : Int) := by omega
        have ti5 : (i : Int) < (bc : Int) := by omega
        have tn : ((i : Int) == (len : Int)) = false := by simp; omega
        have tn2 : (i == len) = false := by simp; omega
        have tn3 : ¬ i = len := by omega
        rw [if_neg tn3] at c7
        have t7 : decide ((512 : Int) < (us : Int) + (m : Int)) = false := decide_eq_false (by omega)
        have t7b : ¬ (512 : Int) < (us : Int) + (m : Int) := by omega
        obtain ⟨rfl, rfl⟩ := hp2 (by omega)
        have k0 := HF.out.1 i hfl
        rw [HF.out.2.2] at k0
        have q0 := cell_gr hg k0
        have sD := World.block_lt_of_cell? _ _ q0
        have HLT := Lib.hid hfl
        obtain ⟨f1, f2, f3, f4⟩ := HF2.out
        clear k0 c6 c7 c1
        go_wp2_with fail
        go_at_call 48
        refine (H2.out _ hg).mono ?_
        rintro e w1 ⟨rfl, g1⟩
        have G1 : Gr W w1 := Gr.trans gwr g1
        have k2 := cell_gr g1 q2
        have k3 := cell_gr g1 q3
        have sk3 := World.block_lt_of_cell? _ _ k3
        have HR1 := Lib.hid (refR_gr HR0.out.1 G1)
        have d1 := HR1.out.has.cellAt i (by clear f1 f2 f3 f4; omega)
        rw [hasV_get S i (by rw [HR0.out.2.1]; exact HLT.out)] at d1
        have d2 := HR1.out.has.frozenAt i
        have sD1 := (World.ownsRow.lt HR1.out.has D rfl).2
        have HR2 := Lib.hid (refR_setH (k := i) (.bool true) HR1.out)
        clear q0 sD
        go_upto_region 15 with fail
        generalize w1.setCell ⟨D, i, none⟩ (.bool true) = w3 at HR2 ⊢
        have HR3 := HR2
        clear f1 f2 f3 f4 d1 d2 sD1 k2 k3 HR1 HR2
        go_upto_region 15 with fail
        obtain ⟨BB, hBB⟩ : ∃ x, x = w3.heap.size := ⟨_, rfl⟩
        have sBB : BB ≤ w3.heap.size := by rw [hBB]; exact Nat.le_refl _
        have hWB : w3.heap.size ≤ BB := by rw [hBB]; exact Nat.le_refl _
        have HBZ := Lib.hid (show ∀ k, Z k → k < BB from fun k hk => by rw [hBB]; exact Nat.lt_of_lt_of_le (HR0.out.2.2.1 k hk) (refR_size HR3.out))
        have qB : q < BB := by rw [hBB]; exact refR_q HR3.out
        have eB : E < BB := by rw [hBB]; exact (World.ownsRow.lt HR3.out.row E rfl).2
        have OR3 := Lib.hid (row_oth3 HR0.out.2.2.2.2 HR3.out)
        obtain ⟨x2, x3, x4, x5⟩ := refR_cells HR3.out
        obtain ⟨v0, ev, rv⟩ := HR3.out.sl i HLT.out
        obtain ⟨va, vc, rfl⟩ := rSl_val rv
        have y1 := HR3.out.row.cellAt i (by omega)
        rw [ev] at y1
        clear hBB ev rv x3 x4 x5
        go_wp2_with fail
        try simp only [List.append]
        refine Oe.wp_region_ordT (R := Kx (fun k => BB ≤ k)) 8 [(0, false), (1, false), (2, false), (3, false), (4, false), (6, false), (5, true), (7, true)] (by kernel_rfl) (by kernel_rfl) ?_
        intro wc hwc KQ hKQ
        have hhwc := Kx.of_gr (S := (fun k => BB ≤ k)) hwc
        have cwc_0_0 : wc.cell? ⟨q, 2, none⟩ = some (.slice (some ⟨E, 0, none⟩) len bc) := cell_kx hhwc (by show ¬ (BB ≤ q); omega) (by go_simp)
        have zwc_0 : q < wc.heap.size := World.block_lt_of_cell? _ _ cwc_0_0
        have cwc_1_0 : wc.cell? ⟨E, i, none⟩ = some (.slice va (szO (S.getD i none)) vc) := cell_kx hhwc (by show ¬ (BB ≤ E); omega) (by go_simp)
        have zwc_1 : E < wc.heap.size := World.block_lt_of_cell? _ _ cwc_1_0
        have gwc : Gr w3 wc := Kx.gr hhwc (by go_grown) (fun k hk => by have hk2 : BB ≤ k := hk; omega)
        have swc := hhwc.size
        skip
        clear hhwc
        repeat (first | (refine Oe.wpO_skip (by simp only [List.getElem?_toArray, List.getElem?_cons_succ, List.getElem?_cons_zero] <;> rfl) rfl ?_; simp only [Act.put, List.setIfInBounds_toArray, List.set_cons_zero, List.set_cons_succ]) | (refine Oe.wpO_pure (by simp only [List.getElem?_toArray, List.getElem?_cons_succ, List.getElem?_cons_zero] <;> rfl) rfl ?_; apply Exists.intro; refine ⟨?_, ?_⟩; (· intro wx gx; have cx_0_0 : wx.cell? ⟨q, 2, none⟩ = some (.slice (some ⟨E, 0, none⟩) len bc) := cell_kx gx (by show ¬ (BB ≤ q); omega) cwc_0_0; have zx_0 : q < wx.heap.size := World.block_lt_of_cell? _ _ cx_0_0; have cx_1_0 : wx.cell? ⟨E, i, none⟩ = some (.slice va (szO (S.getD i none)) vc) := cell_kx gx (by show ¬ (BB ≤ E); omega) cwc_1_0; have zx_1 : E < wx.heap.size := World.block_lt_of_cell? _ _ cx_1_0; clear gx; all_goals (apply Oe.pAt_of_quiet; intro K hK; go_big_quiet_op; first | exact hK _ rfl | (apply Exists.intro; refine ⟨fun _ => ?_, ?_⟩; (· fail); exact hK _ rfl))); try simp only [Act.put, List.setIfInBounds_toArray, List.set_cons_zero, List.set_cons_succ]))
        have sc := swc
        refine Oe.wpO_call (by simp only [List.getElem?_toArray, List.getElem?_cons_succ, List.getElem?_cons_zero] <;> rfl) rfl ?_
        intro QS hQS
        go_wp2_with fail
        first | (apply Exists.intro; refine ⟨?_, Kx.of_gr (by go_grown), ?_⟩; (· simp only [Act.put, List.setIfInBounds_toArray, List.set_cons_zero, List.set_cons_succ]; rfl)) | (refine ⟨Kx.of_gr (by go_grown), ?_⟩)
        generalize hhwd2 : (wc.alloc (.cells #[] 5)) = wd2
        have hwd2 : Gr wc wd2 := by subst hhwd2; go_grown
        have cwd2_0_0 : wd2.cell? ⟨q, 2, none⟩ = some (.slice (some ⟨E, 0, none⟩) len bc) := by subst hhwd2; go_simp
        have zwd2_0 : q < wd2.heap.size := World.block_lt_of_cell? _ _ cwd2_0_0
        have cwd2_1_0 : wd2.cell? ⟨E, i, none⟩ = some (.slice va (szO (S.getD i none)) vc) := by subst hhwd2; go_simp
        have zwd2_1 : E < wd2.heap.size := World.block_lt_of_cell? _ _ cwd2_1_0
        have gwd2 : Gr w3 wd2 := Gr.trans (by have gg := gwc; have gs := gg.size; go_grown) hwd2
        have swd2 := hwd2.size
        have OB : Hid (Own wd2 BB (.slice (some ⟨wc.heap.size, 0, none⟩) 0 0) []) := Lib.hid (by subst hhwd2; exact own_base (World.ownsRow_lit (base := wc.heap.size) (e := 5) (size := 1) wc #[] 0 (Nat.le_refl _) (by decide) (by simp)) (Nat.le_trans sBB sc))
        clear hhwd2 gwc zwc_0 cwc_0_0 zwc_1 cwc_1_0
        try simp only [Act.put, List.setIfInBounds_toArray, List.set_cons_zero, List.set_cons_succ]
        repeat (first | (refine Oe.wpO_skip (by simp only [List.getElem?_toArray, List.getElem?_cons_succ, List.getElem?_cons_zero] <;> rfl) rfl ?_; simp only [Act.put, List.setIfInBounds_toArray, List.set_cons_zero, List.set_cons_succ]) | (refine Oe.wpO_pure (by simp only [List.getElem?_toArray, List.getElem?_cons_succ, List.getElem?_cons_zero] <;> rfl) rfl ?_; apply Exists.intro; refine ⟨?_, ?_⟩; (· intro wx gx; have cx_0_0 : wx.cell? ⟨q, 2, none⟩ = some (.slice (some ⟨E, 0, none⟩) len bc) := cell_kx gx (by show ¬ (BB ≤ q); omega) cwd2_0_0; have zx_0 : q < wx.heap.size := World.block_lt_of_cell? _ _ cx_0_0; have cx_1_0 : wx.cell? ⟨E, i, none⟩ = some (.slice va (szO (S.getD i none)) vc) := cell_kx gx (by show ¬ (BB ≤ E); omega) cwd2_1_0; have zx_1 : E < wx.heap.size := World.block_lt_of_cell? _ _ cx_1_0; clear gx; all_goals (apply Oe.pAt_of_quiet; intro K hK; go_big_quiet_op; first | exact hK _ rfl | (apply Exists.intro; refine ⟨fun _ => ?_, ?_⟩; (· fail); exact hK _ rfl))); try simp only [Act.put, List.setIfInBounds_toArray, List.set_cons_zero, List.set_cons_succ]))
        have OR1 := Lib.hid (row_gr OR3.out gwd2)
        refine Oe.wpO_call (by simp only [List.getElem?_toArray, List.getElem?_cons_succ, List.getElem?_cons_zero] <;> rfl) rfl ?_
        intro QS hQS
        refine (wpList_app rfl (.tmp 87) (.tmp 88) rfl BB (.slice (some ⟨wc.heap.size, 0, none⟩) 0 0) (.slice (some ad) m cap) [] L rfl OB.out rfl OR1.out (by rw [← HR0.out.2.2.2.1]; simp; omega) (Nat.le_trans sBB (Nat.le_trans sc swd2)) ?_)
        intro x7 we o7 g7
        have hhwe : Kx (fun k => BB ≤ k) wd2 we := (kx_grown g7).mono (fun k hk => by have e := Option.some.inj (show some wc.heap.size = some k from hk); show BB ≤ k; omega)
        refine hQS _ _ ⟨_, rfl, hhwe, ?_⟩
        clear hQS QS
        have cwe_0_0 : we.cell? ⟨q, 2, none⟩ = some (.slice (some ⟨E, 0, none⟩) len bc) := cell_kx hhwe (by show ¬ (BB ≤ q); omega) (by go_simp)
        have zwe_0 : q < we.heap.size := World.block_lt_of_cell? _ _ cwe_0_0
        have cwe_1_0 : we.cell? ⟨E, i, none⟩ = some (.slice va (szO (S.getD i none)) vc) := cell_kx hhwe (by show ¬ (BB ≤ E); omega) (by go_simp)
        have zwe_1 : E < we.heap.size := World.block_lt_of_cell? _ _ cwe_1_0
        have gwe : Gr w3 we := Kx.gr hhwe gwd2 (fun k hk => by have hk2 : BB ≤ k := hk; omega)
        have swe := hhwe.size
        clear gwd2 zwd2_0 cwd2_0_0 zwd2_1 cwd2_1_0
        clear hhwe
        try simp only [Act.put, List.setIfInBounds_toArray, List.set_cons_zero, List.set_cons_succ]
        repeat (first | (refine Oe.wpO_skip (by simp only [List.getElem?_toArray, List.getElem?_cons_succ, List.getElem?_cons_zero] <;> rfl) rfl ?_; simp only [Act.put, List.setIfInBounds_toArray, List.set_cons_zero, List.set_cons_succ]) | (refine Oe.wpO_pure (by simp only [List.getElem?_toArray, List.getElem?_cons_succ, List.getElem?_cons_zero] <;> rfl) rfl ?_; apply Exists.intro; refine ⟨?_, ?_⟩; (· intro wx gx; have cx_0_0 : wx.cell? ⟨q, 2, none⟩ = some (.slice (some ⟨E, 0, none⟩) len bc) := cell_kx gx (by show ¬ (BB ≤ q); omega) cwe_0_0; have zx_0 : q < wx.heap.size := World.block_lt_of_cell? _ _ cx_0_0; have cx_1_0 : wx.cell? ⟨E, i, none⟩ = some (.slice va (szO (S.getD i none)) vc) := cell_kx gx (by show ¬ (BB ≤ E); omega) cwe_1_0; have zx_1 : E < wx.heap.size := World.block_lt_of_cell? _ _ cx_1_0; clear gx; all_goals (apply Oe.pAt_of_quiet; intro K hK; go_big_quiet_op; first | exact hK _ rfl | (apply Exists.intro; refine ⟨fun _ => ?_, ?_⟩; (· fail); exact hK _ rfl))); try simp only [Act.put, List.setIfInBounds_toArray, List.set_cons_zero, List.set_cons_succ]))
        have OC : Hid (Own we BB x7 L) := Lib.hid (by simpa using o7)
        clear o7 g7 OB OR1
        refine Oe.wpO_nil (hKQ _ _ ?_)
        clear hKQ KQ
        simp only [List.drop_succ_cons, List.drop_zero]
        obtain ⟨xa, xc, rfl⟩ := own_form OC.out
        have R4 := refR_gr HR3.out gwe
        have R5 := refR_setB (k := i) (s := some L) (x := .slice xa L.length xc) HLT.out (rSl_new OC.out HBZ.out (by rw [← HR0.out.2.2.2.1]; exact hm400)) R4
        have fE := R4.row.frozenAt i
        have HR5 := Lib.hid R5
        clear R4 R5
        go_wp2_with fail
        go_ret2
        exact ⟨rfl, by
          rw [HS.out, if_neg tn3]
          exact refR_to HR5.out (by rw [List.length_set]; exact HR0.out.2.1) h60 (by rw [← set_hasV]; rfl) (fun j hj => by rw [show (if j = i then (some L : Sl) else S.getD j none) = (fun j => if j = i then (some L : Sl) else S.getD j none) j from rfl, set_getD S i (some L) (by rw [HR0.out.2.1]; exact HLT.out)])⟩
      · obtain rfl : i = len := by omega
        have ti : decide ((i : Int) < (i : Int)) = false := decide_eq_false (by omega)
        have ti3 : ¬ (i : Int) < (i : Int) := by omega
        have tn : ((i : Int) == (i : Int)) = true := by simp
        have tn2 : (i == i) = true := by simp
        rw [if_pos rfl] at c7
        have t7 : decide ((512 : Int) < (us : Int) + (m : Int) + 4) = false := decide_eq_false (by omega)
        have t7b : ¬ (512 : Int) < (us : Int) + (m : Int) + 4 := by omega
        have i60 : i < 60 := by omega
        obtain ⟨iH, hH0, hH1, hH2, hH3⟩ := info_parts (P := Tryd.prog) (e := 4) (z := .bool false) (size := 1) (bytes := 1) (by kernel_rfl)
        obtain ⟨iB, hB0, hB1, hB2, hB3⟩ := info_parts (P := Tryd.prog) (e := 35) (z := .slice none 0 0) (size := 1) (bytes := 24) (by kernel_rfl)
        have HIH := Lib.hid (And.intro hH0 (And.intro hH1 (And.intro hH2 hH3)))
        have HIB := Lib.hid (And.intro hB0 (And.intro hB1 (And.intro hB2 hB3)))
        clear hH0 hH1 hH2 hH3 hB0 hB1 hB2 hB3 c6 c7 c1
        obtain ⟨f1, f2, f3, f4⟩ := HF2.out
        go_wp2_with fail
        go_at_call 48
        refine (H2.out _ hg).mono ?_
        rintro e w1 ⟨rfl, g1⟩
        have G1 : Gr W w1 := Gr.trans gwr g1
        have k2 := cell_gr g1 q2
        have k3 := cell_gr g1 q3
        have sk3 := World.block_lt_of_cell? _ _ k3
        have HR1 := Lib.hid (refR_gr HR0.out.1 G1)
        have kq3 := (refR_cells HR1.out).2.2.2
        go_upto_region 13 with (at_builtin; (refine wpList_append_own2 _ rfl (.tmp 62) (.tmp 63) 64 rfl 0 4 iH (.bool false) 1 1 Tryd.underlying64 HIH.out.1 HIH.out.2.1 HIH.out.2.2.1 HIH.out.2.2.2 rfl (by decide) (.slice ha i hc) i (hasV S) rfl (rowOwn_gr HR1.out.has (by go_grown)) ⟨w1.heap.size, 0, none⟩ 1 1 [.bool true] rfl rfl (cell_one_new _ _ _) (by intro u hu; simp only [List.mem_cons, List.not_mem_nil, or_false] at hu; subst hu; rfl) (by clear f1 f2 f3 f4; unfold maxLen; omega) (by clear f1 f2 f3 f4; omega) (by simp) ?_); intro v2 w2 o2 g2; (obtain ⟨D2, cD, rfl, hD0, hD2, hcD, hcD2⟩ := row_form o2 (by omega)); (have GA : Gr w1 (w1.alloc (.cells #[.bool true] 4)) := (Below.refl _ _).alloc (Nat.le_refl _) _); (have hd2 := (refR_midH HR1.out GA g2).1); (have z3 := Hm.cell_of_heap hd2 3); (have zf3 := Hm.frozen_of_heap hd2 3); (have zq := (Array.getElem?_eq_some_iff.1 hd2).1); (have HR2 := Lib.hid (refR_growH HR1.out GA o2 g2)); clear o2 g2 GA hd2)
        generalize w2.setCell ⟨q, 3, none⟩ (.slice (some ⟨D2, 0, none⟩) (i + 1) cD) = w4 at HR2 ⊢
        obtain ⟨y2, y3, -, -⟩ := refR_cells HR2.out
        have yq := refR_q HR2.out
        clear z3 zf3 zq k2 k3 kq3
        go_upto_region 14 with (at_builtin; (refine wpList_append_own2 _ rfl (.tmp 71) (.tmp 72) 80 rfl 0 35 iB (.slice none 0 0) 1 24 Tryd.underlying80 HIB.out.1 HIB.out.2.1 HIB.out.2.2.1 HIB.out.2.2.2 rfl (by decide) (.slice ba i bc) i xs rfl (rowOwn_gr HR2.out.row (by go_grown)) ⟨w4.heap.size, 0, none⟩ 1 1 [.slice none 0 0] rfl rfl (cell_one_new _ _ _) (by intro u hu; simp only [List.mem_cons, List.not_mem_nil, or_false] at hu; subst hu; rfl) (by clear f1 f2 f3 f4; unfold maxLen; omega) (by clear f1 f2 f3 f4; omega) (by simp) ?_); intro v5 w5 o5 g5; (obtain ⟨E2, cE, rfl, hE0, hE2, hcE, hcE2⟩ := row_form o5 (by omega)); (have GA : Gr w4 (w4.alloc (.cells #[.slice none 0 0] 35)) := (Below.refl _ _).alloc (Nat.le_refl _) _); (have hd5 := (refR_midB HR2.out GA g5).1); (have z2 := Hm.cell_of_heap hd5 2); (have zf2 := Hm.frozen_of_heap hd5 2); (have zq := (Array.getElem?_eq_some_iff.1 hd5).1); (have HR4 := Lib.hid (refR_growB (s := none) HR2.out GA o5 g5 rfl)); clear o5 g5 GA hd5)
        generalize w5.setCell ⟨q, 2, none⟩ (.slice (some ⟨E2, 0, none⟩) (i + 1) cE) = w6 at HR4 ⊢
        obtain ⟨y4, y5, -, -⟩ := refR_cells HR4.out
        have yq6 := refR_q HR4.out
        have hlenV : (hasV S).length = i := by unfold hasV; rw [List.length_map]; exact HR0.out.2.1
        have hxs : xs.length = i := by have := HR2.out.row.1; clear f1 f2 f3 f4; omega
        have d1 := HR4.out.has.cellAt i (by clear f1 f2 f3 f4; omega)
        rw [List.getElem?_append_right (by rw [hlenV]; exact Nat.le_refl _), hlenV, Nat.sub_self] at d1
        have d1b : w6.cell? ⟨D2, i, none⟩ = some (.bool true) := d1
        have d2 := HR4.out.has.frozenAt i
        have sD1 := (World.ownsRow.lt HR4.out.has D2 rfl).2
        have ti6 : (i : Int) < (i : Int) + 1 := by clear f1 f2 f3 f4; omega
        have ti7 : i < i + 1 := Nat.lt_succ_self i
        have HR6 := Lib.hid (refR_setH (k := i) (.bool true) HR4.out)
        have HLV := Lib.hid hlenV
        clear z2 zf2 zq y2 y3 yq d1 hlenV hxs
        go_upto_region 15 with fail
        generalize w6.setCell ⟨D2, i, none⟩ (.bool true) = w3 at HR6 ⊢
        have HR3 := HR6
        clear f1 f2 f3 f4 d1b d2 sD1 y4 y5 yq6 HR1 HR2 HR4 HR6
        go_upto_region 15 with fail
        obtain ⟨BB, hBB⟩ : ∃ x, x = w3.heap.size := ⟨_, rfl⟩
        have sBB : BB ≤ w3.heap.size := by rw [hBB]; exact Nat.le_refl _
        have hWB : w3.heap.size ≤ BB := by rw [hBB]; exact Nat.le_refl _
        have HBZ := Lib.hid (show ∀ k, Z k → k < BB from fun k hk => by rw [hBB]; exact Nat.lt_of_lt_of_le (HR0.out.2.2.1 k hk) (refR_size HR3.out))
        have qB : q < BB := by rw [hBB]; exact refR_q HR3.out
        have eB : E2 < BB := by rw [hBB]; exact (World.ownsRow.lt HR3.out.row E2 rfl).2
        have OR3 := Lib.hid (row_oth3 HR0.out.2.2.2.2 HR3.out)
        obtain ⟨x2, x3, x4, x5⟩ := refR_cells HR3.out
        obtain ⟨v0, ev, rv⟩ := HR3.out.sl i (Nat.lt_succ_self i)
        obtain ⟨va, vc, rfl⟩ := rSl_val rv
        have y1 := HR3.out.row.cellAt i (by omega)
        rw [ev] at y1
        clear hBB ev rv x3 x4 x5
        go_wp2_with fail
        try simp only [List.append]
        refine Oe.wp_region_ordT (R := Kx (fun k => BB ≤ k)) 8 [(0, false), (1, false), (2, false), (3, false), (4, false), (6, false), (5, true), (7, true)] (by kernel_rfl) (by kernel_rfl) ?_
        intro wc hwc KQ hKQ
        have hhwc := Kx.of_gr (S := (fun k => BB ≤ k)) hwc
        have cwc_0_0 : wc.cell? ⟨q, 2, none⟩ = some (.slice (some ⟨E2, 0, none⟩) (i + 1) cE) := cell_kx hhwc (by show ¬ (BB ≤ q); omega) (by go_simp)
        have zwc_0 : q < wc.heap.size := World.block_lt_of_cell? _ _ cwc_0_0
        have cwc_1_0 : wc.cell? ⟨E2, i, none⟩ = some (.slice va (szO ((fun j => if j = i then (none : Sl) else S.getD j none) i)) vc) := cell_kx hhwc (by show ¬ (BB ≤ E2); omega) (by go_simp)
        have zwc_1 : E2 < wc.heap.size := World.block_lt_of_cell? _ _ cwc_1_0
        have gwc : Gr w3 wc := Kx.gr hhwc (by go_grown) (fun k hk => by have hk2 : BB ≤ k := hk; omega)
        have swc := hhwc.size
        skip
        clear hhwc
        repeat (first | (refine Oe.wpO_skip (by simp only [List.getElem?_toArray, List.getElem?_cons_succ, List.getElem?_cons_zero] <;> rfl) rfl ?_; simp only [Act.put, List.setIfInBounds_toArray, List.set_cons_zero, List.set_cons_succ]) | (refine Oe.wpO_pure (by simp only [List.getElem?_toArray, List.getElem?_cons_succ, List.getElem?_cons_zero] <;> rfl) rfl ?_; apply Exists.intro; refine ⟨?_, ?_⟩; (· intro wx gx; have cx_0_0 : wx.cell? ⟨q, 2, none⟩ = some (.slice (some ⟨E2, 0, none⟩) (i + 1) cE) := cell_kx gx (by show ¬ (BB ≤ q); omega) cwc_0_0; have zx_0 : q < wx.heap.size := World.block_lt_of_cell? _ _ cx_0_0; have cx_1_0 : wx.cell? ⟨E2, i, none⟩ = some (.slice va (szO ((fun j => if j = i then (none : Sl) else S.getD j none) i)) vc) := cell_kx gx (by show ¬ (BB ≤ E2); omega) cwc_1_0; have zx_1 : E2 < wx.heap.size := World.block_lt_of_cell? _ _ cx_1_0; clear gx; all_goals (apply Oe.pAt_of_quiet; intro K hK; go_big_quiet_op; first | exact hK _ rfl | (apply Exists.intro; refine ⟨fun _ => ?_, ?_⟩; (· fail); exact hK _ rfl))); try simp only [Act.put, List.setIfInBounds_toArray, List.set_cons_zero, List.set_cons_succ]))
        have sc := swc
        refine Oe.wpO_call (by simp only [List.getElem?_toArray, List.getElem?_cons_succ, List.getElem?_cons_zero] <;> rfl) rfl ?_
        intro QS hQS
        go_wp2_with fail
        first | (apply Exists.intro; refine ⟨?_, Kx.of_gr (by go_grown), ?_⟩; (· simp only [Act.put, List.setIfInBounds_toArray, List.set_cons_zero, List.set_cons_succ]; rfl)) | (refine ⟨Kx.of_gr (by go_grown), ?_⟩)
        generalize hhwd2 : (wc.alloc (.cells #[] 5)) = wd2
        have hwd2 : Gr wc wd2 := by subst hhwd2; go_grown
        have cwd2_0_0 : wd2.cell? ⟨q, 2, none⟩ = some (.slice (some ⟨E2, 0, none⟩) (i + 1) cE) := by subst hhwd2; go_simp
        have zwd2_0 : q < wd2.heap.size := World.block_lt_of_cell? _ _ cwd2_0_0
        have cwd2_1_0 : wd2.cell? ⟨E2, i, none⟩ = some (.slice va (szO ((fun j => if j = i then (none : Sl) else S.getD j none) i)) vc) := by subst hhwd2; go_simp
        have zwd2_1 : E2 < wd2.heap.size := World.block_lt_of_cell? _ _ cwd2_1_0
        have gwd2 : Gr w3 wd2 := Gr.trans (by have gg := gwc; have gs := gg.size; go_grown) hwd2
        have swd2 := hwd2.size
        have OB : Hid (Own wd2 BB (.slice (some ⟨wc.heap.size, 0, none⟩) 0 0) []) := Lib.hid (by subst hhwd2; exact own_base (World.ownsRow_lit (base := wc.heap.size) (e := 5) (size := 1) wc #[] 0 (Nat.le_refl _) (by decide) (by simp)) (Nat.le_trans sBB sc))
        clear hhwd2 gwc zwc_0 cwc_0_0 zwc_1 cwc_1_0
        try simp only [Act.put, List.setIfInBounds_toArray, List.set_cons_zero, List.set_cons_succ]
        repeat (first | (refine Oe.wpO_skip (by simp only [List.getElem?_toArray, List.getElem?_cons_succ, List.getElem?_cons_zero] <;> rfl) rfl ?_; simp only [Act.put, List.setIfInBounds_toArray, List.set_cons_zero, List.set_cons_succ]) | (refine Oe.wpO_pure (by simp only [List.getElem?_toArray, List.getElem?_cons_succ, List.getElem?_cons_zero] <;> rfl) rfl ?_; apply Exists.intro; refine ⟨?_, ?_⟩; (· intro wx gx; have cx_0_0 : wx.cell? ⟨q, 2, none⟩ = some (.slice (some ⟨E2, 0, none⟩) (i + 1) cE) := cell_kx gx (by show ¬ (BB ≤ q); omega) cwd2_0_0; have zx_0 : q < wx.heap.size := World.block_lt_of_cell? _ _ cx_0_0; have cx_1_0 : wx.cell? ⟨E2, i, none⟩ = some (.slice va (szO ((fun j => if j = i then (none : Sl) else S.getD j none) i)) vc) := cell_kx gx (by show ¬ (BB ≤ E2); omega) cwd2_1_0; have zx_1 : E2 < wx.heap.size := World.block_lt_of_cell? _ _ cx_1_0; clear gx; all_goals (apply Oe.pAt_of_quiet; intro K hK; go_big_quiet_op; first | exact hK _ rfl | (apply Exists.intro; refine ⟨fun _ => ?_, ?_⟩; (· fail); exact hK _ rfl))); try simp only [Act.put, List.setIfInBounds_toArray, List.set_cons_zero, List.set_cons_succ]))
        have OR1 := Lib.hid (row_gr OR3.out gwd2)
        refine Oe.wpO_call (by simp only [List.getElem?_toArray, List.getElem?_cons_succ, List.getElem?_cons_zero] <;> rfl) rfl ?_
        intro QS hQS
        refine (wpList_app rfl (.tmp 87) (.tmp 88) rfl BB (.slice (some ⟨wc.heap.size, 0, none⟩) 0 0) (.slice (some ad) m cap) [] L rfl OB.out rfl OR1.out (by rw [← HR0.out.2.2.2.1]; simp; omega) (Nat.le_trans sBB (Nat.le_trans sc swd2)) ?_)
        intro x7 we o7 g7
        have hhwe : Kx (fun k => BB ≤ k) wd2 we := (kx_grown g7).mono (fun k hk => by have e := Option.some.inj (show some wc.heap.size = some k from hk); show BB ≤ k; omega)
        refine hQS _ _ ⟨_, rfl, hhwe, ?_⟩
        clear hQS QS
        have cwe_0_0 : we.cell? ⟨q, 2, none⟩ = some (.slice (some ⟨E2, 0, none⟩) (i + 1) cE) := cell_kx hhwe (by show ¬ (BB ≤ q); omega) (by go_simp)
        have zwe_0 : q < we.heap.size := World.block_lt_of_cell? _ _ cwe_0_0
        have cwe_1_0 : we.cell? ⟨E2, i, none⟩ = some (.slice va (szO ((fun j => if j = i then (none : Sl) else S.getD j none) i)) vc) := cell_kx hhwe (by show ¬ (BB ≤ E2); omega) (by go_simp)
        have zwe_1 : E2 < we.heap.size := World.block_lt_of_cell? _ _ cwe_1_0
        have gwe : Gr w3 we := Kx.gr hhwe gwd2 (fun k hk => by have hk2 : BB ≤ k := hk; omega)
        have swe := hhwe.size
        clear gwd2 zwd2_0 cwd2_0_0 zwd2_1 cwd2_1_0
        clear hhwe
        try simp only [Act.put, List.setIfInBounds_toArray, List.set_cons_zero, List.set_cons_succ]
        repeat (first | (refine Oe.wpO_skip (by simp only [List.getElem?_toArray, List.getElem?_cons_succ, List.getElem?_cons_zero] <;> rfl) rfl ?_; simp only [Act.put, List.setIfInBounds_toArray, List.set_cons_zero, List.set_cons_succ]) | (refine Oe.wpO_pure (by simp only [List.getElem?_toArray, List.getElem?_cons_succ, List.getElem?_cons_zero] <;> rfl) rfl ?_; apply Exists.intro; refine ⟨?_, ?_⟩; (· intro wx gx; have cx_0_0 : wx.cell? ⟨q, 2, none⟩ = some (.slice (some ⟨E2, 0, none⟩) (i + 1) cE) := cell_kx gx (by show ¬ (BB ≤ q); omega) cwe_0_0; have zx_0 : q < wx.heap.size := World.block_lt_of_cell? _ _ cx_0_0; have cx_1_0 : wx.cell? ⟨E2, i, none⟩ = some (.slice va (szO ((fun j => if j = i then (none : Sl) else S.getD j none) i)) vc) := cell_kx gx (by show ¬ (BB ≤ E2); omega) cwe_1_0; have zx_1 : E2 < wx.heap.size := World.block_lt_of_cell? _ _ cx_1_0; clear gx; all_goals (apply Oe.pAt_of_quiet; intro K hK; go_big_quiet_op; first | exact hK _ rfl | (apply Exists.intro; refine ⟨fun _ => ?_, ?_⟩; (· fail); exact hK _ rfl))); try simp only [Act.put, List.setIfInBounds_toArray, List.set_cons_zero, List.set_cons_succ]))
        have OC : Hid (Own we BB x7 L) := Lib.hid (by simpa using o7)
        clear o7 g7 OB OR1
        refine Oe.wpO_nil (hKQ _ _ ?_)
        clear hKQ KQ
        simp only [List.drop_succ_cons, List.drop_zero]
        obtain ⟨xa, xc, rfl⟩ := own_form OC.out
        have R4 := refR_gr HR3.out gwe
        have R5 := refR_setB (k := i) (s := some L) (x := .slice xa L.length xc) (Nat.lt_succ_self i) (rSl_new OC.out HBZ.out (by rw [← HR0.out.2.2.2.1]; exact hm400)) R4
        have fE := R4.row.frozenAt i
        have HR5 := Lib.hid R5
        clear R4 R5
        go_wp2_with fail
        go_ret2
        exact ⟨rfl, by
          rw [HS.out]
          first | rw [if_pos rfl] | rw [if_pos trivial]
          refine refR_to HR5.out (by rw [List.length_append, HR0.out.2.1]; rfl) i60 ?_ (fun j hj => ?_)
          · unfold hasV
            rw [List.map_append]
            apply List.ext_getElem?
            intro j
            rw [List.getElem?_set]
            by_cases e : i = j
            · subst e
              rw [if_pos rfl, if_pos (by rw [List.length_append, HLV.out]; exact Nat.lt_succ_self _), List.getElem?_append_right (by rw [HLV.out]; exact Nat.le_refl _), HLV.out, Nat.sub_self]
              rfl
            · rw [if_neg e]; rfl
          · rw [getD_append, HR0.out.2.1]
            by_cases e : j = i
            · rw [if_pos e, if_pos e]
            · rw [if_neg e, if_neg e, if_neg e]⟩
end
end Go.Proofs.YtilijbplfobneaaDoor
