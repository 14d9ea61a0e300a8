/- the document's page: Set, Insert -/
import Derived.Test.YtilijbplfobneaaDoorMm
namespace Go.Proofs.YtilijbplfobneaaDoor
set_option linter.unusedVariables false
set_option linter.unusedSimpArgs false
open Go.ChangeShapes Go.WideShapes Go.ChangeAt Go.RowKit

section
variable {base q : Nat} {Z : Nat → Prop} {kd id : Int} {S : List Sl} {bv hv : Value} {xs : List Value}
theorem r_set_none (n : Int) (ad : Option Addr) (m cap : Nat) (hh : hasS S n = false) (W : World) (h : RefP base W q Z kd id S bv hv xs) :
    Calls Tryd.prog 15 #[.pointer (some ⟨q, 0, none⟩), .int .i64 n, .slice ad m cap] W fun e w' => e = .returned (.int .i64 15) ∧ Gr W w' := by
  have A1 := fun w (g : Gr W w) => r_is n w (refP_gr h g)
  rw [hh] at A1
  clear h hh
  have H1 := Lib.hid A1
  clear A1
  go_enter Tryd.func15, Tryd.ntmps15
  go_wp2_with fail
  go_at_call 50
  refine (H1.out _ (by go_grown)).mono ?_
  rintro e w1 ⟨rfl, g1⟩
  go_wp2_with fail
  go_ret
  exact ⟨rfl, g1⟩
theorem set_facts {us z m : Nat} (h1 : us ≤ 30000) (h2 : z ≤ us) (h3 : m ≤ 1000) : wrap64 ((us : Int) - (z : Int)) = (us : Int) - (z : Int) ∧ IntKind.i64.wrap ((us : Int) - (z : Int)) = (us : Int) - (z : Int) ∧ wrap64 ((us : Int) - (z : Int) + (m : Int)) = (us : Int) - (z : Int) + (m : Int) ∧ IntKind.i64.wrap ((us : Int) - (z : Int) + (m : Int)) = (us : Int) - (z : Int) + (m : Int) :=
  ⟨wr_small (by omega), wk_small (by omega), wr_small (by omega), wk_small (by omega)⟩
theorem szT_le_us (S : List Sl) {n : Nat} (hn : n < S.length) : szO (S.getD n none) ≤ usS S := by
  have h1 := szT_mono S (show n + 1 ≤ S.length by omega)
  have h2 : szT S (n + 1) = szT S n + szO (S.getD n none) := rfl
  unfold usS
  omega
theorem usS_le2 {w : World} (h : RefP base w q Z kd id S bv hv xs) : usS S ≤ 30000 := by
  have hZ := refP_sz h
  have h4 := h.le
  have := szT_le hZ S.length
  unfold usS
  omega
/-- Bytes of the page's own, as one of its slots. -/
theorem rSl_new {w : World} {B : Nat} {v : Value} {L : List UInt8} (o : Own w B v L) (hz : ∀ k, Z k → k < B) (hl : L.length ≤ 400) : RSl w Z (some L) v := ⟨rowOff_own o hz, hl⟩
set_option maxHeartbeats 4000000 in
set_option maxRecDepth 100000 in
theorem r_set {L : List UInt8} (n m cap : Nat) (ad : Addr) (hh : (S.getD n none).isSome = true) (hm : m = L.length) (he : reS S n m = 0) (W : World) (h : RefP base W q Z kd id S bv hv xs) (hz : ∀ k, Z k → k < W.heap.size) (hb : base ≤ W.heap.size) (hR : Row W (.slice (some ad) m cap) L) :
    Calls Tryd.prog 15 #[.pointer (some ⟨q, 0, none⟩), .int .i64 n, .slice (some ad) m cap] W fun e w' => e = .returned (.int .i64 0) ∧ RefTo base W q Z kd id (S.set n (some L)) w' := by
  have hlt := has_lt hh
  have A1 := fun w (g : Gr W w) => r_is (n : Int) w (refP_gr h g)
  have A2 := fun w (g : Gr W w) => r_used w (refP_gr h g)
  rw [hasS_nat, hh] at A1
  have h60 := h.le
  have hus := usS_le2 h
  have hzu := szT_le_us S hlt
  have hm4 : m ≤ 400 ∧ ¬ 512 + szO (S.getD n none) < usS S + m := by
    unfold reS at he
    by_cases h1 : 400 < m
    · rw [if_pos h1] at he; omega
    · rw [if_neg h1, if_neg (by omega)] at he
      rw [if_neg (show ¬ n = S.length by omega)] at he
      refine ⟨by omega, fun h2 => ?_⟩
      rw [if_pos (by omega)] at he
      omega
  have R0 := refR_of h hz hb
  obtain ⟨D, E, ha, ba, hc, bc, rfl, rfl, hp, l1, l2, m1, m2, hcc⟩ := refP_rows h
  obtain ⟨rfl, rfl, sD, sE⟩ := hp (by omega)
  obtain ⟨-, -, -, va, vc, ec, -⟩ := hcc n hlt
  obtain ⟨sq, -, -, c2, -, -, -⟩ := refP_cells h
  have u2 : (n : Int) < (S.length : Int) := by omega
  have u3 : (0 : Int) ≤ (n : Int) := by omega
  have u4 : (n : Int) < (bc : Int) := by omega
  have t1 : decide ((400 : Int) < (m : Int)) = false := decide_eq_false (by omega)
  have hTo : hasV (S.set n (some L)) = hasV S := by
    rw [← set_hasV]
    apply List.ext_getElem?
    intro j
    rw [List.getElem?_set]
    by_cases e : n = j
    · subst e
      rw [if_pos rfl, if_pos (by simpa using hlt), hasV_get S n hlt, hh]; rfl
    · rw [if_neg e]
  have HR0 := Lib.hid (And.intro R0 (And.intro hlt (And.intro h60 (And.intro hTo (And.intro hz (And.intro hm hR))))))
  obtain ⟨len, hlen⟩ : ∃ len, S.length = len := ⟨_, rfl⟩
  have HLL := Lib.hid (And.intro hlen hlt)
  generalize szO (S.getD n none) = z at *
  generalize usS S = us at *
  have tz : decide ((512 : Int) < (us : Int) - (z : Int) + (m : Int)) = false := decide_eq_false (by omega)
  have tz2 : ¬ (512 : Int) < (us : Int) - (z : Int) + (m : Int) := by omega
  have hm1000 : m ≤ 1000 := by omega
  have hmb : m ≤ 400 := hm4.1
  obtain ⟨f1, f2, f3, f4⟩ := set_facts hus hzu hm1000
  clear h hh hp R0 hcc hlt h60 hTo hz hm hR hm4 he hus hzu
  rw [hlen] at u2 l1 l2 HR0 c2
  clear hlen
  have H1 := Lib.hid A1
  have H2 := Lib.hid A2
  clear A1 A2
  go_enter Tryd.func15, Tryd.ntmps15
  go_wp2_with fail
  go_at_call 50
  refine (H1.out _ (by go_grown)).mono ?_
  rintro e w1 ⟨rfl, g1⟩
  have G1 : Gr W w1 := g1
  have k2 := cell_gr g1 c2
  have kE := cell_gr g1 ec
  clear g1 c2 ec sD sE sq
  go_upto_region 5 with fail
  have gw1 := G1
  go_wp2_with fail
  try simp only [List.append]
  refine Od.wp_region_ord [(0, false), (2, false), (3, false), (4, false), (5, false), (6, false), (7, false), (8, false), (9, false), (11, false), (12, false), (1, true), (10, false), (13, false), (14, false)] (by kernel_rfl) (by kernel_rfl) ?_
  intro wa hwa KQ hKQ
  have cwa_0_0 : wa.cell? ⟨q, 2, none⟩ = some (.slice (some ⟨E, 0, none⟩) len bc) := cell_gr hwa (by go_simp)
  have zwa_0 : q < wa.heap.size := World.block_lt_of_cell? _ _ cwa_0_0
  have cwa_1_0 : wa.cell? ⟨E, n, none⟩ = some (.slice va z vc) := cell_gr hwa (by go_simp)
  have zwa_1 : E < wa.heap.size := World.block_lt_of_cell? _ _ cwa_1_0
  have gwa : Gr W wa := Gr.trans (by have gg := gw1; have gs := gg.size; go_grown) hwa
  clear gw1
  clear hwa
  repeat (first | (refine Od.wpO_skip (by simp only [List.getElem?_toArray, List.getElem?_cons_succ, List.getElem?_cons_zero] <;> rfl) rfl ?_; simp only [Act.put, List.setIfInBounds_toArray, List.set_cons_zero, List.set_cons_succ]) | (refine Od.wpO_pure (by simp only [List.getElem?_toArray, List.getElem?_cons_succ, List.getElem?_cons_zero] <;> rfl) rfl ?_; apply Exists.intro; refine ⟨?_, ?_⟩; (· intro wx gx; obtain ⟨mx, rfl⟩ := spread_of_gr gx; clear gx; all_goals (apply Od.pAt_of_quiet; intro K hK; go_big_quiet_op; first | exact hK _ rfl | (apply Exists.intro; refine ⟨fun _ => ?_, ?_⟩; (· fail); exact hK _ rfl))); try simp only [Act.put, List.setIfInBounds_toArray, List.set_cons_zero, List.set_cons_succ]))
  refine Od.wpO_call (by simp only [List.getElem?_toArray, List.getElem?_cons_succ, List.getElem?_cons_zero] <;> rfl) rfl ?_
  intro QS hQS
  go_wp2_with fail
  go_at_call 48
  (with_reducible refine ((H2.out _ gwa)).mono ?_)
  rintro e wb ⟨rfl, hwb⟩
  go_wp2_with fail
  apply Exists.intro
  refine ⟨?_, hwb, ?_⟩
  · simp only [Act.put, List.setIfInBounds_toArray, List.set_cons_zero, List.set_cons_succ]; rfl
  have cwb_0_0 : wb.cell? ⟨q, 2, none⟩ = some (.slice (some ⟨E, 0, none⟩) len bc) := cell_gr hwb (by go_simp)
  have zwb_0 : q < wb.heap.size := World.block_lt_of_cell? _ _ cwb_0_0
  have cwb_1_0 : wb.cell? ⟨E, n, none⟩ = some (.slice va z vc) := cell_gr hwb (by go_simp)
  have zwb_1 : E < wb.heap.size := World.block_lt_of_cell? _ _ cwb_1_0
  have gwb : Gr W wb := Gr.trans (by have gg := gwa; have gs := gg.size; go_grown) hwb
  clear gwa zwa_0 cwa_0_0 zwa_1 cwa_1_0
  clear hwb
  try simp only [Act.put, List.setIfInBounds_toArray, List.set_cons_zero, List.set_cons_succ]
  repeat (first | (refine Od.wpO_skip (by simp only [List.getElem?_toArray, List.getElem?_cons_succ, List.getElem?_cons_zero] <;> rfl) rfl ?_; simp only [Act.put, List.setIfInBounds_toArray, List.set_cons_zero, List.set_cons_succ]) | (refine Od.wpO_pure (by simp only [List.getElem?_toArray, List.getElem?_cons_succ, List.getElem?_cons_zero] <;> rfl) rfl ?_; apply Exists.intro; refine ⟨?_, ?_⟩; (· intro wx gx; obtain ⟨mx, rfl⟩ := spread_of_gr gx; clear gx; all_goals (apply Od.pAt_of_quiet; intro K hK; go_big_quiet_op; first | exact hK _ rfl | (apply Exists.intro; refine ⟨fun _ => ?_, ?_⟩; (· fail); exact hK _ rfl))); try simp only [Act.put, List.setIfInBounds_toArray, List.set_cons_zero, List.set_cons_succ]))
  refine Od.wpO_nil (hKQ _ _ ?_)
  clear hKQ KQ
  clear f1 f2 f3 f4
  go_upto_region 7 with fail
  have gwb1 := gwb
  obtain ⟨BB, hBB⟩ : ∃ x, x = wb.heap.size := ⟨_, rfl⟩
  have hWB : W.heap.size ≤ BB := by rw [hBB]; exact gwb.size
  have qB : q < BB := by rw [hBB]; exact zwb_0
  have eB : E < BB := by rw [hBB]; exact zwb_1
  have sBB : BB ≤ wb.heap.size := by rw [hBB]; exact Nat.le_refl _
  clear hBB
  go_wp2_with fail
  try simp only [List.append]
  refine Oe.wp_region_ordT (R := Kx (fun k => BB ≤ k)) 8 [(0, false), (1, false), (2, false), (3, false), (4, false), (6, false), (5, true), (7, true)] (by kernel_rfl) (by kernel_rfl) ?_
  intro wc hwc KQ hKQ
  have hhwc := Kx.of_gr (S := (fun k => BB ≤ k)) hwc
  have cwc_0_0 : wc.cell? ⟨q, 2, none⟩ = some (.slice (some ⟨E, 0, none⟩) len bc) := cell_kx hhwc (by show ¬ (BB ≤ q); omega) (by go_simp)
  have zwc_0 : q < wc.heap.size := World.block_lt_of_cell? _ _ cwc_0_0
  have cwc_1_0 : wc.cell? ⟨E, n, none⟩ = some (.slice va z vc) := cell_kx hhwc (by show ¬ (BB ≤ E); omega) (by go_simp)
  have zwc_1 : E < wc.heap.size := World.block_lt_of_cell? _ _ cwc_1_0
  have gwc : Gr W wc := Kx.gr hhwc (by have gg := gwb; have gs := gg.size; go_grown) (fun k hk => by have hk2 : BB ≤ k := hk; omega)
  have swc := hhwc.size
  clear gwb zwb_0 cwb_0_0 zwb_1 cwb_1_0
  clear hhwc
  repeat (first | (refine Oe.wpO_skip (by simp only [List.getElem?_toArray, List.getElem?_cons_succ, List.getElem?_cons_zero] <;> rfl) rfl ?_; simp only [Act.put, List.setIfInBounds_toArray, List.set_cons_zero, List.set_cons_succ]) | (refine Oe.wpO_pure (by simp only [List.getElem?_toArray, List.getElem?_cons_succ, List.getElem?_cons_zero] <;> rfl) rfl ?_; apply Exists.intro; refine ⟨?_, ?_⟩; (· intro wx gx; have cx_0_0 : wx.cell? ⟨q, 2, none⟩ = some (.slice (some ⟨E, 0, none⟩) len bc) := cell_kx gx (by show ¬ (BB ≤ q); omega) cwc_0_0; have zx_0 : q < wx.heap.size := World.block_lt_of_cell? _ _ cx_0_0; have cx_1_0 : wx.cell? ⟨E, n, none⟩ = some (.slice va z vc) := cell_kx gx (by show ¬ (BB ≤ E); omega) cwc_1_0; have zx_1 : E < wx.heap.size := World.block_lt_of_cell? _ _ cx_1_0; clear gx; all_goals (apply Oe.pAt_of_quiet; intro K hK; go_big_quiet_op; first | exact hK _ rfl | (apply Exists.intro; refine ⟨fun _ => ?_, ?_⟩; (· fail); exact hK _ rfl))); try simp only [Act.put, List.setIfInBounds_toArray, List.set_cons_zero, List.set_cons_succ]))
  have sc := swc
  refine Oe.wpO_call (by simp only [List.getElem?_toArray, List.getElem?_cons_succ, List.getElem?_cons_zero] <;> rfl) rfl ?_
  intro QS hQS
  go_wp2_with fail
  first | (apply Exists.intro; refine ⟨?_, Kx.of_gr (by go_grown), ?_⟩; (· simp only [Act.put, List.setIfInBounds_toArray, List.set_cons_zero, List.set_cons_succ]; rfl)) | (refine ⟨Kx.of_gr (by go_grown), ?_⟩)
  generalize hhwd2 : (wc.alloc (.cells #[] 5)) = wd2
  have hwd2 : Gr wc wd2 := by subst hhwd2; go_grown
  have cwd2_0_0 : wd2.cell? ⟨q, 2, none⟩ = some (.slice (some ⟨E, 0, none⟩) len bc) := by subst hhwd2; go_simp
  have zwd2_0 : q < wd2.heap.size := World.block_lt_of_cell? _ _ cwd2_0_0
  have cwd2_1_0 : wd2.cell? ⟨E, n, none⟩ = some (.slice va z vc) := by subst hhwd2; go_simp
  have zwd2_1 : E < wd2.heap.size := World.block_lt_of_cell? _ _ cwd2_1_0
  have gwd2 : Gr W wd2 := Gr.trans (by have gg := gwc; have gs := gg.size; go_grown) hwd2
  have swd2 := hwd2.size
  have OB : Hid (Own wd2 BB (.slice (some ⟨wc.heap.size, 0, none⟩) 0 0) []) := Lib.hid (by subst hhwd2; exact own_base (World.ownsRow_lit (base := wc.heap.size) (e := 5) (size := 1) wc #[] 0 (Nat.le_refl _) (by decide) (by simp)) (Nat.le_trans sBB sc))
  clear hhwd2 gwc zwc_0 cwc_0_0 zwc_1 cwc_1_0
  try simp only [Act.put, List.setIfInBounds_toArray, List.set_cons_zero, List.set_cons_succ]
  repeat (first | (refine Oe.wpO_skip (by simp only [List.getElem?_toArray, List.getElem?_cons_succ, List.getElem?_cons_zero] <;> rfl) rfl ?_; simp only [Act.put, List.setIfInBounds_toArray, List.set_cons_zero, List.set_cons_succ]) | (refine Oe.wpO_pure (by simp only [List.getElem?_toArray, List.getElem?_cons_succ, List.getElem?_cons_zero] <;> rfl) rfl ?_; apply Exists.intro; refine ⟨?_, ?_⟩; (· intro wx gx; have cx_0_0 : wx.cell? ⟨q, 2, none⟩ = some (.slice (some ⟨E, 0, none⟩) len bc) := cell_kx gx (by show ¬ (BB ≤ q); omega) cwd2_0_0; have zx_0 : q < wx.heap.size := World.block_lt_of_cell? _ _ cx_0_0; have cx_1_0 : wx.cell? ⟨E, n, none⟩ = some (.slice va z vc) := cell_kx gx (by show ¬ (BB ≤ E); omega) cwd2_1_0; have zx_1 : E < wx.heap.size := World.block_lt_of_cell? _ _ cx_1_0; clear gx; all_goals (apply Oe.pAt_of_quiet; intro K hK; go_big_quiet_op; first | exact hK _ rfl | (apply Exists.intro; refine ⟨fun _ => ?_, ?_⟩; (· fail); exact hK _ rfl))); try simp only [Act.put, List.setIfInBounds_toArray, List.set_cons_zero, List.set_cons_succ]))
  have OR1 := Lib.hid (row_gr HR0.out.2.2.2.2.2.2 gwd2)
  refine Oe.wpO_call (by simp only [List.getElem?_toArray, List.getElem?_cons_succ, List.getElem?_cons_zero] <;> rfl) rfl ?_
  intro QS hQS
  refine (wpList_app rfl (.tmp 34) (.tmp 35) rfl BB (.slice (some ⟨wc.heap.size, 0, none⟩) 0 0) (.slice (some ad) m cap) [] L rfl OB.out rfl OR1.out (by rw [← HR0.out.2.2.2.2.2.1]; simp; omega) (Nat.le_trans sBB (Nat.le_trans sc swd2)) ?_)
  intro x7 we o7 g7
  have hhwe : Kx (fun k => BB ≤ k) wd2 we := (kx_grown g7).mono (fun k hk => by have e := Option.some.inj (show some wc.heap.size = some k from hk); show BB ≤ k; omega)
  refine hQS _ _ ⟨_, rfl, hhwe, ?_⟩
  clear hQS QS
  have cwe_0_0 : we.cell? ⟨q, 2, none⟩ = some (.slice (some ⟨E, 0, none⟩) len bc) := cell_kx hhwe (by show ¬ (BB ≤ q); omega) (by go_simp)
  have zwe_0 : q < we.heap.size := World.block_lt_of_cell? _ _ cwe_0_0
  have cwe_1_0 : we.cell? ⟨E, n, none⟩ = some (.slice va z vc) := cell_kx hhwe (by show ¬ (BB ≤ E); omega) (by go_simp)
  have zwe_1 : E < we.heap.size := World.block_lt_of_cell? _ _ cwe_1_0
  have gwe : Gr W we := Kx.gr hhwe gwd2 (fun k hk => by have hk2 : BB ≤ k := hk; omega)
  have swe := hhwe.size
  clear gwd2 zwd2_0 cwd2_0_0 zwd2_1 cwd2_1_0
  clear hhwe
  try simp only [Act.put, List.setIfInBounds_toArray, List.set_cons_zero, List.set_cons_succ]
  repeat (first | (refine Oe.wpO_skip (by simp only [List.getElem?_toArray, List.getElem?_cons_succ, List.getElem?_cons_zero] <;> rfl) rfl ?_; simp only [Act.put, List.setIfInBounds_toArray, List.set_cons_zero, List.set_cons_succ]) | (refine Oe.wpO_pure (by simp only [List.getElem?_toArray, List.getElem?_cons_succ, List.getElem?_cons_zero] <;> rfl) rfl ?_; apply Exists.intro; refine ⟨?_, ?_⟩; (· intro wx gx; have cx_0_0 : wx.cell? ⟨q, 2, none⟩ = some (.slice (some ⟨E, 0, none⟩) len bc) := cell_kx gx (by show ¬ (BB ≤ q); omega) cwe_0_0; have zx_0 : q < wx.heap.size := World.block_lt_of_cell? _ _ cx_0_0; have cx_1_0 : wx.cell? ⟨E, n, none⟩ = some (.slice va z vc) := cell_kx gx (by show ¬ (BB ≤ E); omega) cwe_1_0; have zx_1 : E < wx.heap.size := World.block_lt_of_cell? _ _ cx_1_0; clear gx; all_goals (apply Oe.pAt_of_quiet; intro K hK; go_big_quiet_op; first | exact hK _ rfl | (apply Exists.intro; refine ⟨fun _ => ?_, ?_⟩; (· fail); exact hK _ rfl))); try simp only [Act.put, List.setIfInBounds_toArray, List.set_cons_zero, List.set_cons_succ]))
  have OC : Hid (Own we BB x7 L) := Lib.hid (by simpa using o7)
  clear o7 g7 OB OR1
  refine Oe.wpO_nil (hKQ _ _ ?_)
  clear hKQ KQ
  simp only [List.drop_succ_cons, List.drop_zero]
  obtain ⟨xa, xc, rfl⟩ := own_form OC.out
  have R1 := refR_gr HR0.out.1 gwe
  have R2 := refR_setB (k := n) (s := some L) (x := .slice xa L.length xc) HR0.out.2.1 (rSl_new OC.out (fun k hk => Nat.lt_of_lt_of_le (HR0.out.2.2.2.2.1 k hk) hWB) (by rw [← HR0.out.2.2.2.2.2.1]; exact hmb)) R1
  have fE := R1.row.frozenAt n
  have HR2 := Lib.hid R2
  clear R1 R2
  go_wp2_with fail
  go_ret
  exact ⟨rfl, refR_to HR2.out (by rw [List.length_set]; exact HLL.out.1) HR0.out.2.2.1 HR0.out.2.2.2.1 (fun j hj => by rw [show (if j = n then (some L : Sl) else S.getD j none) = (fun j => if j = n then (some L : Sl) else S.getD j none) j from rfl, set_getD S n (some L) HLL.out.2])⟩
end
end Go.Proofs.YtilijbplfobneaaDoor
