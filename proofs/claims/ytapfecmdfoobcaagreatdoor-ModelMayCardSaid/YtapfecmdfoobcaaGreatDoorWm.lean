/- model: Same of two maps that have the same -/
import Derived.Test.YtapfecmdfoobcaaGreatDoorWl
namespace Go.Proofs.YtapfecmdfoobcaaGreatDoor
set_option linter.unusedVariables false
set_option linter.unusedSimpArgs false
open Go.ChangeShapes Go.WideShapes Go.ChangeAt Go.RowKit Go.Maps Go.Sort

theorem own_ints {w : World} {base e : Nat} {v : Value} {l : List Int} (h : w.ownsRow base e 1 v l.length (l.map encZ)) : ∃ ad cap L, v = .slice ad l.length cap ∧ (0 < l.length → ad = some ⟨L, 0, none⟩) ∧ ∀ i, i < l.length → w.cell? ⟨L, i, none⟩ = some (.int .i64 (l.getD i 0)) := by
  rcases h.2 with ⟨hv, h0⟩ | ⟨g, cap, cur, rfl, hb, hg, hn', hc, hs, ht⟩
  · have e0 : l.length = 0 := by simpa using h0
    rw [e0]
    exact ⟨none, 0, 0, hv, fun h => absurd h (by omega), fun i hi => absurd hi (by omega)⟩
  · refine ⟨some ⟨g, 0, none⟩, cap, g, rfl, fun _ => rfl, fun i hi => ?_⟩
    rw [h.cellAt i (by omega), List.getElem?_map, List.getD_eq_getElem?_getD, List.getElem?_eq_getElem hi]
    rfl
theorem md_pLook {P : Program} {o : Oper} {a : Act} {w : World} (m x : Operand) (t : TypeId) (hop : o.op = Op.lookup t m x false)
    (k e : TypeId) (K : Keyed P k) (ht : P.underlying t = some (.map k e)) {z : Value} (hz : (zeroValue e).run P w = .ok z w) (b n : Nat) (D : DataW Value)
    (hm : a.eval m = .map (some b)) (hown : w.ownsMap P k heldE b n D) (key : Value) (kl : Lit) (hx : a.eval x = key) (hkey : keyOf P k key = some kl)
    (v : Value) (hv : ∀ z, D.atKey kl z = .held v) : Od.pAt P o a w v := by
  obtain ⟨v', ps, hrun, hr⟩ := hown.lookup K ht (zd := .held z) (zp := []) hz rfl hkey
  have e1 : (DataW.held v' : DataW Value) = .held v := by
    have := (Prod.mk.inj (Option.some.inj hr)).1
    rw [this]; exact hv _
  obtain rfl := DataW.held.inj e1
  unfold Od.pAt Oper.wp
  simp [execOp, hop, hm, hx, hrun, Result.andThen]
  rw [Oper.upon_value]
  exact ⟨rfl, rfl⟩
theorem mdAt_some {w : World} {Q N : Nat} {M : Option Nat} {σ : Int → Option MO} {z : Int} {o : MO} (h : MdAt w Q M σ N) (hz : i64R z) (ho : σ z = some o) : ∃ m D B c, M = some m ∧ w.ownsMap Tryz.prog 3 heldE m N D ∧ (∀ y, D.atKey (zk z) y = .held (.agg #[.int .i64 o.k, .slice (some ⟨B, 0, none⟩) o.n c])) ∧ 0 < o.n ∧ o.n ≤ 1000 ∧ Pts w (.slice (some ⟨B, 0, none⟩) o.n c) o.n o.X o.Y := by
  cases M with
  | none => rw [h.2.1 rfl z] at ho; cases ho
  | some m =>
    obtain ⟨D, hD, hA⟩ := h.2.2 m rfl
    obtain ⟨-, h1, h2, B, c, h3, h4⟩ := (hA z hz).2 o ho
    exact ⟨m, D, B, c, rfl, hD, h3, h1, h2, h4⟩
set_option maxHeartbeats 4000000 in
set_option maxRecDepth 100000 in
theorem md_sameEq {Q P N N' : Nat} {M M' : Option Nat} {σ : Int → Option MO} (hN : N ≤ 1000000) (W : World) (h : MdAt W Q M σ N) (h' : MdAt W P M' σ N') : Calls Tryz.prog 11 #[.pointer (some ⟨Q, 0, none⟩), .pointer (some ⟨P, 0, none⟩)] W fun e w' => e = .returned (.bool true) ∧ Gr W w' := by
  obtain ⟨l, hl, hln⟩ := ids_ex h
  have c0 : W.cell? ⟨Q, 0, none⟩ = some (.map M) := Hm.cell_of_heap h.1 0
  have d0 : W.cell? ⟨P, 0, none⟩ = some (.map M') := Hm.cell_of_heap h'.1 0
  have zQ := World.block_lt_of_cell? _ _ c0
  have zP := World.block_lt_of_cell? _ _ d0
  have hlen : (l.length : Int) ≤ 1000000 := by omega
  have AL := Lib.hid (fun w (g : Gr W w) => md_lenS hl w (mdAt_gr h g))
  have BL := Lib.hid (fun w (g : Gr W w) => md_lenS hl w (mdAt_gr h' g))
  have AI := Lib.hid (fun w (g : Gr W w) => md_idsS hl hN w (mdAt_gr h g))
  have HH := Lib.hid (And.intro h h')
  have HL := Lib.hid hl
  clear h h' hl
  go_enter Tryz.func11, Tryz.ntmps11
  go_wp2_with fail
  go_at_call 17
  refine ((AL.out _ (by go_grown))).mono ?_
  rintro e w1 ⟨rfl, hw1⟩
  have cw1_0_0 : w1.cell? ⟨Q, 0, none⟩ = some (.map M) := cell_gr hw1 (by go_simp)
  have zw1_0 : Q < w1.heap.size := World.block_lt_of_cell? _ _ cw1_0_0
  have cw1_1_0 : w1.cell? ⟨P, 0, none⟩ = some (.map M') := cell_gr hw1 (by go_simp)
  have zw1_1 : P < w1.heap.size := World.block_lt_of_cell? _ _ cw1_1_0
  have gw1 : Gr W w1 := Gr.trans (by go_grown) hw1
  clear hw1
  go_wp2_with fail
  go_at_call 17
  refine ((BL.out _ (by have gg := gw1; go_grown))).mono ?_
  rintro e w2 ⟨rfl, hw2⟩
  have cw2_0_0 : w2.cell? ⟨Q, 0, none⟩ = some (.map M) := cell_gr hw2 (by go_simp)
  have zw2_0 : Q < w2.heap.size := World.block_lt_of_cell? _ _ cw2_0_0
  have cw2_1_0 : w2.cell? ⟨P, 0, none⟩ = some (.map M') := cell_gr hw2 (by go_simp)
  have zw2_1 : P < w2.heap.size := World.block_lt_of_cell? _ _ cw2_1_0
  have gw2 : Gr W w2 := Gr.trans (by have gg := gw1; have gs := gg.size; go_grown) hw2
  clear hw2 gw1 zw1_0 cw1_0_0 zw1_1 cw1_1_0
  go_wp2_with fail
  go_at_call 22
  refine (AI.out _ (by have gg := gw2; go_grown)).mono ?_
  rintro e w3 ⟨v, rfl, hrow, g3⟩
  obtain ⟨ad, cap, L, rfl, hnil, hcell⟩ := own_ints hrow
  have gw3 : Gr W w3 := Gr.trans gw2 g3
  have HC := Lib.hid (And.intro hnil hcell)
  clear hrow hnil hcell cw2_0_0 cw2_1_0 zw2_0 zw2_1 gw2 g3
  go_wp2_with fail
  go_loopg [15] l.length (fun k x wr => ∃ i : Nat, x = .int .i64 i ∧ i ≤ l.length ∧ k = l.length - i ∧ Gr w3 wr)
  case atStart => exact ⟨0, rfl, Nat.zero_le _, by omega, Below.refl _ _⟩
  case round =>
    obtain ⟨i, rfl, hi, hk, g3r⟩ := hrel
    have gwr : Gr W wr := Gr.trans gw3 g3r
    by_cases hlt : i < l.length
    · have ti : decide ((i : Int) < (l.length : Int)) = true := decide_eq_true (by omega)
      have ti2 : decide (i < l.length) = true := decide_eq_true hlt
      have ti3 : (i : Int) < (l.length : Int) := by omega
      have hii : (i : Int) ≤ 1000000 := by omega
      have hmm : l.length - (i + 1) < gk := by omega
      obtain rfl := HC.out.1 (by omega)
      have s0 := cell_gr g3r (HC.out.2 i hlt)
      have hz : l.getD i 0 ∈ l := by rw [List.getD_eq_getElem?_getD, List.getElem?_eq_getElem hlt]; exact List.getElem_mem hlt
      obtain ⟨hzi, hzs⟩ := (HL.out.2 _).1 hz
      generalize l.getD i 0 = z at s0 hz hzi hzs
      have hzL := World.block_lt_of_cell? _ _ s0
      obtain ⟨o, ho⟩ := Option.isSome_iff_exists.1 hzs
      obtain ⟨m, D, B, c, rfl, hD, hv, on, on2, hp⟩ := mdAt_some HH.out.1 hzi ho
      obtain ⟨m', D', B', c', rfl, hD', hv', on', on2', hp'⟩ := mdAt_some HH.out.2 hzi ho
      have AH := Lib.hid (fun w (g : Gr W w) => show Calls Tryz.prog 19 #[.pointer (some ⟨P, 0, none⟩), .int .i64 z] w (fun e w' => e = .returned (.bool true) ∧ Gr w w') from by
        have := md_has hzi w (mdAt_gr HH.out.2 g)
        rwa [hzs] at this)
      have AS := Lib.hid (fun w (g : Gr W w) => md_oSame (k := o.k) (j := o.k) true w (pts_gr hp g) (pts_gr hp' g) (by omega) (iff_of_true rfl ⟨rfl, rfl, fun _ _ => ⟨rfl, rfl⟩⟩))
      have HD := Lib.hid (And.intro hD (And.intro hv (And.intro hD' hv')))
      have HZ := Lib.hid hzi
      obtain ⟨ok, oN, oX, oY⟩ := o
      clear hD hD' hv hv' hp hp' ho hzs hz hzi on on2 on' on2'
      have q0 : wr.cell? ⟨Q, 0, none⟩ = some (.map (some m)) := cell_gr gwr (Hm.cell_of_heap HH.out.1.1 0)
      have q1 : wr.cell? ⟨P, 0, none⟩ = some (.map (some m')) := cell_gr gwr (Hm.cell_of_heap HH.out.2.1 0)
      go_wp2_with fail
      go_wp2_with fail
      try simp only [List.append]
      refine Od.wp_region_ord [(0, false), (1, false), (2, true), (3, false), (4, false), (5, false), (6, false), (7, false), (8, false), (9, false), (10, false), (11, false), (12, false), (13, false), (14, false), (15, false), (16, false), (17, true), (18, false), (19, false)] (by kernel_rfl) (by kernel_rfl) ?_
      intro wa hwa KQ hKQ
      have cwa_0_0 : wa.cell? ⟨Q, 0, none⟩ = some (.map (some m)) := cell_gr hwa (by go_simp)
      have zwa_0 : Q < wa.heap.size := World.block_lt_of_cell? _ _ cwa_0_0
      have cwa_1_0 : wa.cell? ⟨P, 0, none⟩ = some (.map (some m')) := cell_gr hwa (by go_simp)
      have zwa_1 : P < wa.heap.size := World.block_lt_of_cell? _ _ cwa_1_0
      have gwa : Gr wr wa := Gr.trans (by go_grown) hwa
      skip
      clear hwa
      repeat (first | (refine Od.wpO_skip (by simp only [List.getElem?_toArray, List.getElem?_cons_succ, List.getElem?_cons_zero] <;> rfl) rfl ?_; simp only [Act.put, List.setIfInBounds_toArray, List.set_cons_zero, List.set_cons_succ]) | (refine Od.wpO_pure (by simp only [List.getElem?_toArray, List.getElem?_cons_succ, List.getElem?_cons_zero] <;> rfl) rfl ?_; apply Exists.intro; refine ⟨?_, ?_⟩; (· intro wx gx; obtain ⟨mx, rfl⟩ := spread_of_gr gx; clear gx; all_goals (apply Od.pAt_of_quiet; intro K hK; go_big_quiet_op; first | exact hK _ rfl | (apply Exists.intro; refine ⟨fun _ => ?_, ?_⟩; (· fail); exact hK _ rfl))); try simp only [Act.put, List.setIfInBounds_toArray, List.set_cons_zero, List.set_cons_succ]))
      refine Od.wpO_call (by simp only [List.getElem?_toArray, List.getElem?_cons_succ, List.getElem?_cons_zero] <;> rfl) rfl ?_
      intro QS hQS
      go_wp2_with fail
      go_at_call 19
      (with_reducible refine ((AH.out _ (Gr.trans gwr gwa))).mono ?_)
      rintro e wb ⟨rfl, hwb⟩
      go_wp2_with fail
      apply Exists.intro
      refine ⟨?_, hwb, ?_⟩
      · simp only [Act.put, List.setIfInBounds_toArray, List.set_cons_zero, List.set_cons_succ]; rfl
      have cwb_0_0 : wb.cell? ⟨Q, 0, none⟩ = some (.map (some m)) := cell_gr hwb (by go_simp)
      have zwb_0 : Q < wb.heap.size := World.block_lt_of_cell? _ _ cwb_0_0
      have cwb_1_0 : wb.cell? ⟨P, 0, none⟩ = some (.map (some m')) := cell_gr hwb (by go_simp)
      have zwb_1 : P < wb.heap.size := World.block_lt_of_cell? _ _ cwb_1_0
      have gwb : Gr wr wb := Gr.trans (by have gg := gwa; have gs := gg.size; go_grown) hwb
      clear gwa zwa_0 cwa_0_0 zwa_1 cwa_1_0
      clear hwb
      try simp only [Act.put, List.setIfInBounds_toArray, List.set_cons_zero, List.set_cons_succ]
      repeat (first | (refine Od.wpO_skip (by simp only [List.getElem?_toArray, List.getElem?_cons_succ, List.getElem?_cons_zero] <;> rfl) rfl ?_; simp only [Act.put, List.setIfInBounds_toArray, List.set_cons_zero, List.set_cons_succ]) | (refine Od.wpO_pure (by simp only [List.getElem?_toArray, List.getElem?_cons_succ, List.getElem?_cons_zero] <;> rfl) rfl ?_; apply Exists.intro; refine ⟨?_, ?_⟩; (· intro wx gx; obtain ⟨mx, rfl⟩ := spread_of_gr gx; clear gx; all_goals (apply Od.pAt_of_quiet; intro K hK; go_big_quiet_op; first | exact hK _ rfl | (apply Exists.intro; refine ⟨fun _ => ?_, ?_⟩; (· fail); exact hK _ rfl))); try simp only [Act.put, List.setIfInBounds_toArray, List.set_cons_zero, List.set_cons_succ]))
      refine Od.wpO_pure (by simp only [List.getElem?_toArray, List.getElem?_cons_succ, List.getElem?_cons_zero] <;> rfl) rfl ?_
      refine ⟨(.agg #[.int .i64 ok, .slice (some ⟨B, 0, none⟩) oN c]), ?_, ?_⟩
      · intro wx gx; exact (md_pLook (.tmp 27) (.tmp 28) _ rfl 3 33 KI Tryz.underlying47 (zeroO _) m N D rfl (ownsMap_kx (S := fun _ => False) HD.out.1 (Kx.of_gr (Gr.trans (Gr.trans gwr gwb) gx)) (fun h => h)) (.int .i64 z) (zk z) rfl (zk_of HZ.out) _ HD.out.2.1)
      try simp only [Act.put, List.setIfInBounds_toArray, List.set_cons_zero, List.set_cons_succ]
      repeat (first | (refine Od.wpO_skip (by simp only [List.getElem?_toArray, List.getElem?_cons_succ, List.getElem?_cons_zero] <;> rfl) rfl ?_; simp only [Act.put, List.setIfInBounds_toArray, List.set_cons_zero, List.set_cons_succ]) | (refine Od.wpO_pure (by simp only [List.getElem?_toArray, List.getElem?_cons_succ, List.getElem?_cons_zero] <;> rfl) rfl ?_; apply Exists.intro; refine ⟨?_, ?_⟩; (· intro wx gx; obtain ⟨mx, rfl⟩ := spread_of_gr gx; clear gx; all_goals (apply Od.pAt_of_quiet; intro K hK; go_big_quiet_op; first | exact hK _ rfl | (apply Exists.intro; refine ⟨fun _ => ?_, ?_⟩; (· fail); exact hK _ rfl))); try simp only [Act.put, List.setIfInBounds_toArray, List.set_cons_zero, List.set_cons_succ]))
      refine Od.wpO_pure (by simp only [List.getElem?_toArray, List.getElem?_cons_succ, List.getElem?_cons_zero] <;> rfl) rfl ?_
      refine ⟨(.agg #[.int .i64 ok, .slice (some ⟨B', 0, none⟩) oN c']), ?_, ?_⟩
      · intro wx gx; exact (md_pLook (.tmp 33) (.tmp 34) _ rfl 3 33 KI Tryz.underlying47 (zeroO _) m' N' D' rfl (ownsMap_kx (S := fun _ => False) HD.out.2.2.1 (Kx.of_gr (Gr.trans (Gr.trans gwr gwb) gx)) (fun h => h)) (.int .i64 z) (zk z) rfl (zk_of HZ.out) _ HD.out.2.2.2)
      try simp only [Act.put, List.setIfInBounds_toArray, List.set_cons_zero, List.set_cons_succ]
      repeat (first | (refine Od.wpO_skip (by simp only [List.getElem?_toArray, List.getElem?_cons_succ, List.getElem?_cons_zero] <;> rfl) rfl ?_; simp only [Act.put, List.setIfInBounds_toArray, List.set_cons_zero, List.set_cons_succ]) | (refine Od.wpO_pure (by simp only [List.getElem?_toArray, List.getElem?_cons_succ, List.getElem?_cons_zero] <;> rfl) rfl ?_; apply Exists.intro; refine ⟨?_, ?_⟩; (· intro wx gx; obtain ⟨mx, rfl⟩ := spread_of_gr gx; clear gx; all_goals (apply Od.pAt_of_quiet; intro K hK; go_big_quiet_op; first | exact hK _ rfl | (apply Exists.intro; refine ⟨fun _ => ?_, ?_⟩; (· fail); exact hK _ rfl))); try simp only [Act.put, List.setIfInBounds_toArray, List.set_cons_zero, List.set_cons_succ]))
      refine Od.wpO_call (by simp only [List.getElem?_toArray, List.getElem?_cons_succ, List.getElem?_cons_zero] <;> rfl) rfl ?_
      intro QS hQS
      go_wp2_with fail
      go_at_call 23
      (with_reducible refine ((AS.out _ (Gr.trans gwr gwb))).mono ?_)
      rintro e wc ⟨rfl, hwc⟩
      go_wp2_with fail
      apply Exists.intro
      refine ⟨?_, hwc, ?_⟩
      · simp only [Act.put, List.setIfInBounds_toArray, List.set_cons_zero, List.set_cons_succ]; rfl
      have cwc_0_0 : wc.cell? ⟨Q, 0, none⟩ = some (.map (some m)) := cell_gr hwc (by go_simp)
      have zwc_0 : Q < wc.heap.size := World.block_lt_of_cell? _ _ cwc_0_0
      have cwc_1_0 : wc.cell? ⟨P, 0, none⟩ = some (.map (some m')) := cell_gr hwc (by go_simp)
      have zwc_1 : P < wc.heap.size := World.block_lt_of_cell? _ _ cwc_1_0
      have gwc : Gr wr wc := Gr.trans (by have gg := gwb; have gs := gg.size; go_grown) hwc
      clear gwb zwb_0 cwb_0_0 zwb_1 cwb_1_0
      clear hwc
      try simp only [Act.put, List.setIfInBounds_toArray, List.set_cons_zero, List.set_cons_succ]
      repeat (first | (refine Od.wpO_skip (by simp only [List.getElem?_toArray, List.getElem?_cons_succ, List.getElem?_cons_zero] <;> rfl) rfl ?_; simp only [Act.put, List.setIfInBounds_toArray, List.set_cons_zero, List.set_cons_succ]) | (refine Od.wpO_pure (by simp only [List.getElem?_toArray, List.getElem?_cons_succ, List.getElem?_cons_zero] <;> rfl) rfl ?_; apply Exists.intro; refine ⟨?_, ?_⟩; (· intro wx gx; obtain ⟨mx, rfl⟩ := spread_of_gr gx; clear gx; all_goals (apply Od.pAt_of_quiet; intro K hK; go_big_quiet_op; first | exact hK _ rfl | (apply Exists.intro; refine ⟨fun _ => ?_, ?_⟩; (· fail); exact hK _ rfl))); try simp only [Act.put, List.setIfInBounds_toArray, List.set_cons_zero, List.set_cons_succ]))
      refine Od.wpO_nil (hKQ _ _ ?_)
      clear hKQ KQ
      go_wp2_with fail
      go_roundg (l.length - (i + 1))
      case measure => omega
      case rel => exact ⟨i + 1, by go_simp, by omega, rfl, Gr.trans g3r gwc⟩
    · obtain rfl : i = l.length := by omega
      have ti : decide ((l.length : Int) < (l.length : Int)) = false := decide_eq_false (by omega)
      have ti2 : decide (l.length < l.length) = false := decide_eq_false (by omega)
      clear hk
      go_wp2_with fail
      go_ret
      exact ⟨rfl, gwr⟩
end Go.Proofs.YtapfecmdfoobcaaGreatDoor
