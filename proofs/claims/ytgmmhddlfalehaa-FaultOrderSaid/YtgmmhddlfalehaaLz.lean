/- fault's law: made -/
import Derived.Test.YtgmmhddlfalehaaLy
import Derived.Test.YtgmmhddlfalehaaLt
namespace Go.Proofs.Ytgmmhddlfalehaa
set_option linter.unusedVariables false
set_option linter.unusedSimpArgs false
open Go.ChangeShapes Go.WideShapes Go.ChangeAt Go.RowKit

theorem mv_flt {w2 : World} {b F n : Nat} {N : Int} {op : ByteArray} {kids : Nat → Nd} {E : Er} {u : Value} (hF : w2.heap[F]? = some (.cells #[.string op, .int .i64 N, .nilIface] 37 (0, 0))) (hm : MV (fun k => F + 1 ≤ k) w2 (kids 0) E u) (hn : 0 < n) (hb : b ≤ F) :
    MV (fun k => b ≤ k) (w2.setCell ⟨F, 2, none⟩ u) (.mk 2 N op n kids) (.flt op N E) (.iface 33 (.pointer (some ⟨F, 0, none⟩))) :=
  Or.inr (Or.inl ⟨rfl, F, u, E, rfl, rfl, hb, Hm.heap_set_same (i := 2) (v := u) hF, Or.inl ⟨hn, mv_kx hm ((Kx.refl (S := fun k => k = F) w2).setCell (p := ⟨F, 2, none⟩) rfl _) (fun k _ hz => ⟨by have : F + 1 ≤ k := hz; omega, fun e => by have : F + 1 ≤ k := hz; have : k = F := e; omega⟩)⟩⟩)
theorem mv_cov {w2 : World} {b P n : Nat} {N : Int} {op : ByteArray} {kids : Nat → Nd} {E : Er} {u : Value} (hP : w2.heap[P]? = some (.cells #[.nilIface] 63 (0, 0))) (hm : MV (fun k => P + 1 ≤ k) w2 (kids 0) E u) (hn : 0 < n) (hb : b ≤ P) :
    MV (fun k => b ≤ k) (w2.setCell ⟨P, 0, none⟩ u) (.mk 6 N op n kids) (.cov 61 E) (.iface 61 (.pointer (some ⟨P, 0, none⟩))) :=
  Or.inr (Or.inr (Or.inr (Or.inr (Or.inr (Or.inl ⟨rfl, P, u, E, rfl, rfl, hb, Hm.cell_of_heap (Hm.heap_set_same (i := 0) (v := u) hP) 0, Or.inl ⟨hn, mv_kx hm ((Kx.refl (S := fun k => k = P) w2).setCell (p := ⟨P, 0, none⟩) rfl _) (fun k _ hz => ⟨by have : P + 1 ≤ k := hz; omega, fun e => by have : P + 1 ≤ k := hz; have : k = P := e; omega⟩)⟩⟩)))))
theorem mkS_put {W wr w0 w1 wd we : World} {P i : Nat} {kids : Nat → Nd} {sv x u : Value} {us : List Value} {es : Nat → Er} {E : Er}
    (q1 : wr.heap[P]? = some (.cells #[sv] 60 (0, 0))) (q2 : wr.ownsRow (P + 1) 28 1 sv i us) (q3 : ∀ j, j < i → ∃ u, us[j]? = some u ∧ MV (fun k => P < k ∧ sv.ownBlock ≠ some k) wr (kids j) (es j) u) (hg : Gr W wr) (hP : W.heap.size ≤ P)
    (g0 : Gr wr w0) (g1 : Gr w0 w1) (hm : MV (fun k => w0.heap.size ≤ k) w1 (kids i) E u) (gd : Gr w1 wd) (g : Grown wd we sv x) (o : we.ownsRow (P + 1) 28 1 x (i + 1) (us ++ [u])) :
    we.heap[P]? = some (.cells #[sv] 60 (0, 0)) ∧ MkS W (we.setCell ⟨P, 0, none⟩ x) P (i + 1) kids ∧ Kx (fun k => P ≤ k) wr (we.setCell ⟨P, 0, none⟩ x) := by
  have hul : us.length = i := by have := q2.1; omega
  have hsv := World.ownsRow.lt q2
  have hzP : P < wr.heap.size := (Array.getElem?_eq_some_iff.1 q1).1
  have s0 := g0.size
  have s1 := g1.size
  have sd := gd.size
  have Gd : Gr wr wd := Gr.trans g0 (Gr.trans g1 gd)
  have K : Kx (fun k => sv.ownBlock = some k) wr we := (Kx.of_gr Gd).trans (kx_grown g)
  have K1 : Kx (fun k => sv.ownBlock = some k) w1 we := (Kx.of_gr gd).trans (kx_grown g)
  have hPe : we.heap[P]? = some (.cells #[sv] 60 (0, 0)) := heap_kx K (fun e => by have := (hsv P e).1; omega) q1
  have GW : Gr W we := g.gr (Gr.trans hg Gd) (fun k hk => by have := (hsv k hk).1; omega)
  have KP : Kx (fun k => k = P) we (we.setCell ⟨P, 0, none⟩ x) := (Kx.refl (S := fun k => k = P) we).setCell (p := ⟨P, 0, none⟩) rfl _
  have hx : ∀ k, x.ownBlock = some k → sv.ownBlock = some k ∨ wd.heap.size ≤ k := g.2
  refine ⟨hPe, ⟨x, us ++ [u], fun j => if j = i then E else es j, Hm.heap_set_same (i := 0) (v := x) hPe, ?_, fun j hj => ?_, Below.setCell GW hP _, hP⟩, ?_⟩
  · refine rowOwn_kxS (S := fun k => k = P) o KP (fun k hk e => ?_)
    have := (World.ownsRow.lt o k hk).1
    have : k = P := e
    omega
  · by_cases e : j = i
    · subst e
      refine ⟨u, by rw [← hul, List.getElem?_concat_length], ?_⟩
      show MV _ _ (kids j) (if j = j then E else es j) u
      rw [if_pos rfl]
      have m1 : MV (fun k => P < k ∧ x.ownBlock ≠ some k) we (kids j) E u := mv_kx hm K1 (fun k hk hz => by
        have hz' : w0.heap.size ≤ k := hz
        refine ⟨⟨by omega, fun e => ?_⟩, fun e => ?_⟩
        · rcases hx k e with h | h
          · have := (hsv k h).2; omega
          · omega
        · have := (hsv k e).2; omega)
      exact mv_kx m1 KP (fun k _ hz => ⟨hz, fun e => by have := hz.1; have : k = P := e; omega⟩)
    · obtain ⟨u', hu', hM⟩ := q3 j (by omega)
      refine ⟨u', by rw [List.getElem?_append_left (by omega)]; exact hu', ?_⟩
      show MV _ _ (kids j) (if j = i then E else es j) u'
      rw [if_neg e]
      have m1 : MV (fun k => P < k ∧ x.ownBlock ≠ some k) we (kids j) (es j) u' := mv_kx hM K (fun k hk hz => by
        refine ⟨⟨hz.1, fun e => ?_⟩, hz.2⟩
        rcases hx k e with h | h
        · exact hz.2 h
        · omega)
      exact mv_kx m1 KP (fun k _ hz => ⟨hz, fun e => by have := hz.1; have : k = P := e; omega⟩)
  · exact (K.mono (fun k hk => by have := (hsv k hk).1; show P ≤ k; omega)).trans (KP.mono (fun k hk => by have : k = P := hk; show P ≤ k; omega))
theorem mkS_nil {W w : World} {P : Nat} {kids : Nat → Nd} (h : w.heap[P]? = some (.cells #[.slice none 0 0] 60 (0, 0))) (g : Gr W w) (hP : W.heap.size ≤ P) : MkS W w P 0 kids := ⟨_, [], fun _ => .nil, h, World.ownsRow_nil _ _ _ _, fun j hj => absurd hj (Nat.not_lt_zero _), g, hP⟩
theorem ifV_one {u : Value} (h : IfV u) : ∀ x ∈ [u], x.oneCell' = true := fun x hx => by
  obtain rfl : x = u := by simpa using hx
  rcases h with rfl | ⟨T, y, rfl⟩ <;> rfl
theorem nd_pos {w : World} {T : Nd} {cs : List Value} (h : NdAt w T cs) : 1 ≤ T.cnt := by
  cases T with
  | nil => exact h.elim
  | mk kind N op n kids => show 1 ≤ 1 + _; omega
theorem erSum_geN (f : Nat → Nat) : ∀ n, (∀ i, i < n → 1 ≤ f i) → n ≤ erSum f n
  | 0, _ => Nat.le_refl _
  | n + 1, h => by
    have a := erSum_geN f n (fun i hi => h i (by omega))
    have b := h n (by omega)
    show n + 1 ≤ erSum f n + f n
    omega
theorem ifV_cells {u : Value} (h : IfV u) : u.cells = #[u] := by
  rcases h with rfl | ⟨T, x, rfl⟩ <;> rfl
set_option maxHeartbeats 8000000 in
set_option maxRecDepth 100000 in
theorem c_made (T : Nd) : T.cnt ≤ 1000 → ∀ (W : World) (c0 c1 c2 c3 : Value), NdAt W T [c0, c1, c2, c3] → Calls Try.prog 9 #[.agg #[c0, c1, c2, c3]] W fun e w' => ∃ E v, e = .returned v ∧ MV (fun k => W.heap.size ≤ k) w' T E v ∧ Gr W w' := by
  induction T with
  | nil => intro _ W c0 c1 c2 c3 h; exact h.elim
  | mk kind N op n kids ih =>
    intro hcnt W c0 c1 c2 c3 h
    obtain ⟨ad, cap, B, off, e, h1, h2, h3, h4, h5, h6, h7⟩ := h
    simp only [List.cons.injEq, and_true] at e
    obtain ⟨rfl, rfl, rfl, rfl⟩ := e
    have HX := Lib.hid (And.intro h6 h7)
    have hcs : 1 + erSum (fun i => (kids i).cnt) n ≤ 1000 := hcnt
    have HIH := Lib.hid (fun i (hi : i < n) => ih i (by have : (kids i).cnt ≤ erSum (fun i => (kids i).cnt) n := erSum_le (fun i => (kids i).cnt) n i hi; omega))
    have hn1000 : n ≤ 1000 := by
      have : n ≤ erSum (fun i => (kids i).cnt) n := erSum_geN _ n (fun i hi => by
        obtain ⟨x0, x1, x2, x3, -, -, -, -, hk⟩ := h7 i hi
        exact nd_pos hk)
      omega
    clear h6 h7 ih h2 h3 hcnt hcs
    by_cases k1 : kind = 1
    · subst k1
      go_enter Try.func9, Try.ntmps9
      go_wp2_with fail
      go_ret
      exact ⟨_, _, rfl, Or.inl ⟨rfl, rfl, rfl⟩, by go_grown⟩
    by_cases k2 : kind = 2
    · subst k2
      by_cases hn : 0 < n
      · have t1 : decide ((0 : Int) < (n : Int)) = true := decide_eq_true (by omega)
        have t2 : decide (0 < n) = true := decide_eq_true hn
        have t3 : (0 : Int) < (n : Int) := by omega
        have t4 : (0 : Int) < (cap : Int) := by omega
        obtain rfl := HX.out.1 hn
        obtain ⟨x0, x1, x2, x3, m0, m1, m2, m3, hk⟩ := HX.out.2 0 hn
        simp only [Nat.zero_mul, Nat.add_zero] at m0 m1 m2 m3
        have zB := World.block_lt_of_cell? _ _ m0
        have AK := Lib.hid (fun w (g : Gr W w) => HIH.out 0 hn w x0 x1 x2 x3 (ndAt_gr g hk))
        have hsz : (W.alloc (.cells #[.int .i64 2, .int .i64 N, .string op, .slice (some ⟨B, off, none⟩) n cap] 24)).heap.size = W.heap.size + 1 := by simp
        have hnw := heap_alloc_new (W.alloc (.cells #[.int .i64 2, .int .i64 N, .string op, .slice (some ⟨B, off, none⟩) n cap] 24)) (.cells #[.string op, .int .i64 N, .nilIface] 37)
        rw [hsz] at hnw
        have HNW := Lib.hid hnw
        clear hnw hsz hk
        go_enter Try.func9, Try.ntmps9
        go_wp2_with fail
        go_at_call 9
        refine (AK.out _ (by go_grown)).mono ?_
        rintro e w2 ⟨E, u, rfl, hm, g2⟩
        have hF := heap_kx (S := fun _ => False) (Kx.of_gr g2) (fun h => h) HNW.out
        have cF := Hm.cell_of_heap hF 2
        have fF := Hm.frozen_of_heap hF 2
        have zF := (Array.getElem?_eq_some_iff.1 hF).1
        have GW : Gr W w2 := Gr.trans (by go_grown) g2
        have HM := Lib.hid (And.intro hF (And.intro hm GW))
        have hif := erT_if (mv_erT _ hm)
        clear hF hm GW g2 AK HNW
        rcases hif with rfl | ⟨U, y, rfl⟩
        all_goals
          go_wp2_with fail
          go_ret
          exact ⟨_, _, rfl, mv_flt HM.out.1 (mv_to (fun k _ hz => by simpa using hz) (fun _ _ _ h => h) (fun _ _ _ _ h => h) _ HM.out.2.1) hn (by omega), Below.setCell HM.out.2.2 (by show W.heap.size ≤ W.heap.size + 1; omega) _⟩
      · obtain rfl : n = 0 := by omega
        have hsz : (W.alloc (.cells #[.int .i64 2, .int .i64 N, .string op, .slice ad 0 cap] 24)).heap.size = W.heap.size + 1 := by simp
        have hnw := heap_alloc_new (W.alloc (.cells #[.int .i64 2, .int .i64 N, .string op, .slice ad 0 cap] 24)) (.cells #[.string op, .int .i64 N, .nilIface] 37)
        rw [hsz] at hnw
        have HNW := Lib.hid hnw
        clear hnw hsz
        go_enter Try.func9, Try.ntmps9
        go_wp2_with fail
        go_ret
        exact ⟨_, _, rfl, Or.inr (Or.inl ⟨rfl, W.heap.size + 1, .nilIface, .nil, rfl, rfl, by omega, HNW.out, Or.inr ⟨rfl, rfl, rfl⟩⟩), by go_grown⟩
    by_cases k3 : kind = 3
    · subst k3
      obtain ⟨P, hP⟩ : ∃ P, P = W.heap.size + 1 := ⟨_, rfl⟩
      have hsz : (W.alloc (.cells #[.int .i64 3, .int .i64 N, .string op, .slice ad n cap] 24)).heap.size = P := by rw [hP]; simp
      have hnw := heap_alloc_new (W.alloc (.cells #[.int .i64 3, .int .i64 N, .string op, .slice ad n cap] 24)) (.cells #[.slice none 0 0] 60)
      rw [hsz] at hnw
      have hb3 : ((W.alloc (.cells #[.int .i64 3, .int .i64 N, .string op, .slice ad n cap] 24)).alloc (.cells #[.slice none 0 0] 60)).cell? ⟨W.heap.size, 3, none⟩ = some (.slice ad n cap) := by go_simp
      have HM0 : Hid (MkS W ((W.alloc (.cells #[.int .i64 3, .int .i64 N, .string op, .slice ad n cap] 24)).alloc (.cells #[.slice none 0 0] 60)) P 0 kids) := Lib.hid (mkS_nil hnw (by go_grown) (by omega))
      have HB0 := Lib.hid hb3
      clear hnw hsz hb3
      go_enter Try.func9, Try.ntmps9
      go_wp2_with fail
      rw [← hP]
      have hPl : W.heap.size < P := by omega
      clear hP
      generalize ((W.alloc (.cells #[.int .i64 3, .int .i64 N, .string op, .slice ad n cap] 24)).alloc (.cells #[.slice none 0 0] 60)) = wA at HM0 HB0 ⊢
      go_loopg [5] n (fun j x wq => ∃ i : Nat, x = .int .i64 i ∧ i ≤ n ∧ j = n - i ∧ Hid (MkS W wq P i kids) ∧ Hid (wq.cell? ⟨W.heap.size, 3, none⟩ = some (.slice ad n cap)))
      case atStart => exact ⟨0, rfl, by omega, by omega, HM0, HB0⟩
      case round =>
        obtain ⟨i, rfl, hi, hj, HM, HBX⟩ := hrel
        have b3 := HBX.out
        have zb := World.block_lt_of_cell? _ _ b3
        by_cases hin : i < n
        · have ti : decide ((i : Int) < (n : Int)) = true := decide_eq_true (by omega)
          have ti2 : decide (i < n) = true := decide_eq_true hin
          have ti3 : (i : Int) < (n : Int) := by omega
          have tn1 : (i : Int) < (cap : Int) := by omega
          have t0 : (0 : Int) ≤ (i : Int) := by omega
          obtain rfl := HX.out.1 (by omega)
          obtain ⟨x0, x1, x2, x3, n0, n1, n2, n3, hk⟩ := HX.out.2 i hin
          have hBW : B < W.heap.size := World.block_lt_of_cell? _ _ n0
          obtain ⟨sv, us, es, q1, q2, q3, hg, hPW⟩ := HM.out
          have m0 := cell_gr hg n0
          have m1 := cell_gr hg n1
          have m2 := cell_gr hg n2
          have m3 := cell_gr hg n3
          have AK := Lib.hid (fun w (g : Gr wr w) => HIH.out i hin w x0 x1 x2 x3 (ndAt_gr (Gr.trans hg g) hk))
          obtain ⟨sa, sc, rfl⟩ := own_formE q2
          have p0 := Hm.cell_of_heap q1 0
          have zP := (Array.getElem?_eq_some_iff.1 q1).1
          have HQ := Lib.hid (And.intro q1 (And.intro q2 (And.intro q3 hg)))
          obtain ⟨i0, hi0, hz0, hz1, hz2⟩ := info_parts (P := Try.prog) (e := 28) (z := .nilIface) (size := 1) (bytes := 16) (by kernel_rfl)
          have HI := Lib.hid (And.intro hi0 (And.intro hz0 (And.intro hz1 hz2)))
          have gwr := hg
          clear hi0 hz0 hz1 hz2 q1 q2 q3 hg n0 n1 n2 n3 hk HM
          have hcv : ∀ k, (Value.slice sa i sc).ownBlock = some k → P < k := fun k hk => by have := (World.ownsRow.lt HQ.out.2.1 k hk).1; omega
          go_upto_region 14 with fail
          go_wp2_with fail
          try simp only [List.append]
          refine Oe.wp_region_ordT (R := Kx (fun k => P < k)) 13 [(0, false), (1, false), (2, false), (3, false), (4, false), (5, false), (6, false), (7, false), (8, false), (9, false), (10, true), (11, true), (12, true)] (by kernel_rfl) (by kernel_rfl) ?_
          intro w0 hw0 KQ hKQ
          have hhw0 := Kx.of_gr (S := (fun k => P < k)) hw0
          have cw0_0_0 : w0.cell? ⟨P, 0, none⟩ = some (.slice sa i sc) := cell_kx hhw0 (by show ¬ (P < P); omega) (by go_simp)
          have zw0_0 : P < w0.heap.size := World.block_lt_of_cell? _ _ cw0_0_0
          have cw0_1_0 : w0.cell? ⟨W.heap.size, 3, none⟩ = some (.slice (some ⟨B, off, none⟩) n cap) := cell_kx hhw0 (by show ¬ (P < W.heap.size); omega) (by go_simp)
          have zw0_1 : W.heap.size < w0.heap.size := World.block_lt_of_cell? _ _ cw0_1_0
          have cw0_2_0 : w0.cell? ⟨B, off + i * 4, none⟩ = some (x0) := cell_kx hhw0 (by show ¬ (P < B); omega) (by go_simp)
          have zw0_2 : B < w0.heap.size := World.block_lt_of_cell? _ _ cw0_2_0
          have cw0_3_0 : w0.cell? ⟨B, off + i * 4 + 1, none⟩ = some (x1) := cell_kx hhw0 (by show ¬ (P < B); omega) (by go_simp)
          have zw0_3 : B < w0.heap.size := World.block_lt_of_cell? _ _ cw0_3_0
          have cw0_4_0 : w0.cell? ⟨B, off + i * 4 + 2, none⟩ = some (x2) := cell_kx hhw0 (by show ¬ (P < B); omega) (by go_simp)
          have zw0_4 : B < w0.heap.size := World.block_lt_of_cell? _ _ cw0_4_0
          have cw0_5_0 : w0.cell? ⟨B, off + i * 4 + 3, none⟩ = some (x3) := cell_kx hhw0 (by show ¬ (P < B); omega) (by go_simp)
          have zw0_5 : B < w0.heap.size := World.block_lt_of_cell? _ _ cw0_5_0
          have gw0 : Gr W w0 := Kx.gr hhw0 (by have gg := gwr; have gs := gg.size; go_grown) (fun k hk => by have hk2 : P < k := hk; omega)
          have sw0 := hhw0.size
          clear gwr
          clear hhw0
          repeat (first | (refine Oe.wpO_skip (by simp only [List.getElem?_toArray, List.getElem?_cons_succ, List.getElem?_cons_zero] <;> rfl) rfl ?_; simp only [Act.put, List.setIfInBounds_toArray, List.set_cons_zero, List.set_cons_succ]) | (refine Oe.wpO_pure (by simp only [List.getElem?_toArray, List.getElem?_cons_succ, List.getElem?_cons_zero] <;> rfl) rfl ?_; apply Exists.intro; refine ⟨?_, ?_⟩; (· intro wx gx; have cx_0_0 : wx.cell? ⟨P, 0, none⟩ = some (.slice sa i sc) := cell_kx gx (by show ¬ (P < P); omega) cw0_0_0; have zx_0 : P < wx.heap.size := World.block_lt_of_cell? _ _ cx_0_0; have cx_1_0 : wx.cell? ⟨W.heap.size, 3, none⟩ = some (.slice (some ⟨B, off, none⟩) n cap) := cell_kx gx (by show ¬ (P < W.heap.size); omega) cw0_1_0; have zx_1 : W.heap.size < wx.heap.size := World.block_lt_of_cell? _ _ cx_1_0; have cx_2_0 : wx.cell? ⟨B, off + i * 4, none⟩ = some (x0) := cell_kx gx (by show ¬ (P < B); omega) cw0_2_0; have zx_2 : B < wx.heap.size := World.block_lt_of_cell? _ _ cx_2_0; have cx_3_0 : wx.cell? ⟨B, off + i * 4 + 1, none⟩ = some (x1) := cell_kx gx (by show ¬ (P < B); omega) cw0_3_0; have zx_3 : B < wx.heap.size := World.block_lt_of_cell? _ _ cx_3_0; have cx_4_0 : wx.cell? ⟨B, off + i * 4 + 2, none⟩ = some (x2) := cell_kx gx (by show ¬ (P < B); omega) cw0_4_0; have zx_4 : B < wx.heap.size := World.block_lt_of_cell? _ _ cx_4_0; have cx_5_0 : wx.cell? ⟨B, off + i * 4 + 3, none⟩ = some (x3) := cell_kx gx (by show ¬ (P < B); omega) cw0_5_0; have zx_5 : B < wx.heap.size := World.block_lt_of_cell? _ _ cx_5_0; clear gx; all_goals (apply Oe.pAt_of_quiet; intro K hK; go_big_quiet_op; first | exact hK _ rfl | (apply Exists.intro; refine ⟨fun _ => ?_, ?_⟩; (· fail); exact hK _ rfl))); try simp only [Act.put, List.setIfInBounds_toArray, List.set_cons_zero, List.set_cons_succ]))
          refine Oe.wpO_call (by simp only [List.getElem?_toArray, List.getElem?_cons_succ, List.getElem?_cons_zero] <;> rfl) rfl ?_
          intro QS hQS
          go_wp2_with fail
          go_at_call 9
          (with_reducible refine ((AK.out _ hw0)).mono ?_)
          rintro e w1 ⟨E, u, rfl, hm, hw1⟩
          have hhw1 : Kx (fun k => P < k) w0 w1 := Kx.of_gr hw1
          go_wp2_with fail
          first | (apply Exists.intro; refine ⟨?_, hhw1, ?_⟩; (· simp only [Act.put, List.setIfInBounds_toArray, List.set_cons_zero, List.set_cons_succ]; rfl)) | (refine ⟨hhw1, ?_⟩)
          have cw1_0_0 : w1.cell? ⟨P, 0, none⟩ = some (.slice sa i sc) := cell_kx hhw1 (by show ¬ (P < P); omega) (by go_simp)
          have zw1_0 : P < w1.heap.size := World.block_lt_of_cell? _ _ cw1_0_0
          have cw1_1_0 : w1.cell? ⟨W.heap.size, 3, none⟩ = some (.slice (some ⟨B, off, none⟩) n cap) := cell_kx hhw1 (by show ¬ (P < W.heap.size); omega) (by go_simp)
          have zw1_1 : W.heap.size < w1.heap.size := World.block_lt_of_cell? _ _ cw1_1_0
          have cw1_2_0 : w1.cell? ⟨B, off + i * 4, none⟩ = some (x0) := cell_kx hhw1 (by show ¬ (P < B); omega) (by go_simp)
          have zw1_2 : B < w1.heap.size := World.block_lt_of_cell? _ _ cw1_2_0
          have cw1_3_0 : w1.cell? ⟨B, off + i * 4 + 1, none⟩ = some (x1) := cell_kx hhw1 (by show ¬ (P < B); omega) (by go_simp)
          have zw1_3 : B < w1.heap.size := World.block_lt_of_cell? _ _ cw1_3_0
          have cw1_4_0 : w1.cell? ⟨B, off + i * 4 + 2, none⟩ = some (x2) := cell_kx hhw1 (by show ¬ (P < B); omega) (by go_simp)
          have zw1_4 : B < w1.heap.size := World.block_lt_of_cell? _ _ cw1_4_0
          have cw1_5_0 : w1.cell? ⟨B, off + i * 4 + 3, none⟩ = some (x3) := cell_kx hhw1 (by show ¬ (P < B); omega) (by go_simp)
          have zw1_5 : B < w1.heap.size := World.block_lt_of_cell? _ _ cw1_5_0
          have gw1 : Gr W w1 := Kx.gr hhw1 gw0 (fun k hk => by have hk2 : P < k := hk; omega)
          have sw1 := hhw1.size
          clear gw0 zw0_0 cw0_0_0 zw0_1 cw0_1_0 zw0_2 cw0_2_0 zw0_3 cw0_3_0 zw0_4 cw0_4_0 zw0_5 cw0_5_0
          clear hhw1
          try simp only [Act.put, List.setIfInBounds_toArray, List.set_cons_zero, List.set_cons_succ]
          repeat (first | (refine Oe.wpO_skip (by simp only [List.getElem?_toArray, List.getElem?_cons_succ, List.getElem?_cons_zero] <;> rfl) rfl ?_; simp only [Act.put, List.setIfInBounds_toArray, List.set_cons_zero, List.set_cons_succ]) | (refine Oe.wpO_pure (by simp only [List.getElem?_toArray, List.getElem?_cons_succ, List.getElem?_cons_zero] <;> rfl) rfl ?_; apply Exists.intro; refine ⟨?_, ?_⟩; (· intro wx gx; have cx_0_0 : wx.cell? ⟨P, 0, none⟩ = some (.slice sa i sc) := cell_kx gx (by show ¬ (P < P); omega) cw1_0_0; have zx_0 : P < wx.heap.size := World.block_lt_of_cell? _ _ cx_0_0; have cx_1_0 : wx.cell? ⟨W.heap.size, 3, none⟩ = some (.slice (some ⟨B, off, none⟩) n cap) := cell_kx gx (by show ¬ (P < W.heap.size); omega) cw1_1_0; have zx_1 : W.heap.size < wx.heap.size := World.block_lt_of_cell? _ _ cx_1_0; have cx_2_0 : wx.cell? ⟨B, off + i * 4, none⟩ = some (x0) := cell_kx gx (by show ¬ (P < B); omega) cw1_2_0; have zx_2 : B < wx.heap.size := World.block_lt_of_cell? _ _ cx_2_0; have cx_3_0 : wx.cell? ⟨B, off + i * 4 + 1, none⟩ = some (x1) := cell_kx gx (by show ¬ (P < B); omega) cw1_3_0; have zx_3 : B < wx.heap.size := World.block_lt_of_cell? _ _ cx_3_0; have cx_4_0 : wx.cell? ⟨B, off + i * 4 + 2, none⟩ = some (x2) := cell_kx gx (by show ¬ (P < B); omega) cw1_4_0; have zx_4 : B < wx.heap.size := World.block_lt_of_cell? _ _ cx_4_0; have cx_5_0 : wx.cell? ⟨B, off + i * 4 + 3, none⟩ = some (x3) := cell_kx gx (by show ¬ (P < B); omega) cw1_5_0; have zx_5 : B < wx.heap.size := World.block_lt_of_cell? _ _ cx_5_0; clear gx; all_goals (apply Oe.pAt_of_quiet; intro K hK; go_big_quiet_op; first | exact hK _ rfl | (apply Exists.intro; refine ⟨fun _ => ?_, ?_⟩; (· fail); exact hK _ rfl))); try simp only [Act.put, List.setIfInBounds_toArray, List.set_cons_zero, List.set_cons_succ]))
          rcases erT_if (mv_erT _ hm) with rfl | ⟨U, y, rfl⟩
          · skip
            refine Oe.wpO_call (by simp only [List.getElem?_toArray, List.getElem?_cons_succ, List.getElem?_cons_zero] <;> rfl) rfl ?_
            intro QS hQS
            go_wp2_with fail
            first | (apply Exists.intro; refine ⟨?_, Kx.of_gr (by go_grown), ?_⟩; (· simp only [Act.put, List.setIfInBounds_toArray, List.set_cons_zero, List.set_cons_succ]; rfl)) | (refine ⟨Kx.of_gr (by go_grown), ?_⟩)
            generalize hhwd : (w1.alloc (.cells #[.nilIface] 28)) = wd
            have hwd : Gr w1 wd := by subst hhwd; go_grown
            have cwd_0_0 : wd.cell? ⟨P, 0, none⟩ = some (.slice sa i sc) := by subst hhwd; go_simp
            have zwd_0 : P < wd.heap.size := World.block_lt_of_cell? _ _ cwd_0_0
            have cwd_1_0 : wd.cell? ⟨W.heap.size, 3, none⟩ = some (.slice (some ⟨B, off, none⟩) n cap) := by subst hhwd; go_simp
            have zwd_1 : W.heap.size < wd.heap.size := World.block_lt_of_cell? _ _ cwd_1_0
            have cwd_2_0 : wd.cell? ⟨B, off + i * 4, none⟩ = some (x0) := by subst hhwd; go_simp
            have zwd_2 : B < wd.heap.size := World.block_lt_of_cell? _ _ cwd_2_0
            have cwd_3_0 : wd.cell? ⟨B, off + i * 4 + 1, none⟩ = some (x1) := by subst hhwd; go_simp
            have zwd_3 : B < wd.heap.size := World.block_lt_of_cell? _ _ cwd_3_0
            have cwd_4_0 : wd.cell? ⟨B, off + i * 4 + 2, none⟩ = some (x2) := by subst hhwd; go_simp
            have zwd_4 : B < wd.heap.size := World.block_lt_of_cell? _ _ cwd_4_0
            have cwd_5_0 : wd.cell? ⟨B, off + i * 4 + 3, none⟩ = some (x3) := by subst hhwd; go_simp
            have zwd_5 : B < wd.heap.size := World.block_lt_of_cell? _ _ cwd_5_0
            have gwd : Gr W wd := Gr.trans (by have gg := gw1; have gs := gg.size; go_grown) hwd
            have swd := hwd.size
            have hone : ∀ j q, [.nilIface][j]? = some q → wd.cell? ((⟨w1.heap.size, 0, none⟩ : Addr).add j) = some q := by subst hhwd; exact cell_one_new _ _ _
            clear hhwd gw1 zw1_0 cw1_0_0 zw1_1 cw1_1_0 zw1_2 cw1_2_0 zw1_3 cw1_3_0 zw1_4 cw1_4_0 zw1_5 cw1_5_0
            try simp only [Act.put, List.setIfInBounds_toArray, List.set_cons_zero, List.set_cons_succ]
            repeat (first | (refine Oe.wpO_skip (by simp only [List.getElem?_toArray, List.getElem?_cons_succ, List.getElem?_cons_zero] <;> rfl) rfl ?_; simp only [Act.put, List.setIfInBounds_toArray, List.set_cons_zero, List.set_cons_succ]) | (refine Oe.wpO_pure (by simp only [List.getElem?_toArray, List.getElem?_cons_succ, List.getElem?_cons_zero] <;> rfl) rfl ?_; apply Exists.intro; refine ⟨?_, ?_⟩; (· intro wx gx; have cx_0_0 : wx.cell? ⟨P, 0, none⟩ = some (.slice sa i sc) := cell_kx gx (by show ¬ (P < P); omega) cwd_0_0; have zx_0 : P < wx.heap.size := World.block_lt_of_cell? _ _ cx_0_0; have cx_1_0 : wx.cell? ⟨W.heap.size, 3, none⟩ = some (.slice (some ⟨B, off, none⟩) n cap) := cell_kx gx (by show ¬ (P < W.heap.size); omega) cwd_1_0; have zx_1 : W.heap.size < wx.heap.size := World.block_lt_of_cell? _ _ cx_1_0; have cx_2_0 : wx.cell? ⟨B, off + i * 4, none⟩ = some (x0) := cell_kx gx (by show ¬ (P < B); omega) cwd_2_0; have zx_2 : B < wx.heap.size := World.block_lt_of_cell? _ _ cx_2_0; have cx_3_0 : wx.cell? ⟨B, off + i * 4 + 1, none⟩ = some (x1) := cell_kx gx (by show ¬ (P < B); omega) cwd_3_0; have zx_3 : B < wx.heap.size := World.block_lt_of_cell? _ _ cx_3_0; have cx_4_0 : wx.cell? ⟨B, off + i * 4 + 2, none⟩ = some (x2) := cell_kx gx (by show ¬ (P < B); omega) cwd_4_0; have zx_4 : B < wx.heap.size := World.block_lt_of_cell? _ _ cx_4_0; have cx_5_0 : wx.cell? ⟨B, off + i * 4 + 3, none⟩ = some (x3) := cell_kx gx (by show ¬ (P < B); omega) cwd_5_0; have zx_5 : B < wx.heap.size := World.block_lt_of_cell? _ _ cx_5_0; clear gx; all_goals (apply Oe.pAt_of_quiet; intro K hK; go_big_quiet_op; first | exact hK _ rfl | (apply Exists.intro; refine ⟨fun _ => ?_, ?_⟩; (· fail); exact hK _ rfl))); try simp only [Act.put, List.setIfInBounds_toArray, List.set_cons_zero, List.set_cons_succ]))
            have g1d : Gr wr wd := Gr.trans hw0 (Gr.trans hw1 hwd)
            have HRd := Lib.hid (rowOwn_gr HQ.out.2.1 g1d)
            have hbd : P + 1 ≤ wd.heap.size := by have := g1d.size; omega
            refine Oe.wpO_call (by simp only [List.getElem?_toArray, List.getElem?_cons_succ, List.getElem?_cons_zero] <;> rfl) rfl ?_
            intro QS hQS
            refine (wpList_append_own2 _ rfl (.tmp 52) (.tmp 59) 51 rfl (P + 1) 28 i0 .nilIface 1 16 Try.underlying51 HI.out.1 HI.out.2.1 HI.out.2.2.1 HI.out.2.2.2 rfl (by decide) (.slice sa i sc) i us rfl HRd.out ⟨w1.heap.size, 0, none⟩ 1 1 [.nilIface] rfl rfl hone (by intro u hu; simp only [List.mem_cons, List.not_mem_nil, or_false] at hu; subst hu; rfl) (by unfold maxLen; omega) (by omega) hbd ?_)
            intro x9 we o9 g9
            have hhwe : Kx (fun k => P < k) wd we := (kx_grown g9).mono (fun k hk => hcv k hk)
            refine hQS _ _ ⟨_, rfl, hhwe, ?_⟩
            clear hQS QS
            have cwe_0_0 : we.cell? ⟨P, 0, none⟩ = some (.slice sa i sc) := cell_kx hhwe (by show ¬ (P < P); omega) (by go_simp)
            have zwe_0 : P < we.heap.size := World.block_lt_of_cell? _ _ cwe_0_0
            have cwe_1_0 : we.cell? ⟨W.heap.size, 3, none⟩ = some (.slice (some ⟨B, off, none⟩) n cap) := cell_kx hhwe (by show ¬ (P < W.heap.size); omega) (by go_simp)
            have zwe_1 : W.heap.size < we.heap.size := World.block_lt_of_cell? _ _ cwe_1_0
            have cwe_2_0 : we.cell? ⟨B, off + i * 4, none⟩ = some (x0) := cell_kx hhwe (by show ¬ (P < B); omega) (by go_simp)
            have zwe_2 : B < we.heap.size := World.block_lt_of_cell? _ _ cwe_2_0
            have cwe_3_0 : we.cell? ⟨B, off + i * 4 + 1, none⟩ = some (x1) := cell_kx hhwe (by show ¬ (P < B); omega) (by go_simp)
            have zwe_3 : B < we.heap.size := World.block_lt_of_cell? _ _ cwe_3_0
            have cwe_4_0 : we.cell? ⟨B, off + i * 4 + 2, none⟩ = some (x2) := cell_kx hhwe (by show ¬ (P < B); omega) (by go_simp)
            have zwe_4 : B < we.heap.size := World.block_lt_of_cell? _ _ cwe_4_0
            have cwe_5_0 : we.cell? ⟨B, off + i * 4 + 3, none⟩ = some (x3) := cell_kx hhwe (by show ¬ (P < B); omega) (by go_simp)
            have zwe_5 : B < we.heap.size := World.block_lt_of_cell? _ _ cwe_5_0
            have gwe : Gr W we := Kx.gr hhwe gwd (fun k hk => by have hk2 : P < k := hk; omega)
            have swe := hhwe.size
            clear gwd zwd_0 cwd_0_0 zwd_1 cwd_1_0 zwd_2 cwd_2_0 zwd_3 cwd_3_0 zwd_4 cwd_4_0 zwd_5 cwd_5_0
            clear hhwe
            try simp only [Act.put, List.setIfInBounds_toArray, List.set_cons_zero, List.set_cons_succ]
            repeat (first | (refine Oe.wpO_skip (by simp only [List.getElem?_toArray, List.getElem?_cons_succ, List.getElem?_cons_zero] <;> rfl) rfl ?_; simp only [Act.put, List.setIfInBounds_toArray, List.set_cons_zero, List.set_cons_succ]) | (refine Oe.wpO_pure (by simp only [List.getElem?_toArray, List.getElem?_cons_succ, List.getElem?_cons_zero] <;> rfl) rfl ?_; apply Exists.intro; refine ⟨?_, ?_⟩; (· intro wx gx; have cx_0_0 : wx.cell? ⟨P, 0, none⟩ = some (.slice sa i sc) := cell_kx gx (by show ¬ (P < P); omega) cwe_0_0; have zx_0 : P < wx.heap.size := World.block_lt_of_cell? _ _ cx_0_0; have cx_1_0 : wx.cell? ⟨W.heap.size, 3, none⟩ = some (.slice (some ⟨B, off, none⟩) n cap) := cell_kx gx (by show ¬ (P < W.heap.size); omega) cwe_1_0; have zx_1 : W.heap.size < wx.heap.size := World.block_lt_of_cell? _ _ cx_1_0; have cx_2_0 : wx.cell? ⟨B, off + i * 4, none⟩ = some (x0) := cell_kx gx (by show ¬ (P < B); omega) cwe_2_0; have zx_2 : B < wx.heap.size := World.block_lt_of_cell? _ _ cx_2_0; have cx_3_0 : wx.cell? ⟨B, off + i * 4 + 1, none⟩ = some (x1) := cell_kx gx (by show ¬ (P < B); omega) cwe_3_0; have zx_3 : B < wx.heap.size := World.block_lt_of_cell? _ _ cx_3_0; have cx_4_0 : wx.cell? ⟨B, off + i * 4 + 2, none⟩ = some (x2) := cell_kx gx (by show ¬ (P < B); omega) cwe_4_0; have zx_4 : B < wx.heap.size := World.block_lt_of_cell? _ _ cx_4_0; have cx_5_0 : wx.cell? ⟨B, off + i * 4 + 3, none⟩ = some (x3) := cell_kx gx (by show ¬ (P < B); omega) cwe_5_0; have zx_5 : B < wx.heap.size := World.block_lt_of_cell? _ _ cx_5_0; clear gx; all_goals (apply Oe.pAt_of_quiet; intro K hK; go_big_quiet_op; first | exact hK _ rfl | (apply Exists.intro; refine ⟨fun _ => ?_, ?_⟩; (· fail); exact hK _ rfl))); try simp only [Act.put, List.setIfInBounds_toArray, List.set_cons_zero, List.set_cons_succ]))
            refine Oe.wpO_nil (hKQ _ _ ?_)
            clear hKQ KQ
            obtain ⟨r1, r2, r3⟩ := mkS_put HQ.out.1 HQ.out.2.1 HQ.out.2.2.1 HQ.out.2.2.2 hPW hw0 hw1 hm hwd g9 o9
            obtain ⟨xa, xc, rfl⟩ := own_formE o9
            have c9 := Hm.cell_of_heap r1 0
            have f9 := Hm.frozen_of_heap r1 0
            have z9 := (Array.getElem?_eq_some_iff.1 r1).1
            have HR := Lib.hid (And.intro r2 r3)
            clear r1 r2 r3 o9 g9 hm hone HRd g1d hcv hw0 hw1 hwd
            go_wp2_with fail
            go_roundg (n - (i + 1))
            case measure => omega
            case rel => exact ⟨i + 1, by go_num, by omega, rfl, Lib.hid HR.out.1, Lib.hid (cell_kx HR.out.2 (p := ⟨W.heap.size, 3, none⟩) (by show ¬ (P ≤ W.heap.size); omega) HBX.out)⟩
          · skip
            refine Oe.wpO_call (by simp only [List.getElem?_toArray, List.getElem?_cons_succ, List.getElem?_cons_zero] <;> rfl) rfl ?_
            intro QS hQS
            go_wp2_with fail
            first | (apply Exists.intro; refine ⟨?_, Kx.of_gr (by go_grown), ?_⟩; (· simp only [Act.put, List.setIfInBounds_toArray, List.set_cons_zero, List.set_cons_succ]; rfl)) | (refine ⟨Kx.of_gr (by go_grown), ?_⟩)
            generalize hhwd : (w1.alloc (.cells #[.iface U y] 28)) = wd
            have hwd : Gr w1 wd := by subst hhwd; go_grown
            have cwd_0_0 : wd.cell? ⟨P, 0, none⟩ = some (.slice sa i sc) := by subst hhwd; go_simp
            have zwd_0 : P < wd.heap.size := World.block_lt_of_cell? _ _ cwd_0_0
            have cwd_1_0 : wd.cell? ⟨W.heap.size, 3, none⟩ = some (.slice (some ⟨B, off, none⟩) n cap) := by subst hhwd; go_simp
            have zwd_1 : W.heap.size < wd.heap.size := World.block_lt_of_cell? _ _ cwd_1_0
            have cwd_2_0 : wd.cell? ⟨B, off + i * 4, none⟩ = some (x0) := by subst hhwd; go_simp
            have zwd_2 : B < wd.heap.size := World.block_lt_of_cell? _ _ cwd_2_0
            have cwd_3_0 : wd.cell? ⟨B, off + i * 4 + 1, none⟩ = some (x1) := by subst hhwd; go_simp
            have zwd_3 : B < wd.heap.size := World.block_lt_of_cell? _ _ cwd_3_0
            have cwd_4_0 : wd.cell? ⟨B, off + i * 4 + 2, none⟩ = some (x2) := by subst hhwd; go_simp
            have zwd_4 : B < wd.heap.size := World.block_lt_of_cell? _ _ cwd_4_0
            have cwd_5_0 : wd.cell? ⟨B, off + i * 4 + 3, none⟩ = some (x3) := by subst hhwd; go_simp
            have zwd_5 : B < wd.heap.size := World.block_lt_of_cell? _ _ cwd_5_0
            have gwd : Gr W wd := Gr.trans (by have gg := gw1; have gs := gg.size; go_grown) hwd
            have swd := hwd.size
            have hone : ∀ j q, [.iface U y][j]? = some q → wd.cell? ((⟨w1.heap.size, 0, none⟩ : Addr).add j) = some q := by subst hhwd; exact cell_one_new _ _ _
            clear hhwd gw1
            try simp only [Act.put, List.setIfInBounds_toArray, List.set_cons_zero, List.set_cons_succ]
            repeat (first | (refine Oe.wpO_skip (by simp only [List.getElem?_toArray, List.getElem?_cons_succ, List.getElem?_cons_zero] <;> rfl) rfl ?_; simp only [Act.put, List.setIfInBounds_toArray, List.set_cons_zero, List.set_cons_succ]) | (refine Oe.wpO_pure (by simp only [List.getElem?_toArray, List.getElem?_cons_succ, List.getElem?_cons_zero] <;> rfl) rfl ?_; apply Exists.intro; refine ⟨?_, ?_⟩; (· intro wx gx; have cx_0_0 : wx.cell? ⟨P, 0, none⟩ = some (.slice sa i sc) := cell_kx gx (by show ¬ (P < P); omega) cwd_0_0; have zx_0 : P < wx.heap.size := World.block_lt_of_cell? _ _ cx_0_0; have cx_1_0 : wx.cell? ⟨W.heap.size, 3, none⟩ = some (.slice (some ⟨B, off, none⟩) n cap) := cell_kx gx (by show ¬ (P < W.heap.size); omega) cwd_1_0; have zx_1 : W.heap.size < wx.heap.size := World.block_lt_of_cell? _ _ cx_1_0; have cx_2_0 : wx.cell? ⟨B, off + i * 4, none⟩ = some (x0) := cell_kx gx (by show ¬ (P < B); omega) cwd_2_0; have zx_2 : B < wx.heap.size := World.block_lt_of_cell? _ _ cx_2_0; have cx_3_0 : wx.cell? ⟨B, off + i * 4 + 1, none⟩ = some (x1) := cell_kx gx (by show ¬ (P < B); omega) cwd_3_0; have zx_3 : B < wx.heap.size := World.block_lt_of_cell? _ _ cx_3_0; have cx_4_0 : wx.cell? ⟨B, off + i * 4 + 2, none⟩ = some (x2) := cell_kx gx (by show ¬ (P < B); omega) cwd_4_0; have zx_4 : B < wx.heap.size := World.block_lt_of_cell? _ _ cx_4_0; have cx_5_0 : wx.cell? ⟨B, off + i * 4 + 3, none⟩ = some (x3) := cell_kx gx (by show ¬ (P < B); omega) cwd_5_0; have zx_5 : B < wx.heap.size := World.block_lt_of_cell? _ _ cx_5_0; clear gx; all_goals (apply Oe.pAt_of_quiet; intro K hK; go_big_quiet_op; first | exact hK _ rfl | (apply Exists.intro; refine ⟨fun _ => ?_, ?_⟩; (· fail); exact hK _ rfl))); try simp only [Act.put, List.setIfInBounds_toArray, List.set_cons_zero, List.set_cons_succ]))
            have g1d : Gr wr wd := Gr.trans hw0 (Gr.trans hw1 hwd)
            have HRd := Lib.hid (rowOwn_gr HQ.out.2.1 g1d)
            have hbd : P + 1 ≤ wd.heap.size := by have := g1d.size; omega
            refine Oe.wpO_call (by simp only [List.getElem?_toArray, List.getElem?_cons_succ, List.getElem?_cons_zero] <;> rfl) rfl ?_
            intro QS hQS
            refine (wpList_append_own2 _ rfl (.tmp 52) (.tmp 59) 51 rfl (P + 1) 28 i0 .nilIface 1 16 Try.underlying51 HI.out.1 HI.out.2.1 HI.out.2.2.1 HI.out.2.2.2 rfl (by decide) (.slice sa i sc) i us rfl HRd.out ⟨w1.heap.size, 0, none⟩ 1 1 [.iface U y] rfl rfl hone (by intro u hu; simp only [List.mem_cons, List.not_mem_nil, or_false] at hu; subst hu; rfl) (by unfold maxLen; omega) (by omega) hbd ?_)
            intro x9 we o9 g9
            have hhwe : Kx (fun k => P < k) wd we := (kx_grown g9).mono (fun k hk => hcv k hk)
            refine hQS _ _ ⟨_, rfl, hhwe, ?_⟩
            clear hQS QS
            have cwe_0_0 : we.cell? ⟨P, 0, none⟩ = some (.slice sa i sc) := cell_kx hhwe (by show ¬ (P < P); omega) (by go_simp)
            have zwe_0 : P < we.heap.size := World.block_lt_of_cell? _ _ cwe_0_0
            have cwe_1_0 : we.cell? ⟨W.heap.size, 3, none⟩ = some (.slice (some ⟨B, off, none⟩) n cap) := cell_kx hhwe (by show ¬ (P < W.heap.size); omega) (by go_simp)
            have zwe_1 : W.heap.size < we.heap.size := World.block_lt_of_cell? _ _ cwe_1_0
            have cwe_2_0 : we.cell? ⟨B, off + i * 4, none⟩ = some (x0) := cell_kx hhwe (by show ¬ (P < B); omega) (by go_simp)
            have zwe_2 : B < we.heap.size := World.block_lt_of_cell? _ _ cwe_2_0
            have cwe_3_0 : we.cell? ⟨B, off + i * 4 + 1, none⟩ = some (x1) := cell_kx hhwe (by show ¬ (P < B); omega) (by go_simp)
            have zwe_3 : B < we.heap.size := World.block_lt_of_cell? _ _ cwe_3_0
            have cwe_4_0 : we.cell? ⟨B, off + i * 4 + 2, none⟩ = some (x2) := cell_kx hhwe (by show ¬ (P < B); omega) (by go_simp)
            have zwe_4 : B < we.heap.size := World.block_lt_of_cell? _ _ cwe_4_0
            have cwe_5_0 : we.cell? ⟨B, off + i * 4 + 3, none⟩ = some (x3) := cell_kx hhwe (by show ¬ (P < B); omega) (by go_simp)
            have zwe_5 : B < we.heap.size := World.block_lt_of_cell? _ _ cwe_5_0
            have gwe : Gr W we := Kx.gr hhwe gwd (fun k hk => by have hk2 : P < k := hk; omega)
            have swe := hhwe.size
            clear gwd zwd_0 cwd_0_0 zwd_1 cwd_1_0 zwd_2 cwd_2_0 zwd_3 cwd_3_0 zwd_4 cwd_4_0 zwd_5 cwd_5_0
            clear hhwe
            try simp only [Act.put, List.setIfInBounds_toArray, List.set_cons_zero, List.set_cons_succ]
            repeat (first | (refine Oe.wpO_skip (by simp only [List.getElem?_toArray, List.getElem?_cons_succ, List.getElem?_cons_zero] <;> rfl) rfl ?_; simp only [Act.put, List.setIfInBounds_toArray, List.set_cons_zero, List.set_cons_succ]) | (refine Oe.wpO_pure (by simp only [List.getElem?_toArray, List.getElem?_cons_succ, List.getElem?_cons_zero] <;> rfl) rfl ?_; apply Exists.intro; refine ⟨?_, ?_⟩; (· intro wx gx; have cx_0_0 : wx.cell? ⟨P, 0, none⟩ = some (.slice sa i sc) := cell_kx gx (by show ¬ (P < P); omega) cwe_0_0; have zx_0 : P < wx.heap.size := World.block_lt_of_cell? _ _ cx_0_0; have cx_1_0 : wx.cell? ⟨W.heap.size, 3, none⟩ = some (.slice (some ⟨B, off, none⟩) n cap) := cell_kx gx (by show ¬ (P < W.heap.size); omega) cwe_1_0; have zx_1 : W.heap.size < wx.heap.size := World.block_lt_of_cell? _ _ cx_1_0; have cx_2_0 : wx.cell? ⟨B, off + i * 4, none⟩ = some (x0) := cell_kx gx (by show ¬ (P < B); omega) cwe_2_0; have zx_2 : B < wx.heap.size := World.block_lt_of_cell? _ _ cx_2_0; have cx_3_0 : wx.cell? ⟨B, off + i * 4 + 1, none⟩ = some (x1) := cell_kx gx (by show ¬ (P < B); omega) cwe_3_0; have zx_3 : B < wx.heap.size := World.block_lt_of_cell? _ _ cx_3_0; have cx_4_0 : wx.cell? ⟨B, off + i * 4 + 2, none⟩ = some (x2) := cell_kx gx (by show ¬ (P < B); omega) cwe_4_0; have zx_4 : B < wx.heap.size := World.block_lt_of_cell? _ _ cx_4_0; have cx_5_0 : wx.cell? ⟨B, off + i * 4 + 3, none⟩ = some (x3) := cell_kx gx (by show ¬ (P < B); omega) cwe_5_0; have zx_5 : B < wx.heap.size := World.block_lt_of_cell? _ _ cx_5_0; clear gx; all_goals (apply Oe.pAt_of_quiet; intro K hK; go_big_quiet_op; first | exact hK _ rfl | (apply Exists.intro; refine ⟨fun _ => ?_, ?_⟩; (· fail); exact hK _ rfl))); try simp only [Act.put, List.setIfInBounds_toArray, List.set_cons_zero, List.set_cons_succ]))
            refine Oe.wpO_nil (hKQ _ _ ?_)
            clear hKQ KQ
            obtain ⟨r1, r2, r3⟩ := mkS_put HQ.out.1 HQ.out.2.1 HQ.out.2.2.1 HQ.out.2.2.2 hPW hw0 hw1 hm hwd g9 o9
            obtain ⟨xa, xc, rfl⟩ := own_formE o9
            have c9 := Hm.cell_of_heap r1 0
            have f9 := Hm.frozen_of_heap r1 0
            have z9 := (Array.getElem?_eq_some_iff.1 r1).1
            have HR := Lib.hid (And.intro r2 r3)
            clear r1 r2 r3 o9 g9 hm hone HRd g1d hcv hw0 hw1 hwd
            go_wp2_with fail
            go_roundg (n - (i + 1))
            case measure => omega
            case rel => exact ⟨i + 1, by go_num, by omega, rfl, Lib.hid HR.out.1, Lib.hid (cell_kx HR.out.2 (p := ⟨W.heap.size, 3, none⟩) (by show ¬ (P ≤ W.heap.size); omega) HBX.out)⟩
        · obtain rfl : i = n := by omega
          have ti : decide ((i : Int) < (i : Int)) = false := decide_eq_false (by omega)
          have ti3 : ¬ (i : Int) < (i : Int) := by omega
          obtain ⟨E, hE⟩ := mkS_end (N := N) (op := op) HM.out
          have HE := Lib.hid hE
          obtain ⟨-, -, -, -, -, -, hg, -⟩ := HM.out
          have HG := Lib.hid hg
          clear hE hg
          go_wp2_with fail
          go_ret
          exact ⟨_, _, rfl, HE.out, HG.out⟩
    by_cases k4 : kind = 4
    · subst k4
      have hsz : (W.alloc (.cells #[.int .i64 4, .int .i64 N, .string op, .slice ad n cap] 24)).heap.size = W.heap.size + 1 := by simp
      have hnw := heap_alloc_new (W.alloc (.cells #[.int .i64 4, .int .i64 N, .string op, .slice ad n cap] 24)) (.cells #[.string op] 48)
      rw [hsz] at hnw
      have HNW := Lib.hid hnw
      clear hnw hsz
      go_enter Try.func9, Try.ntmps9
      go_wp2_with fail
      go_ret
      exact ⟨_, _, rfl, Or.inr (Or.inr (Or.inr (Or.inl ⟨rfl, W.heap.size + 1, rfl, rfl, by omega, Hm.cell_of_heap HNW.out 0⟩))), by go_grown⟩
    by_cases k5 : kind = 5
    · subst k5
      go_enter Try.func9, Try.ntmps9
      go_wp2_with fail
      go_ret
      exact ⟨_, _, rfl, Or.inr (Or.inr (Or.inr (Or.inr (Or.inl ⟨rfl, rfl, rfl⟩)))), by go_grown⟩
    by_cases k6 : kind = 6
    · subst k6
      by_cases hn : 0 < n
      · have t1 : decide ((0 : Int) < (n : Int)) = true := decide_eq_true (by omega)
        have t2 : decide (0 < n) = true := decide_eq_true hn
        have t3 : (0 : Int) < (n : Int) := by omega
        have t4 : (0 : Int) < (cap : Int) := by omega
        obtain rfl := HX.out.1 hn
        obtain ⟨x0, x1, x2, x3, m0, m1, m2, m3, hk⟩ := HX.out.2 0 hn
        simp only [Nat.zero_mul, Nat.add_zero] at m0 m1 m2 m3
        have zB := World.block_lt_of_cell? _ _ m0
        have AK := Lib.hid (fun w (g : Gr W w) => HIH.out 0 hn w x0 x1 x2 x3 (ndAt_gr g hk))
        have hsz : (W.alloc (.cells #[.int .i64 6, .int .i64 N, .string op, .slice (some ⟨B, off, none⟩) n cap] 24)).heap.size = W.heap.size + 1 := by simp
        have hnw := heap_alloc_new (W.alloc (.cells #[.int .i64 6, .int .i64 N, .string op, .slice (some ⟨B, off, none⟩) n cap] 24)) (.cells #[.nilIface] 63)
        rw [hsz] at hnw
        have HNW := Lib.hid hnw
        clear hnw hsz hk
        go_enter Try.func9, Try.ntmps9
        go_wp2_with fail
        go_at_call 9
        refine (AK.out _ (by go_grown)).mono ?_
        rintro e w2 ⟨E, u, rfl, hm, g2⟩
        have hF := heap_kx (S := fun _ => False) (Kx.of_gr g2) (fun h => h) HNW.out
        have cF := Hm.cell_of_heap hF 0
        have fF := Hm.frozen_of_heap hF 0
        have zF := (Array.getElem?_eq_some_iff.1 hF).1
        have GW : Gr W w2 := Gr.trans (by go_grown) g2
        have HM := Lib.hid (And.intro hF (And.intro hm GW))
        have hif := erT_if (mv_erT _ hm)
        clear hF hm GW g2 AK HNW
        rcases hif with rfl | ⟨U, y, rfl⟩
        all_goals
          go_wp2_with fail
          go_ret
          exact ⟨_, _, rfl, mv_cov HM.out.1 (mv_to (fun k _ hz => by simpa using hz) (fun _ _ _ h => h) (fun _ _ _ _ h => h) _ HM.out.2.1) hn (by omega), Below.setCell HM.out.2.2 (by show W.heap.size ≤ W.heap.size + 1; omega) _⟩
      · obtain rfl : n = 0 := by omega
        have hsz : (W.alloc (.cells #[.int .i64 6, .int .i64 N, .string op, .slice ad 0 cap] 24)).heap.size = W.heap.size + 1 := by simp
        have hnw := heap_alloc_new (W.alloc (.cells #[.int .i64 6, .int .i64 N, .string op, .slice ad 0 cap] 24)) (.cells #[.nilIface] 63)
        rw [hsz] at hnw
        have HNW := Lib.hid hnw
        clear hnw hsz
        go_enter Try.func9, Try.ntmps9
        go_wp2_with fail
        go_ret
        exact ⟨_, _, rfl, Or.inr (Or.inr (Or.inr (Or.inr (Or.inr (Or.inl ⟨rfl, W.heap.size + 1, .nilIface, .nil, rfl, rfl, by omega, Hm.cell_of_heap HNW.out 0, Or.inr ⟨rfl, rfl, rfl⟩⟩))))), by go_grown⟩
    have f1 : (kind == 1) = false := by simpa using k1
    have f2 : (kind == 2) = false := by simpa using k2
    have f3 : (kind == 3) = false := by simpa using k3
    have f4 : (kind == 4) = false := by simpa using k4
    have f5 : (kind == 5) = false := by simpa using k5
    have f6 : (kind == 6) = false := by simpa using k6
    have hk : kind < 1 ∨ 6 < kind := by omega
    have HK := Lib.hid hk
    clear k1 k2 k3 k4 k5 k6 hk
    go_enter Try.func9, Try.ntmps9
    go_wp2_with fail
    go_ret
    exact ⟨_, _, rfl, Or.inr (Or.inr (Or.inr (Or.inr (Or.inr (Or.inr ⟨HK.out, rfl, rfl⟩))))), by go_grown⟩
end Go.Proofs.Ytgmmhddlfalehaa
