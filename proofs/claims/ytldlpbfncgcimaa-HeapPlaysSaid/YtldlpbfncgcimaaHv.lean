/- HeapPlays: the document's Pop -/
import Derived.Test.YtldlpbfncgcimaaHu
namespace Go.Proofs.Ytldlpbfncgcimaa
set_option linter.unusedVariables false
open Go.ChangeShapes Go.WideShapes Go.ChangeAt Go.RowKit

theorem flat6_take (R : List En) (k : Nat) : (R.take k).flatMap En.cs = (R.flatMap En.cs).take (k * 6) := by
  refine List.ext_getElem? fun j => ?_
  rw [flat6_get, List.getElem?_take, List.getElem?_take, flat6_get]
  by_cases h : j < k * 6
  · rw [if_pos h, if_pos (by omega)]
  · rw [if_neg h, if_neg (by omega)]; rfl
theorem flat6_drop (R : List En) (k : Nat) : (R.drop k).flatMap En.cs = (R.flatMap En.cs).drop (k * 6) := by
  refine List.ext_getElem? fun j => ?_
  rw [flat6_get, List.getElem?_drop, List.getElem?_drop, flat6_get, show (k * 6 + j) / 6 = k + j / 6 by omega, show (k * 6 + j) % 6 = j % 6 by omega]
theorem refAt_cells {w : World} {base p g n cap : Nat} {R : List En} (h : RefAt w base p (.slice (some ⟨g, 0, none⟩) n cap) R) (hn : n = R.length) (j : Nat) (u : Value) (hu : (R.flatMap En.cs)[j]? = some u) : w.cell? ⟨g, j, none⟩ = some u := by
  subst hn
  have hj : j < R.length * 6 := by
    have := (List.getElem?_eq_some_iff.1 hu).1
    rw [flat6_len] at this
    exact this
  rw [World.ownsRow.cellAt h.2.2.1 j hj]
  exact hu
theorem row_any {w : World} {base n size : Nat} {e : TypeId} {v : Value} {xs : List Value} (h : w.ownsRow base e size v n xs) : ∃ (ad : Option Addr) (cap : Nat), v = .slice ad n cap := by
  rcases h.2 with ⟨rfl, rfl⟩ | ⟨g, cap, cur, rfl, -⟩
  · exact ⟨none, 0, rfl⟩
  · exact ⟨_, cap, rfl⟩
theorem refAt_slice {w : World} {base p n : Nat} {o : Value} {ad : Option Addr} {cap : Nat} {R : List En} (h1 : w.ownsRow base 46 6 (.slice ad n cap) n (R.flatMap En.cs)) (hn : n = R.length) (hb : base ≤ p) (h2 : w.heap[p]? = some (.cells #[o] 40 (0, 0))) (hv : Value.ownBlock (.slice ad n cap) ≠ some p) :
    RefAt (w.setCell ⟨p, 0, none⟩ (.slice ad n cap)) base p (.slice ad n cap) R ∧ ∀ u, Fr w (w.setCell ⟨p, 0, none⟩ (.slice ad n cap)) p u u := by
  subst hn
  have ho : ∀ k, k ≠ p → (w.setCell ⟨p, 0, none⟩ (.slice ad R.length cap)).heap[k]? = w.heap[k]? := fun k hk => heap_setCell_other _ (⟨p, 0, none⟩ : Addr) k _ hk
  have hs : (w.setCell ⟨p, 0, none⟩ (.slice ad R.length cap)).heap.size = w.heap.size := by simp
  refine ⟨⟨hb, by rw [heap_setCell_same w p 0 _ _ _ h2]; rfl, h1.kept (row := some p) ⟨rfl, rfl, rfl, by rw [hs]; exact Nat.le_refl _, fun k hk hn => ho k (fun e => hn (by rw [e]))⟩ (Or.inr hv), hv⟩, fun u => ⟨⟨rfl, rfl, rfl, by rw [hs]; exact Nat.le_refl _⟩, fun k hk hkp _ => ho k hkp, fun k h => Or.inl h⟩⟩
theorem refAt_sc {W w : World} {base p : Nat} {u v : Value} {R : List En} (h : RefAt w base p v R ∧ Fr W w p u v) {a : Addr} {x : Value} (hp : a.block ≠ p) (hv : v.ownBlock ≠ some a.block) (hW : W.heap.size ≤ a.block) :
    RefAt (w.setCell a x) base p v R ∧ Fr W (w.setCell a x) p u v := by
  obtain ⟨⟨h1, h2, h3, h4⟩, hF⟩ := h
  have ho : ∀ k, k ≠ a.block → (w.setCell a x).heap[k]? = w.heap[k]? := fun k hk => heap_setCell_other _ a k _ hk
  have hs : (w.setCell a x).heap.size = w.heap.size := by simp
  refine ⟨⟨h1, by rw [ho p (fun e => hp e.symm)]; exact h2, h3.kept (row := some a.block) ⟨rfl, rfl, rfl, by rw [hs]; exact Nat.le_refl _, fun k hk hn => ho k (fun e => hn (by rw [e]))⟩ (Or.inr hv), h4⟩, ⟨hF.1.1, hF.1.2.1, hF.1.2.2.1, by rw [hs]; exact hF.1.2.2.2⟩, fun k hk hkp hkv => (ho k (by omega)).trans (hF.2.1 k hk hkp hkv), hF.2.2⟩
/-- What the document's Pop leaves. -/
def RPopAt (base p : Nat) (v : Value) (R : List En) (k : Nat) (W w' : World) : Prop :=
  ∃ v', RefAt w' base p v' (R.eraseIdx k) ∧ Fr W w' p v v'
set_option maxHeartbeats 8000000 in
set_option maxRecDepth 100000 in
theorem rpop_some (R : List En) (base p g n cap k : Nat) (x : En) (hn : n = R.length) (hl : n ≤ 1000) (hk : k < n) (hx : R[k]'(hn ▸ hk) = x) (W : World) (hb : base ≤ W.heap.size) (H : RefAt W base p (.slice (some ⟨g, 0, none⟩) n cap) R)
    (A1 : ∀ w, Gr W w → Calls Try.prog 39 #[.pointer (some ⟨p, 0, none⟩)] w fun e w' => e = .returned (.int .i64 k) ∧ Gr w w') :
    Calls Try.prog 25 #[.pointer (some ⟨p, 0, none⟩)] W fun e w' => e = .returned (.tuple #[.agg #[.int .i64 (x).id, .int .u64 (x).hi, .int .u64 (x).lo, .int .u64 (x).den, .bool (x).item, .int .i64 (x).node], .bool true]) ∧ RPopAt base p (.slice (some ⟨g, 0, none⟩) n cap) R k W w' := by
  obtain ⟨i0, hi0, hz0, hz1, hz2⟩ := info_parts (P := Try.prog) (e := 46) (z := .agg #[.int .i64 0, .int .u64 0, .int .u64 0, .int .u64 0, .bool false, .int .i64 0]) (size := 6) (bytes := 48) (by kernel_rfl)
  have HI := Lib.hid hi0
  have HZ0 := Lib.hid hz0
  have HZ1 := Lib.hid hz1
  have HZ2 := Lib.hid hz2
  clear hi0 hz0 hz1 hz2
  obtain ⟨ad', g', cap', e1, hc1, hc2, hc3, hc4⟩ := refAt_form H
  obtain ⟨rfl, -⟩ : cap = cap' ∧ True := by simp at e1; exact ⟨e1.2.2, trivial⟩
  have hpg : p ≠ g := fun e => H.2.2.2 (by simp [Value.ownBlock, e])
  have hgp : ¬ g = p := fun e => hpg e.symm
  obtain ⟨p0, pf⟩ := one_cell H.2.1
  have zp := World.block_lt_of_cell? _ _ p0
  have hent : EntAt W g (k * 6) x := by
    have cell : ∀ (c : Nat), c < 6 → W.cell? ⟨g, k * 6 + c, none⟩ = x.cs[c]? := fun c hc => by
      have h := flat6_at R k c (by omega) hc
      have hx' : R[k]'(by omega) = x := hx
      rw [hx'] at h
      obtain ⟨u, hu⟩ : ∃ u, x.cs[c]? = some u := ⟨_, List.getElem?_eq_getElem (show c < x.cs.length from hc)⟩
      rw [hu] at h ⊢
      exact refAt_cells H hn _ _ h
    exact ⟨cell 0 (by omega), cell 1 (by omega), cell 2 (by omega), cell 3 (by omega), cell 4 (by omega), cell 5 (by omega)⟩
  have zg : g < W.heap.size := World.block_lt_of_cell? _ _ hent.1
  have hcap : n ≤ cap := by omega
  have b1 : ((n : Int) == 0) = false := by simp; omega
  have b2 : (n == 0) = false := by simp; omega
  have b3 : (k : Int) < (n : Int) := by omega
  have b4 : decide ((k : Int) < (n : Int)) = true := decide_eq_true b3
  obtain ⟨k1, ek1⟩ : ∃ k1, k1 = k + 1 := ⟨_, rfl⟩
  have b5 : (k : Int) + 1 = (k1 : Int) := by omega
  have b6 : k ≤ cap := by omega
  have b7 : (k : Int) ≤ (cap : Int) := by omega
  have b8 : k1 ≤ n := by omega
  have b9 : (k1 : Int) ≤ (n : Int) := by omega
  have b10 : (0 : Int) ≤ (k1 : Int) := by omega
  have b11 : n ≤ cap := hcap
  have b12 : (n : Int) ≤ (cap : Int) := by omega
  have b13 : (cap : Int) ≤ 9223372036854775807 := hc2
  have hk5 : k1 ≤ 100000 := by omega
  obtain ⟨wk1, wk2⟩ := wraps_small hk5
  have HX := Lib.hid hent
  have HH := Lib.hid (And.intro H (And.intro hn (And.intro ek1 (And.intro hk hcap))))
  have A2 : ∀ j u, ((R.take k).flatMap En.cs)[j]? = some u → W.cell? ((⟨g, 0, none⟩ : Addr).add j) = some u := fun j u hu => by
    rw [addr_add6, Nat.zero_add]
    rw [flat6_take, List.getElem?_take] at hu
    split at hu
    · exact refAt_cells H hn j u hu
    · cases hu
  have A3 : ∀ j u, ((R.drop k1).flatMap En.cs)[j]? = some u → W.cell? ((⟨g, k1 * 6, none⟩ : Addr).add j) = some u := fun j u hu => by
    rw [addr_add6]
    rw [flat6_drop, List.getElem?_drop] at hu
    exact refAt_cells H hn _ u hu
  have A4 : ((R.take k).flatMap En.cs).length = k * 6 := by rw [flat6_len, List.length_take]; omega
  have A5 : ((R.drop k1).flatMap En.cs).length = (n - k1) * 6 := by rw [flat6_len, List.length_drop]; omega
  have H1 := Lib.hid A1
  have H2 := Lib.hid A2
  have H3 := Lib.hid A3
  have H4 := Lib.hid A4
  have H5 := Lib.hid A5
  clear A1 A2 A3 A4 A5
  clear hent hn ek1 e1 hc1 hc2 hc3 hc4 hx H
  go_enter Try.func25, Try.ntmps25
  go_wp2_with fail
  go_at_call 39
  (with_reducible refine (H1.out _ (by go_grown)).mono ?_)
  rintro e w1 ⟨rfl, g1⟩
  have G1 : Gr W w1 := Gr.trans (by go_grown) g1
  have T1 := Lib.hid (show w1.heap[W.heap.size]? = some (.cells #[.int .i64 0, .int .u64 0, .int .u64 0, .int .u64 0, .bool false, .int .i64 0] 46 (0, 0)) by rw [g1.block _ (by simp)]; exact heap_alloc_new W _)
  have q0 := cell_gr G1 p0
  have qf := frozen_gr G1 p0 pf
  obtain ⟨x0, x1, x2, x3, x4, x5⟩ := entAt_gr HX.out G1
  have zp1 : p < w1.heap.size := Nat.lt_of_lt_of_le zp G1.size
  have zg1 : g < w1.heap.size := Nat.lt_of_lt_of_le zg G1.size
  have HG1 := Lib.hid G1
  clear g1 G1 p0 pf
  go_upto_region 6 with fail
  obtain ⟨w2, hw2⟩ : ∃ w2, w1.alloc (.cells #[.int .i64 x.id, .int .u64 x.hi, .int .u64 x.lo, .int .u64 x.den, .bool x.item, .int .i64 x.node] 46) = w2 := ⟨_, rfl⟩
  rw [hw2]
  have g2 : Gr w1 w2 := by subst hw2; exact (Below.refl _ _).alloc (Nat.le_refl _) _
  have B5 : w2.heap[w1.heap.size]? = some (.cells #[.int .i64 x.id, .int .u64 x.hi, .int .u64 x.lo, .int .u64 x.den, .bool x.item, .int .i64 x.node] 46 (0, 0)) := by subst hw2; exact heap_alloc_new w1 _
  have HB5 := Lib.hid B5
  have T2 := Lib.hid ((g2.block _ (Array.getElem?_eq_some_iff.1 T1.out).1).trans T1.out)
  have G2 := Lib.hid (Gr.trans HG1.out g2)
  have r0 := cell_gr g2 q0
  have rf := frozen_gr g2 q0 qf
  have zb : base ≤ w2.heap.size := Nat.le_trans hb G2.out.size
  have OE := Lib.hid (en_one (R.take k))
  have OE2 := Lib.hid (en_one (R.drop k1))
  have NT2 := Lib.hid (fun j u (hu : ((R.take k).flatMap En.cs)[j]? = some u) => cell_gr G2.out (H2.out j u hu))
  clear hw2 g2 B5 T1 q0 qf x0 x1 x2 x3 x4 x5 zp1 zg1
  go_upto_region 7 with (first | (at_builtin; (refine wpList_append_own2 _ rfl (.tmp 23) (.tmp 29) 38 rfl base 46 i0 (.agg #[.int .i64 0, .int .u64 0, .int .u64 0, .int .u64 0, .bool false, .int .i64 0]) 6 48 Try.underlying38 HI.out HZ0.out HZ1.out HZ2.out rfl (by decide) (.slice none 0 0) 0 [] rfl (World.ownsRow_nil _ _ _ _) ⟨g, 0, none⟩ k cap ((R.take k).flatMap En.cs) rfl H4.out NT2.out OE.out (by unfold maxLen; omega) (by omega) zb ?_); intro v1 w3 own1 gr1))
  simp only [Nat.zero_add, List.nil_append] at own1
  have g3 := gr1.nil
  have O1 := Lib.hid own1
  have c3 := cell_gr g3 r0
  have f3 := frozen_gr g3 r0 rf
  have zb3 : base ≤ w3.heap.size := Nat.le_trans zb g3.size
  have G3 := Lib.hid (Gr.trans G2.out g3)
  have hvp : ∀ j, v1.ownBlock = some j → j ≠ p := fun j hj => by
    rcases gr1.at j hj with h | h
    · cases h
    · have := Nat.lt_of_lt_of_le zp G2.out.size; omega
  have hvn : ∀ j, v1.ownBlock = some j → W.heap.size ≤ j := fun j hj => by
    rcases gr1.at j hj with h | h
    · cases h
    · exact Nat.le_trans G2.out.size h
  have hv5 : ∀ j, v1.ownBlock = some j → j ≠ w1.heap.size := fun j hj => by
    rcases gr1.at j hj with h | h
    · cases h
    · have := (Array.getElem?_eq_some_iff.1 HB5.out).1; omega
  have hvq : ∀ j, v1.ownBlock = some j → j ≠ W.heap.size := fun j hj => by
    rcases gr1.at j hj with h | h
    · cases h
    · have := (Array.getElem?_eq_some_iff.1 T2.out).1; omega
  have BP3 := (g3.block p (Nat.lt_of_lt_of_le zp G2.out.size)).trans ((G2.out.block p zp).trans HH.out.1.2.1)
  have BP4 : ∀ v2 w4, Grown w3 w4 v1 v2 → w4.heap[p]? = some (.cells #[.slice (some ⟨g, 0, none⟩) n cap] 40 (0, 0)) := fun v2 w4 h => h.block BP3 hvp
  have T3 := Lib.hid (fun v2 w4 (h : Grown w3 w4 v1 v2) => h.block ((g3.block _ (Array.getElem?_eq_some_iff.1 T2.out).1).trans T2.out) hvq)
  have U3 := Lib.hid (fun v2 w4 (h : Grown w3 w4 v1 v2) => h.block ((g3.block _ (Array.getElem?_eq_some_iff.1 HB5.out).1).trans HB5.out) hv5)
  have HVN := Lib.hid (And.intro hvn hvp)
  have HQ := Lib.hid hvq
  have HW3 := Lib.hid (show W.heap.size < w3.heap.size from Nat.lt_of_lt_of_le (Array.getElem?_eq_some_iff.1 T2.out).1 g3.size)
  clear own1 gr1 g3 r0 rf hvn hvp hv5 hvq BP3 T2 HB5
  by_cases hcapk : cap = k1
  · obtain rfl : k1 = cap := hcapk.symm
    have ND3 := Lib.hid (fun j u (hu : ((R.drop k1).flatMap En.cs)[j]? = some u) => show w3.cell? ((⟨g, 0, none⟩ : Addr).add j) = some u by
      have := (List.getElem?_eq_some_iff.1 hu).1
      rw [H5.out] at this
      omega)
    have H50 := Lib.hid (show ((R.drop k1).flatMap En.cs).length = 0 * 6 by rw [H5.out]; omega)
    have hnk : n = k1 := by omega
    have HNK := Lib.hid hnk
    clear hnk hcapk
    go_upto_region 8 with (first | (at_builtin; (refine wpList_append_own2 _ rfl (.tmp 32) (.tmp 39) 38 rfl base 46 i0 (.agg #[.int .i64 0, .int .u64 0, .int .u64 0, .int .u64 0, .bool false, .int .i64 0]) 6 48 Try.underlying38 HI.out HZ0.out HZ1.out HZ2.out rfl (by decide) v1 k ((R.take k).flatMap En.cs) rfl O1.out ⟨g, 0, none⟩ 0 0 ((R.drop k1).flatMap En.cs) rfl H50.out ND3.out OE2.out (by unfold maxLen; omega) (by omega) zb3 ?_); intro v2' w4 own2 gr2; obtain ⟨ad2, cap2, rfl⟩ := row_any own2; have c4 := (one_cell (BP4 _ w4 gr2)).1; have f4 := (one_cell (BP4 _ w4 gr2)).2; have HO2 := Lib.hid own2; have HR2 := Lib.hid gr2; clear own2 gr2))
    obtain ⟨m2, em2⟩ : ∃ m2, m2 = k := ⟨_, rfl⟩
    have hvnew : Value.ownBlock (.slice ad2 k cap2) ≠ some p := fun e => by
      rcases HR2.out.at p e with h | h
      · exact HVN.out.2 p h rfl
      · have := Nat.lt_of_lt_of_le zp G3.out.size; omega
    have hvq : ∀ q, q < w3.heap.size → (∀ j, v1.ownBlock = some j → j ≠ q) → Value.ownBlock (.slice ad2 k cap2) ≠ some q := fun q hq hj e => by
      rcases HR2.out.at q e with h | h
      · exact hj q h rfl
      · omega
    have hRl : k = (R.eraseIdx k).length := by
      have h1 := HH.out.2.1
      have h2 := HH.out.2.2.1
      have h3 := HH.out.2.2.2.1
      have h4 := HNK.out
      rw [List.length_eraseIdx, if_pos (by omega)]
      omega
    have hown : w4.ownsRow base 46 6 (.slice ad2 k cap2) k ((R.eraseIdx k).flatMap En.cs) := by
      have h2 := HH.out.2.2.1
      rw [List.eraseIdx_eq_take_drop_succ, List.flatMap_append, ← h2]
      exact HO2.out
    have k5 := refAt_slice hown hRl HH.out.1.1 (BP4 _ w4 HR2.out) hvnew
    obtain ⟨w5, hw5⟩ : ∃ w5, w4.setCell ⟨p, 0, none⟩ (.slice ad2 k cap2) = w5 := ⟨_, rfl⟩
    have hT := T3.out _ w4 HR2.out
    have hU := U3.out _ w4 HR2.out
    have hT5 := (show w5.heap[W.heap.size]? = w4.heap[W.heap.size]? by rw [← hw5]; exact heap_setCell_other _ (⟨p, 0, none⟩ : Addr) _ _ (by show W.heap.size ≠ p; omega)).trans hT
    have hU5 := (show w5.heap[w1.heap.size]? = w4.heap[w1.heap.size]? by rw [← hw5]; exact heap_setCell_other _ (⟨p, 0, none⟩ : Addr) _ _ (by have := HG1.out.size; show w1.heap.size ≠ p; omega)).trans hU
    rw [hw5] at k5 ⊢
    have hF5 : Fr W w5 p (.slice (some ⟨g, 0, none⟩) n k1) (.slice ad2 k cap2) := by
      have f1 : Fr W w3 p (.slice (some ⟨g, 0, none⟩) n k1) (.slice (some ⟨g, 0, none⟩) n k1) := Fr.of_gr G3.out
      have f2 : Fr W w4 p (.slice (some ⟨g, 0, none⟩) n k1) (.slice ad2 k cap2) := by
        refine ⟨⟨HR2.out.1.os.trans f1.1.1, HR2.out.1.tape.trans f1.1.2.1, HR2.out.1.output.trans f1.1.2.2.1, Nat.le_trans f1.1.2.2.2 HR2.out.1.size⟩, fun j hj hjp hjv => ?_, fun j hj => ?_⟩
        · exact (HR2.out.1.block j (Nat.lt_of_lt_of_le hj G3.out.size) (fun e => by have := HVN.out.1 j e.symm; omega)).trans (G3.out.block j hj)
        · rcases HR2.out.at j hj with h | h
          · exact Or.inr (HVN.out.1 j h)
          · exact Or.inr (Nat.le_trans G3.out.size h)
      exact f2.trans (k5.2 _)
    obtain ⟨s0, s1, s2, s3, s4, s5, sf⟩ := row6 hT5
    obtain ⟨u0, u1, u2, u3, u4, u5, uf⟩ := row6 hU5
    have zT := (Array.getElem?_eq_some_iff.1 hT).1
    have hvW : Value.ownBlock (.slice ad2 k cap2) ≠ some W.heap.size := fun e => by
      rcases HR2.out.at _ e with h | h
      · exact HQ.out _ h rfl
      · have := HW3.out; omega
    have HKR := Lib.hid (And.intro k5.1 hF5)
    have e0 : W.heap.size ≠ p := by omega
    have HVW := Lib.hid hvW
    clear k5 hF5 hT hU hT5 hU5 hw5 hown hRl hvnew hvq hvW c4 f4 HO2 HR2 em2 zT uf
    go_wp2_with fail
    have K1 := refAt_sc (a := ⟨W.heap.size, 0, none⟩) (x := .int .i64 x.id) HKR.out e0 HVW.out (Nat.le_refl _)
    have K2 := refAt_sc (a := ⟨W.heap.size, 1, none⟩) (x := .int .u64 x.hi) K1 e0 HVW.out (Nat.le_refl _)
    have K3 := refAt_sc (a := ⟨W.heap.size, 2, none⟩) (x := .int .u64 x.lo) K2 e0 HVW.out (Nat.le_refl _)
    have K4 := refAt_sc (a := ⟨W.heap.size, 3, none⟩) (x := .int .u64 x.den) K3 e0 HVW.out (Nat.le_refl _)
    have K5 := refAt_sc (a := ⟨W.heap.size, 4, none⟩) (x := .bool x.item) K4 e0 HVW.out (Nat.le_refl _)
    have K6 := Lib.hid (refAt_sc (a := ⟨W.heap.size, 5, none⟩) (x := .int .i64 x.node) K5 e0 HVW.out (Nat.le_refl _))
    clear K1 K2 K3 K4 K5 e0
    refine bodyPost_ret (v := .tuple #[.agg #[.int .i64 (x).id, .int .u64 (x).hi, .int .u64 (x).lo, .int .u64 (x).den, .bool (x).item, .int .i64 (x).node], .bool true]) (by simp [results, Try.results25, go_sem, *]) rfl ?_
    exact ⟨rfl, _, K6.out.1, K6.out.2⟩
  · have ND3 := Lib.hid (fun j u (hu : ((R.drop k1).flatMap En.cs)[j]? = some u) => cell_gr G3.out (H3.out j u hu))
    go_upto_region 8 with (first | (at_builtin; (refine wpList_append_own2 _ rfl (.tmp 32) (.tmp 39) 38 rfl base 46 i0 (.agg #[.int .i64 0, .int .u64 0, .int .u64 0, .int .u64 0, .bool false, .int .i64 0]) 6 48 Try.underlying38 HI.out HZ0.out HZ1.out HZ2.out rfl (by decide) v1 k ((R.take k).flatMap En.cs) rfl O1.out ⟨g, k1 * 6, none⟩ (n - k1) (cap - k1) ((R.drop k1).flatMap En.cs) rfl H5.out ND3.out OE2.out (by unfold maxLen; omega) (by omega) zb3 ?_); intro v2' w4 own2 gr2; obtain ⟨ad2, cap2, rfl⟩ := row_any own2; have c4 := (one_cell (BP4 _ w4 gr2)).1; have f4 := (one_cell (BP4 _ w4 gr2)).2; have HO2 := Lib.hid own2; have HR2 := Lib.hid gr2; clear own2 gr2))
    obtain ⟨m2, em2⟩ : ∃ m2, m2 = k + (n - k1) := ⟨_, rfl⟩
    have hvnew : Value.ownBlock (.slice ad2 (k + (n - k1)) cap2) ≠ some p := fun e => by
      rcases HR2.out.at p e with h | h
      · exact HVN.out.2 p h rfl
      · have := Nat.lt_of_lt_of_le zp G3.out.size; omega
    have hvq : ∀ q, q < w3.heap.size → (∀ j, v1.ownBlock = some j → j ≠ q) → Value.ownBlock (.slice ad2 (k + (n - k1)) cap2) ≠ some q := fun q hq hj e => by
      rcases HR2.out.at q e with h | h
      · exact hj q h rfl
      · omega
    have hRl : k + (n - k1) = (R.eraseIdx k).length := by
      have h1 := HH.out.2.1
      have h2 := HH.out.2.2.1
      have h3 := HH.out.2.2.2.1
      rw [List.length_eraseIdx, if_pos (by omega)]
      omega
    have hown : w4.ownsRow base 46 6 (.slice ad2 (k + (n - k1)) cap2) (k + (n - k1)) ((R.eraseIdx k).flatMap En.cs) := by
      have h2 := HH.out.2.2.1
      rw [List.eraseIdx_eq_take_drop_succ, List.flatMap_append, ← h2]
      exact HO2.out
    have k5 := refAt_slice hown hRl HH.out.1.1 (BP4 _ w4 HR2.out) hvnew
    obtain ⟨w5, hw5⟩ : ∃ w5, w4.setCell ⟨p, 0, none⟩ (.slice ad2 (k + (n - k1)) cap2) = w5 := ⟨_, rfl⟩
    have hT := T3.out _ w4 HR2.out
    have hU := U3.out _ w4 HR2.out
    have hT5 := (show w5.heap[W.heap.size]? = w4.heap[W.heap.size]? by rw [← hw5]; exact heap_setCell_other _ (⟨p, 0, none⟩ : Addr) _ _ (by show W.heap.size ≠ p; omega)).trans hT
    have hU5 := (show w5.heap[w1.heap.size]? = w4.heap[w1.heap.size]? by rw [← hw5]; exact heap_setCell_other _ (⟨p, 0, none⟩ : Addr) _ _ (by have := HG1.out.size; show w1.heap.size ≠ p; omega)).trans hU
    rw [hw5] at k5 ⊢
    have hF5 : Fr W w5 p (.slice (some ⟨g, 0, none⟩) n cap) (.slice ad2 (k + (n - k1)) cap2) := by
      have f1 : Fr W w3 p (.slice (some ⟨g, 0, none⟩) n cap) (.slice (some ⟨g, 0, none⟩) n cap) := Fr.of_gr G3.out
      have f2 : Fr W w4 p (.slice (some ⟨g, 0, none⟩) n cap) (.slice ad2 (k + (n - k1)) cap2) := by
        refine ⟨⟨HR2.out.1.os.trans f1.1.1, HR2.out.1.tape.trans f1.1.2.1, HR2.out.1.output.trans f1.1.2.2.1, Nat.le_trans f1.1.2.2.2 HR2.out.1.size⟩, fun j hj hjp hjv => ?_, fun j hj => ?_⟩
        · exact (HR2.out.1.block j (Nat.lt_of_lt_of_le hj G3.out.size) (fun e => by have := HVN.out.1 j e.symm; omega)).trans (G3.out.block j hj)
        · rcases HR2.out.at j hj with h | h
          · exact Or.inr (HVN.out.1 j h)
          · exact Or.inr (Nat.le_trans G3.out.size h)
      exact f2.trans (k5.2 _)
    obtain ⟨s0, s1, s2, s3, s4, s5, sf⟩ := row6 hT5
    obtain ⟨u0, u1, u2, u3, u4, u5, uf⟩ := row6 hU5
    have zT := (Array.getElem?_eq_some_iff.1 hT).1
    have hvW : Value.ownBlock (.slice ad2 (k + (n - k1)) cap2) ≠ some W.heap.size := fun e => by
      rcases HR2.out.at _ e with h | h
      · exact HQ.out _ h rfl
      · have := HW3.out; omega
    have HKR := Lib.hid (And.intro k5.1 hF5)
    have e0 : W.heap.size ≠ p := by omega
    have HVW := Lib.hid hvW
    clear k5 hF5 hT hU hT5 hU5 hw5 hown hRl hvnew hvq hvW c4 f4 HO2 HR2 em2 zT uf
    go_wp2_with fail
    have K1 := refAt_sc (a := ⟨W.heap.size, 0, none⟩) (x := .int .i64 x.id) HKR.out e0 HVW.out (Nat.le_refl _)
    have K2 := refAt_sc (a := ⟨W.heap.size, 1, none⟩) (x := .int .u64 x.hi) K1 e0 HVW.out (Nat.le_refl _)
    have K3 := refAt_sc (a := ⟨W.heap.size, 2, none⟩) (x := .int .u64 x.lo) K2 e0 HVW.out (Nat.le_refl _)
    have K4 := refAt_sc (a := ⟨W.heap.size, 3, none⟩) (x := .int .u64 x.den) K3 e0 HVW.out (Nat.le_refl _)
    have K5 := refAt_sc (a := ⟨W.heap.size, 4, none⟩) (x := .bool x.item) K4 e0 HVW.out (Nat.le_refl _)
    have K6 := Lib.hid (refAt_sc (a := ⟨W.heap.size, 5, none⟩) (x := .int .i64 x.node) K5 e0 HVW.out (Nat.le_refl _))
    clear K1 K2 K3 K4 K5 e0
    refine bodyPost_ret (v := .tuple #[.agg #[.int .i64 (x).id, .int .u64 (x).hi, .int .u64 (x).lo, .int .u64 (x).den, .bool (x).item, .int .i64 (x).node], .bool true]) (by simp [results, Try.results25, go_sem, *]) rfl ?_
    exact ⟨rfl, _, K6.out.1, K6.out.2⟩
end Go.Proofs.Ytldlpbfncgcimaa
