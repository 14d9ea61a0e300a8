/- slots: read -/
import Derived.Test.YtilijbplfobneaaDoorMe
namespace Go.Proofs.YtilijbplfobneaaDoor
set_option linter.unusedVariables false
set_option linter.unusedSimpArgs false
open Go.ChangeShapes Go.WideShapes Go.ChangeAt Go.RowKit Go.Maps

def rFrom (L : List UInt8) (n : Nat) : Nat := pv L (16 + 4 * n)
def rRaw (L : List UInt8) (n : Nat) : Nat := pv L (18 + 4 * n)
/-- A slot, as it is read. -/
def rSl (L : List UInt8) (n : Nat) : Sl := if rRaw L n = 0 then none else some ((L.drop (rFrom L n)).take (rRaw L n - 1))
def rOk (L : List UInt8) (n : Nat) : Prop := rRaw L n ≤ 401 ∧ rFrom L n + rRaw L n ≤ 513
def rdT (L : List UInt8) : Nat → List Sl
  | 0 => []
  | i + 1 => rdT L i ++ [rSl L i]
theorem rdT_len (L : List UInt8) : ∀ i, (rdT L i).length = i
  | 0 => rfl
  | i + 1 => by
    have ih := rdT_len L i
    show (rdT L i ++ [rSl L i]).length = i + 1
    rw [List.length_append, ih]
    rfl
def RdOk (L : List UInt8) : Prop := L.length = 512 ∧ rb L 1 ≤ 60 ∧ (∀ n, n < rb L 1 → rOk L n) ∧ (0 < rb L 1 → ((rdT L (rb L 1)).getD (rb L 1 - 1) none).isSome = true) ∧ usS (rdT L (rb L 1)) ≤ 512
/-- What read leaves. -/
def ReadTo (W : World) (L : List UInt8) (e : Ending) (w' : World) : Prop :=
  (e = .returned (.pointer none) ∧ ¬ RdOk L) ∨
  (RdOk L ∧ ∃ B C, e = .returned (.pointer (some ⟨B, 0, none⟩)) ∧ (∀ k, pgZ B C k → W.heap.size ≤ k) ∧ PageS w' B C (rb L 0 : Nat) (wv (L.drop 2) : Nat) (rdT L (rb L 1)))
theorem row_dt {w : World} {v : Value} {L : List UInt8} (l h : Nat) (hl : l ≤ h) (hh : h ≤ L.length) (hR : Row w v L) :
    ∃ v', (∀ w0, (Instr.slice 35 v (some (.int .i64 l)) (some (.int .i64 h)) none).run Tryd.prog w0 = .ok v' w0) ∧ Row w v' ((L.drop l).take (h - l)) := by
  obtain ⟨v', h1, h2⟩ := row_mid l h hl hh hR
  refine ⟨v', h1, ?_⟩
  rw [List.drop_take] at h2
  exact h2
theorem rd_facts {L : List UInt8} {i : Nat} (hi : i < 60) (hl : L.length = 512) {A A2 : Nat} (hA : A = 16 + 4 * i) (hA2 : A2 = 18 + 4 * i) : wrap64 (4 * (i : Int)) = 4 * (i : Int) ∧ IntKind.i64.wrap (4 * (i : Int)) = 4 * (i : Int) ∧
    wrap64 (16 + 4 * (i : Int)) = (A : Int) ∧ IntKind.i64.wrap (16 + 4 * (i : Int)) = (A : Int) ∧ wrap64 ((A : Int) + 2) = (A2 : Int) ∧ IntKind.i64.wrap ((A : Int) + 2) = (A2 : Int) ∧ A ≤ L.length ∧ A2 ≤ L.length ∧ 2 ≤ (L.drop A).length ∧ 2 ≤ (L.drop A2).length ∧ (L.drop A).length ≤ 1000000000 ∧ (L.drop A2).length ≤ 1000000000 := by
  have e3 : 16 + 4 * (i : Int) = (A : Int) := by omega
  have e4 : (A : Int) + 2 = (A2 : Int) := by omega
  rw [e3, e4, List.length_drop, List.length_drop]
  exact ⟨wr_small (by omega), wk_small (by omega), wr_small (by omega), wk_small (by omega), wr_small (by omega), wk_small (by omega), by omega, by omega, by omega, by omega, by omega, by omega⟩
/-- As far as it is read. -/
def RdX (W wr : World) (L : List UInt8) (B i : Nat) : Prop := (∀ n, n < i → rOk L n) ∧ ∃ C, PageS wr B C (rb L 0 : Nat) (wv (L.drop 2) : Nat) (rdT L i) ∧ ∀ k, pgZ B C k → W.heap.size ≤ k
/-- The same, of one row of slots. -/
def RdC (W wr : World) (L : List UInt8) (B : Nat) (C : Option Nat) (i : Nat) : Prop := (∀ n, n < i → rOk L n) ∧ PageS wr B C (rb L 0 : Nat) (wv (L.drop 2) : Nat) (rdT L i) ∧ ∀ k, pgZ B C k → W.heap.size ≤ k
theorem rdC_kx {W a b : World} {L : List UInt8} {B i V : Nat} {C : Option Nat} (h : RdC W a L B C i) (K : Kx (fun k => k = V) a b) (hV : a.heap.size ≤ V) : RdC W b L B C i := by
  obtain ⟨h1, h2, h3⟩ := h
  refine ⟨h1, pageS_kx h2 K (fun k hk => ⟨fun hz => ?_, by rw [hk]; exact hV⟩), h3⟩
  have := pageS_zlt h2 k hz
  omega
theorem rdC_slot {W wr wd we w5 : World} {L M : List UInt8} {B i V : Nat} {C : Option Nat} {v : Value} (h : RdC W wr L B C i) (hVw : wr.heap.size ≤ V) (hVd : V < wd.heap.size) (o : Own we wd.heap.size v M) (K : Kx (fun k => k = V) we w5) (hl : M.length ≤ 400) : SlotC w5 (pgZ B C) (some M) (.bool true) v := by
  refine ⟨rfl, ?_, hl⟩
  have r1 : RowOff we (fun k => pgZ B C k ∨ k = V) v M := rowOff_own o (fun k hk => by
    rcases hk with hk | hk
    · have := pageS_zlt h.2.1 k hk; omega
    · omega)
  exact rowOff_mono (rowOff_kx r1 K (fun k hk => Or.inl (Or.inr hk))) (fun k hk => Or.inl (Or.inl hk))
theorem rd_no {L : List UInt8} {c1 i : Nat} (hc : c1 = rb L 1) (hi : i < c1) (h : ¬ rOk L i) : ¬ RdOk L := fun h2 => h (h2.2.2.1 i (by rw [← hc]; exact hi))
theorem one2 {x v : Value} (hx : x.oneCell' = true) (hv : v.oneCell' = true) : ∀ u ∈ [x, v], u.oneCell' = true := by
  intro u hu
  simp only [List.mem_cons, List.not_mem_nil, or_false] at hu
  rcases hu with rfl | rfl <;> assumption
set_option maxHeartbeats 4000000 in
set_option maxRecDepth 100000 in
theorem c_read {L : List UInt8} {v : Value} (W : World) (h : Row W v L) (hl0 : L.length ≤ 1000000) : Calls Tryd.prog 53 #[v] W fun e w' => ReadTo W L e w' ∧ Gr W w' := by
  obtain ⟨ad, cap, Bb, off, hv, h1, h2, h3, h4⟩ := id h
  obtain ⟨n, hn⟩ : ∃ x, x = L.length := ⟨_, rfl⟩
  rw [← hn] at hv h1
  subst hv
  have HN := Lib.hid hn
  by_cases hl : n = 512
  · subst hl
    obtain rfl := h3 (by omega)
    have y0 := h4 0 (by omega)
    have y1 := h4 1 (by omega)
    rw [rb_at L (by omega)] at y0 y1
    rw [Nat.add_zero] at y0
    have b0 := rb_lt L 0
    have b1 := rb_lt L 1
    have w2 := wv_lt (L.drop 2)
    obtain ⟨c0, hc0⟩ : ∃ x, x = rb L 0 := ⟨_, rfl⟩
    obtain ⟨c1, hc1⟩ : ∃ x, x = rb L 1 := ⟨_, rfl⟩
    obtain ⟨id, hid⟩ : ∃ x, x = wv (L.drop 2) := ⟨_, rfl⟩
    rw [← hc0] at y0 b0
    rw [← hc1] at y1 b1
    rw [← hid] at w2
    have HC := Lib.hid (And.intro hc0 (And.intro hc1 hid))
    obtain ⟨v2, hs2, r2⟩ := row_from 2 (by omega) h
    have AW := Lib.hid (fun w (g : Gr W w) => c_Word w (row_gr r2 g) (by rw [List.length_drop]; omega) (by rw [List.length_drop]; omega))
    rw [← hid] at AW
    have HR := Lib.hid h
    have z0 : c0 ≤ 1000000 := by omega
    have z1 : c1 ≤ 1000000 := by omega
    have HK := Lib.hid (And.intro (wr_both z0) (And.intro (wr_both z1) (And.intro (show IntKind.i64.wrap (id : Int) = (id : Int) from IntWalk.i64_in _ (by omega)) (show wrap64 (id : Int) = (id : Int) from IntWalk.wrap64_in _ (by omega)))))
    clear z0 z1 w2 b0
    have hB := World.block_lt_of_cell? _ _ y0
    by_cases h60 : 60 < c1
    · have t2 : decide ((60 : Int) < (c1 : Int)) = true := decide_eq_true (by omega)
      have HX : Hid (¬ RdOk L) := Lib.hid (fun h => by have := h.2.1; rw [← hc1] at this; omega)
      clear h h4 h3 hc0 hc1 hid hs2 r2
      obtain ⟨⟨k1, k2⟩, ⟨k3, k4⟩, k5, k6⟩ := HK.out
      go_enter Tryd.func53, Tryd.ntmps53
      go_wp2_with fail
      go_ret
      exact ⟨Or.inl ⟨rfl, HX.out⟩, by go_grown⟩
    · have t2 : decide ((60 : Int) < (c1 : Int)) = false := decide_eq_false (by omega)
      obtain ⟨i0, hi0, hz0, hz1, hz2⟩ := info_parts (P := Tryd.prog) (e := 92) (z := .agg #[.bool false, .slice none 0 0]) (size := 2) (bytes := 32) (by kernel_rfl)
      have HI := Lib.hid (And.intro hi0 (And.intro hz0 (And.intro hz1 hz2)))
      clear h h4 h3 hc0 hc1 hid r2 hi0 hz0 hz1 hz2 hn
      have hs2' : ∀ w0, (Instr.slice 35 (.slice (some ⟨Bb, off, none⟩) 512 cap) (some (.int .i64 2)) none none).run Tryd.prog w0 = .ok v2 w0 := hs2
      clear hs2
      obtain ⟨⟨k1, k2⟩, ⟨k3, k4⟩, k5, k6⟩ := HK.out
      go_enter Tryd.func53, Tryd.ntmps53
      go_wp2_with fail
      go_wp2_with fail
      try simp only [List.append]
      refine Od.wp_region_ordT 9 [(0, false), (1, false), (2, false), (3, false), (4, false), (5, false), (6, true), (7, false), (8, false)] (by kernel_rfl) (by kernel_rfl) ?_
      intro w3 hw3 KQ hKQ
      have cw3_0_0 : w3.cell? ⟨Bb, off, none⟩ = some (.int .u8 c0) := cell_gr hw3 (by go_simp)
      have cw3_0_1 : w3.cell? ⟨Bb, off + 1, none⟩ = some (.int .u8 c1) := cell_gr hw3 (by go_simp)
      have zw3_0 : Bb < w3.heap.size := World.block_lt_of_cell? _ _ cw3_0_0
      have gw3 : Gr W w3 := Gr.trans (by go_grown) hw3
      skip
      clear hw3
      repeat (first | (refine Od.wpO_skip (by simp only [List.getElem?_toArray, List.getElem?_cons_succ, List.getElem?_cons_zero] <;> rfl) rfl ?_; simp only [Act.put, List.setIfInBounds_toArray, List.set_cons_zero, List.set_cons_succ]) | (refine Od.wpO_pure (by simp only [List.getElem?_toArray, List.getElem?_cons_succ, List.getElem?_cons_zero] <;> rfl) rfl ?_; apply Exists.intro; refine ⟨?_, ?_⟩; (· intro wx gx; obtain ⟨mx, rfl⟩ := spread_of_gr gx; clear gx; all_goals (apply Od.pAt_of_quiet; intro K hK; go_big_quiet_op; first | exact hK _ rfl | (apply Exists.intro; refine ⟨fun _ => ?_, ?_⟩; (· fail); exact hK _ rfl))); try simp only [Act.put, List.setIfInBounds_toArray, List.set_cons_zero, List.set_cons_succ]))
      refine Od.wpO_call (by simp only [List.getElem?_toArray, List.getElem?_cons_succ, List.getElem?_cons_zero] <;> rfl) rfl ?_
      intro QS hQS
      go_wp2_with fail
      go_at_call 83
      (with_reducible refine ((AW.out _ gw3)).mono ?_)
      rintro e w4 ⟨rfl, hw4⟩
      go_wp2_with fail
      apply Exists.intro
      refine ⟨?_, hw4, ?_⟩
      · simp only [Act.put, List.setIfInBounds_toArray, List.set_cons_zero, List.set_cons_succ]; rfl
      have cw4_0_0 : w4.cell? ⟨Bb, off, none⟩ = some (.int .u8 c0) := cell_gr hw4 (by go_simp)
      have cw4_0_1 : w4.cell? ⟨Bb, off + 1, none⟩ = some (.int .u8 c1) := cell_gr hw4 (by go_simp)
      have zw4_0 : Bb < w4.heap.size := World.block_lt_of_cell? _ _ cw4_0_0
      have gw4 : Gr W w4 := Gr.trans (by have gg := gw3; have gs := gg.size; go_grown) hw4
      clear gw3 zw3_0 cw3_0_0 cw3_0_1
      clear hw4
      try simp only [Act.put, List.setIfInBounds_toArray, List.set_cons_zero, List.set_cons_succ]
      repeat (first | (refine Od.wpO_skip (by simp only [List.getElem?_toArray, List.getElem?_cons_succ, List.getElem?_cons_zero] <;> rfl) rfl ?_; simp only [Act.put, List.setIfInBounds_toArray, List.set_cons_zero, List.set_cons_succ]) | (refine Od.wpO_pure (by simp only [List.getElem?_toArray, List.getElem?_cons_succ, List.getElem?_cons_zero] <;> rfl) rfl ?_; apply Exists.intro; refine ⟨?_, ?_⟩; (· intro wx gx; obtain ⟨mx, rfl⟩ := spread_of_gr gx; clear gx; all_goals (apply Od.pAt_of_quiet; intro K hK; go_big_quiet_op; first | exact hK _ rfl | (apply Exists.intro; refine ⟨fun _ => ?_, ?_⟩; (· fail); exact hK _ rfl))); try simp only [Act.put, List.setIfInBounds_toArray, List.set_cons_zero, List.set_cons_succ]))
      refine Od.wpO_nil (hKQ _ _ ?_)
      clear hKQ KQ
      have HX0 : Hid (RdX W (w4.alloc (.cells #[.bool true, .int .i64 c0, .int .i64 id, .slice none 0 0] 79)) L w4.heap.size 0) := Lib.hid (by
        obtain ⟨e0, -, e2⟩ := HC.out
        rw [e0, e2]
        refine ⟨fun n hn => absurd hn (by omega), none, ⟨.slice none 0 0, [], ⟨by go_simp, by go_simp, by go_simp, by go_simp, by go_simp⟩, rfl, by simp, by simp [rdT], World.ownsRow_nil _ _ _ _, fun j hj => absurd hj (by simp [rdT])⟩, fun k hk => ?_⟩
        rcases hk with rfl | hk
        · exact gw4.size
        · cases hk)
      have G5 : Gr W (w4.alloc (.cells #[.bool true, .int .i64 c0, .int .i64 id, .slice none 0 0] 79)) := Gr.trans gw4 ((Below.refl _ _).alloc (Nat.le_refl _) _)
      have hc60 : c1 ≤ 60 := by omega
      clear k1 k2 k3 k4 k5 k6 HK h60 hl0 b1
      go_wp2_with fail
      generalize w4.heap.size = B at HX0 ⊢
      clear gw4 cw4_0_0 cw4_0_1 zw4_0
      go_loopg [34] c1 (fun j y wr => ∃ i : Nat, y = .int .i64 i ∧ i ≤ c1 ∧ j = c1 - i ∧ Hid (RdX W wr L B i) ∧ Gr W wr)
      case atStart => exact ⟨0, rfl, by omega, by omega, HX0, G5⟩
      case round =>
        obtain ⟨i, rfl, hi, hj, HX, hg⟩ := hrel
        by_cases hin : i < c1
        · obtain ⟨A, hA⟩ : ∃ x, x = 16 + 4 * i := ⟨_, rfl⟩
          obtain ⟨A2, hA2⟩ : ∃ x, x = 18 + 4 * i := ⟨_, rfl⟩
          have ti : decide ((i : Int) < (c1 : Int)) = true := decide_eq_true (by omega)
          have ti2 : decide (i < c1) = true := decide_eq_true hin
          have ti3 : (i : Int) < (c1 : Int) := by omega
          have hRg := row_gr HR.out hg
          obtain ⟨f1, f2, f3, f4, f5, f6, f7, f8, f9, f10, f11, f12⟩ := rd_facts (L := L) (show i < 60 by omega) HN.out.symm hA hA2
          obtain ⟨va, hsa, ra⟩ := row_from A f7 hRg
          obtain ⟨vb, hsb, rb'⟩ := row_from A2 f8 hRg
          have AP1 := Lib.hid (fun w (g : Gr wr w) => c_pair w (row_gr ra g) f9 f11)
          have AP2 := Lib.hid (fun w (g : Gr wr w) => c_pair w (row_gr rb' g) f10 f12)
          rw [pv_drop] at AP1 AP2
          have er1 : pv L A = rFrom L i := by rw [hA]; rfl
          have er2 : pv L A2 = rRaw L i := by rw [hA2]; rfl
          rw [er1] at AP1
          rw [er2] at AP2
          have hlt1 : rFrom L i < 65536 := pv_lt _ _
          have hlt2 : rRaw L i < 65536 := pv_lt _ _
          obtain ⟨fr, hfr⟩ : ∃ x, x = rFrom L i := ⟨_, rfl⟩
          obtain ⟨rw_, hrw⟩ : ∃ x, x = rRaw L i := ⟨_, rfl⟩
          rw [← hfr] at AP1 hlt1
          rw [← hrw] at AP2 hlt2
          have HE := Lib.hid (And.intro hfr hrw)
          have m1 : IntKind.i64.wrap ((rw_ : Int) - 1) = (rw_ : Int) - 1 := wk_small (by clear f1 f2 f3 f4 f5 f6; omega)
          have m2 : wrap64 ((rw_ : Int) - 1) = (rw_ : Int) - 1 := wr_small (by clear f1 f2 f3 f4 f5 f6 m1; omega)
          clear hA hA2 hfr hrw er1 er2 ra rb' hRg f7 f8 f9 f10 f11 f12
          go_upto_region 8 with fail
          go_wp2_with fail
          try simp only [List.append]
          refine Od.wp_region_ord [(0, false), (1, false), (2, false), (4, false), (5, false), (6, false), (7, false), (3, true), (8, true), (9, false), (10, false), (11, false)] (by kernel_rfl) (by kernel_rfl) ?_
          intro wa hwa KQ hKQ
          have gwa : Gr wr wa := Gr.trans (by go_grown) hwa
          skip
          clear hwa
          repeat (first | (refine Od.wpO_skip (by simp only [List.getElem?_toArray, List.getElem?_cons_succ, List.getElem?_cons_zero] <;> rfl) rfl ?_; simp only [Act.put, List.setIfInBounds_toArray, List.set_cons_zero, List.set_cons_succ]) | (refine Od.wpO_pure (by simp only [List.getElem?_toArray, List.getElem?_cons_succ, List.getElem?_cons_zero] <;> rfl) rfl ?_; apply Exists.intro; refine ⟨?_, ?_⟩; (· intro wx gx; obtain ⟨mx, rfl⟩ := spread_of_gr gx; clear gx; all_goals (apply Od.pAt_of_quiet; intro K hK; go_big_quiet_op; first | exact hK _ rfl | (apply Exists.intro; refine ⟨fun _ => ?_, ?_⟩; (· fail); exact hK _ rfl))); try simp only [Act.put, List.setIfInBounds_toArray, List.set_cons_zero, List.set_cons_succ]))
          refine Od.wpO_call (by simp only [List.getElem?_toArray, List.getElem?_cons_succ, List.getElem?_cons_zero] <;> rfl) rfl ?_
          intro QS hQS
          go_wp2_with fail
          go_at_call 84
          (with_reducible refine ((AP1.out _ gwa)).mono ?_)
          rintro e wb ⟨rfl, hwb⟩
          go_wp2_with fail
          apply Exists.intro
          refine ⟨?_, hwb, ?_⟩
          · simp only [Act.put, List.setIfInBounds_toArray, List.set_cons_zero, List.set_cons_succ]; rfl
          have gwb : Gr wr wb := Gr.trans (by have gg := gwa; have gs := gg.size; go_grown) hwb
          clear gwa
          clear hwb
          try simp only [Act.put, List.setIfInBounds_toArray, List.set_cons_zero, List.set_cons_succ]
          repeat (first | (refine Od.wpO_skip (by simp only [List.getElem?_toArray, List.getElem?_cons_succ, List.getElem?_cons_zero] <;> rfl) rfl ?_; simp only [Act.put, List.setIfInBounds_toArray, List.set_cons_zero, List.set_cons_succ]) | (refine Od.wpO_pure (by simp only [List.getElem?_toArray, List.getElem?_cons_succ, List.getElem?_cons_zero] <;> rfl) rfl ?_; apply Exists.intro; refine ⟨?_, ?_⟩; (· intro wx gx; obtain ⟨mx, rfl⟩ := spread_of_gr gx; clear gx; all_goals (apply Od.pAt_of_quiet; intro K hK; go_big_quiet_op; first | exact hK _ rfl | (apply Exists.intro; refine ⟨fun _ => ?_, ?_⟩; (· fail); exact hK _ rfl))); try simp only [Act.put, List.setIfInBounds_toArray, List.set_cons_zero, List.set_cons_succ]))
          refine Od.wpO_call (by simp only [List.getElem?_toArray, List.getElem?_cons_succ, List.getElem?_cons_zero] <;> rfl) rfl ?_
          intro QS hQS
          go_wp2_with fail
          go_at_call 84
          (with_reducible refine ((AP2.out _ gwb)).mono ?_)
          rintro e wc ⟨rfl, hwc⟩
          go_wp2_with fail
          apply Exists.intro
          refine ⟨?_, hwc, ?_⟩
          · simp only [Act.put, List.setIfInBounds_toArray, List.set_cons_zero, List.set_cons_succ]; rfl
          have gwc : Gr wr wc := Gr.trans (by have gg := gwb; have gs := gg.size; go_grown) hwc
          clear gwb
          clear hwc
          try simp only [Act.put, List.setIfInBounds_toArray, List.set_cons_zero, List.set_cons_succ]
          repeat (first | (refine Od.wpO_skip (by simp only [List.getElem?_toArray, List.getElem?_cons_succ, List.getElem?_cons_zero] <;> rfl) rfl ?_; simp only [Act.put, List.setIfInBounds_toArray, List.set_cons_zero, List.set_cons_succ]) | (refine Od.wpO_pure (by simp only [List.getElem?_toArray, List.getElem?_cons_succ, List.getElem?_cons_zero] <;> rfl) rfl ?_; apply Exists.intro; refine ⟨?_, ?_⟩; (· intro wx gx; obtain ⟨mx, rfl⟩ := spread_of_gr gx; clear gx; all_goals (apply Od.pAt_of_quiet; intro K hK; go_big_quiet_op; first | exact hK _ rfl | (apply Exists.intro; refine ⟨fun _ => ?_, ?_⟩; (· fail); exact hK _ rfl))); try simp only [Act.put, List.setIfInBounds_toArray, List.set_cons_zero, List.set_cons_succ]))
          refine Od.wpO_nil (hKQ _ _ ?_)
          clear hKQ KQ
          go_upto_region 10 with fail
          have hVw : wr.heap.size ≤ wc.heap.size := gwc.size
          have v0 : (wc.alloc (.cells #[.bool false, .slice none 0 0] 92)).cell? ⟨wc.heap.size, 0, none⟩ = some (.bool false) := by go_simp
          have v1 : (wc.alloc (.cells #[.bool false, .slice none 0 0] 92)).cell? ⟨wc.heap.size, 1, none⟩ = some (.slice none 0 0) := by go_simp
          have v2f : (wc.alloc (.cells #[.bool false, .slice none 0 0] 92)).frozen? ⟨wc.heap.size, 0, none⟩ = false := by go_simp
          have v3f : (wc.alloc (.cells #[.bool false, .slice none 0 0] 92)).frozen? ⟨wc.heap.size, 1, none⟩ = false := by go_simp
          have hgd : Gr wr (wc.alloc (.cells #[.bool false, .slice none 0 0] 92)) := Gr.trans gwc ((Below.refl _ _).alloc (Nat.le_refl _) _)
          generalize wc.alloc (.cells #[.bool false, .slice none 0 0] 92) = wd at v0 v1 v2f v3f hgd ⊢
          generalize wc.heap.size = V at v0 v1 v2f v3f hVw ⊢
          have sV := World.block_lt_of_cell? _ _ v0
          clear gwc
          have Gwd : Gr W wd := Gr.trans hg hgd
          obtain ⟨C, hXC⟩ : ∃ C, RdC W wr L B C i := HX.out.elim (fun h1 h2 => by obtain ⟨C, h3, h4⟩ := h2; exact ⟨C, h1, h3, h4⟩)
          have HXC := Lib.hid hXC
          clear hXC HX
          by_cases g3 : rw_ = 0
          · have e1 : (rw_ : Int) - 1 = -1 := by clear m1 m2 f1 f2 f3 f4 f5 f6; omega
            rw [e1]
            obtain ⟨q, hq⟩ : ∃ q : Int, q = (fr : Int) + -1 := ⟨_, rfl⟩
            have hqb : -1000000 ≤ q ∧ q ≤ 1000000 := by clear m1 m2 f1 f2 f3 f4 f5 f6 e1; omega
            have q512 : ¬ (512 : Int) < q → fr + rw_ ≤ 513 := by clear m1 m2 f1 f2 f3 f4 f5 f6 e1; omega
            have q513 : (512 : Int) < q → ¬ fr + rw_ ≤ 513 := by clear m1 m2 f1 f2 f3 f4 f5 f6 e1; omega
            have i60 : i < 60 := by clear m1 m2 f1 f2 f3 f4 f5 f6 e1; omega
            have m3 : IntKind.i64.wrap ((fr : Int) + -1) = q := by rw [← hq]; exact wk_small hqb
            have m4 : wrap64 ((fr : Int) + -1) = q := by rw [← hq]; exact wr_small hqb
            by_cases g2 : (512 : Int) < q
            · have t4 : decide ((512 : Int) < q) = true := decide_eq_true g2
              have HN2 : Hid (¬ RdOk L) := Lib.hid (rd_no HC.out.2.1 hin (fun h => by have := h.2; rw [← HE.out.2, ← HE.out.1] at this; exact absurd this (q513 g2)))
              clear m1 m2 f1 f2 f3 f4 f5 f6 e1 hq hqb q512 q513 i60
              go_wp2_with fail
              go_ret
              exact ⟨Or.inl ⟨rfl, HN2.out⟩, Gwd⟩
            · have t4 : decide ((512 : Int) < q) = false := decide_eq_false g2
              have HRK : Hid (rOk L i ∧ rSl L i = none) := Lib.hid ⟨⟨by rw [← HE.out.2, g3]; decide, by rw [← HE.out.1, ← HE.out.2]; exact q512 g2⟩, by unfold rSl; rw [if_pos (by rw [← HE.out.2]; exact g3)]⟩
              have HX5 : Hid (RdC W wd L B C i) := Lib.hid (rdC_kx HXC.out (Kx.of_gr hgd) hVw)
              have HSl : Hid (SlotC wd (pgZ B C) none (.bool false) (.slice none 0 0)) := Lib.hid ⟨rfl, rfl⟩
              clear g3 m1 m2 f1 f2 f3 f4 f5 f6 e1 hq hqb q512 q513
              go_upto_region 15 with fail
              obtain ⟨w5, rfl⟩ : ∃ x, x = wd := ⟨wd, rfl⟩
              have G5w := Gwd
              obtain ⟨hrk, hP5, hC5⟩ := HX5.out
              have hSl := HSl.out
              obtain ⟨sl, xs, p1, p2, p3, p4, p5, p6⟩ := hP5
              rw [rdT_len] at p5
              obtain ⟨sa, scap, rfl, hsc, hsc2⟩ : ∃ sa scap, sl = .slice sa i scap ∧ i ≤ scap ∧ True := by
                rcases p5.2 with ⟨rfl, h0⟩ | ⟨g', cap', cur', rfl, _, _, hle, _⟩
                · exact ⟨none, 0, by rw [h0], by omega, trivial⟩
                · exact ⟨_, cap', rfl, hle, trivial⟩
              obtain ⟨q0, q1, q2, q3, f3⟩ := p1
              have sB := World.block_lt_of_cell? _ _ q0
              have H6 := Lib.hid (And.intro (show PageAt w5 B (rb L 0 : Nat) (wv (L.drop 2) : Nat) (.slice sa i scap) from ⟨q0, q1, q2, q3, f3⟩) (And.intro p2 (And.intro p3 (And.intro p6 (And.intro p5 (And.intro hSl (And.intro hrk hC5)))))))
              have CN := Lib.hid (cells_new w5 #[.bool false, .slice none 0 0] 92 [.bool false, .slice none 0 0] rfl)
              have O5 := Lib.hid p5
              have NE : Hid (C ≠ some B) := Lib.hid p3
              have EC : Hid ((Value.slice sa i scap).ownBlock = C) := Lib.hid p2
              clear p2 p3 p4 p5 p6 hSl hrk hC5 HX5 HSl
              go_region_law (refine step_append_own2 rfl (.tmp 75) (.tmp 77) 77 rfl 0 92 i0 (.agg #[.bool false, .slice none 0 0]) 2 32 Tryd.underlying77 HI.out.1 HI.out.2.1 HI.out.2.2.1 HI.out.2.2.2 rfl (by decide) (.slice sa i scap) i xs (by simp [Act.eval]) (World.ownsRow.drew (World.ownsRow.alloc O5.out _)) ⟨w5.heap.size, 0, none⟩ 1 1 [.bool false, .slice none 0 0] (by simp [Act.eval]) rfl (fun j u hu => CN.out j u hu) (one2 rfl rfl) (by unfold maxLen; omega) (by omega) (by simp) ?_; intro v2 w2 own2 gr2; obtain ⟨D2, cap2, rfl, hD0, hD2, hcp, hcp2⟩ := row_form own2 (by omega); have kx1 : Kx (fun k => C = some k) w5 w2 := (Kx.of_gr (show Gr w5 (w5.alloc (.cells #[.bool false, .slice none 0 0] 92)).drew from ((Below.refl _ _).alloc (Nat.le_refl _) _).drew)).trans ((kx_grown gr2).mono (fun k h => by rw [← EC.out]; exact h)); obtain ⟨j0, j1, j2, j3, j4⟩ := pageAt_kx H6.out.1 kx1 NE.out; have HO2 := Lib.hid (And.intro own2 gr2); clear own2 gr2 kx1)
              all_goals
                obtain ⟨b1, b2, b3, b6, b5, bS, brk, bC⟩ := H6.out
                obtain ⟨o2, g2⟩ := HO2.out
                have K := pageS_pushO (S := rdT L i) (cp := cap2) (Wa := (w5.alloc (.cells #[.bool false, .slice none 0 0] 92)).drew) b1 b2 b3 (by rw [rdT_len]; omega) b6 (by rw [rdT_len]; exact b5.1) (((Below.refl _ _).alloc (Nat.le_refl _) _).drew) bS (by rw [rdT_len]; exact o2) (by rw [rdT_len]; exact g2)
                rw [rdT_len] at K
                have HX6 := Lib.hid (show RdX W (w2.setCell ⟨B, 3, none⟩ (.slice (some ⟨D2, 0, none⟩) (i + 1) cap2)) L B (i + 1) from ⟨fun n hn => by
                  by_cases e : n = i
                  · rw [e]; exact HRK.out.1
                  · exact brk n (by omega), some D2, by
                    show PageS _ _ _ _ _ (rdT L i ++ [rSl L i])
                    rw [HRK.out.2]
                    exact K.1, fun k hk => by
                    rcases hk with rfl | hk
                    · exact bC _ (Or.inl rfl)
                    · obtain rfl := Option.some.inj hk
                      rcases K.2.1 with h | h
                      · exact bC _ (Or.inr h)
                      · exact Nat.le_trans G5w.size h⟩)
                have G6 : Gr W (w2.setCell ⟨B, 3, none⟩ (.slice (some ⟨D2, 0, none⟩) (i + 1) cap2)) := Kx.gr K.2.2 G5w (fun k hk => by
                  rcases hk with h | h
                  · exact bC k h
                  · exact Nat.le_trans G5w.size h)
                clear b1 b2 b3 b6 b5 bS brk bC o2 g2 K
                go_wp2_with fail
                go_roundg (c1 - (i + 1))
                case measure => omega
                case rel => exact ⟨i + 1, by go_num, by omega, by omega, HX6, G6⟩
          · obtain ⟨m, hm⟩ : ∃ m, rw_ = m + 1 := ⟨rw_ - 1, by clear m1 m2 f1 f2 f3 f4 f5 f6; omega⟩
            have e1 : (rw_ : Int) - 1 = (m : Int) := by clear m1 m2 f1 f2 f3 f4 f5 f6; omega
            rw [e1]
            have hmb : m < 65536 := by clear m1 m2 f1 f2 f3 f4 f5 f6 e1; omega
            have hm1 : rw_ - 1 = m := by clear m1 m2 f1 f2 f3 f4 f5 f6 e1; omega
            have i60 : i < 60 := by clear m1 m2 f1 f2 f3 f4 f5 f6 e1; omega
            have g1a : 400 < m → ¬ rw_ ≤ 401 := by clear m1 m2 f1 f2 f3 f4 f5 f6 e1; omega
            have g1b : ¬ 400 < m → rw_ ≤ 401 := by clear m1 m2 f1 f2 f3 f4 f5 f6 e1; omega
            have g2a : 512 < fr + m → ¬ fr + rw_ ≤ 513 := by clear m1 m2 f1 f2 f3 f4 f5 f6 e1; omega
            have g2b : ¬ 512 < fr + m → fr + rw_ ≤ 513 := by clear m1 m2 f1 f2 f3 f4 f5 f6 e1; omega
            have HG := Lib.hid (And.intro g1a (And.intro g1b (And.intro g2a (And.intro g2b (And.intro hm1 (And.intro hm g3))))))
            clear m1 m2 e1 f1 f2 f3 f4 f5 f6 hm hm1 g1a g1b g2a g2b g3 hlt2
            by_cases g1 : 400 < m
            · have t3 : decide ((400 : Int) < (m : Int)) = true := decide_eq_true (by omega)
              have HN2 : Hid (¬ RdOk L) := Lib.hid (rd_no HC.out.2.1 hin (fun h => by have := h.1; rw [← HE.out.2] at this; exact absurd this (HG.out.1 g1)))
              go_wp2_with fail
              go_ret
              exact ⟨Or.inl ⟨rfl, HN2.out⟩, Gwd⟩
            · have t3 : decide ((400 : Int) < (m : Int)) = false := decide_eq_false (by omega)
              obtain ⟨q, hq⟩ : ∃ q, q = fr + m := ⟨_, rfl⟩
              have hq2 : (fr : Int) + (m : Int) = (q : Int) := by omega
              have hq3 : q ≤ 1000000 := by omega
              have hq4 := wr_both hq3
              by_cases g2 : 512 < q
              · have t4 : decide ((512 : Int) < (q : Int)) = true := decide_eq_true (by clear hq4; omega)
                have HN2 : Hid (¬ RdOk L) := Lib.hid (rd_no HC.out.2.1 hin (fun h => by have := h.2; rw [← HE.out.2, ← HE.out.1] at this; exact absurd this (HG.out.2.2.1 (by rw [← hq]; exact g2))))
                have m3 : IntKind.i64.wrap ((fr : Int) + (m : Int)) = (q : Int) := by rw [hq2]; exact hq4.1
                have m4 : wrap64 ((fr : Int) + (m : Int)) = (q : Int) := by rw [hq2]; exact hq4.2
                clear hq hq2 hq3 hq4
                go_wp2_with fail
                go_ret
                exact ⟨Or.inl ⟨rfl, HN2.out⟩, Gwd⟩
              · have t4 : decide ((512 : Int) < (q : Int)) = false := decide_eq_false (by clear hq4; omega)
                have t5 : decide ((0 : Int) ≤ (m : Int)) = true := decide_eq_true (by clear hq4; omega)
                have t5b : (0 : Int) ≤ (m : Int) := by clear hq4; omega
                have hqf : fr ≤ q := by clear hq4; omega
                have hql : q ≤ L.length := by rw [← HN.out]; clear hq4; omega
                have hqm : q - fr = m := by clear hq4; omega
                have hm400 : m ≤ 400 := by clear hq4; omega
                obtain ⟨vd, hsd, rd⟩ := row_dt fr q hqf hql (row_gr HR.out Gwd)
                rw [hqm] at rd
                have hlM : ((L.drop fr).take m).length = m := by rw [List.length_take, List.length_drop]; clear hq4; omega
                have HRK : Hid (rOk L i ∧ rSl L i = some ((L.drop fr).take m)) := Lib.hid ⟨⟨by rw [← HE.out.2]; exact HG.out.2.1 g1, by rw [← HE.out.1, ← HE.out.2]; exact HG.out.2.2.2.1 (by rw [← hq]; exact g2)⟩, by unfold rSl; rw [← HE.out.2, ← HE.out.1, if_neg HG.out.2.2.2.2.2.2, HG.out.2.2.2.2.1]⟩
                have m3 : IntKind.i64.wrap ((fr : Int) + (m : Int)) = (q : Int) := by rw [hq2]; exact hq4.1
                have m4 : wrap64 ((fr : Int) + (m : Int)) = (q : Int) := by rw [hq2]; exact hq4.2
                generalize (L.drop fr).take m = M at rd hlM HRK
                subst hlM
                have ACl := Lib.hid (fun w (g : Gr wd w) => c_bCloneR w (row_gr rd g) (Nat.le_trans hm400 (by decide)))
                clear rd g1 g2 hq hq2 hq3 hq4 hqf hql hqm HG
                go_wp2_with fail
                go_at_call 52
                refine (ACl.out _ (by first | exact Below.refl _ _ | go_grown)).mono ?_
                rintro e we ⟨cad, cc, rfl, oc, ge⟩
                have u0 := cell_gr ge v0
                have u1 := cell_gr ge v1
                have u2f := frozen_gr ge v0 v2f
                have u3f := frozen_gr ge v1 v3f
                have sVe := World.block_lt_of_cell? _ _ u0
                have kv : Kx (fun k => k = V) we ((we.setCell ⟨V, 0, none⟩ (.bool true)).setCell ⟨V, 1, none⟩ (.slice cad M.length cc)) := ((Kx.refl (S := fun k => k = V) we).setCell (p := ⟨V, 0, none⟩) rfl _).setCell (p := ⟨V, 1, none⟩) rfl _
                have kv0 : Kx (fun k => k = V) wr ((we.setCell ⟨V, 0, none⟩ (.bool true)).setCell ⟨V, 1, none⟩ (.slice cad M.length cc)) := (Kx.of_gr (Gr.trans hgd ge)).trans kv
                have HX5 := Lib.hid (rdC_kx HXC.out kv0 hVw)
                have HSl := Lib.hid (rdC_slot HXC.out hVw sV oc kv hm400)
                have G5w : Gr W ((we.setCell ⟨V, 0, none⟩ (.bool true)).setCell ⟨V, 1, none⟩ (.slice cad M.length cc)) := Kx.gr kv0 hg (fun k hk => by rw [hk]; exact Nat.le_trans hg.size hVw)
                have x0 : ((we.setCell ⟨V, 0, none⟩ (.bool true)).setCell ⟨V, 1, none⟩ (.slice cad M.length cc)).cell? ⟨V, 0, none⟩ = some (.bool true) := by go_simp
                have x1 : ((we.setCell ⟨V, 0, none⟩ (.bool true)).setCell ⟨V, 1, none⟩ (.slice cad M.length cc)).cell? ⟨V, 1, none⟩ = some (.slice cad M.length cc) := by go_simp
                clear kv kv0 oc v0 v1 v2f v3f
                go_upto_region 15 with fail
                generalize (we.setCell ⟨V, 0, none⟩ (.bool true)).setCell ⟨V, 1, none⟩ (.slice cad M.length cc) = w5 at HX5 HSl G5w x0 x1 ⊢
                have sV5 := World.block_lt_of_cell? _ _ x0
                clear u0 u1 u2f u3f
                obtain ⟨hrk, hP5, hC5⟩ := HX5.out
                have hSl := HSl.out
                obtain ⟨sl, xs, p1, p2, p3, p4, p5, p6⟩ := hP5
                rw [rdT_len] at p5
                obtain ⟨sa, scap, rfl, hsc, hsc2⟩ : ∃ sa scap, sl = .slice sa i scap ∧ i ≤ scap ∧ True := by
                  rcases p5.2 with ⟨rfl, h0⟩ | ⟨g', cap', cur', rfl, _, _, hle, _⟩
                  · exact ⟨none, 0, by rw [h0], by omega, trivial⟩
                  · exact ⟨_, cap', rfl, hle, trivial⟩
                obtain ⟨q0, q1, q2, q3, f3⟩ := p1
                have sB := World.block_lt_of_cell? _ _ q0
                have H6 := Lib.hid (And.intro (show PageAt w5 B (rb L 0 : Nat) (wv (L.drop 2) : Nat) (.slice sa i scap) from ⟨q0, q1, q2, q3, f3⟩) (And.intro p2 (And.intro p3 (And.intro p6 (And.intro p5 (And.intro hSl (And.intro hrk hC5)))))))
                have CN := Lib.hid (cells_new w5 #[.bool true, .slice cad M.length cc] 92 [.bool true, .slice cad M.length cc] rfl)
                have O5 := Lib.hid p5
                have NE : Hid (C ≠ some B) := Lib.hid p3
                have EC : Hid ((Value.slice sa i scap).ownBlock = C) := Lib.hid p2
                clear p2 p3 p4 p5 p6 hSl hrk hC5 HX5 HSl
                go_region_law (refine step_append_own2 rfl (.tmp 75) (.tmp 77) 77 rfl 0 92 i0 (.agg #[.bool false, .slice none 0 0]) 2 32 Tryd.underlying77 HI.out.1 HI.out.2.1 HI.out.2.2.1 HI.out.2.2.2 rfl (by decide) (.slice sa i scap) i xs (by simp [Act.eval]) (World.ownsRow.drew (World.ownsRow.alloc O5.out _)) ⟨w5.heap.size, 0, none⟩ 1 1 [.bool true, .slice cad M.length cc] (by simp [Act.eval]) rfl (fun j u hu => CN.out j u hu) (one2 rfl rfl) (by unfold maxLen; omega) (by omega) (by simp) ?_; intro v2 w2 own2 gr2; obtain ⟨D2, cap2, rfl, hD0, hD2, hcp, hcp2⟩ := row_form own2 (by omega); have kx1 : Kx (fun k => C = some k) w5 w2 := (Kx.of_gr (show Gr w5 (w5.alloc (.cells #[.bool true, .slice cad M.length cc] 92)).drew from ((Below.refl _ _).alloc (Nat.le_refl _) _).drew)).trans ((kx_grown gr2).mono (fun k h => by rw [← EC.out]; exact h)); obtain ⟨j0, j1, j2, j3, j4⟩ := pageAt_kx H6.out.1 kx1 NE.out; have HO2 := Lib.hid (And.intro own2 gr2); clear own2 gr2 kx1)
                all_goals
                  obtain ⟨b1, b2, b3, b6, b5, bS, brk, bC⟩ := H6.out
                  obtain ⟨o2, g2⟩ := HO2.out
                  have K := pageS_pushO (S := rdT L i) (cp := cap2) (Wa := (w5.alloc (.cells #[.bool true, .slice cad M.length cc] 92)).drew) b1 b2 b3 (by rw [rdT_len]; omega) b6 (by rw [rdT_len]; exact b5.1) (((Below.refl _ _).alloc (Nat.le_refl _) _).drew) bS (by rw [rdT_len]; exact o2) (by rw [rdT_len]; exact g2)
                  rw [rdT_len] at K
                  have HX6 := Lib.hid (show RdX W (w2.setCell ⟨B, 3, none⟩ (.slice (some ⟨D2, 0, none⟩) (i + 1) cap2)) L B (i + 1) from ⟨fun n hn => by
                    by_cases e : n = i
                    · rw [e]; exact HRK.out.1
                    · exact brk n (by omega), some D2, by
                      show PageS _ _ _ _ _ (rdT L i ++ [rSl L i])
                      rw [HRK.out.2]
                      exact K.1, fun k hk => by
                      rcases hk with rfl | hk
                      · exact bC _ (Or.inl rfl)
                      · obtain rfl := Option.some.inj hk
                        rcases K.2.1 with h | h
                        · exact bC _ (Or.inr h)
                        · exact Nat.le_trans G5w.size h⟩)
                  have G6 : Gr W (w2.setCell ⟨B, 3, none⟩ (.slice (some ⟨D2, 0, none⟩) (i + 1) cap2)) := Kx.gr K.2.2 G5w (fun k hk => by
                    rcases hk with h | h
                    · exact bC k h
                    · exact Nat.le_trans G5w.size h)
                  clear b1 b2 b3 b6 b5 bS brk bC o2 g2 K
                  go_wp2_with fail
                  go_roundg (c1 - (i + 1))
                  case measure => omega
                  case rel => exact ⟨i + 1, by go_num, by omega, by omega, HX6, G6⟩
        · obtain rfl : i = c1 := by omega
          have ti : decide ((i : Int) < (i : Int)) = false := decide_eq_false (by omega)
          have ti3 : ¬ (i : Int) < (i : Int) := by omega
          obtain ⟨hrk, C, hP, hC⟩ := HX.out
          have hsz : usS (rdT L i) ≤ 30000 := (usS_le hP).1
          obtain ⟨us, hus⟩ : ∃ x, x = usS (rdT L i) := ⟨_, rfl⟩
          have A1 := Lib.hid (fun w (g : Gr wr w) (z : Int) => p_hasS z w (pageS_gr hP g))
          have A2 := Lib.hid (fun w (g : Gr wr w) => p_usedS w (pageS_gr hP g))
          rw [← hus] at A2 hsz
          have HU := Lib.hid hus
          obtain ⟨D, sa, scap, hpa, -⟩ := pageS_cells hP
          rw [rdT_len] at hpa
          obtain ⟨q0, q1, q2, q3, f3⟩ := hpa
          have sB := World.block_lt_of_cell? _ _ q0
          have HP := Lib.hid (And.intro hrk (And.intro hP hC))
          clear hrk hP hC HX hus q1 q2 f3
          by_cases h0 : i = 0
          · have x0 : (i : Int) - 1 = -1 := by omega
            have h0b : ¬ 0 < i := by omega
            have x1 : IntKind.i64.wrap ((i : Int) - 1) = -1 := by rw [x0]; decide
            have x2 : wrap64 ((i : Int) - 1) = -1 := by rw [x0]; exact wr_small (by decide)
            have x3 := x1
            have x4 := x2
            have HZ : Gr wr wr := Below.refl _ _
            clear x0
            by_cases hu : 512 < us
            · have t8 : decide ((512 : Int) < (us : Int)) = true := decide_eq_true (by clear x1 x2 x3 x4; omega)
              have HN2 : Hid (¬ RdOk L) := Lib.hid (fun h => by have h2 := h.2.2.2.2; rw [← HC.out.2.1, ← HU.out] at h2; exact absurd h2 (by clear x1 x2 x3 x4; omega))
              clear hu h0 h0b
              go_wp2_with fail
              go_at_call 77
              refine (A2.out _ HZ).mono ?_
              rintro e wy ⟨rfl, gy⟩
              go_wp2_with fail
              go_ret
              exact ⟨Or.inl ⟨rfl, HN2.out⟩, Gr.trans hg (Gr.trans HZ gy)⟩
            · have t8 : decide ((512 : Int) < (us : Int)) = false := decide_eq_false (by clear x1 x2 x3 x4; omega)
              have HN2 : Hid (RdOk L) := Lib.hid ⟨HN.out.symm, by rw [← HC.out.2.1]; exact hc60, by rw [← HC.out.2.1]; exact HP.out.1, (fun h => absurd h (by rw [← HC.out.2.1]; exact h0b)), by rw [← HC.out.2.1, ← HU.out]; clear x1 x2 x3 x4; omega⟩
              clear hu h0 h0b
              go_wp2_with fail
              go_at_call 77
              refine (A2.out _ HZ).mono ?_
              rintro e wy ⟨rfl, gy⟩
              go_wp2_with fail
              go_ret
              exact ⟨Or.inr ⟨HN2.out, B, C, rfl, HP.out.2.2, by rw [← HC.out.2.1]; exact pageS_gr HP.out.2.1 (Gr.trans HZ gy)⟩, Gr.trans hg (Gr.trans HZ gy)⟩
          · obtain ⟨k, hk⟩ : ∃ k, i = k + 1 := ⟨i - 1, by omega⟩
            have hk1 : i - 1 = k := by omega
            have x0 : (i : Int) - 1 = (k : Int) := by omega
            have hk0 : (0 : Int) ≤ (k : Int) := by omega
            have hkd : decide ((0 : Int) ≤ (k : Int)) = true := decide_eq_true hk0
            have hkk : k ≤ 1000000 := by omega
            have x1 : IntKind.i64.wrap ((i : Int) - 1) = (k : Int) := by rw [x0]; exact (wr_both hkk).1
            have x2 : wrap64 ((i : Int) - 1) = (k : Int) := by rw [x0]; exact (wr_both hkk).2
            have A3 := Lib.hid (fun w (g : Gr wr w) => A1.out w g (k : Int))
            rw [hasS_nat] at A3
            have i0 : 0 < i := by clear x1 x2; omega
            obtain ⟨hb, hhb⟩ : ∃ x, x = ((rdT L i).getD k none).isSome := ⟨_, rfl⟩
            rw [← hhb] at A3
            have HB := Lib.hid (And.intro hhb hk1)
            clear hhb hk hk1 x0 h0 A1
            cases hb with
            | false =>
              have HN2 : Hid (¬ RdOk L) := Lib.hid (fun h => by
                have h2 := h.2.2.2.1
                rw [← HC.out.2.1, HB.out.2] at h2
                have h3 := h2 i0
                rw [← HB.out.1] at h3
                cases h3)
              clear i0
              go_wp2_with fail
              go_at_call 49
              refine (A3.out _ (Below.refl _ _)).mono ?_
              rintro e wx ⟨rfl, gx⟩
              go_wp2_with fail
              go_ret
              exact ⟨Or.inl ⟨rfl, HN2.out⟩, Gr.trans hg gx⟩
            | true =>
              have x3 := x1
              have x4 := x2
              go_wp2_with fail
              go_at_call 49
              refine (A3.out _ (Below.refl _ _)).mono ?_
              rintro e wx ⟨rfl, HZ⟩
              by_cases hu : 512 < us
              · have t8 : decide ((512 : Int) < (us : Int)) = true := decide_eq_true (by clear x1 x2 x3 x4; omega)
                have HN2 : Hid (¬ RdOk L) := Lib.hid (fun h => by have h2 := h.2.2.2.2; rw [← HC.out.2.1, ← HU.out] at h2; exact absurd h2 (by clear x1 x2 x3 x4; omega))
                clear hu i0
                go_wp2_with fail
                go_at_call 77
                refine (A2.out _ HZ).mono ?_
                rintro e wy ⟨rfl, gy⟩
                go_wp2_with fail
                go_ret
                exact ⟨Or.inl ⟨rfl, HN2.out⟩, Gr.trans hg (Gr.trans HZ gy)⟩
              · have t8 : decide ((512 : Int) < (us : Int)) = false := decide_eq_false (by clear x1 x2 x3 x4; omega)
                have HN2 : Hid (RdOk L) := Lib.hid ⟨HN.out.symm, by rw [← HC.out.2.1]; exact hc60, by rw [← HC.out.2.1]; exact HP.out.1, (fun h => by rw [← HC.out.2.1, HB.out.2, ← HB.out.1]), by rw [← HC.out.2.1, ← HU.out]; clear x1 x2 x3 x4; omega⟩
                clear hu i0
                go_wp2_with fail
                go_at_call 77
                refine (A2.out _ HZ).mono ?_
                rintro e wy ⟨rfl, gy⟩
                go_wp2_with fail
                go_ret
                exact ⟨Or.inr ⟨HN2.out, B, C, rfl, HP.out.2.2, by rw [← HC.out.2.1]; exact pageS_gr HP.out.2.1 (Gr.trans HZ gy)⟩, Gr.trans hg (Gr.trans HZ gy)⟩
  · have t1 : ((n : Int) != 512) = true := by simp; omega
    have t1' : (n != 512) = true := by simp; omega
    have HX : Hid (¬ RdOk L) := Lib.hid (fun h => hl (by rw [hn]; exact h.1))
    clear h h4 h3 hn
    go_enter Tryd.func53, Tryd.ntmps53
    go_wp2_with fail
    go_ret
    exact ⟨Or.inl ⟨rfl, HX.out⟩, by go_grown⟩
end Go.Proofs.YtilijbplfobneaaDoor
