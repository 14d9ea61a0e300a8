/- the document's disk: Crash -/
import Derived.Test.YtkbdhhmkdjajgaaDoorNl
import Derived.Test.YtkbdhhmkdjajgaaDoorEa
namespace Go.Proofs.YtkbdhhmkdjajgaaDoor
set_option linter.unusedVariables false
set_option linter.unusedSimpArgs false
open Go.ChangeShapes Go.WideShapes Go.ChangeAt Go.RowKit Go.Maps

theorem crG_at {d : Dk} (h : d.ok) (f : Nat → Nat) {i k : Nat} (hi : i < d.ord.length) (hk : k < d.n) :
    (f i = 0 → crG d f (i + 1) = crG d f i) ∧
    (f i = 1 → sec (crG d f (i + 1)) k = if k = d.ord.getD i 0 then (d.F (d.ord.getD i 0)).take 32 ++ (sec (crG d f i) k).drop 32 else sec (crG d f i) k) ∧
    (f i ≠ 0 → f i ≠ 1 → sec (crG d f (i + 1)) k = if k = d.ord.getD i 0 then d.F (d.ord.getD i 0) else sec (crG d f i) k) := by
  obtain ⟨a1, a2, a3⟩ := ord_at h hi
  have hl := crG_len h f i (by omega)
  refine ⟨fun e => by rw [crG_succ, if_pos e], fun e => ?_, fun e0 e1 => ?_⟩
  · rw [crG_succ, if_neg (by omega), if_pos e, sec_splice _ _ _ _ (by rw [List.length_take]; omega) (by rw [hl]; omega), List.length_take, a3]
    rfl
  · rw [crG_succ, if_neg e0, if_neg e1, sec_splice _ _ _ _ (by omega) (by rw [hl]; omega)]
    by_cases e : k = d.ord.getD i 0
    · rw [if_pos e, if_pos e]
      have : (sec (crG d f i) k).length ≤ 64 := by unfold sec; rw [List.length_take]; omega
      rw [List.drop_of_length_le (by omega), List.append_nil]
    · rw [if_neg e, if_neg e]
theorem crG_old {d : Dk} (h : d.ok) (f : Nat → Nat) {i : Nat} (hi : i < d.ord.length) : sec (crG d f i) (d.ord.getD i 0) = sec d.good (d.ord.getD i 0) := by
  obtain ⟨a1, a2, a3⟩ := ord_at h hi
  exact (crG_sec h f i (by omega) (d.ord.getD i 0) a2).2 (fun j hj => nod_ne h hi (by omega) (by omega))
theorem row_half {w : World} {B off c : Nat} {L : List UInt8} (hl : L.length = 64) (h : Row w (.slice (some ⟨B, off, none⟩) 64 c) L) : Row w (.slice (some ⟨B, off + 32, none⟩) 32 (c - 32)) (L.drop 32) := by
  obtain ⟨ad', c', B', off', e, h1, h2, h3, h4⟩ := h
  simp only [Value.slice.injEq] at e
  obtain ⟨rfl, e1, rfl⟩ := e
  obtain ⟨rfl, rfl⟩ : B = B' ∧ off = off' := by have := h3 (by omega); simpa using this
  have hd : (L.drop 32).length = 32 := by rw [List.length_drop, hl]
  refine ⟨some ⟨B, off + 32, none⟩, c - 32, B, off + 32, by rw [hd], by omega, by omega, fun _ => rfl, fun j hj => ?_⟩
  rw [hd] at hj
  rw [Nat.add_assoc, h4 (32 + j) (by omega), List.getElem_drop]
theorem rd_full2 {Z : Nat → Prop} {L : List UInt8} {v : Value} (hl : L.length = 64) (W : World) (h : GSl W Z L v) : Calls Tryd.prog 35 #[v] W fun e w' => ∃ B off c, e = .returned (.slice (some ⟨B, off, none⟩) 64 c) ∧ 64 ≤ c ∧ c ≤ 9223372036854775807 ∧ Row w' (.slice (some ⟨B, off + 32, none⟩) 32 (c - 32)) (L.drop 32) ∧ Gr W w' := by
  refine (rd_full hl W h).mono ?_
  rintro e w' ⟨ad, c, rfl, hr, g⟩
  obtain ⟨B, off, c', e, h1, h2⟩ := row_addr hr (by omega)
  simp only [Value.slice.injEq] at e
  obtain ⟨rfl, -, rfl⟩ := e
  exact ⟨B, off, c, rfl, by omega, by omega, row_half hl hr, g⟩
def RCr (base : Nat) (Z : Nat → Prop) (d' : Dk) (w' : World) (e : Ending) : Prop := ∃ X gv' gs', e = .returned (.pointer (some ⟨X, 0, none⟩)) ∧ RefD base w' X Z d' gv' (.slice none 0 0) (.slice none 0 0) gs' [] 0
section
variable {base q : Nat} {Z : Nat → Prop} {d : Dk} {gv av nv : Value} {gs ns : List Value} {dl : Int}
set_option maxHeartbeats 4000000 in
set_option maxRecDepth 100000 in
theorem rd_crash (keep : List Bool) (kv : Value) (torn : Int) (W : World) (h : RefD base W q Z d gv av nv gs ns dl) (hz : ∀ k, Z k → k < W.heap.size) (hbs : base ≤ W.heap.size) (hK : Bools W kv keep) (hkl : keep.length ≤ 1000000) :
    Calls Tryd.prog 21 #[.pointer (some ⟨q, 0, none⟩), kv, .int .i64 torn] W fun e w' => RCr base Z (dk0 d.n (crG d (crM keep torn) d.ord.length)) w' e ∧ Gr W w' := by
  have hol := ord_len h.ok
  have hnz := h.ok.n1
  have hn2 := h.ok.n2
  obtain ⟨sq1, b0, b1, b2, -, -, -, -, -⟩ := refD_cells h
  obtain ⟨kad, kcap, KB, koff, rfl, k1, k2, k3, k4⟩ := hK
  have HX := Lib.hid (And.intro hz (And.intro hbs (And.intro h.ok k4)))
  have H1 := Lib.hid h
  obtain ⟨m, hm⟩ : ∃ m, m = d.ord.length := ⟨_, rfl⟩
  obtain ⟨n, hnn⟩ : ∃ n, n = d.n := ⟨_, rfl⟩
  obtain ⟨Eg, ga, gc, eg, v1, v2, v3, v4, v5⟩ := rowF h.good
  obtain ⟨En, na, nc, en, z1, z2, z3, z4, z5⟩ := rowF h.new
  obtain ⟨Ea, aa, ac, ea, y1, y2, y3, y4, y5⟩ := rowF h.at_
  have HN1 : Hid ((∀ j, j < m → ∃ v, W.cell? ⟨En, j, none⟩ = some v ∧ RowOff W Z v (d.F (d.ord.getD j 0)) ∧ ∃ a k c, v = .slice a k c) ∧ (∀ j, j < m → W.cell? ⟨Ea, j, none⟩ = some (.int .i64 ((d.ord.getD j 0 : Nat) : Int))) ∧ ∀ j, j < n → ∃ v, W.cell? ⟨Eg, j, none⟩ = some v ∧ GSl W Z (sec d.good j) v) := Lib.hid ⟨fun j hj => by
    obtain ⟨v, e, r⟩ := h.nsl j (by omega)
    refine ⟨v, by rw [(z5 j (by omega)).1, e], r, ?_⟩
    obtain ⟨a, c, _, _, ev, _⟩ := r.1
    exact ⟨_, _, _, ev⟩, fun j hj => by rw [(y5 j (by omega)).1, intL_getD _ j (by omega)], fun j hj => by
    obtain ⟨v, e, r⟩ := h.gsl j (by omega)
    exact ⟨v, by rw [(v5 j (by omega)).1, e], r⟩⟩
  have HGs : Hid (W.ownsRow 0 37 1 (.slice ga n gc) n gs ∧ ∀ u ∈ gs, u.oneCell' = true) := Lib.hid ⟨by have := h.good; rw [← hnn, eg, ← hnn] at this; exact this, refD_oneG h⟩
  have HM := Lib.hid (And.intro hm hnn)
  rw [← hm] at hol z1 z2 y1 y2
  rw [eg, ← hnn] at b0
  rw [en, ← hm] at b2
  rw [ea, ← hm] at b1
  rw [← hnn] at hnz hn2 v1 v2
  obtain rfl := v1 (by omega)
  have hcr : ∀ i, i < m → ∀ k, k < n → (crM keep torn i = 0 → crG d (crM keep torn) (i + 1) = crG d (crM keep torn) i) ∧
    (crM keep torn i = 1 → sec (crG d (crM keep torn) (i + 1)) k = if k = d.ord.getD i 0 then (d.F (d.ord.getD i 0)).take 32 ++ (sec (crG d (crM keep torn) i) k).drop 32 else sec (crG d (crM keep torn) i) k) ∧
    (crM keep torn i ≠ 0 → crM keep torn i ≠ 1 → sec (crG d (crM keep torn) (i + 1)) k = if k = d.ord.getD i 0 then d.F (d.ord.getD i 0) else sec (crG d (crM keep torn) i) k) := fun i hi k hk => crG_at h.ok _ (by omega) (by omega)
  have hco : ∀ i, i < m → sec (crG d (crM keep torn) i) (d.ord.getD i 0) = sec d.good (d.ord.getD i 0) := fun i hi => crG_old h.ok _ (by omega)
  have hcl : ∀ i, i ≤ m → (crG d (crM keep torn) i).length = n * 64 := fun i hi => by rw [crG_len h.ok _ i (by omega), hnn]
  have hc0 : crG d (crM keep torn) 0 = d.good := rfl
  have hf : ∀ i, crM keep torn i = if (i : Int) = torn then 1 else if 0 < keep.length ∧ keep.getD (i % keep.length) false = true then 2 else 0 := fun i => rfl
  rw [← hm, ← hnn]
  generalize hcrG : crG d (crM keep torn) = cr at hcr hco hcl hc0 ⊢
  generalize crM keep torn = f at hcr hf
  have HC := Lib.hid (And.intro hcr (And.intro hco (And.intro hcl (And.intro hc0 hf))))
  clear h z3 z4 z5 y3 y4 y5 v1 v3 v4 v5 hm hnn hz hbs hcr hco hcl hc0 hf hcrG k2 k4 ea en eg
  go_enter Tryd.func21, Tryd.ntmps21
  go_upto_region 2 with (at_builtin; go_loud ((refine wpList_appS rfl (.tmp 11) (.tmp 15) rfl W.heap.size 0 (.slice (some ⟨W.heap.size, 0, none⟩) 0 0) (.slice (some ⟨Eg, 0, none⟩) n gc) 0 n [] gs rfl (litS W) rfl (rowOwn_gr HGs.out.1 (al_gr _ _)) HGs.out.2 (by omega) (by simp) ?_); intro x2 w2 o2 g2; (have G2 : Gr W w2 := g2.gr (al_gr _ _) (fun k hk => (World.ownsRow.lt (litS W) k hk).1)); (have HO2 : Hid (w2.ownsRow W.heap.size 37 1 x2 n gs) := Lib.hid (by simpa using o2)); (obtain ⟨D2, cD, rfl, hD0, hD2, hcD, hcD2⟩ := row_form HO2.out (by omega)); (clear o2 g2)))
  have G3 : Gr W (w2.alloc (.cells #[.slice (some ⟨D2, 0, none⟩) n cD, .slice none 0 0, .slice none 0 0, .int .i64 0, .bool false, .int .i64 0, .bool false] 62)) := Gr.trans G2 (al_gr _ _)
  have HR3 : Hid (RefD base (w2.alloc (.cells #[.slice (some ⟨D2, 0, none⟩) n cD, .slice none 0 0, .slice none 0 0, .int .i64 0, .bool false, .int .i64 0, .bool false] 62)) w2.heap.size Z (dk0 n (cr 0)) (.slice (some ⟨D2, 0, none⟩) n cD) (.slice none 0 0) (.slice none 0 0) gs [] 0) := Lib.hid (by
    obtain ⟨hz, hbs, hok, -⟩ := HX.out
    obtain ⟨-, -, hcl, hc0, -⟩ := HC.out
    have s2 := G2.size
    refine ⟨heap_alloc_new w2 _, dk0_ok hnz hn2 (hcl 0 (Nat.zero_le _)), (fun e => by cases e), rowOwn_gr (rowOwn_base HO2.out (Nat.zero_le _)) (al_gr _ _), fun j hj => ?_, World.ownsRow_nil _ _ _ _, World.ownsRow_nil _ _ _ _, fun j hj => absurd hj (by simp [dk0]), ⟨fun hk => by have := hz _ hk; omega, by omega⟩, fun k hk => ?_, fun k hk => (by cases hk), fun k hk => (by cases hk)⟩
    · obtain ⟨v, e, r⟩ := H1.out.gsl j (by rw [← HM.out.2]; exact hj)
      exact ⟨v, e, by rw [hc0]; exact gSl_kx (S := fun _ => False) r (Kx.of_gr G3) (fun _ h => h.elim)⟩
    · obtain rfl : D2 = k := by simpa [Value.ownBlock] using hk
      exact ⟨fun hk => by have := hz _ hk; omega, by omega⟩)
  have hXW : W.heap.size ≤ w2.heap.size := G2.size
  obtain ⟨X, hX⟩ : ∃ X, X = w2.heap.size := ⟨_, rfl⟩
  rw [← hX] at HR3 hXW ⊢
  have hDX : D2 ≠ X := by omega
  generalize (w2.alloc (.cells #[.slice (some ⟨D2, 0, none⟩) n cD, .slice none 0 0, .slice none 0 0, .int .i64 0, .bool false, .int .i64 0, .bool false] 62)) = w3 at G3 HR3 ⊢
  have HDW := Lib.hid hD0
  clear hX hD2 hcD2 HO2 G2
  go_wp2_with fail
  go_loopg [8] m (fun j x wr => ∃ (i : Nat) (gs' : List Value), x = .int .i64 i ∧ i ≤ m ∧ j = m - i ∧ Hid (RefD base wr X Z (dk0 n (cr i)) (.slice (some ⟨D2, 0, none⟩) n cD) (.slice none 0 0) (.slice none 0 0) gs' [] 0) ∧ Gr W wr)
  case atStart => exact ⟨0, gs, rfl, by omega, by omega, HR3, G3⟩
  case round =>
    obtain ⟨i, gs', rfl, hi, hj, HR, hg⟩ := hrel
    have c1 := cell_gr hg b1
    have zq := World.block_lt_of_cell? _ _ c1
    by_cases him : i < m
    · have ti : decide ((i : Int) < (m : Int)) = true := decide_eq_true (by omega)
      have ti2 : decide (i < m) = true := decide_eq_true him
      have ti3 : (i : Int) < (m : Int) := by omega
      have ti4 : (i : Int) < (ac : Int) := by omega
      have ti5 : (i : Int) < (nc : Int) := by omega
      obtain rfl := y1 (by omega)
      obtain rfl := z1 (by omega)
      obtain ⟨v, ev, rv, -⟩ := HN1.out.1 i him
      obtain ⟨VB, Vo, vc, rfl, hvc, -⟩ := row_addr rv.1 (by rw [(ord_at HX.out.2.2.1 (show i < d.ord.length by rw [← HM.out.1]; exact him)).2.2]; decide)
      have q1 := cell_gr hg (HN1.out.2.1 i him)
      have q2 := cell_gr hg ev
      have c0 := cell_gr hg b0
      have c2 := cell_gr hg b2
      have zE := World.block_lt_of_cell? _ _ q1
      have zN := World.block_lt_of_cell? _ _ q2
      obtain ⟨a1, a2, a3⟩ := ord_at HX.out.2.2.1 (show i < d.ord.length by rw [← HM.out.1]; exact him)
      rw [← HM.out.2] at a2
      rw [a3] at q2 hvc rv
      have hcr := HC.out.1 i him
      have hco := HC.out.2.1 i him
      generalize d.ord.getD i 0 = a at q1 a1 a2 a3 rv hcr hco
      obtain ⟨ov, eo, ro⟩ := HN1.out.2.2 a a2
      obtain ⟨oa, on, oc, rfl⟩ : ∃ a n c, ov = .slice a n c := by
        rcases ro with ⟨ev, -⟩ | ⟨⟨a, c, _, _, ev, _⟩, -⟩
        · exact ⟨_, _, _, ev⟩
        · exact ⟨_, _, _, ev⟩
      have q3 := cell_gr hg eo
      obtain ⟨sX, x0, -⟩ := refD_cells HR.out
      have ta : (a : Int) < (n : Int) := by omega
      have tb : (a : Int) < (cD : Int) := by omega
      have tc : (a : Int) < (gc : Int) := by omega
      obtain ⟨u0, hu0, ru⟩ := HR.out.gsl a a2
      have hGO : wr.ownsRow 0 37 1 (.slice (some ⟨D2, 0, none⟩) n cD) n gs' := HR.out.good
      have p1 := hGO.cellAt a (by omega)
      rw [hu0] at p1
      have p2 := hGO.frozenAt a
      have zD := (World.ownsRow.lt hGO D2 rfl).2
      obtain ⟨ua, un, uc, rfl⟩ : ∃ a n c, u0 = .slice a n c := by
        rcases ru with ⟨ev, -⟩ | ⟨⟨a, c, _, _, ev, _⟩, -⟩
        · exact ⟨_, _, _, ev⟩
        · exact ⟨_, _, _, ev⟩
      have HRow := Lib.hid (And.intro rv (And.intro a2 (And.intro a3 (And.intro ro (And.intro hcr hco)))))
      have hfi := HC.out.2.2.2.2 i
      have sg := hg.size
      clear ev rv a1 a2 a3 ru hu0 hGO ro eo hcr hco
      by_cases hT : (i : Int) = torn
      · rw [if_pos hT] at hfi
        have HFI := Lib.hid hfi
        have u1 : ((i : Int) == torn) = true := by simpa using hT
        clear hfi hT
        have HR47 : Hid (Row wr (.slice (some ⟨VB, Vo, none⟩) 32 vc) ((d.F a).take 32)) := Lib.hid (row_take (row_gr HRow.out.1.1 hg) 32 (by rw [HRow.out.2.2.1]; decide))
        go_upto_region 8 with (at_builtin; go_loud ((refine wpList_app rfl (.tmp 39) (.tmp 47) rfl wr.heap.size (.slice (some ⟨wr.heap.size, 0, none⟩) 0 0) (.slice (some ⟨VB, Vo, none⟩) 32 vc) [] ((d.F a).take 32) rfl (litB wr) rfl (row_gr HR47.out (al_gr _ _)) (by have := HRow.out.2.2.1; rw [List.length_take, this]; simp) (by simp) ?_); intro x7 w7 o7 g7; (have G7 : Gr wr w7 := g7.gr (al_gr _ _) (fun k hk => (World.ownsRow.lt (litB wr) k hk).1)); (have HO7 : Hid (Own w7 wr.heap.size x7 ((d.F a).take 32)) := Lib.hid (by simpa using o7)); (clear o7 g7)))
        obtain ⟨xa, xc, rfl⟩ := own_form HO7.out
        rw [List.length_take, HRow.out.2.2.1, show min 32 64 = 32 from rfl] at HO7 ⊢
        obtain ⟨BB, hBB⟩ : ∃ x, x = wr.heap.size := ⟨_, rfl⟩
        have sBB : BB ≤ wr.heap.size := by rw [hBB]; exact Nat.le_refl _
        have hWB : wr.heap.size ≤ BB := by rw [hBB]; exact Nat.le_refl _
        rw [← hBB] at HO7
        have HFull : Hid (∀ w, Gr wr w → Calls Tryd.prog 35 #[.slice oa on oc] w fun e w' => ∃ B off c, e = .returned (.slice (some ⟨B, off, none⟩) 64 c) ∧ 64 ≤ c ∧ c ≤ 9223372036854775807 ∧ Row w' (.slice (some ⟨B, off + 32, none⟩) 32 (c - 32)) ((sec d.good a).drop 32) ∧ Gr w w') := Lib.hid (fun w g => rd_full2 (sec_len HX.out.2.2.1 (by rw [← HM.out.2]; exact HRow.out.2.1)) w (gSl_kx (S := fun _ => False) HRow.out.2.2.2.1 (Kx.of_gr (Gr.trans hg g)) (fun _ h => h.elim)))
        have gw7 := G7
        have HZB := Lib.hid (fun k (hk : Z k) => Nat.lt_of_lt_of_le (HX.out.1 k hk) (Nat.le_trans sg hWB))
        have y7 := cell_gr G7 x0
        have y8 := cell_gr G7 c0
        have y9 := cell_gr G7 q3
        have z7 : X < BB := by omega
        have z8 : q < BB := by omega
        have z9 : Eg < BB := by
          have : Eg < wr.heap.size := World.block_lt_of_cell? _ _ q3
          omega
        have z10 : D2 < BB := by omega
        have y10 := cell_gr G7 p1
        have s7 := G7.size
        clear hBB c0 c1 c2 q1 q2 q3 x0 p1 p2 zE zN zD sX zq b0 b1 b2 HR47
        go_wp2_with fail
        try simp only [List.append]
        refine Oe.wp_region_ordT (R := Kx (fun k => BB ≤ k)) 16 [(0, false), (1, false), (2, false), (3, false), (4, false), (5, false), (6, false), (7, false), (8, false), (9, false), (10, false), (11, false), (12, false), (13, true), (14, false), (15, true)] (by kernel_rfl) (by kernel_rfl) ?_
        intro wc hwc KQ hKQ
        have hhwc := Kx.of_gr (S := (fun k => BB ≤ k)) hwc
        have cwc_0_0 : wc.cell? ⟨X, 0, none⟩ = some (.slice (some ⟨D2, 0, none⟩) n cD) := cell_kx hhwc (by show ¬ (BB ≤ X); omega) (by go_simp)
        have zwc_0 : X < wc.heap.size := World.block_lt_of_cell? _ _ cwc_0_0
        have cwc_1_0 : wc.cell? ⟨q, 0, none⟩ = some (.slice (some ⟨Eg, 0, none⟩) n gc) := cell_kx hhwc (by show ¬ (BB ≤ q); omega) (by go_simp)
        have zwc_1 : q < wc.heap.size := World.block_lt_of_cell? _ _ cwc_1_0
        have cwc_2_0 : wc.cell? ⟨Eg, a, none⟩ = some (.slice oa on oc) := cell_kx hhwc (by show ¬ (BB ≤ Eg); omega) (by go_simp)
        have zwc_2 : Eg < wc.heap.size := World.block_lt_of_cell? _ _ cwc_2_0
        have cwc_3_0 : wc.cell? ⟨D2, a, none⟩ = some (.slice ua un uc) := cell_kx hhwc (by show ¬ (BB ≤ D2); omega) (by go_simp)
        have zwc_3 : D2 < wc.heap.size := World.block_lt_of_cell? _ _ cwc_3_0
        have gwc : Gr wr wc := Kx.gr hhwc (by have gg := gw7; have gs := gg.size; go_grown) (fun k hk => by have hk2 : BB ≤ k := hk; omega)
        have swc := hhwc.size
        clear gw7
        clear hhwc
        repeat (first | (refine Oe.wpO_skip (by simp only [List.getElem?_toArray, List.getElem?_cons_succ, List.getElem?_cons_zero] <;> rfl) rfl ?_; simp only [Act.put, List.setIfInBounds_toArray, List.set_cons_zero, List.set_cons_succ]) | (refine Oe.wpO_pure (by simp only [List.getElem?_toArray, List.getElem?_cons_succ, List.getElem?_cons_zero] <;> rfl) rfl ?_; apply Exists.intro; refine ⟨?_, ?_⟩; (· intro wx gx; have cx_0_0 : wx.cell? ⟨X, 0, none⟩ = some (.slice (some ⟨D2, 0, none⟩) n cD) := cell_kx gx (by show ¬ (BB ≤ X); omega) cwc_0_0; have zx_0 : X < wx.heap.size := World.block_lt_of_cell? _ _ cx_0_0; have cx_1_0 : wx.cell? ⟨q, 0, none⟩ = some (.slice (some ⟨Eg, 0, none⟩) n gc) := cell_kx gx (by show ¬ (BB ≤ q); omega) cwc_1_0; have zx_1 : q < wx.heap.size := World.block_lt_of_cell? _ _ cx_1_0; have cx_2_0 : wx.cell? ⟨Eg, a, none⟩ = some (.slice oa on oc) := cell_kx gx (by show ¬ (BB ≤ Eg); omega) cwc_2_0; have zx_2 : Eg < wx.heap.size := World.block_lt_of_cell? _ _ cx_2_0; have cx_3_0 : wx.cell? ⟨D2, a, none⟩ = some (.slice ua un uc) := cell_kx gx (by show ¬ (BB ≤ D2); omega) cwc_3_0; have zx_3 : D2 < wx.heap.size := World.block_lt_of_cell? _ _ cx_3_0; clear gx; all_goals (apply Oe.pAt_of_quiet; intro K hK; go_big_quiet_op; first | exact hK _ rfl | (apply Exists.intro; refine ⟨fun _ => ?_, ?_⟩; (· fail); exact hK _ rfl))); try simp only [Act.put, List.setIfInBounds_toArray, List.set_cons_zero, List.set_cons_succ]))
        refine Oe.wpO_call (by simp only [List.getElem?_toArray, List.getElem?_cons_succ, List.getElem?_cons_zero] <;> rfl) rfl ?_
        intro QS hQS
        go_wp2_with fail
        go_at_call 35
        (with_reducible refine ((HFull.out _ gwc)).mono ?_)
        rintro e wb ⟨fB, fo, fc, rfl, hf1, hf2, hrf, hgb⟩
        have hhwb : Kx (fun k => BB ≤ k) wc wb := Kx.of_gr hgb
        go_wp2_with fail
        first | (apply Exists.intro; refine ⟨?_, hhwb, ?_⟩; (· simp only [Act.put, List.setIfInBounds_toArray, List.set_cons_zero, List.set_cons_succ]; rfl)) | (refine ⟨hhwb, ?_⟩)
        have cwb_0_0 : wb.cell? ⟨X, 0, none⟩ = some (.slice (some ⟨D2, 0, none⟩) n cD) := cell_kx hhwb (by show ¬ (BB ≤ X); omega) (by go_simp)
        have zwb_0 : X < wb.heap.size := World.block_lt_of_cell? _ _ cwb_0_0
        have cwb_1_0 : wb.cell? ⟨q, 0, none⟩ = some (.slice (some ⟨Eg, 0, none⟩) n gc) := cell_kx hhwb (by show ¬ (BB ≤ q); omega) (by go_simp)
        have zwb_1 : q < wb.heap.size := World.block_lt_of_cell? _ _ cwb_1_0
        have cwb_2_0 : wb.cell? ⟨Eg, a, none⟩ = some (.slice oa on oc) := cell_kx hhwb (by show ¬ (BB ≤ Eg); omega) (by go_simp)
        have zwb_2 : Eg < wb.heap.size := World.block_lt_of_cell? _ _ cwb_2_0
        have cwb_3_0 : wb.cell? ⟨D2, a, none⟩ = some (.slice ua un uc) := cell_kx hhwb (by show ¬ (BB ≤ D2); omega) (by go_simp)
        have zwb_3 : D2 < wb.heap.size := World.block_lt_of_cell? _ _ cwb_3_0
        have gwb : Gr wr wb := Kx.gr hhwb gwc (fun k hk => by have hk2 : BB ≤ k := hk; omega)
        have swb := hhwb.size
        clear gwc zwc_0 cwc_0_0 zwc_1 cwc_1_0 zwc_2 cwc_2_0 zwc_3 cwc_3_0
        clear hhwb
        try simp only [Act.put, List.setIfInBounds_toArray, List.set_cons_zero, List.set_cons_succ]
        repeat (first | (refine Oe.wpO_skip (by simp only [List.getElem?_toArray, List.getElem?_cons_succ, List.getElem?_cons_zero] <;> rfl) rfl ?_; simp only [Act.put, List.setIfInBounds_toArray, List.set_cons_zero, List.set_cons_succ]) | (refine Oe.wpO_pure (by simp only [List.getElem?_toArray, List.getElem?_cons_succ, List.getElem?_cons_zero] <;> rfl) rfl ?_; apply Exists.intro; refine ⟨?_, ?_⟩; (· intro wx gx; have cx_0_0 : wx.cell? ⟨X, 0, none⟩ = some (.slice (some ⟨D2, 0, none⟩) n cD) := cell_kx gx (by show ¬ (BB ≤ X); omega) cwb_0_0; have zx_0 : X < wx.heap.size := World.block_lt_of_cell? _ _ cx_0_0; have cx_1_0 : wx.cell? ⟨q, 0, none⟩ = some (.slice (some ⟨Eg, 0, none⟩) n gc) := cell_kx gx (by show ¬ (BB ≤ q); omega) cwb_1_0; have zx_1 : q < wx.heap.size := World.block_lt_of_cell? _ _ cx_1_0; have cx_2_0 : wx.cell? ⟨Eg, a, none⟩ = some (.slice oa on oc) := cell_kx gx (by show ¬ (BB ≤ Eg); omega) cwb_2_0; have zx_2 : Eg < wx.heap.size := World.block_lt_of_cell? _ _ cx_2_0; have cx_3_0 : wx.cell? ⟨D2, a, none⟩ = some (.slice ua un uc) := cell_kx gx (by show ¬ (BB ≤ D2); omega) cwb_3_0; have zx_3 : D2 < wx.heap.size := World.block_lt_of_cell? _ _ cx_3_0; clear gx; all_goals (apply Oe.pAt_of_quiet; intro K hK; go_big_quiet_op; first | exact hK _ rfl | (apply Exists.intro; refine ⟨fun _ => ?_, ?_⟩; (· fail); exact hK _ rfl))); try simp only [Act.put, List.setIfInBounds_toArray, List.set_cons_zero, List.set_cons_succ]))
        have OB := Lib.hid (rowOwn_gr HO7.out (Gr.trans hwc hgb))
        refine Oe.wpO_call (by simp only [List.getElem?_toArray, List.getElem?_cons_succ, List.getElem?_cons_zero] <;> rfl) rfl ?_
        intro QS hQS
        refine (wpList_app rfl (.tmp 54) (.tmp 63) rfl BB (.slice xa 32 xc) (.slice (some ⟨fB, fo + 32, none⟩) 32 (fc - 32)) ((d.F a).take 32) ((sec d.good a).drop 32) rfl OB.out rfl hrf (by have := HRow.out.2.2.1; rw [List.length_take, List.length_drop, this]; have := sec_len HX.out.2.2.1 (by rw [← HM.out.2]; exact HRow.out.2.1); omega) (by omega) ?_)
        intro x9 we o9 g9
        have hhwe : Kx (fun k => BB ≤ k) wb we := (kx_grown g9).mono (fun k hk => (World.ownsRow.lt OB.out k hk).1)
        refine hQS _ _ ⟨_, rfl, hhwe, ?_⟩
        clear hQS QS
        have cwe_0_0 : we.cell? ⟨X, 0, none⟩ = some (.slice (some ⟨D2, 0, none⟩) n cD) := cell_kx hhwe (by show ¬ (BB ≤ X); omega) (by go_simp)
        have zwe_0 : X < we.heap.size := World.block_lt_of_cell? _ _ cwe_0_0
        have cwe_1_0 : we.cell? ⟨q, 0, none⟩ = some (.slice (some ⟨Eg, 0, none⟩) n gc) := cell_kx hhwe (by show ¬ (BB ≤ q); omega) (by go_simp)
        have zwe_1 : q < we.heap.size := World.block_lt_of_cell? _ _ cwe_1_0
        have cwe_2_0 : we.cell? ⟨Eg, a, none⟩ = some (.slice oa on oc) := cell_kx hhwe (by show ¬ (BB ≤ Eg); omega) (by go_simp)
        have zwe_2 : Eg < we.heap.size := World.block_lt_of_cell? _ _ cwe_2_0
        have cwe_3_0 : we.cell? ⟨D2, a, none⟩ = some (.slice ua un uc) := cell_kx hhwe (by show ¬ (BB ≤ D2); omega) (by go_simp)
        have zwe_3 : D2 < we.heap.size := World.block_lt_of_cell? _ _ cwe_3_0
        have gwe : Gr wr we := Kx.gr hhwe gwb (fun k hk => by have hk2 : BB ≤ k := hk; omega)
        have swe := hhwe.size
        clear gwb zwb_0 cwb_0_0 zwb_1 cwb_1_0 zwb_2 cwb_2_0 zwb_3 cwb_3_0
        clear hhwe
        try simp only [Act.put, List.setIfInBounds_toArray, List.set_cons_zero, List.set_cons_succ]
        repeat (first | (refine Oe.wpO_skip (by simp only [List.getElem?_toArray, List.getElem?_cons_succ, List.getElem?_cons_zero] <;> rfl) rfl ?_; simp only [Act.put, List.setIfInBounds_toArray, List.set_cons_zero, List.set_cons_succ]) | (refine Oe.wpO_pure (by simp only [List.getElem?_toArray, List.getElem?_cons_succ, List.getElem?_cons_zero] <;> rfl) rfl ?_; apply Exists.intro; refine ⟨?_, ?_⟩; (· intro wx gx; have cx_0_0 : wx.cell? ⟨X, 0, none⟩ = some (.slice (some ⟨D2, 0, none⟩) n cD) := cell_kx gx (by show ¬ (BB ≤ X); omega) cwe_0_0; have zx_0 : X < wx.heap.size := World.block_lt_of_cell? _ _ cx_0_0; have cx_1_0 : wx.cell? ⟨q, 0, none⟩ = some (.slice (some ⟨Eg, 0, none⟩) n gc) := cell_kx gx (by show ¬ (BB ≤ q); omega) cwe_1_0; have zx_1 : q < wx.heap.size := World.block_lt_of_cell? _ _ cx_1_0; have cx_2_0 : wx.cell? ⟨Eg, a, none⟩ = some (.slice oa on oc) := cell_kx gx (by show ¬ (BB ≤ Eg); omega) cwe_2_0; have zx_2 : Eg < wx.heap.size := World.block_lt_of_cell? _ _ cx_2_0; have cx_3_0 : wx.cell? ⟨D2, a, none⟩ = some (.slice ua un uc) := cell_kx gx (by show ¬ (BB ≤ D2); omega) cwe_3_0; have zx_3 : D2 < wx.heap.size := World.block_lt_of_cell? _ _ cx_3_0; clear gx; all_goals (apply Oe.pAt_of_quiet; intro K hK; go_big_quiet_op; first | exact hK _ rfl | (apply Exists.intro; refine ⟨fun _ => ?_, ?_⟩; (· fail); exact hK _ rfl))); try simp only [Act.put, List.setIfInBounds_toArray, List.set_cons_zero, List.set_cons_succ]))
        refine Oe.wpO_nil (hKQ _ _ ?_)
        clear hKQ KQ
        simp only [List.drop_succ_cons, List.drop_zero]
        have OC := Lib.hid o9
        obtain ⟨x9a, x9c, rfl⟩ := own_form o9
        have hlx : ((d.F a).take 32 ++ (sec d.good a).drop 32).length = 64 := by
          rw [List.length_append, List.length_take, List.length_drop, HRow.out.2.2.1, sec_len HX.out.2.2.1 (by rw [← HM.out.2]; exact HRow.out.2.1)]; rfl
        rw [hlx] at OC ⊢
        have hrr := refD_gr HR.out gwe
        have fE := hrr.good.frozenAt a
        have hset := refD_setG (d := dk0 n (cr i)) (D := D2) (c := cD) (k := a) (x := .slice x9a 64 x9c) (G := cr (i + 1)) (L := (d.F a).take 32 ++ (sec d.good a).drop 32) hrr HRow.out.2.1 (Or.inr (rowOff_own OC.out HZB.out)) (HC.out.2.2.1 (i + 1) (by omega)) (fun j hj => by
          have h1 := (HRow.out.2.2.2.2.1 j hj).2.1 HFI.out
          rw [h1, ← HRow.out.2.2.2.2.2]
          by_cases e : j = a
          · rw [if_pos e, if_pos e, e]
          · rw [if_neg e, if_neg e]
            rfl) (fun j hj => (by cases hj)) (fun j hj => (by cases hj))
        have HR' : Hid (RefD base ((we.setCell ⟨D2, a, none⟩ (.slice x9a 64 x9c))) X Z (dk0 n (cr (i + 1))) (.slice (some ⟨D2, 0, none⟩) n cD) (.slice none 0 0) (.slice none 0 0) (gs'.set a (.slice x9a 64 x9c)) [] 0) := Lib.hid hset.1
        have G' : Gr W (we.setCell ⟨D2, a, none⟩ (.slice x9a 64 x9c)) := Kx.gr hset.2 (Gr.trans hg gwe) (fun k hk => by rw [show k = D2 from hk]; exact HDW.out)
        have HG' := Lib.hid G'
        clear hset hrr o9 g9 hrf OB HO7 HRow G' hf1 hf2
        go_wp2_with fail
        go_roundg (m - (i + 1))
        case measure => omega
        case rel => exact ⟨i + 1, _, by go_num, by omega, by omega, HR', HG'.out⟩
      · rw [if_neg hT] at hfi
        have u1 : ((i : Int) == torn) = false := by simpa using hT
        clear hT
        by_cases hkz : 0 < keep.length
        · have v1 : decide ((0 : Int) < (keep.length : Int)) = true := decide_eq_true (by omega)
          have v2 : (0 : Int) < (keep.length : Int) := by omega
          obtain rfl := k3 hkz
          obtain ⟨y, ey, hy, w1', w2', w3', w4', w5', w6', w7', yl, y0⟩ := keep_facts i keep.length hkz hkl
          have yk : y < kcap := Nat.lt_of_lt_of_le hy k1
          have fy := cell_gr hg (HX.out.2.2.2 y hy)
          rw [← ey] at hfi
          have hk0 := k1
          cases hb : keep.getD y false with
          | true =>
            rw [hb] at fy hfi
            rw [if_pos ⟨hkz, rfl⟩] at hfi
            have HFI := Lib.hid hfi
            have HROW : Hid (RowOff wr Z (.slice (some ⟨VB, Vo, none⟩) 64 vc) (d.F a)) := Lib.hid (rowOff_gr HRow.out.1 hg)
            clear hfi ey hb
            go_upto_region 10 with fail
            clear w1' w2' w3' w4' w5' w6' w7' fy
            go_wp2_with fail
            go_region
            have hset := refD_setG (d := dk0 n (cr i)) (D := D2) (c := cD) (k := a) (x := .slice (some ⟨VB, Vo, none⟩) 64 vc) (G := cr (i + 1)) (L := d.F a) HR.out HRow.out.2.1 (Or.inr HROW.out) (HC.out.2.2.1 (i + 1) (by omega)) (fun j hj => (HRow.out.2.2.2.2.1 j hj).2.2 (by rw [HFI.out]; decide) (by rw [HFI.out]; decide)) (fun j hj => (by cases hj)) (fun j hj => (by cases hj))
            have HR' : Hid (RefD base (wr.setCell ⟨D2, a, none⟩ (.slice (some ⟨VB, Vo, none⟩) 64 vc)).drew X Z (dk0 n (cr (i + 1))) (.slice (some ⟨D2, 0, none⟩) n cD) (.slice none 0 0) (.slice none 0 0) (gs'.set a (.slice (some ⟨VB, Vo, none⟩) 64 vc)) [] 0) := Lib.hid (refD_gr hset.1 (Gr.drew (Below.refl _ _)))
            have G' : Gr W (wr.setCell ⟨D2, a, none⟩ (.slice (some ⟨VB, Vo, none⟩) 64 vc)).drew := Gr.drew (Kx.gr hset.2 hg (fun k hk => by rw [show k = D2 from hk]; exact HDW.out))
            have HG' := Lib.hid G'
            clear hset G' HRow
            go_wp2_with fail
            go_roundg (m - (i + 1))
            case measure => omega
            case rel => exact ⟨i + 1, _, by go_num, by omega, by omega, HR', HG'.out⟩
          | false =>
            rw [hb] at fy hfi
            rw [if_neg (fun h => by cases h.2)] at hfi
            have HN0 : Hid (cr (i + 1) = cr i) := Lib.hid ((HRow.out.2.2.2.2.1 a HRow.out.2.1).1 hfi)
            clear hfi ey hb
            go_wp2_with fail
            go_roundg (m - (i + 1))
            case measure => omega
            case rel => exact ⟨i + 1, gs', by go_num, by omega, by omega, Lib.hid (by rw [HN0.out]; exact HR.out), hg⟩
        · have v1 : decide ((0 : Int) < (keep.length : Int)) = false := decide_eq_false (by omega)
          have v2 : ¬ (0 : Int) < (keep.length : Int) := by omega
          rw [if_neg (fun h => hkz h.1)] at hfi
          have HN0 : Hid (cr (i + 1) = cr i) := Lib.hid ((HRow.out.2.2.2.2.1 a HRow.out.2.1).1 hfi)
          clear hfi
          go_wp2_with fail
          go_roundg (m - (i + 1))
          case measure => omega
          case rel => exact ⟨i + 1, gs', by go_num, by omega, by omega, Lib.hid (by rw [HN0.out]; exact HR.out), hg⟩
    · obtain rfl : i = m := by omega
      have ti : decide ((i : Int) < (i : Int)) = false := decide_eq_false (by omega)
      have ti3 : ¬ (i : Int) < (i : Int) := by omega
      go_wp2_with fail
      go_ret
      exact ⟨⟨X, _, _, rfl, HR.out⟩, hg⟩
end
end Go.Proofs.YtkbdhhmkdjajgaaDoor
