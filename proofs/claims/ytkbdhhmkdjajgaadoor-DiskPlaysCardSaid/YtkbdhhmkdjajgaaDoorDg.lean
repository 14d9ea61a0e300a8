/- disk: Crash -/
import Derived.Test.YtkbdhhmkdjajgaaDoorDf
namespace Go.Proofs.YtkbdhhmkdjajgaaDoor
set_option linter.unusedVariables false
set_option linter.unusedSimpArgs false
open Go.ChangeShapes Go.WideShapes Go.ChangeAt Go.RowKit Go.Maps

theorem row_take {w : World} {ad : Addr} {m c : Nat} {L : List UInt8} (h : Row w (.slice (some ad) m c) L) (k : Nat) (hk : k ≤ L.length) : Row w (.slice (some ad) k c) (L.take k) := by
  obtain ⟨ad', c', B, off, e, h1, h2, h3, h4⟩ := h
  cases e
  have hl : (L.take k).length = k := by rw [List.length_take]; omega
  refine ⟨some ad, c, B, off, by rw [hl], by omega, h2, fun h => h3 (by omega), fun j hj => ?_⟩
  rw [hl] at hj
  rw [h4 j (by omega), List.getElem_take]
theorem row_addr {w : World} {v : Value} {L : List UInt8} (h : Row w v L) (h0 : 0 < L.length) : ∃ B off c, v = .slice (some ⟨B, off, none⟩) L.length c ∧ L.length ≤ c ∧ (c : Int) ≤ 9223372036854775807 := by
  obtain ⟨ad, c, B, off, e, h1, h2, h3, h4⟩ := h
  exact ⟨B, off, c, by rw [e, h3 h0], h1, by omega⟩
theorem pAt_look {P : Program} {o : Oper} {a : Act} {w : World} (m x : Operand) (t : TypeId) (hop : o.op = Op.lookup t m x false)
    (k e : TypeId) (K : Keyed P k) (ht : P.underlying t = some (.map k e)) {z : Value} (hz : (zeroValue e).run P w = .ok z w) (b n : Nat) (D : DataW Value)
    (hm : a.eval m = .map (some b)) (hown : w.ownsMap P k heldE b n D) (key : Value) (kl : Lit) (hx : a.eval x = key) (hkey : keyOf P k key = some kl)
    (v : Value) (hv : ∀ z, D.atKey kl z = .held v) : Od.pAt P o a w v := by
  obtain ⟨v', ps, hrun, hr⟩ := hown.lookup K ht (zd := .held z) (zp := []) hz rfl hkey
  have e1 : (DataW.held v' : DataW Value) = .held v := by
    have := (Prod.mk.inj (Option.some.inj hr)).1
    rw [this]; exact hv _
  obtain rfl := DataW.held.inj e1
  unfold Od.pAt Oper.wp
  simp [execOp, hop, hm, hx, hrun, Result.andThen]
  rw [Oper.upon_value]
  exact ⟨rfl, rfl⟩
section
variable {p g bm : Nat} {M : Option Nat} {d : Dk}
theorem keep_facts (i L : Nat) (hL : 0 < L) (hb : L ≤ 1000000) : ∃ y : Nat, y = i % L ∧ y < L ∧ Int.tmod (i : Int) (L : Int) = (y : Nat) ∧ (L : Int) ≠ 0 ∧ ((L : Int) == 0) = false ∧ wrap64 (y : Int) = y ∧ IntKind.i64.wrap (y : Int) = y ∧ wrap64 (Int.tmod (i : Int) (L : Int)) = y ∧ IntKind.i64.wrap (Int.tmod (i : Int) (L : Int)) = y ∧ (y : Int) < (L : Int) ∧ (0 : Int) ≤ (y : Int) := by
  have hy : i % L < L := Nat.mod_lt _ hL
  have h1 : Int.tmod (i : Int) (L : Int) = ((i % L : Nat) : Int) := rfl
  generalize i % L = y at *
  have w4 : wrap64 (y : Int) = y := wr_small (by omega)
  have w5 : IntKind.i64.wrap (y : Int) = y := wk_small (by omega)
  exact ⟨y, rfl, hy, h1, by omega, by simp; omega, w4, w5, by rw [h1]; exact w4, by rw [h1]; exact w5, by omega, by omega⟩
theorem crG_succ (d : Dk) (f : Nat → Nat) (i : Nat) : crG d f (i + 1) = if f i = 0 then crG d f i else if f i = 1 then splice (crG d f i) (d.ord.getD i 0 * 64) ((d.F (d.ord.getD i 0)).take 32) else splice (crG d f i) (d.ord.getD i 0 * 64) (d.F (d.ord.getD i 0)) := rfl
set_option maxHeartbeats 2000000 in
set_option maxRecDepth 100000 in
theorem d_crash (keep : List Bool) (kv : Value) (torn : Int) (W : World) (H : DiskS W p g bm M d) (hK : Bools W kv keep) (hkl : keep.length ≤ 1000000) :
    Calls Tryd.prog 20 #[.pointer (some ⟨p, 0, none⟩), kv, .int .i64 torn] W fun e w' => ∃ p' g' bm', e = .returned (.pointer (some ⟨p', 0, none⟩)) ∧ (∀ j, dkZ p' g' bm' none j → W.heap.size ≤ j) ∧ DiskS w' p' g' bm' none (dk0 d.n (crG d (crM keep torn) d.ord.length)) ∧ Gr W w' := by
  have hn1 := H.ok.n1
  have hn2 := H.ok.n2
  have A1 := fun w (G : Gr W w) => d_len w (diskS_gr H G)
  obtain ⟨cap, ov, h2, h3, h4, h5, hc1, hc2⟩ := diskS_head H
  have hol := ord_len H.ok
  obtain ⟨sa, scap, hov⟩ : ∃ sa scap, ov = .slice sa d.ord.length scap ∧ d.ord.length ≤ scap ∧ (scap : Int) ≤ 9223372036854775807 ∧ ∃ C, (0 < d.ord.length → sa = some ⟨C, 0, none⟩) ∧ ∀ j, j < d.ord.length → W.cell? ⟨C, j, none⟩ = some (.int .i64 (d.ord.getD j 0 : Nat)) := by
    rcases h4.2 with ⟨e, h0⟩ | ⟨g', cap', cur, e, hb, hh, hn, hc, hs, ht⟩
    · exact ⟨none, 0, by rw [e, h0], by omega, by omega, 0, fun h => absurd h (by omega), fun j hj => absurd hj (by omega)⟩
    · refine ⟨_, cap', e, hn, by unfold maxLen at hc; omega, g', fun _ => rfl, fun j hj => ?_⟩
      rw [e] at h4
      have := World.ownsRow.cellAt h4 j (by omega)
      rw [this, List.getElem?_map, List.getElem?_eq_getElem hj, List.getD_eq_getElem?_getD, List.getElem?_eq_getElem hj]
      rfl
  obtain ⟨rfl, hs1, hs2, C, hsa, hC⟩ := hov
  obtain ⟨D, hD, hsz, hW⟩ := H.waits
  have c0 := h2.c0
  have c1 := h2.c1
  have c2 := h2.c2
  have hp := World.block_lt_of_cell? _ _ c0
  have A2 := d_clone (row_own h3) (by rw [H.ok.len]; omega)
  rw [H.ok.len] at A2
  have A3 := fun (q c' : Nat) (w : World) (o : Own w 0 (.slice (some ⟨q, 0, none⟩) (d.n * 64) c') d.good) => d_of hn1 hn2 H.ok.len w o
  obtain ⟨kad, kcap, KB, koff, rfl, k1, k2, k3, k4⟩ := hK
  have HX := Lib.hid (And.intro H.ok (And.intro hD (And.intro hW (And.intro hC k4))))
  have H1 := Lib.hid A1
  have H2 := Lib.hid A2
  have H3 := Lib.hid A3
  clear A1 A2 A3
  have HK1 := Lib.hid k1
  have HA := Lib.hid (fun i (hi : i < d.ord.length) => ord_at H.ok hi)
  have t1 : ((d.n : Int) == 0) = false := by simp; omega
  have t2 : (d.n == 0) = false := by simp; omega
  have HN : Hid (0 < d.n * 64 ∧ d.n * 64 ≤ 600000) := Lib.hid (by omega)
  have crl := crG_len H.ok (crM keep torn)
  have HCL := Lib.hid crl
  have HC0 : Hid (crG d (crM keep torn) 0 = d.good) := Lib.hid rfl
  have HCS := Lib.hid (crG_succ d (crM keep torn))
  clear H h2 h3 h4 h5 hD hsz hW hC k4 hn1 hn2 hc1 hc2 crl
  have hf : ∀ i, crM keep torn i = if (i : Int) = torn then 1 else if 0 < keep.length ∧ keep.getD (i % keep.length) false = true then 2 else 0 := fun i => rfl
  have HF := Lib.hid hf
  clear hf
  generalize crM keep torn = f at HF HCL HC0 HCS ⊢
  generalize hcr : crG d f = cr at HCL HC0 HCS ⊢
  clear hcr
  clear k2 hs2
  generalize d.ord.length = len at *
  go_enter Tryd.func20, Tryd.ntmps20
  go_wp2_with fail
  go_at_call 29
  refine ((H1.out _ (by go_grown))).mono ?_
  rintro e w1 ⟨rfl, hw1⟩
  have cw1_0_0 : w1.cell? ⟨p, 0, none⟩ = some (.slice (some ⟨g, 0, none⟩) (d.n * 64) cap) := cell_gr hw1 (by go_simp)
  have cw1_0_1 : w1.cell? ⟨p, 1, none⟩ = some (.map (some bm)) := cell_gr hw1 (by go_simp)
  have cw1_0_2 : w1.cell? ⟨p, 2, none⟩ = some (.slice sa len scap) := cell_gr hw1 (by go_simp)
  have zw1_0 : p < w1.heap.size := World.block_lt_of_cell? _ _ cw1_0_0
  have gw1 : Gr W w1 := Gr.trans (by go_grown) hw1
  clear hw1
  go_wp2_with fail
  go_at_call 31
  refine (H2.out _ gw1).mono ?_
  rintro e w2 ⟨ad2, c2', rfl, o2, g2⟩
  obtain ⟨q, cq, eq, hq, -⟩ := row_form o2 (by have := HCL.out 0 (by omega); rw [HC0.out] at this; rw [this]; exact HN.out.1)
  simp only [Value.slice.injEq] at eq
  obtain ⟨rfl, -, rfl⟩ := eq
  have G2 : Gr W w2 := Gr.trans gw1 g2
  have A4 := Lib.hid (H3.out q _ w2 (own_base o2 (Nat.zero_le _)))
  clear o2 g2
  go_wp2_with fail
  go_at_call 26
  refine A4.out.mono ?_
  rintro e w3 ⟨p', bm', rfl, hp', hb', hd', g3⟩
  have G3 : Gr W w3 := Gr.trans G2 g3
  have s2 := G2.size
  have HD0 := Lib.hid hd'
  have e2 := cell_gr G3 c2
  clear hd' g3 A4
  go_wp2_with fail
  go_loopg [24] len (fun j x wr => ∃ i : Nat, x = .int .i64 i ∧ i ≤ len ∧ j = len - i ∧ Hid (DiskS wr p' q bm' none (dk0 d.n (cr i))) ∧ Gr W wr)
  case atStart => exact ⟨0, rfl, by omega, by omega, Lib.hid (by rw [HC0.out]; exact HD0.out), G3⟩
  case round =>
    obtain ⟨i, rfl, hi, hj, HDi, hg⟩ := hrel
    by_cases hin : i < len
    · have ti : decide ((i : Int) < (len : Int)) = true := decide_eq_true (by omega)
      have ti2 : decide (i < len) = true := decide_eq_true hin
      have ti3 : (i : Int) < (len : Int) := by omega
      have ti4 : (i : Int) < (scap : Int) := by omega
      obtain rfl := hsa (by omega)
      obtain ⟨ok, hD, hW, hC, hKc⟩ := HX.out
      have q0 := cell_gr hg (hC i hin)
      have r1 := cell_gr hg c1
      have zp := World.block_lt_of_cell? _ _ r1
      obtain ⟨ha1, ha2, ha3⟩ := HA.out i hin
      have hcs := HCS.out i
      have hln := HCL.out i (by omega)
      have hn8 := ok.n2
      obtain ⟨a, ea⟩ : ∃ a, a = d.ord.getD i 0 := ⟨_, rfl⟩
      rw [← ea] at q0 ha1 ha2 ha3 hcs
      obtain ⟨hhas, v, hv, hr⟩ := (hW a (by omega)).2 ha1
      have hrow := row_gr hr.1 hg
      have hDr := ownsMap_kx (S := fun _ => False) hD (Kx.of_gr hg) (fun h => h)
      have hff := HF.out i
      have ak : a < 1000000 := by omega
      have HOK := Lib.hid (And.intro ha2 (And.intro ha3 hln))
      have HCSi := Lib.hid hcs
      have sg := hg.size
      obtain ⟨VB, Vo, vc, rfl, hvc, -⟩ := row_addr hrow (by omega)
      rw [ha3] at hrow hv hvc
      have AL : ∀ w, Gr wr w → ∃ c, Calls Tryd.prog 34 #[.pointer (some ⟨p', 0, none⟩), .int .i64 a] w fun e w' => e = .returned (.slice (some ⟨q, a * 64, none⟩) 64 c) ∧ Gr w w' := fun w G => by
        obtain ⟨c, -, h⟩ := d_lasting (d := dk0 d.n (cr i)) a HOK.out.1 w (diskS_gr HDi.out G)
        exact ⟨c, h⟩
      have HAL := Lib.hid AL
      have HRow := Lib.hid hrow
      have HDD := Lib.hid (And.intro hDr (And.intro hhas hv))
      have fk : ∀ x, x < keep.length → wr.cell? ⟨KB, koff + x, none⟩ = some (.bool (keep.getD x false)) := fun x hx => cell_gr hg (hKc x hx)
      have HKc := Lib.hid fk
      have hv32 : (32 : Int) ≤ (vc : Int) := by omega
      have hv32' : 32 ≤ vc := by omega
      clear AL hrow hDr hhas hv fk ok hD hW hC hKc ha1 ha2 ha3 hln hcs hr ea
      by_cases hT : (i : Int) = torn
      · rw [if_pos hT] at hff
        have u1 : ((i : Int) == torn) = true := by simpa using hT
        have HN1 : Hid (cr (i + 1) = splice (cr i) (a * 64) ((d.F a).take 32)) := Lib.hid (by rw [HCSi.out, hff, if_neg (by decide), if_pos rfl])
        clear hff hT
        go_wp2_with fail
        go_wp2_with fail
        try simp only [List.append]
        refine Od.wp_region_ordT 10 [(0, false), (1, false), (3, false), (4, false), (5, false), (6, false), (7, false), (8, false), (9, false), (2, true)] (by kernel_rfl) (by kernel_rfl) ?_
        intro wa hwa KQ hKQ
        have cwa_0_0 : wa.cell? ⟨p, 1, none⟩ = some (.map (some bm)) := cell_gr hwa (by go_simp)
        have zwa_0 : p < wa.heap.size := World.block_lt_of_cell? _ _ cwa_0_0
        have gwa : Gr wr wa := Gr.trans (by go_grown) hwa
        skip
        clear hwa
        repeat (first | (refine Od.wpO_skip (by simp only [List.getElem?_toArray, List.getElem?_cons_succ, List.getElem?_cons_zero] <;> rfl) rfl ?_; simp only [Act.put, List.setIfInBounds_toArray, List.set_cons_zero, List.set_cons_succ]) | (refine Od.wpO_pure (by simp only [List.getElem?_toArray, List.getElem?_cons_succ, List.getElem?_cons_zero] <;> rfl) rfl ?_; apply Exists.intro; refine ⟨?_, ?_⟩; (· intro wx gx; obtain ⟨mx, rfl⟩ := spread_of_gr gx; clear gx; all_goals (apply Od.pAt_of_quiet; intro K hK; go_big_quiet_op; first | exact hK _ rfl | (apply Exists.intro; refine ⟨fun _ => ?_, ?_⟩; (· fail); exact hK _ rfl))); try simp only [Act.put, List.setIfInBounds_toArray, List.set_cons_zero, List.set_cons_succ]))
        refine Od.wpO_pure (by simp only [List.getElem?_toArray, List.getElem?_cons_succ, List.getElem?_cons_zero] <;> rfl) rfl ?_
        refine ⟨(.slice (some ⟨VB, Vo, none⟩) 64 vc), ?_, ?_⟩
        · intro wx gx; exact (pAt_look (.tmp 39) (.tmp 40) _ rfl 3 37 KI Tryd.underlying70 (zeroB _) bm len D rfl (ownsMap_kx (S := fun _ => False) HDD.out.1 (Kx.of_gr (Gr.trans gwa gx)) (fun h => h)) (.int .i64 a) (ik a) rfl (ik_of ak) _ HDD.out.2.2)
        try simp only [Act.put, List.setIfInBounds_toArray, List.set_cons_zero, List.set_cons_succ]
        repeat (first | (refine Od.wpO_skip (by simp only [List.getElem?_toArray, List.getElem?_cons_succ, List.getElem?_cons_zero] <;> rfl) rfl ?_; simp only [Act.put, List.setIfInBounds_toArray, List.set_cons_zero, List.set_cons_succ]) | (refine Od.wpO_pure (by simp only [List.getElem?_toArray, List.getElem?_cons_succ, List.getElem?_cons_zero] <;> rfl) rfl ?_; apply Exists.intro; refine ⟨?_, ?_⟩; (· intro wx gx; obtain ⟨mx, rfl⟩ := spread_of_gr gx; clear gx; all_goals (apply Od.pAt_of_quiet; intro K hK; go_big_quiet_op; first | exact hK _ rfl | (apply Exists.intro; refine ⟨fun _ => ?_, ?_⟩; (· fail); exact hK _ rfl))); try simp only [Act.put, List.setIfInBounds_toArray, List.set_cons_zero, List.set_cons_succ]))
        obtain ⟨lc, hlc⟩ := HAL.out _ gwa
        refine Od.wpO_call (by simp only [List.getElem?_toArray, List.getElem?_cons_succ, List.getElem?_cons_zero] <;> rfl) rfl ?_
        intro QS hQS
        go_wp2_with fail
        go_at_call 34
        (with_reducible refine ((hlc)).mono ?_)
        rintro e wb ⟨rfl, hwb⟩
        go_wp2_with fail
        apply Exists.intro
        refine ⟨?_, hwb, ?_⟩
        · simp only [Act.put, List.setIfInBounds_toArray, List.set_cons_zero, List.set_cons_succ]; rfl
        have cwb_0_0 : wb.cell? ⟨p, 1, none⟩ = some (.map (some bm)) := cell_gr hwb (by go_simp)
        have zwb_0 : p < wb.heap.size := World.block_lt_of_cell? _ _ cwb_0_0
        have gwb : Gr wr wb := Gr.trans (by have gg := gwa; have gs := gg.size; go_grown) hwb
        clear gwa zwa_0 cwa_0_0
        clear hwb
        try simp only [Act.put, List.setIfInBounds_toArray, List.set_cons_zero, List.set_cons_succ]
        repeat (first | (refine Od.wpO_skip (by simp only [List.getElem?_toArray, List.getElem?_cons_succ, List.getElem?_cons_zero] <;> rfl) rfl ?_; simp only [Act.put, List.setIfInBounds_toArray, List.set_cons_zero, List.set_cons_succ]) | (refine Od.wpO_pure (by simp only [List.getElem?_toArray, List.getElem?_cons_succ, List.getElem?_cons_zero] <;> rfl) rfl ?_; apply Exists.intro; refine ⟨?_, ?_⟩; (· intro wx gx; obtain ⟨mx, rfl⟩ := spread_of_gr gx; clear gx; all_goals (apply Od.pAt_of_quiet; intro K hK; go_big_quiet_op; first | exact hK _ rfl | (apply Exists.intro; refine ⟨fun _ => ?_, ?_⟩; (· fail); exact hK _ rfl))); try simp only [Act.put, List.setIfInBounds_toArray, List.set_cons_zero, List.set_cons_succ]))
        refine Od.wpO_nil (hKQ _ _ ?_)
        clear hKQ KQ
        simp only [List.drop_succ_cons, List.drop_zero]
        obtain ⟨cp4, ov4, hd4, ho4, -⟩ := diskS_head (diskS_gr HDi.out gwb)
        have HO4 := Lib.hid (And.intro hd4.c0 ho4)
        clear hd4
        refine wpList_copy_bytes rfl (.tmp 35) (.tmp 42) rfl 0 q (d.n * 64) cp4 (cr i) HO4.out.2 (a * 64) 64 lc rfl ((d.F a).take 32) VB Vo 32 vc rfl (row_take (row_gr HRow.out gwb) 32 (by rw [HOK.out.2.1]; decide)) (by rw [List.length_take, HOK.out.2.1]; decide) (by have := HOK.out.1; have h3 := HOK.out.2.2; have h4 := HOK.out.2.1; rw [List.length_take, h4, h3]; omega) ?_
        intro w5 o5 k5
        have HD5 : Hid (DiskS w5 p' q bm' none (dk0 d.n (cr (i + 1)))) := Lib.hid (diskS_good (diskS_gr HDi.out gwb) HO4.out.1 k5 (by rw [HN1.out]; exact o5) (HCL.out (i + 1) (by omega)))
        have G5 : Gr W w5 := Kx.gr k5 (Gr.trans hg gwb) (fun j h => by rw [h]; exact hq)
        clear o5 k5 ho4
        go_wp2_with fail
        go_roundg (len - (i + 1))
        case measure => omega
        case rel => exact ⟨i + 1, by go_num, by omega, by omega, HD5, G5⟩
      · rw [if_neg hT] at hff
        have u1 : ((i : Int) == torn) = false := by simpa using hT
        clear hT
        by_cases hkz : 0 < keep.length
        · have v1 : decide ((0 : Int) < (keep.length : Int)) = true := decide_eq_true (by omega)
          have v2 : (0 : Int) < (keep.length : Int) := by omega
          obtain rfl := k3 hkz
          obtain ⟨y, ey, hy, w1', w2', w3', w4', w5', w6', w7', yl, y0⟩ := keep_facts i keep.length hkz hkl
          have yk : y < kcap := Nat.lt_of_lt_of_le hy k1
          have fy := HKc.out y hy
          rw [← ey] at hff
          have hk0 := k1
          cases hb : keep.getD y false with
          | true =>
            rw [hb] at fy hff
            rw [if_pos ⟨hkz, rfl⟩] at hff
            have HN1 : Hid (cr (i + 1) = splice (cr i) (a * 64) (d.F a)) := Lib.hid (by rw [HCSi.out, hff, if_neg (by decide), if_neg (by decide)])
            clear hff ey hb
            go_wp2_with fail
            go_wp2_with fail
            try simp only [List.append]
            refine Od.wp_region_ordT 9 [(0, false), (1, false), (3, false), (4, false), (5, false), (6, false), (7, false), (8, false), (2, true)] (by kernel_rfl) (by kernel_rfl) ?_
            intro wa hwa KQ hKQ
            have cwa_0_0 : wa.cell? ⟨p, 1, none⟩ = some (.map (some bm)) := cell_gr hwa (by go_simp)
            have zwa_0 : p < wa.heap.size := World.block_lt_of_cell? _ _ cwa_0_0
            have gwa : Gr wr wa := Gr.trans (by go_grown) hwa
            skip
            clear hwa
            repeat (first | (refine Od.wpO_skip (by simp only [List.getElem?_toArray, List.getElem?_cons_succ, List.getElem?_cons_zero] <;> rfl) rfl ?_; simp only [Act.put, List.setIfInBounds_toArray, List.set_cons_zero, List.set_cons_succ]) | (refine Od.wpO_pure (by simp only [List.getElem?_toArray, List.getElem?_cons_succ, List.getElem?_cons_zero] <;> rfl) rfl ?_; apply Exists.intro; refine ⟨?_, ?_⟩; (· intro wx gx; obtain ⟨mx, rfl⟩ := spread_of_gr gx; clear gx; all_goals (apply Od.pAt_of_quiet; intro K hK; go_big_quiet_op; first | exact hK _ rfl | (apply Exists.intro; refine ⟨fun _ => ?_, ?_⟩; (· fail); exact hK _ rfl))); try simp only [Act.put, List.setIfInBounds_toArray, List.set_cons_zero, List.set_cons_succ]))
            refine Od.wpO_pure (by simp only [List.getElem?_toArray, List.getElem?_cons_succ, List.getElem?_cons_zero] <;> rfl) rfl ?_
            refine ⟨(.slice (some ⟨VB, Vo, none⟩) 64 vc), ?_, ?_⟩
            · intro wx gx; exact (pAt_look (.tmp 63) (.tmp 64) _ rfl 3 37 KI Tryd.underlying70 (zeroB _) bm len D rfl (ownsMap_kx (S := fun _ => False) HDD.out.1 (Kx.of_gr (Gr.trans gwa gx)) (fun h => h)) (.int .i64 a) (ik a) rfl (ik_of ak) _ HDD.out.2.2)
            try simp only [Act.put, List.setIfInBounds_toArray, List.set_cons_zero, List.set_cons_succ]
            repeat (first | (refine Od.wpO_skip (by simp only [List.getElem?_toArray, List.getElem?_cons_succ, List.getElem?_cons_zero] <;> rfl) rfl ?_; simp only [Act.put, List.setIfInBounds_toArray, List.set_cons_zero, List.set_cons_succ]) | (refine Od.wpO_pure (by simp only [List.getElem?_toArray, List.getElem?_cons_succ, List.getElem?_cons_zero] <;> rfl) rfl ?_; apply Exists.intro; refine ⟨?_, ?_⟩; (· intro wx gx; obtain ⟨mx, rfl⟩ := spread_of_gr gx; clear gx; all_goals (apply Od.pAt_of_quiet; intro K hK; go_big_quiet_op; first | exact hK _ rfl | (apply Exists.intro; refine ⟨fun _ => ?_, ?_⟩; (· fail); exact hK _ rfl))); try simp only [Act.put, List.setIfInBounds_toArray, List.set_cons_zero, List.set_cons_succ]))
            obtain ⟨lc, hlc⟩ := HAL.out _ gwa
            refine Od.wpO_call (by simp only [List.getElem?_toArray, List.getElem?_cons_succ, List.getElem?_cons_zero] <;> rfl) rfl ?_
            intro QS hQS
            go_wp2_with fail
            go_at_call 34
            (with_reducible refine ((hlc)).mono ?_)
            rintro e wb ⟨rfl, hwb⟩
            go_wp2_with fail
            apply Exists.intro
            refine ⟨?_, hwb, ?_⟩
            · simp only [Act.put, List.setIfInBounds_toArray, List.set_cons_zero, List.set_cons_succ]; rfl
            have cwb_0_0 : wb.cell? ⟨p, 1, none⟩ = some (.map (some bm)) := cell_gr hwb (by go_simp)
            have zwb_0 : p < wb.heap.size := World.block_lt_of_cell? _ _ cwb_0_0
            have gwb : Gr wr wb := Gr.trans (by have gg := gwa; have gs := gg.size; go_grown) hwb
            clear gwa zwa_0 cwa_0_0
            clear hwb
            try simp only [Act.put, List.setIfInBounds_toArray, List.set_cons_zero, List.set_cons_succ]
            repeat (first | (refine Od.wpO_skip (by simp only [List.getElem?_toArray, List.getElem?_cons_succ, List.getElem?_cons_zero] <;> rfl) rfl ?_; simp only [Act.put, List.setIfInBounds_toArray, List.set_cons_zero, List.set_cons_succ]) | (refine Od.wpO_pure (by simp only [List.getElem?_toArray, List.getElem?_cons_succ, List.getElem?_cons_zero] <;> rfl) rfl ?_; apply Exists.intro; refine ⟨?_, ?_⟩; (· intro wx gx; obtain ⟨mx, rfl⟩ := spread_of_gr gx; clear gx; all_goals (apply Od.pAt_of_quiet; intro K hK; go_big_quiet_op; first | exact hK _ rfl | (apply Exists.intro; refine ⟨fun _ => ?_, ?_⟩; (· fail); exact hK _ rfl))); try simp only [Act.put, List.setIfInBounds_toArray, List.set_cons_zero, List.set_cons_succ]))
            refine Od.wpO_nil (hKQ _ _ ?_)
            clear hKQ KQ
            simp only [List.drop_succ_cons, List.drop_zero]
            obtain ⟨cp4, ov4, hd4, ho4, -⟩ := diskS_head (diskS_gr HDi.out gwb)
            have HO4 := Lib.hid (And.intro hd4.c0 ho4)
            clear hd4
            refine wpList_copy_bytes rfl (.tmp 59) (.tmp 65) rfl 0 q (d.n * 64) cp4 (cr i) HO4.out.2 (a * 64) 64 lc rfl (d.F a) VB Vo 64 vc rfl (row_gr HRow.out gwb) (by rw [HOK.out.2.1]; decide) (by have := HOK.out.1; have h3 := HOK.out.2.2; have h4 := HOK.out.2.1; rw [h4, h3]; omega) ?_
            intro w5 o5 k5
            have HD5 : Hid (DiskS w5 p' q bm' none (dk0 d.n (cr (i + 1)))) := Lib.hid (diskS_good (diskS_gr HDi.out gwb) HO4.out.1 k5 (by rw [HN1.out]; exact o5) (HCL.out (i + 1) (by omega)))
            have G5 : Gr W w5 := Kx.gr k5 (Gr.trans hg gwb) (fun j h => by rw [h]; exact hq)
            clear o5 k5 ho4
            go_wp2_with fail
            go_roundg (len - (i + 1))
            case measure => omega
            case rel => exact ⟨i + 1, by go_num, by omega, by omega, HD5, G5⟩
          | false =>
            rw [hb] at fy hff
            rw [if_neg (fun h => by cases h.2)] at hff
            have HN1 : Hid (cr (i + 1) = cr i) := Lib.hid (by rw [HCSi.out, hff, if_pos rfl])
            clear hff ey hb
            go_wp2_with fail
            go_roundg (len - (i + 1))
            case measure => omega
            case rel => exact ⟨i + 1, by go_num, by omega, by omega, Lib.hid (by rw [HN1.out]; exact HDi.out), hg⟩
        · have v1 : decide ((0 : Int) < (keep.length : Int)) = false := decide_eq_false (by omega)
          have v2 : ¬ (0 : Int) < (keep.length : Int) := by omega
          rw [if_neg (fun h => hkz h.1)] at hff
          have HN1 : Hid (cr (i + 1) = cr i) := Lib.hid (by rw [HCSi.out, hff, if_pos rfl])
          clear hff
          go_wp2_with fail
          go_roundg (len - (i + 1))
          case measure => omega
          case rel => exact ⟨i + 1, by go_num, by omega, by omega, Lib.hid (by rw [HN1.out]; exact HDi.out), hg⟩
    · obtain rfl : i = len := by omega
      have ti : decide ((i : Int) < (i : Int)) = false := decide_eq_false (by omega)
      have ti3 : ¬ (i : Int) < (i : Int) := by omega
      go_wp2_with fail
      go_ret
      exact ⟨p', rfl, q, bm', ⟨by omega, by omega, by omega⟩, HDi.out, hg⟩
end
end Go.Proofs.YtkbdhhmkdjajgaaDoor
