/- the document's Unkey -/
import Derived.Test.YtlkciinhhagjiaaDoorKc
import Derived.Laws.BytesArg
namespace Go.Proofs.YtlkciinhhagjiaaDoor
set_option linter.unusedVariables false
set_option linter.unusedSimpArgs false
open Go.ChangeShapes Go.WideShapes Go.ChangeAt Go.RowKit

/-- A row of bytes as a text. -/
def strL (L : List UInt8) : ByteArray := ⟨L.toArray⟩
theorem strL_inj {L M : List UInt8} (h : strL L = strL M) : L = M := by
  have := congrArg (fun s : ByteArray => s.data.toList) h
  simpa [strL] using this
theorem str_nums (L : List UInt8) : strOfNums (L.map fun c => (c.toNat : Int)) = strL L := by
  unfold strOfNums strL
  rw [List.map_map]
  congr 2
  conv => rhs; rw [← List.map_id L]
  apply List.map_congr_left
  intro c _
  show UInt8.ofNat ((c.toNat : Int)).toNat = c
  rw [Int.toNat_natCast]
  exact UInt8.ofNat_toNat
theorem conv_none (w : World) (n c : Nat) : (convert 45 9 (.slice none n c)).run Tryd.prog w = .ok (.string ByteArray.empty) w :=
  run_convert_bytes_nil w 45 5 Tryd.underlying45 Tryd.underlying5 n c 9 Tryd.underlying9
theorem row_str {w : World} {v : Value} {L : List UInt8} (h : Row w v L) : (convert 45 9 v).run Tryd.prog w = .ok (.string (strL L)) w := by
  obtain ⟨ad, cap, B, off, rfl, h1, h2, h3, h4⟩ := h
  by_cases h0 : 0 < L.length
  · obtain rfl := h3 h0
    have R := run_convert_bytes_arg (P := Tryd.prog) w 45 5 Tryd.underlying45 Tryd.underlying5 B off L.length cap (L.map fun c => (c.toNat : Int)) (by simp) (fun i hi => by
      rw [h4 i hi]
      unfold bv
      rw [List.getD_eq_getElem?_getD, List.getElem?_map, List.getElem?_eq_getElem hi]
      rfl) 9 Tryd.underlying9
    rw [str_nums] at R
    exact R
  · have e : L = [] := List.eq_nil_of_length_eq_zero (by omega)
    subst e
    rw [show (([] : List UInt8).length) = 0 from rfl, run_convert_bytes_string w 45 9 5 ad 0 cap Tryd.underlying45 Tryd.underlying5 Tryd.underlying9]
    cases ad <;> simp [Conv.bytesToString, loadCells]
    all_goals rfl
theorem four_split {L : List UInt8} (h : kFour L) : L = keyB (kvl L 0) (kvl L 1) (kvl L 2) (kvl L 3) ++ L.drop (kps L 4) := by
  have st : ∀ i, i < 4 → L.drop (kps L i) = Ec.vr (zz (kvl L i)) ++ L.drop (kps L (i + 1)) := fun i hi => by
    have hp := h i hi
    have a := (uL_back (L := L.drop (kps L i)) (v := (uL (L.drop (kps L i))).1) (s := (uL (L.drop (kps L i))).2) rfl (by unfold ksz at hp; omega)).1
    rw [List.drop_drop] at a
    have w := (uL_wd (L.drop (kps L i))).1
    show _ = Ec.vr (zz (si _)) ++ L.drop (kps L i + _)
    rw [zz_si w]
    exact a
  have e0 : L = L.drop (kps L 0) := rfl
  conv => lhs; rw [e0, st 0 (by omega), st 1 (by omega), st 2 (by omega), st 3 (by omega)]
  unfold keyB
  simp only [List.append_assoc]
theorem key_iff {L : List UInt8} (h : kFour L) : keyB (kvl L 0) (kvl L 1) (kvl L 2) (kvl L 3) = L ↔ (L.drop (kps L 4)).length = 0 := by
  have s := four_split h
  constructor
  · intro e
    have := congrArg List.length s
    rw [List.length_append, e] at this
    omega
  · intro e
    have e2 := List.eq_nil_of_length_eq_zero e
    rw [e2, List.append_nil] at s
    exact s.symm
theorem boxB_iw {a b c d : Int} (h : boxB a b c d = true) : Iw a ∧ Iw b ∧ Iw c ∧ Iw d := by
  have q := boxB_iff.1 h
  have q1 := nearB_iff.1 q.1.1
  have q2 := nearB_iff.1 q.1.2
  unfold Iw
  omega
/-- What the document's answers. -/
def RkTo (W : World) (L : List UInt8) (e : Ending) (w' : World) : Prop :=
  (kOk L ∧ e = .returned (.tuple #[.agg #[.int .i64 (kvl L 0), .int .i64 (kvl L 1), .int .i64 (kvl L 2), .int .i64 (kvl L 3)], .bool true]) ∧ Gr W w') ∨
  (¬ kOk L ∧ e = .returned (.tuple #[.agg #[.int .i64 0, .int .i64 0, .int .i64 0, .int .i64 0], .bool false]) ∧ Gr W w')
/-- Behind the loop: what is asked of the four numbers. -/
def RkAt (wr : World) (N0 N1 : Nat) (v0 v1 v2 v3 : Int) : Prop :=
  (∀ j, j < 4 → wr.cell? ⟨N0, j, none⟩ = some (.int .i64 0) ∧ wr.frozen? ⟨N0, j, none⟩ = false) ∧ wr.cell? ⟨N1, 0, none⟩ = some (.int .i64 v0) ∧ wr.cell? ⟨N1, 1, none⟩ = some (.int .i64 v1) ∧ wr.cell? ⟨N1, 2, none⟩ = some (.int .i64 v2) ∧ wr.cell? ⟨N1, 3, none⟩ = some (.int .i64 v3)
theorem str_eq (x y : List UInt8) : ((strL x).toList == (strL y).toList) = decide (x = y) := by
  unfold strL
  rw [ByteArray.toList_eq, ByteArray.toList_eq]
  rw [Bool.eq_iff_iff, beq_iff_eq, decide_eq_true_eq]
theorem res_rk {tmps : Array Value} {w : World} {N : Nat} {a b c d : Int} {u : Value} (h2 : tmps.getD 2 undef = .pointer (some ⟨N, 0, none⟩)) (h3 : tmps.getD 3 undef = u) (c0 : w.cell? ⟨N, 0, none⟩ = some (.int .i64 a)) (c1 : w.cell? ⟨N, 1, none⟩ = some (.int .i64 b)) (c2 : w.cell? ⟨N, 2, none⟩ = some (.int .i64 c)) (c3 : w.cell? ⟨N, 3, none⟩ = some (.int .i64 d)) :
    (results Tryd.f34 tmps).run Tryd.prog w = .ok (.tuple #[.agg #[.int .i64 a, .int .i64 b, .int .i64 c, .int .i64 d], u]) w := by
  have g2 : tmps[2]?.getD undef = .pointer (some ⟨N, 0, none⟩) := by simpa using h2
  have g3 : tmps[3]?.getD undef = u := by simpa using h3
  simp [results, Tryd.results34, go_sem, g2, g3, c0, c1, c2, c3]
set_option maxHeartbeats 8000000 in
set_option maxRecDepth 100000 in
theorem c_rUnkey {L : List UInt8} {v : Value} (W : World) (h : Row W v L) (hl : L.length ≤ 1000) : Calls Tryd.prog 34 #[v] W (RkTo W L) := by
  have HLS := kps_le L
  have HH := Lib.hid h
  have hL9 : (L.length : Int) ≤ 1000 := by omega
  have HST := Lib.hid (fun w (g : Gr W w) => row_str (row_gr h g))
  obtain ⟨ad, cap, B, off, rfl, -⟩ := h
  go_enter Tryd.func34, Tryd.ntmps34
  go_wp2_with fail
  go_loopg [5, 6] 4 (fun k x y wr => ∃ i : Nat, y = .int .i64 i ∧ i ≤ 4 ∧ k = 4 - i ∧ x = .int .i64 (kps L i : Nat) ∧ (∀ j, j < i → 0 < ksz L j) ∧
    (∀ j, j < 4 → wr.cell? ⟨W.heap.size, j, none⟩ = some (.int .i64 0) ∧ wr.frozen? ⟨W.heap.size, j, none⟩ = false) ∧ (∀ j, j < 4 → wr.cell? ⟨W.heap.size + 1, j, none⟩ = some (.int .i64 (if j < i then kvl L j else 0)) ∧ wr.frozen? ⟨W.heap.size + 1, j, none⟩ = false) ∧ Gr W wr)
  case atStart =>
    refine ⟨0, rfl, Nat.zero_le _, by omega, rfl, fun j hj => absurd hj (by omega), fun j hj => ?_, fun j hj => ?_, by go_grown⟩
    · match j, hj with
      | 0, _ => exact ⟨by go_simp, by go_simp⟩
      | 1, _ => exact ⟨by go_simp, by go_simp⟩
      | 2, _ => exact ⟨by go_simp, by go_simp⟩
      | 3, _ => exact ⟨by go_simp, by go_simp⟩
    · rw [if_neg (by omega)]
      match j, hj with
      | 0, _ => exact ⟨by go_simp, by go_simp⟩
      | 1, _ => exact ⟨by go_simp, by go_simp⟩
      | 2, _ => exact ⟨by go_simp, by go_simp⟩
      | 3, _ => exact ⟨by go_simp, by go_simp⟩
  case round =>
    obtain ⟨i, rfl, hi, hk, rfl, ho, hb, hc, hg⟩ := hrel
    have HO := Lib.hid ho
    have HB := Lib.hid hb
    have HC := Lib.hid hc
    have hgs := hg.size
    have z0 := World.block_lt_of_cell? _ _ (hb 0 (by omega)).1
    have z1 := World.block_lt_of_cell? _ _ (hc 0 (by omega)).1
    clear ho hb hc
    by_cases hin : i < 4
    · have ti : decide ((i : Int) < 4) = true := decide_eq_true (by omega)
      have ti2 : decide (i < 4) = true := decide_eq_true hin
      have ti3 : (i : Int) < 4 := by omega
      have hmm : 4 - (i + 1) < gk := by omega
      have hpl := HLS i
      have hpl2 := HLS (i + 1)
      obtain ⟨vn, ks, rn⟩ := row_from (kps L i) hpl HH.out
      have UN := Lib.hid (fun w (g : Gr wr w) => c_rUnsigned w (row_gr rn (Gr.trans hg g)) (by rw [List.length_drop]; omega))
      have es : ksz L i = (uL (L.drop (kps L i))).2 := rfl
      have ev : kvl L i = si (uL (L.drop (kps L i))).1 := rfl
      have ep : kps L (i + 1) = kps L i + ksz L i := rfl
      rw [← es, ← ev] at UN
      obtain ⟨s, hs⟩ : ∃ s, s = ksz L i := ⟨_, rfl⟩
      have HS := Lib.hid hs
      obtain ⟨nv, hnv⟩ : ∃ nv, nv = kvl L i := ⟨_, rfl⟩
      have HV := Lib.hid hnv
      rw [← hs, ← hnv] at UN
      rw [← hs] at ep
      obtain ⟨p, hp⟩ : ∃ p, p = kps L i := ⟨_, rfl⟩
      rw [← hp] at ks ep hpl ⊢
      have HEP := Lib.hid ep
      have hps : p + s ≤ 1000 := by omega
      clear hs hnv es ev ep rn hk hp hpl2
      by_cases h0 : 0 < s
      · rw [decide_eq_true h0] at UN
        have ri := (HC.out i hin).1
        have fi := (HC.out i hin).2
        go_wp2_with fail
        go_at_call 70
        refine (UN.out _ (by go_grown)).mono ?_
        rintro e w1 ⟨rfl, g1⟩
        have G1 : Gr wr w1 := Gr.trans (by go_grown) g1
        have rw1 := cell_gr G1 ri
        have fw1 := frozen_gr G1 ri fi
        have zw1 := World.block_lt_of_cell? _ _ rw1
        have hcn : ∀ j, j < 4 → (w1.setCell ⟨W.heap.size + 1, i, none⟩ (.int .i64 nv)).cell? ⟨W.heap.size + 1, j, none⟩ = some (.int .i64 (if j < i + 1 then kvl L j else 0)) ∧ (w1.setCell ⟨W.heap.size + 1, i, none⟩ (.int .i64 nv)).frozen? ⟨W.heap.size + 1, j, none⟩ = false := fun j hj => by
          have a := cell_gr G1 (HC.out j hj).1
          have b := frozen_gr G1 (HC.out j hj).1 (HC.out j hj).2
          by_cases e : j = i
          · subst e
            rw [if_pos (by omega), ← HV.out]
            exact ⟨by go_simp, by go_simp⟩
          · have e2 : (if j < i + 1 then kvl L j else 0) = (if j < i then kvl L j else 0) := by
              by_cases q : j < i
              · rw [if_pos q, if_pos (by omega)]
              · rw [if_neg q, if_neg (by omega)]
            rw [e2]
            exact ⟨(set_other (fun h => e h.symm) _).trans a, (set_frozen _ _ _).trans b⟩
        have hbn : ∀ j, j < 4 → (w1.setCell ⟨W.heap.size + 1, i, none⟩ (.int .i64 nv)).cell? ⟨W.heap.size, j, none⟩ = some (.int .i64 0) ∧ (w1.setCell ⟨W.heap.size + 1, i, none⟩ (.int .i64 nv)).frozen? ⟨W.heap.size, j, none⟩ = false := fun j hj => by
          have a := cell_gr G1 (HB.out j hj).1
          have b := frozen_gr G1 (HB.out j hj).1 (HB.out j hj).2
          exact ⟨by go_simp, by go_simp⟩
        have HCN := Lib.hid hcn
        have HBN := Lib.hid hbn
        have GN : Gr W (w1.setCell ⟨W.heap.size + 1, i, none⟩ (.int .i64 nv)) := by have gg := Gr.trans hg G1; have gs := gg.size; go_grown
        have HGN := Lib.hid GN
        clear g1 UN ri fi hcn hbn HC HB GN G1
        go_wp2_with fail
        go_roundg (4 - (i + 1))
        case measure => exact hmm
        case rel => exact ⟨i + 1, by go_num, by omega, rfl, by rw [HEP.out]; go_num, fun j hj => (by rcases Nat.lt_succ_iff_lt_or_eq.1 hj with q | rfl; exact HO.out j q; rw [← HS.out]; exact h0), HBN.out, HCN.out, HGN.out⟩
      · obtain rfl : s = 0 := by omega
        rw [decide_eq_false h0] at UN
        have hno : ¬ kOk L := fun q => by have := q.1 i hin; rw [← HS.out] at this; omega
        have HNO := Lib.hid hno
        clear hno h0 hmm hpl hps
        go_wp2_with fail
        go_at_call 70
        refine (UN.out _ (by go_grown)).mono ?_
        rintro e w2 ⟨rfl, g1⟩
        have G2 : Gr wr w2 := Gr.trans (by go_grown) g1
        have b0 := cell_gr G2 (HB.out 0 (by omega)).1
        have b1 := cell_gr G2 (HB.out 1 (by omega)).1
        have b2 := cell_gr G2 (HB.out 2 (by omega)).1
        have b3 := cell_gr G2 (HB.out 3 (by omega)).1
        have f0 := frozen_gr G2 (HB.out 0 (by omega)).1 (HB.out 0 (by omega)).2
        have f1 := frozen_gr G2 (HB.out 1 (by omega)).1 (HB.out 1 (by omega)).2
        have f2 := frozen_gr G2 (HB.out 2 (by omega)).1 (HB.out 2 (by omega)).2
        have f3 := frozen_gr G2 (HB.out 3 (by omega)).1 (HB.out 3 (by omega)).2
        have zb := World.block_lt_of_cell? _ _ b0
        have G9 : Gr W w2 := Gr.trans hg G2
        clear g1 UN HB HC HO HS HV HEP HLS ks ti ti2 ti3 hg G2 z0 z1 hgs hin hi HST HH hL9
        go_wp2_with fail
        refine bodyPost_ret (v := .tuple #[.agg #[.int .i64 0, .int .i64 0, .int .i64 0, .int .i64 0], .bool false]) (res_rk rfl rfl (by go_simp) (by go_simp) (by go_simp) (by go_simp)) rfl (Or.inr ⟨HNO.out, rfl, by have gg := G9; have gs := gg.size; go_grown⟩)
    · obtain rfl : i = 4 := by omega
      have hFour : kFour L := HO.out
      have hRk : RkAt wr W.heap.size (W.heap.size + 1) (kvl L 0) (kvl L 1) (kvl L 2) (kvl L 3) := ⟨HB.out, (HC.out 0 (by omega)).1, (HC.out 1 (by omega)).1, (HC.out 2 (by omega)).1, (HC.out 3 (by omega)).1⟩
      have HF := Lib.hid hFour
      obtain ⟨hb, C0, C1, C2, C3⟩ := hRk
      have b0 := (hb 0 (by omega)).1
      have b1 := (hb 1 (by omega)).1
      have b2 := (hb 2 (by omega)).1
      have b3 := (hb 3 (by omega)).1
      have f0 := (hb 0 (by omega)).2
      have f1 := (hb 1 (by omega)).2
      have f2 := (hb 2 (by omega)).2
      have f3 := (hb 3 (by omega)).2
      have CB := c_rCheckBox (kvl L 0) (kvl L 1) (kvl L 2) (kvl L 3)
      have hOk2 : kOk L ↔ keyB (kvl L 0) (kvl L 1) (kvl L 2) (kvl L 3) = L ∧ boxB (kvl L 0) (kvl L 1) (kvl L 2) (kvl L 3) = true := by
        unfold kOk; rw [key_iff hFour]; exact ⟨fun q => q.2, fun q => ⟨hFour, q⟩⟩
      generalize hv0 : kvl L 0 = v0 at *
      have HW0 := Lib.hid hv0
      generalize hv1 : kvl L 1 = v1 at *
      have HW1 := Lib.hid hv1
      generalize hv2 : kvl L 2 = v2 at *
      have HW2 := Lib.hid hv2
      generalize hv3 : kvl L 3 = v3 at *
      have HW3 := Lib.hid hv3
      have HOK := Lib.hid hOk2
      clear hv0 hv1 hv2 hv3 hOk2 hFour HF HB HC HO hk hin z0 z1 hb HLS HH hi
      have zb := World.block_lt_of_cell? _ _ b0
      have zc := World.block_lt_of_cell? _ _ C0
      cases hq : boxB v0 v1 v2 v3
      · have hcode : boxCode v0 v1 v2 v3 ≠ 0 := fun e => by
          have := boxCode_zero (lx := v0) (ly := v1) (hx := v2) (hy := v3)
          rw [e, hq] at this; simp at this
        generalize boxCode v0 v1 v2 v3 = bc at CB hcode
        have tb : (bc != 0) = true := by simp; omega
        have A1 : ∀ w, Calls Tryd.prog 37 #[.agg #[.int .i64 v0, .int .i64 v1, .int .i64 v2, .int .i64 v3]] w fun e w' => e = .returned (.int .i64 bc) ∧ Gr w w' := CB
        have hno : ¬ kOk L := fun q => by have := (HOK.out.1 q).2; rw [hq] at this; cases this
        have HNO := Lib.hid hno
        have H1 := Lib.hid A1
        clear A1
        clear CB hcode hno hq HOK HST
        go_wp2_with fail
        try simp only [List.append]
        refine Od.wp_region_ord [(0, false), (1, true), (2, false), (3, false), (4, false), (7, false), (8, false), (5, true), (6, false), (9, false), (10, false)] (by kernel_rfl) (by kernel_rfl) ?_
        intro w1 hw1 KQ hKQ
        have cw1_0_0 : w1.cell? ⟨W.heap.size, 0, none⟩ = some (.int .i64 0) := cell_gr hw1 (by go_simp)
        have fw1_0_0 : w1.frozen? ⟨W.heap.size, 0, none⟩ = false := frozen_gr (v := .int .i64 0) hw1 (by go_simp) (by go_simp)
        have cw1_0_1 : w1.cell? ⟨W.heap.size, 1, none⟩ = some (.int .i64 0) := cell_gr hw1 (by go_simp)
        have fw1_0_1 : w1.frozen? ⟨W.heap.size, 1, none⟩ = false := frozen_gr (v := .int .i64 0) hw1 (by go_simp) (by go_simp)
        have cw1_0_2 : w1.cell? ⟨W.heap.size, 2, none⟩ = some (.int .i64 0) := cell_gr hw1 (by go_simp)
        have fw1_0_2 : w1.frozen? ⟨W.heap.size, 2, none⟩ = false := frozen_gr (v := .int .i64 0) hw1 (by go_simp) (by go_simp)
        have cw1_0_3 : w1.cell? ⟨W.heap.size, 3, none⟩ = some (.int .i64 0) := cell_gr hw1 (by go_simp)
        have fw1_0_3 : w1.frozen? ⟨W.heap.size, 3, none⟩ = false := frozen_gr (v := .int .i64 0) hw1 (by go_simp) (by go_simp)
        have zw1_0 : W.heap.size < w1.heap.size := World.block_lt_of_cell? _ _ cw1_0_0
        have cw1_1_0 : w1.cell? ⟨wr.heap.size, 0, none⟩ = some (.int .i64 v0) := cell_gr hw1 (by go_simp)
        have cw1_1_1 : w1.cell? ⟨wr.heap.size, 1, none⟩ = some (.int .i64 v1) := cell_gr hw1 (by go_simp)
        have cw1_1_2 : w1.cell? ⟨wr.heap.size, 2, none⟩ = some (.int .i64 v2) := cell_gr hw1 (by go_simp)
        have cw1_1_3 : w1.cell? ⟨wr.heap.size, 3, none⟩ = some (.int .i64 v3) := cell_gr hw1 (by go_simp)
        have zw1_1 : wr.heap.size < w1.heap.size := World.block_lt_of_cell? _ _ cw1_1_0
        have gw1 : Gr wr w1 := Gr.trans (by go_grown) hw1
        skip
        clear hw1
        repeat (first | (refine Od.wpO_skip (by simp only [List.getElem?_toArray, List.getElem?_cons_succ, List.getElem?_cons_zero] <;> rfl) rfl ?_; simp only [Act.put, List.setIfInBounds_toArray, List.set_cons_zero, List.set_cons_succ]) | (refine Od.wpO_pure (by simp only [List.getElem?_toArray, List.getElem?_cons_succ, List.getElem?_cons_zero] <;> rfl) rfl ?_; apply Exists.intro; refine ⟨?_, ?_⟩; (· intro wx gx; obtain ⟨mx, rfl⟩ := spread_of_gr gx; clear gx; all_goals (apply Od.pAt_of_quiet; intro K hK; go_big_quiet_op; first | exact hK _ rfl | (apply Exists.intro; refine ⟨fun _ => ?_, ?_⟩; (· fail); exact hK _ rfl))); try simp only [Act.put, List.setIfInBounds_toArray, List.set_cons_zero, List.set_cons_succ]))
        refine Od.wpO_call (by simp only [List.getElem?_toArray, List.getElem?_cons_succ, List.getElem?_cons_zero] <;> rfl) rfl ?_
        intro QS hQS
        go_wp2_with fail
        go_at_call 37
        (with_reducible refine ((H1.out _)).mono ?_)
        rintro e w2 ⟨rfl, hw2⟩
        go_wp2_with fail
        apply Exists.intro
        refine ⟨?_, hw2, ?_⟩
        · simp only [Act.put, List.setIfInBounds_toArray, List.set_cons_zero, List.set_cons_succ]; rfl
        have cw2_0_0 : w2.cell? ⟨W.heap.size, 0, none⟩ = some (.int .i64 0) := cell_gr hw2 (by go_simp)
        have fw2_0_0 : w2.frozen? ⟨W.heap.size, 0, none⟩ = false := frozen_gr (v := .int .i64 0) hw2 (by go_simp) (by go_simp)
        have cw2_0_1 : w2.cell? ⟨W.heap.size, 1, none⟩ = some (.int .i64 0) := cell_gr hw2 (by go_simp)
        have fw2_0_1 : w2.frozen? ⟨W.heap.size, 1, none⟩ = false := frozen_gr (v := .int .i64 0) hw2 (by go_simp) (by go_simp)
        have cw2_0_2 : w2.cell? ⟨W.heap.size, 2, none⟩ = some (.int .i64 0) := cell_gr hw2 (by go_simp)
        have fw2_0_2 : w2.frozen? ⟨W.heap.size, 2, none⟩ = false := frozen_gr (v := .int .i64 0) hw2 (by go_simp) (by go_simp)
        have cw2_0_3 : w2.cell? ⟨W.heap.size, 3, none⟩ = some (.int .i64 0) := cell_gr hw2 (by go_simp)
        have fw2_0_3 : w2.frozen? ⟨W.heap.size, 3, none⟩ = false := frozen_gr (v := .int .i64 0) hw2 (by go_simp) (by go_simp)
        have zw2_0 : W.heap.size < w2.heap.size := World.block_lt_of_cell? _ _ cw2_0_0
        have cw2_1_0 : w2.cell? ⟨wr.heap.size, 0, none⟩ = some (.int .i64 v0) := cell_gr hw2 (by go_simp)
        have cw2_1_1 : w2.cell? ⟨wr.heap.size, 1, none⟩ = some (.int .i64 v1) := cell_gr hw2 (by go_simp)
        have cw2_1_2 : w2.cell? ⟨wr.heap.size, 2, none⟩ = some (.int .i64 v2) := cell_gr hw2 (by go_simp)
        have cw2_1_3 : w2.cell? ⟨wr.heap.size, 3, none⟩ = some (.int .i64 v3) := cell_gr hw2 (by go_simp)
        have zw2_1 : wr.heap.size < w2.heap.size := World.block_lt_of_cell? _ _ cw2_1_0
        have gw2 : Gr wr w2 := Gr.trans (by have gg := gw1; have gs := gg.size; go_grown) hw2
        clear gw1 zw1_0 cw1_0_0 fw1_0_0 cw1_0_1 fw1_0_1 cw1_0_2 fw1_0_2 cw1_0_3 fw1_0_3 zw1_1 cw1_1_0 cw1_1_1 cw1_1_2 cw1_1_3
        clear hw2
        try simp only [Act.put, List.setIfInBounds_toArray, List.set_cons_zero, List.set_cons_succ]
        repeat (first | (refine Od.wpO_skip (by simp only [List.getElem?_toArray, List.getElem?_cons_succ, List.getElem?_cons_zero] <;> rfl) rfl ?_; simp only [Act.put, List.setIfInBounds_toArray, List.set_cons_zero, List.set_cons_succ]) | (refine Od.wpO_pure (by simp only [List.getElem?_toArray, List.getElem?_cons_succ, List.getElem?_cons_zero] <;> rfl) rfl ?_; apply Exists.intro; refine ⟨?_, ?_⟩; (· intro wx gx; obtain ⟨mx, rfl⟩ := spread_of_gr gx; clear gx; all_goals (apply Od.pAt_of_quiet; intro K hK; go_big_quiet_op; first | exact hK _ rfl | (apply Exists.intro; refine ⟨fun _ => ?_, ?_⟩; (· fail); exact hK _ rfl))); try simp only [Act.put, List.setIfInBounds_toArray, List.set_cons_zero, List.set_cons_succ]))
        refine Od.wpO_nil (hKQ _ _ ?_)
        clear hKQ KQ
        have G9 : Gr W w2 := Gr.trans hg gw2
        have GS := G9.size
        go_wp2_with fail
        refine bodyPost_ret (v := .tuple #[.agg #[.int .i64 0, .int .i64 0, .int .i64 0, .int .i64 0], .bool false]) (res_rk rfl rfl (by go_simp) (by go_simp) (by go_simp) (by go_simp)) rfl (Or.inr ⟨HNO.out, rfl, by go_grown⟩)
      · have hcode : boxCode v0 v1 v2 v3 = 0 := by
          have := boxCode_zero (lx := v0) (ly := v1) (hx := v2) (hy := v3)
          rw [hq] at this; simpa using this
        rw [hcode] at CB
        obtain ⟨w0, w1, w2, w3⟩ := boxB_iw hq
        have KL := (keyB_len w0 w1 w2 w3).1
        have KR := fun w => c_rKey w0 w1 w2 w3 w
        have A1 : ∀ w, Gr W w → Calls Tryd.prog 37 #[.agg #[.int .i64 v0, .int .i64 v1, .int .i64 v2, .int .i64 v3]] w fun e w' => e = .returned (.int .i64 0) ∧ Gr w w' ∧ (∀ mx, (convert 45 9 (.slice ad L.length cap)).run Tryd.prog (spread w' mx) = .ok (.string (strL L)) (spread w' mx)) := fun w g => (CB w).mono (fun e w' ⟨a, b⟩ => ⟨a, b, fun mx => HST.out _ (Gr.trans (Gr.trans g b) (gr_spread _ _))⟩)
        have A2 : ∀ w, Gr W w → Calls Tryd.prog 36 #[.agg #[.int .i64 v0, .int .i64 v1, .int .i64 v2, .int .i64 v3]] w fun e w' => ∃ kg kc, e = .returned (.slice (some ⟨kg, 0, none⟩) (keyB v0 v1 v2 v3).length kc) ∧ Gr w w' ∧ (∀ mx, (convert 45 9 (.slice (some ⟨kg, 0, none⟩) (keyB v0 v1 v2 v3).length kc)).run Tryd.prog (spread w' mx) = .ok (.string (strL (keyB v0 v1 v2 v3))) (spread w' mx)) := fun w g => (KR w).mono (by
          rintro e w' ⟨b, rfl, o, g'⟩
          have r := row_own o
          obtain ⟨kg, kc, rfl, -⟩ := row_form o (by omega)
          exact ⟨kg, kc, rfl, g', fun mx => row_str (row_gr r (gr_spread _ _))⟩)
        have hOk3 : kOk L ↔ decide (keyB v0 v1 v2 v3 = L) = true := by
          rw [HOK.out, decide_eq_true_eq]
          exact ⟨fun q => q.1, fun q => ⟨q, hq⟩⟩
        have u1 := str_eq (keyB v0 v1 v2 v3) L
        generalize decide (keyB v0 v1 v2 v3 = L) = z at hOk3 u1
        generalize strL (keyB v0 v1 v2 v3) = sK at A2 u1
        generalize strL L = sL at A1 u1
        generalize (keyB v0 v1 v2 v3).length = kn at A2
        generalize L.length = n at A1 hL9 ⊢
        have H1 := Lib.hid A1
        have H2 := Lib.hid A2
        clear A1 A2
        clear CB hcode KR KL w0 w1 w2 w3 hq HOK HST
        cases z
        rotate_left
        · have HY := Lib.hid (hOk3.2 rfl)
          clear hOk3
          go_wp2_with fail
          try simp only [List.append]
          refine Od.wp_region_ord [(0, false), (1, true), (2, false), (3, false), (4, false), (7, false), (8, false), (5, true), (6, false), (9, false), (10, false)] (by kernel_rfl) (by kernel_rfl) ?_
          intro w1 hw1 KQ hKQ
          have cw1_0_0 : w1.cell? ⟨W.heap.size, 0, none⟩ = some (.int .i64 0) := cell_gr hw1 (by go_simp)
          have fw1_0_0 : w1.frozen? ⟨W.heap.size, 0, none⟩ = false := frozen_gr (v := .int .i64 0) hw1 (by go_simp) (by go_simp)
          have cw1_0_1 : w1.cell? ⟨W.heap.size, 1, none⟩ = some (.int .i64 0) := cell_gr hw1 (by go_simp)
          have fw1_0_1 : w1.frozen? ⟨W.heap.size, 1, none⟩ = false := frozen_gr (v := .int .i64 0) hw1 (by go_simp) (by go_simp)
          have cw1_0_2 : w1.cell? ⟨W.heap.size, 2, none⟩ = some (.int .i64 0) := cell_gr hw1 (by go_simp)
          have fw1_0_2 : w1.frozen? ⟨W.heap.size, 2, none⟩ = false := frozen_gr (v := .int .i64 0) hw1 (by go_simp) (by go_simp)
          have cw1_0_3 : w1.cell? ⟨W.heap.size, 3, none⟩ = some (.int .i64 0) := cell_gr hw1 (by go_simp)
          have fw1_0_3 : w1.frozen? ⟨W.heap.size, 3, none⟩ = false := frozen_gr (v := .int .i64 0) hw1 (by go_simp) (by go_simp)
          have zw1_0 : W.heap.size < w1.heap.size := World.block_lt_of_cell? _ _ cw1_0_0
          have cw1_1_0 : w1.cell? ⟨wr.heap.size, 0, none⟩ = some (.int .i64 v0) := cell_gr hw1 (by go_simp)
          have cw1_1_1 : w1.cell? ⟨wr.heap.size, 1, none⟩ = some (.int .i64 v1) := cell_gr hw1 (by go_simp)
          have cw1_1_2 : w1.cell? ⟨wr.heap.size, 2, none⟩ = some (.int .i64 v2) := cell_gr hw1 (by go_simp)
          have cw1_1_3 : w1.cell? ⟨wr.heap.size, 3, none⟩ = some (.int .i64 v3) := cell_gr hw1 (by go_simp)
          have zw1_1 : wr.heap.size < w1.heap.size := World.block_lt_of_cell? _ _ cw1_1_0
          have gw1 : Gr wr w1 := Gr.trans (by go_grown) hw1
          skip
          clear hw1
          repeat (first | (refine Od.wpO_skip (by simp only [List.getElem?_toArray, List.getElem?_cons_succ, List.getElem?_cons_zero] <;> rfl) rfl ?_; simp only [Act.put, List.setIfInBounds_toArray, List.set_cons_zero, List.set_cons_succ]) | (refine Od.wpO_pure (by simp only [List.getElem?_toArray, List.getElem?_cons_succ, List.getElem?_cons_zero] <;> rfl) rfl ?_; apply Exists.intro; refine ⟨?_, ?_⟩; (· intro wx gx; obtain ⟨mx, rfl⟩ := spread_of_gr gx; clear gx; all_goals (apply Od.pAt_of_quiet; intro K hK; go_big_quiet_op; first | exact hK _ rfl | (apply Exists.intro; refine ⟨fun _ => ?_, ?_⟩; (· fail); exact hK _ rfl))); try simp only [Act.put, List.setIfInBounds_toArray, List.set_cons_zero, List.set_cons_succ]))
          refine Od.wpO_call (by simp only [List.getElem?_toArray, List.getElem?_cons_succ, List.getElem?_cons_zero] <;> rfl) rfl ?_
          intro QS hQS
          go_wp2_with fail
          go_at_call 37
          (with_reducible refine ((H1.out _ (Gr.trans hg gw1))).mono ?_)
          rintro e w2 ⟨rfl, hw2, hC⟩
          go_wp2_with fail
          apply Exists.intro
          refine ⟨?_, hw2, ?_⟩
          · simp only [Act.put, List.setIfInBounds_toArray, List.set_cons_zero, List.set_cons_succ]; rfl
          have cw2_0_0 : w2.cell? ⟨W.heap.size, 0, none⟩ = some (.int .i64 0) := cell_gr hw2 (by go_simp)
          have fw2_0_0 : w2.frozen? ⟨W.heap.size, 0, none⟩ = false := frozen_gr (v := .int .i64 0) hw2 (by go_simp) (by go_simp)
          have cw2_0_1 : w2.cell? ⟨W.heap.size, 1, none⟩ = some (.int .i64 0) := cell_gr hw2 (by go_simp)
          have fw2_0_1 : w2.frozen? ⟨W.heap.size, 1, none⟩ = false := frozen_gr (v := .int .i64 0) hw2 (by go_simp) (by go_simp)
          have cw2_0_2 : w2.cell? ⟨W.heap.size, 2, none⟩ = some (.int .i64 0) := cell_gr hw2 (by go_simp)
          have fw2_0_2 : w2.frozen? ⟨W.heap.size, 2, none⟩ = false := frozen_gr (v := .int .i64 0) hw2 (by go_simp) (by go_simp)
          have cw2_0_3 : w2.cell? ⟨W.heap.size, 3, none⟩ = some (.int .i64 0) := cell_gr hw2 (by go_simp)
          have fw2_0_3 : w2.frozen? ⟨W.heap.size, 3, none⟩ = false := frozen_gr (v := .int .i64 0) hw2 (by go_simp) (by go_simp)
          have zw2_0 : W.heap.size < w2.heap.size := World.block_lt_of_cell? _ _ cw2_0_0
          have cw2_1_0 : w2.cell? ⟨wr.heap.size, 0, none⟩ = some (.int .i64 v0) := cell_gr hw2 (by go_simp)
          have cw2_1_1 : w2.cell? ⟨wr.heap.size, 1, none⟩ = some (.int .i64 v1) := cell_gr hw2 (by go_simp)
          have cw2_1_2 : w2.cell? ⟨wr.heap.size, 2, none⟩ = some (.int .i64 v2) := cell_gr hw2 (by go_simp)
          have cw2_1_3 : w2.cell? ⟨wr.heap.size, 3, none⟩ = some (.int .i64 v3) := cell_gr hw2 (by go_simp)
          have zw2_1 : wr.heap.size < w2.heap.size := World.block_lt_of_cell? _ _ cw2_1_0
          have gw2 : Gr wr w2 := Gr.trans (by have gg := gw1; have gs := gg.size; go_grown) hw2
          clear gw1 zw1_0 cw1_0_0 fw1_0_0 cw1_0_1 fw1_0_1 cw1_0_2 fw1_0_2 cw1_0_3 fw1_0_3 zw1_1 cw1_1_0 cw1_1_1 cw1_1_2 cw1_1_3
          clear hw2
          try simp only [Act.put, List.setIfInBounds_toArray, List.set_cons_zero, List.set_cons_succ]
          repeat (first | (refine Od.wpO_skip (by simp only [List.getElem?_toArray, List.getElem?_cons_succ, List.getElem?_cons_zero] <;> rfl) rfl ?_; simp only [Act.put, List.setIfInBounds_toArray, List.set_cons_zero, List.set_cons_succ]) | (refine Od.wpO_pure (by simp only [List.getElem?_toArray, List.getElem?_cons_succ, List.getElem?_cons_zero] <;> rfl) rfl ?_; apply Exists.intro; refine ⟨?_, ?_⟩; (· intro wx gx; obtain ⟨mx, rfl⟩ := spread_of_gr gx; clear gx; all_goals (apply Od.pAt_of_quiet; intro K hK; go_big_quiet_op; first | exact hK _ rfl | (apply Exists.intro; refine ⟨fun _ => ?_, ?_⟩; (· fail); exact hK _ rfl))); try simp only [Act.put, List.setIfInBounds_toArray, List.set_cons_zero, List.set_cons_succ]))
          refine Od.wpO_call (by simp only [List.getElem?_toArray, List.getElem?_cons_succ, List.getElem?_cons_zero] <;> rfl) rfl ?_
          intro QS hQS
          go_wp2_with fail
          go_at_call 36
          (with_reducible refine ((H2.out _ (Gr.trans hg gw2))).mono ?_)
          rintro e w3 ⟨kg, kc, rfl, hw3, hD⟩
          go_wp2_with fail
          apply Exists.intro
          refine ⟨?_, hw3, ?_⟩
          · simp only [Act.put, List.setIfInBounds_toArray, List.set_cons_zero, List.set_cons_succ]; rfl
          have cw3_0_0 : w3.cell? ⟨W.heap.size, 0, none⟩ = some (.int .i64 0) := cell_gr hw3 (by go_simp)
          have fw3_0_0 : w3.frozen? ⟨W.heap.size, 0, none⟩ = false := frozen_gr (v := .int .i64 0) hw3 (by go_simp) (by go_simp)
          have cw3_0_1 : w3.cell? ⟨W.heap.size, 1, none⟩ = some (.int .i64 0) := cell_gr hw3 (by go_simp)
          have fw3_0_1 : w3.frozen? ⟨W.heap.size, 1, none⟩ = false := frozen_gr (v := .int .i64 0) hw3 (by go_simp) (by go_simp)
          have cw3_0_2 : w3.cell? ⟨W.heap.size, 2, none⟩ = some (.int .i64 0) := cell_gr hw3 (by go_simp)
          have fw3_0_2 : w3.frozen? ⟨W.heap.size, 2, none⟩ = false := frozen_gr (v := .int .i64 0) hw3 (by go_simp) (by go_simp)
          have cw3_0_3 : w3.cell? ⟨W.heap.size, 3, none⟩ = some (.int .i64 0) := cell_gr hw3 (by go_simp)
          have fw3_0_3 : w3.frozen? ⟨W.heap.size, 3, none⟩ = false := frozen_gr (v := .int .i64 0) hw3 (by go_simp) (by go_simp)
          have zw3_0 : W.heap.size < w3.heap.size := World.block_lt_of_cell? _ _ cw3_0_0
          have cw3_1_0 : w3.cell? ⟨wr.heap.size, 0, none⟩ = some (.int .i64 v0) := cell_gr hw3 (by go_simp)
          have cw3_1_1 : w3.cell? ⟨wr.heap.size, 1, none⟩ = some (.int .i64 v1) := cell_gr hw3 (by go_simp)
          have cw3_1_2 : w3.cell? ⟨wr.heap.size, 2, none⟩ = some (.int .i64 v2) := cell_gr hw3 (by go_simp)
          have cw3_1_3 : w3.cell? ⟨wr.heap.size, 3, none⟩ = some (.int .i64 v3) := cell_gr hw3 (by go_simp)
          have zw3_1 : wr.heap.size < w3.heap.size := World.block_lt_of_cell? _ _ cw3_1_0
          have gw3 : Gr wr w3 := Gr.trans (by have gg := gw2; have gs := gg.size; go_grown) hw3
          clear gw2 zw2_0 cw2_0_0 fw2_0_0 cw2_0_1 fw2_0_1 cw2_0_2 fw2_0_2 cw2_0_3 fw2_0_3 zw2_1 cw2_1_0 cw2_1_1 cw2_1_2 cw2_1_3
          clear hw3
          try simp only [Act.put, List.setIfInBounds_toArray, List.set_cons_zero, List.set_cons_succ]
          repeat (first | (refine Od.wpO_skip (by simp only [List.getElem?_toArray, List.getElem?_cons_succ, List.getElem?_cons_zero] <;> rfl) rfl ?_; simp only [Act.put, List.setIfInBounds_toArray, List.set_cons_zero, List.set_cons_succ]) | (refine Od.wpO_pure (by simp only [List.getElem?_toArray, List.getElem?_cons_succ, List.getElem?_cons_zero] <;> rfl) rfl ?_; apply Exists.intro; refine ⟨?_, ?_⟩; (· intro wx gx; obtain ⟨mx, rfl⟩ := spread_of_gr gx; clear gx; all_goals (apply Od.pAt_of_quiet; intro K hK; go_big_quiet_op; first | exact hK _ rfl | (apply Exists.intro; refine ⟨fun _ => ?_, ?_⟩; (· fail); exact hK _ rfl))); try simp only [Act.put, List.setIfInBounds_toArray, List.set_cons_zero, List.set_cons_succ]))
          refine Od.wpO_nil (hKQ _ _ ?_)
          clear hKQ KQ
          have G9 : Gr W w3 := Gr.trans hg gw3
          have GS := G9.size
          go_wp2_with fail
          refine bodyPost_ret (v := .tuple #[.agg #[.int .i64 v0, .int .i64 v1, .int .i64 v2, .int .i64 v3], .bool true]) (res_rk rfl rfl (by go_simp) (by go_simp) (by go_simp) (by go_simp)) rfl (Or.inl ⟨HY.out, by rw [HW0.out, HW1.out, HW2.out, HW3.out], by go_grown⟩)
        · have HNO := Lib.hid (show ¬ kOk L from fun q => by have := hOk3.1 q; cases this)
          clear hOk3
          go_wp2_with fail
          try simp only [List.append]
          refine Od.wp_region_ord [(0, false), (1, true), (2, false), (3, false), (4, false), (7, false), (8, false), (5, true), (6, false), (9, false), (10, false)] (by kernel_rfl) (by kernel_rfl) ?_
          intro w1 hw1 KQ hKQ
          have cw1_0_0 : w1.cell? ⟨W.heap.size, 0, none⟩ = some (.int .i64 0) := cell_gr hw1 (by go_simp)
          have fw1_0_0 : w1.frozen? ⟨W.heap.size, 0, none⟩ = false := frozen_gr (v := .int .i64 0) hw1 (by go_simp) (by go_simp)
          have cw1_0_1 : w1.cell? ⟨W.heap.size, 1, none⟩ = some (.int .i64 0) := cell_gr hw1 (by go_simp)
          have fw1_0_1 : w1.frozen? ⟨W.heap.size, 1, none⟩ = false := frozen_gr (v := .int .i64 0) hw1 (by go_simp) (by go_simp)
          have cw1_0_2 : w1.cell? ⟨W.heap.size, 2, none⟩ = some (.int .i64 0) := cell_gr hw1 (by go_simp)
          have fw1_0_2 : w1.frozen? ⟨W.heap.size, 2, none⟩ = false := frozen_gr (v := .int .i64 0) hw1 (by go_simp) (by go_simp)
          have cw1_0_3 : w1.cell? ⟨W.heap.size, 3, none⟩ = some (.int .i64 0) := cell_gr hw1 (by go_simp)
          have fw1_0_3 : w1.frozen? ⟨W.heap.size, 3, none⟩ = false := frozen_gr (v := .int .i64 0) hw1 (by go_simp) (by go_simp)
          have zw1_0 : W.heap.size < w1.heap.size := World.block_lt_of_cell? _ _ cw1_0_0
          have cw1_1_0 : w1.cell? ⟨wr.heap.size, 0, none⟩ = some (.int .i64 v0) := cell_gr hw1 (by go_simp)
          have cw1_1_1 : w1.cell? ⟨wr.heap.size, 1, none⟩ = some (.int .i64 v1) := cell_gr hw1 (by go_simp)
          have cw1_1_2 : w1.cell? ⟨wr.heap.size, 2, none⟩ = some (.int .i64 v2) := cell_gr hw1 (by go_simp)
          have cw1_1_3 : w1.cell? ⟨wr.heap.size, 3, none⟩ = some (.int .i64 v3) := cell_gr hw1 (by go_simp)
          have zw1_1 : wr.heap.size < w1.heap.size := World.block_lt_of_cell? _ _ cw1_1_0
          have gw1 : Gr wr w1 := Gr.trans (by go_grown) hw1
          skip
          clear hw1
          repeat (first | (refine Od.wpO_skip (by simp only [List.getElem?_toArray, List.getElem?_cons_succ, List.getElem?_cons_zero] <;> rfl) rfl ?_; simp only [Act.put, List.setIfInBounds_toArray, List.set_cons_zero, List.set_cons_succ]) | (refine Od.wpO_pure (by simp only [List.getElem?_toArray, List.getElem?_cons_succ, List.getElem?_cons_zero] <;> rfl) rfl ?_; apply Exists.intro; refine ⟨?_, ?_⟩; (· intro wx gx; obtain ⟨mx, rfl⟩ := spread_of_gr gx; clear gx; all_goals (apply Od.pAt_of_quiet; intro K hK; go_big_quiet_op; first | exact hK _ rfl | (apply Exists.intro; refine ⟨fun _ => ?_, ?_⟩; (· fail); exact hK _ rfl))); try simp only [Act.put, List.setIfInBounds_toArray, List.set_cons_zero, List.set_cons_succ]))
          refine Od.wpO_call (by simp only [List.getElem?_toArray, List.getElem?_cons_succ, List.getElem?_cons_zero] <;> rfl) rfl ?_
          intro QS hQS
          go_wp2_with fail
          go_at_call 37
          (with_reducible refine ((H1.out _ (Gr.trans hg gw1))).mono ?_)
          rintro e w2 ⟨rfl, hw2, hC⟩
          go_wp2_with fail
          apply Exists.intro
          refine ⟨?_, hw2, ?_⟩
          · simp only [Act.put, List.setIfInBounds_toArray, List.set_cons_zero, List.set_cons_succ]; rfl
          have cw2_0_0 : w2.cell? ⟨W.heap.size, 0, none⟩ = some (.int .i64 0) := cell_gr hw2 (by go_simp)
          have fw2_0_0 : w2.frozen? ⟨W.heap.size, 0, none⟩ = false := frozen_gr (v := .int .i64 0) hw2 (by go_simp) (by go_simp)
          have cw2_0_1 : w2.cell? ⟨W.heap.size, 1, none⟩ = some (.int .i64 0) := cell_gr hw2 (by go_simp)
          have fw2_0_1 : w2.frozen? ⟨W.heap.size, 1, none⟩ = false := frozen_gr (v := .int .i64 0) hw2 (by go_simp) (by go_simp)
          have cw2_0_2 : w2.cell? ⟨W.heap.size, 2, none⟩ = some (.int .i64 0) := cell_gr hw2 (by go_simp)
          have fw2_0_2 : w2.frozen? ⟨W.heap.size, 2, none⟩ = false := frozen_gr (v := .int .i64 0) hw2 (by go_simp) (by go_simp)
          have cw2_0_3 : w2.cell? ⟨W.heap.size, 3, none⟩ = some (.int .i64 0) := cell_gr hw2 (by go_simp)
          have fw2_0_3 : w2.frozen? ⟨W.heap.size, 3, none⟩ = false := frozen_gr (v := .int .i64 0) hw2 (by go_simp) (by go_simp)
          have zw2_0 : W.heap.size < w2.heap.size := World.block_lt_of_cell? _ _ cw2_0_0
          have cw2_1_0 : w2.cell? ⟨wr.heap.size, 0, none⟩ = some (.int .i64 v0) := cell_gr hw2 (by go_simp)
          have cw2_1_1 : w2.cell? ⟨wr.heap.size, 1, none⟩ = some (.int .i64 v1) := cell_gr hw2 (by go_simp)
          have cw2_1_2 : w2.cell? ⟨wr.heap.size, 2, none⟩ = some (.int .i64 v2) := cell_gr hw2 (by go_simp)
          have cw2_1_3 : w2.cell? ⟨wr.heap.size, 3, none⟩ = some (.int .i64 v3) := cell_gr hw2 (by go_simp)
          have zw2_1 : wr.heap.size < w2.heap.size := World.block_lt_of_cell? _ _ cw2_1_0
          have gw2 : Gr wr w2 := Gr.trans (by have gg := gw1; have gs := gg.size; go_grown) hw2
          clear gw1 zw1_0 cw1_0_0 fw1_0_0 cw1_0_1 fw1_0_1 cw1_0_2 fw1_0_2 cw1_0_3 fw1_0_3 zw1_1 cw1_1_0 cw1_1_1 cw1_1_2 cw1_1_3
          clear hw2
          try simp only [Act.put, List.setIfInBounds_toArray, List.set_cons_zero, List.set_cons_succ]
          repeat (first | (refine Od.wpO_skip (by simp only [List.getElem?_toArray, List.getElem?_cons_succ, List.getElem?_cons_zero] <;> rfl) rfl ?_; simp only [Act.put, List.setIfInBounds_toArray, List.set_cons_zero, List.set_cons_succ]) | (refine Od.wpO_pure (by simp only [List.getElem?_toArray, List.getElem?_cons_succ, List.getElem?_cons_zero] <;> rfl) rfl ?_; apply Exists.intro; refine ⟨?_, ?_⟩; (· intro wx gx; obtain ⟨mx, rfl⟩ := spread_of_gr gx; clear gx; all_goals (apply Od.pAt_of_quiet; intro K hK; go_big_quiet_op; first | exact hK _ rfl | (apply Exists.intro; refine ⟨fun _ => ?_, ?_⟩; (· fail); exact hK _ rfl))); try simp only [Act.put, List.setIfInBounds_toArray, List.set_cons_zero, List.set_cons_succ]))
          refine Od.wpO_call (by simp only [List.getElem?_toArray, List.getElem?_cons_succ, List.getElem?_cons_zero] <;> rfl) rfl ?_
          intro QS hQS
          go_wp2_with fail
          go_at_call 36
          (with_reducible refine ((H2.out _ (Gr.trans hg gw2))).mono ?_)
          rintro e w3 ⟨kg, kc, rfl, hw3, hD⟩
          go_wp2_with fail
          apply Exists.intro
          refine ⟨?_, hw3, ?_⟩
          · simp only [Act.put, List.setIfInBounds_toArray, List.set_cons_zero, List.set_cons_succ]; rfl
          have cw3_0_0 : w3.cell? ⟨W.heap.size, 0, none⟩ = some (.int .i64 0) := cell_gr hw3 (by go_simp)
          have fw3_0_0 : w3.frozen? ⟨W.heap.size, 0, none⟩ = false := frozen_gr (v := .int .i64 0) hw3 (by go_simp) (by go_simp)
          have cw3_0_1 : w3.cell? ⟨W.heap.size, 1, none⟩ = some (.int .i64 0) := cell_gr hw3 (by go_simp)
          have fw3_0_1 : w3.frozen? ⟨W.heap.size, 1, none⟩ = false := frozen_gr (v := .int .i64 0) hw3 (by go_simp) (by go_simp)
          have cw3_0_2 : w3.cell? ⟨W.heap.size, 2, none⟩ = some (.int .i64 0) := cell_gr hw3 (by go_simp)
          have fw3_0_2 : w3.frozen? ⟨W.heap.size, 2, none⟩ = false := frozen_gr (v := .int .i64 0) hw3 (by go_simp) (by go_simp)
          have cw3_0_3 : w3.cell? ⟨W.heap.size, 3, none⟩ = some (.int .i64 0) := cell_gr hw3 (by go_simp)
          have fw3_0_3 : w3.frozen? ⟨W.heap.size, 3, none⟩ = false := frozen_gr (v := .int .i64 0) hw3 (by go_simp) (by go_simp)
          have zw3_0 : W.heap.size < w3.heap.size := World.block_lt_of_cell? _ _ cw3_0_0
          have cw3_1_0 : w3.cell? ⟨wr.heap.size, 0, none⟩ = some (.int .i64 v0) := cell_gr hw3 (by go_simp)
          have cw3_1_1 : w3.cell? ⟨wr.heap.size, 1, none⟩ = some (.int .i64 v1) := cell_gr hw3 (by go_simp)
          have cw3_1_2 : w3.cell? ⟨wr.heap.size, 2, none⟩ = some (.int .i64 v2) := cell_gr hw3 (by go_simp)
          have cw3_1_3 : w3.cell? ⟨wr.heap.size, 3, none⟩ = some (.int .i64 v3) := cell_gr hw3 (by go_simp)
          have zw3_1 : wr.heap.size < w3.heap.size := World.block_lt_of_cell? _ _ cw3_1_0
          have gw3 : Gr wr w3 := Gr.trans (by have gg := gw2; have gs := gg.size; go_grown) hw3
          clear gw2 zw2_0 cw2_0_0 fw2_0_0 cw2_0_1 fw2_0_1 cw2_0_2 fw2_0_2 cw2_0_3 fw2_0_3 zw2_1 cw2_1_0 cw2_1_1 cw2_1_2 cw2_1_3
          clear hw3
          try simp only [Act.put, List.setIfInBounds_toArray, List.set_cons_zero, List.set_cons_succ]
          repeat (first | (refine Od.wpO_skip (by simp only [List.getElem?_toArray, List.getElem?_cons_succ, List.getElem?_cons_zero] <;> rfl) rfl ?_; simp only [Act.put, List.setIfInBounds_toArray, List.set_cons_zero, List.set_cons_succ]) | (refine Od.wpO_pure (by simp only [List.getElem?_toArray, List.getElem?_cons_succ, List.getElem?_cons_zero] <;> rfl) rfl ?_; apply Exists.intro; refine ⟨?_, ?_⟩; (· intro wx gx; obtain ⟨mx, rfl⟩ := spread_of_gr gx; clear gx; all_goals (apply Od.pAt_of_quiet; intro K hK; go_big_quiet_op; first | exact hK _ rfl | (apply Exists.intro; refine ⟨fun _ => ?_, ?_⟩; (· fail); exact hK _ rfl))); try simp only [Act.put, List.setIfInBounds_toArray, List.set_cons_zero, List.set_cons_succ]))
          refine Od.wpO_nil (hKQ _ _ ?_)
          clear hKQ KQ
          have G9 : Gr W w3 := Gr.trans hg gw3
          have GS := G9.size
          go_wp2_with fail
          refine bodyPost_ret (v := .tuple #[.agg #[.int .i64 0, .int .i64 0, .int .i64 0, .int .i64 0], .bool false]) (res_rk rfl rfl (by go_simp) (by go_simp) (by go_simp) (by go_simp)) rfl (Or.inr ⟨HNO.out, rfl, by go_grown⟩)
end Go.Proofs.YtlkciinhhagjiaaDoor
