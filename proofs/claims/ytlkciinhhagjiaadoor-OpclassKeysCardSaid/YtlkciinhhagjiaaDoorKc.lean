/- opclass.Unkey -/
import Derived.Test.YtlkciinhhagjiaaDoorKb
import Derived.Test.YtlkciinhhagjiaaDoorFi
import Derived.Test.YtlkciinhhagjiaaDoorRi
import Derived.Test.YtlkciinhhagjiaaDoorEl
namespace Go.Proofs.YtlkciinhhagjiaaDoor
set_option linter.unusedVariables false
set_option linter.unusedSimpArgs false
open Go.ChangeShapes Go.WideShapes Go.ChangeAt Go.RowKit

theorem k_fNew (op : ByteArray) (id k : Int) (W : World) : Calls Tryd.prog 46 #[.string op, .int .i64 id, .iface 79 (.int .i64 k)] W fun e w' => ∃ B, e = .returned (.iface 68 (.pointer (some ⟨B, 0, none⟩))) ∧ W.heap.size ≤ B ∧ FaultAt w' B op id k ∧ Gr W w' := by
  go_enter Tryd.func46, Tryd.ntmps46
  go_wp2_with fail
  go_ret
  exact ⟨_, rfl, Nat.le_refl _, ⟨by go_simp, by go_simp, by go_simp⟩, by go_grown⟩
def keyS : ByteArray := ⟨#[107, 101, 121]⟩
theorem c_noKey (W : World) : Calls Tryd.prog 68 #[] W fun e w' => ∃ B, e = .returned (.iface 68 (.pointer (some ⟨B, 0, none⟩))) ∧ W.heap.size ≤ B ∧ FaultAt w' B keyS 0 10 ∧ Gr W w' := by
  go_enter Tryd.func68, Tryd.ntmps68
  go_wp2_with fail
  go_at_call 46
  refine (k_fNew keyS 0 10 _).mono ?_
  rintro e w1 ⟨B, rfl, hB, hf, g1⟩
  go_wp2_with fail
  go_ret
  exact ⟨B, rfl, hB, hf, Gr.trans (by go_grown) g1⟩
/-- Where the i-th number of a key begins; the number; how many bytes it has. -/
def kps (L : List UInt8) : Nat → Nat
  | 0 => 0
  | i + 1 => kps L i + (uL (L.drop (kps L i))).2
def kvl (L : List UInt8) (i : Nat) : Int := si (uL (L.drop (kps L i))).1
def ksz (L : List UInt8) (i : Nat) : Nat := (uL (L.drop (kps L i))).2
theorem uL_le (L : List UInt8) : (uL L).2 ≤ L.length := by
  by_cases h : (uL L).2 = 0
  · omega
  · obtain ⟨a, b⟩ := uL_back (L := L) (v := (uL L).1) (s := (uL L).2) rfl h
    have : L.length = (Ec.vr (uL L).1).length + (L.drop (uL L).2).length := by
      conv => lhs; rw [a]
      rw [List.length_append]
    omega
theorem kps_le (L : List UInt8) : ∀ i, kps L i ≤ L.length
  | 0 => Nat.zero_le _
  | i + 1 => by
    have a := kps_le L i
    have b := uL_le (L.drop (kps L i))
    rw [List.length_drop] at b
    show kps L i + _ ≤ _
    omega
/-- Are there four numbers? -/
def kFour (L : List UInt8) : Prop := ∀ i, i < 4 → 0 < ksz L i
/-- Is it a key? -/
def kOk (L : List UInt8) : Prop := kFour L ∧ (L.drop (kps L 4)).length = 0 ∧ boxB (kvl L 0) (kvl L 1) (kvl L 2) (kvl L 3) = true
/-- What Unkey answers. -/
def UkTo (W : World) (L : List UInt8) (e : Ending) (w' : World) : Prop :=
  (kOk L ∧ e = .returned (.tuple #[.agg #[.int .i64 (kvl L 0), .int .i64 (kvl L 1), .int .i64 (kvl L 2), .int .i64 (kvl L 3)], .nilIface]) ∧ Gr W w') ∨
  (¬ kOk L ∧ ∃ B, e = .returned (.tuple #[.agg #[.int .i64 0, .int .i64 0, .int .i64 0, .int .i64 0], .iface 68 (.pointer (some ⟨B, 0, none⟩))]) ∧ FaultAt w' B keyS 0 10 ∧ Gr W w')
theorem fault_set {w : World} {B : Nat} {op : ByteArray} {id k : Int} {p : Addr} {u : Value} (h : FaultAt w B op id k) (hn : B ≠ p.block) : FaultAt (w.setCell p u) B op id k := by
  have c : ∀ o, (w.setCell p u).cell? ⟨B, o, none⟩ = w.cell? ⟨B, o, none⟩ := fun o => World.cell?_of_block (w := w) (Below.heap_setCell _ _ _ B hn)
  exact ⟨(c 0).trans h.1, (c 1).trans h.2.1, (c 2).trans h.2.2⟩
theorem set_other {w : World} {B i j : Nat} (h : i ≠ j) (u : Value) : ((w.setCell ⟨B, i, none⟩ u).drew).cell? ⟨B, j, none⟩ = w.cell? ⟨B, j, none⟩ :=
  World.cell?_setCell_other w ⟨B, i, none⟩ ⟨B, j, none⟩ u (fun e => h (by cases e; rfl))
theorem set_frozen {w : World} (p q : Addr) (u : Value) : ((w.setCell p u).drew).frozen? q = w.frozen? q := World.frozen?_setCell w p q u
theorem fault_box {w : World} {B C : Nat} {op : ByteArray} {id k : Int} {a b c d : Value} (h : FaultAt w B op id k) (hn : B ≠ C) : FaultAt ((((w.setCell ⟨C, 0, none⟩ a).setCell ⟨C, 1, none⟩ b).setCell ⟨C, 2, none⟩ c).setCell ⟨C, 3, none⟩ d) B op id k :=
  fault_set (fault_set (fault_set (fault_set h hn) hn) hn) hn
set_option maxHeartbeats 8000000 in
set_option maxRecDepth 100000 in
theorem c_oUnkey {L : List UInt8} {v : Value} (W : World) (h : Row W v L) (hl : L.length ≤ 1000) : Calls Tryd.prog 33 #[v] W (UkTo W L) := by
  have HLS := kps_le L
  have HH := Lib.hid h
  have hL9 : (L.length : Int) ≤ 1000 := by omega
  obtain ⟨ad, cap, B, off, rfl, -⟩ := h
  go_enter Tryd.func33, Tryd.ntmps33
  go_wp2_with fail
  go_loopg [5, 13] 4 (fun k x y wr => ∃ i : Nat, y = .int .i64 i ∧ i ≤ 4 ∧ k = 4 - i ∧ Row W x (L.drop (kps L i)) ∧ (∀ j, j < i → 0 < ksz L j) ∧
    (∀ j, j < 4 → wr.cell? ⟨W.heap.size, j, none⟩ = some (.int .i64 0) ∧ wr.frozen? ⟨W.heap.size, j, none⟩ = false) ∧ (∀ j, j < 4 → wr.cell? ⟨W.heap.size + 1, j, none⟩ = some (.int .i64 (if j < i then kvl L j else 0)) ∧ wr.frozen? ⟨W.heap.size + 1, j, none⟩ = false) ∧ Gr W wr)
  case atStart =>
    refine ⟨0, rfl, Nat.zero_le _, by omega, HH.out, fun j hj => absurd hj (by omega), fun j hj => ?_, fun j hj => ?_, by go_grown⟩
    · match j, hj with
      | 0, _ => exact ⟨by go_simp, by go_simp⟩
      | 1, _ => exact ⟨by go_simp, by go_simp⟩
      | 2, _ => exact ⟨by go_simp, by go_simp⟩
      | 3, _ => exact ⟨by go_simp, by go_simp⟩
    · rw [if_neg (by omega)]
      match j, hj with
      | 0, _ => exact ⟨by go_simp, by go_simp⟩
      | 1, _ => exact ⟨by go_simp, by go_simp⟩
      | 2, _ => exact ⟨by go_simp, by go_simp⟩
      | 3, _ => exact ⟨by go_simp, by go_simp⟩
  case round =>
    obtain ⟨i, rfl, hi, hk, hR, ho, hb, hc, hg⟩ := hrel
    have HR := Lib.hid hR
    have HO := Lib.hid ho
    have HB := Lib.hid hb
    have HC := Lib.hid hc
    have hgs := hg.size
    have z0 := World.block_lt_of_cell? _ _ (hb 0 (by omega)).1
    have z1 := World.block_lt_of_cell? _ _ (hc 0 (by omega)).1
    clear hR ho hb hc
    by_cases hin : i < 4
    · have ti : decide ((i : Int) < 4) = true := decide_eq_true (by omega)
      have ti2 : decide (i < 4) = true := decide_eq_true hin
      have ti3 : (i : Int) < 4 := by omega
      have hmm : 4 - (i + 1) < gk := by omega
      have hpl := HLS i
      have hpl2 := HLS (i + 1)
      have UN := Lib.hid (fun w (g : Gr wr w) => c_UnsignedL w (row_gr HR.out (Gr.trans hg g)) (by rw [List.length_drop]; omega))
      have es : ksz L i = (uL (L.drop (kps L i))).2 := rfl
      have ev : kvl L i = si (uL (L.drop (kps L i))).1 := rfl
      have ep : kps L (i + 1) = kps L i + ksz L i := rfl
      rw [← es, ← ev] at UN
      obtain ⟨vn, ks, rn⟩ := row_from (ksz L i) (by rw [List.length_drop]; omega) HR.out
      rw [List.drop_drop, ← ep] at rn
      obtain ⟨s, hs⟩ : ∃ s, s = ksz L i := ⟨_, rfl⟩
      have HS := Lib.hid hs
      obtain ⟨nv, hnv⟩ : ∃ nv, nv = kvl L i := ⟨_, rfl⟩
      have HV := Lib.hid hnv
      rw [← hs] at ks
      rw [← hs, ← hnv] at UN
      have HRN := Lib.hid rn
      obtain ⟨xa, xn, xm, rfl⟩ : ∃ (a : Option Addr) (b c : Nat), u5 = .slice a b c := by obtain ⟨a, c, _, _, e, _⟩ := HR.out; exact ⟨_, _, _, e⟩
      clear hs hnv es ev ep rn hk
      by_cases h0 : 0 < s
      · rw [decide_eq_true h0] at UN
        have ri := (HC.out i hin).1
        have fi := (HC.out i hin).2
        go_wp2_with fail
        go_at_call 67
        refine (UN.out _ (by go_grown)).mono ?_
        rintro e w1 ⟨rfl, g1⟩
        have G1 : Gr wr w1 := Gr.trans (by go_grown) g1
        have rw1 := cell_gr G1 ri
        have fw1 := frozen_gr G1 ri fi
        have zw1 := World.block_lt_of_cell? _ _ rw1
        clear g1 UN ri fi
        go_wp2_with fail
        go_region
        have hcn : ∀ j, j < 4 → ((w1.setCell ⟨W.heap.size + 1, i, none⟩ (.int .i64 nv)).drew).cell? ⟨W.heap.size + 1, j, none⟩ = some (.int .i64 (if j < i + 1 then kvl L j else 0)) ∧ ((w1.setCell ⟨W.heap.size + 1, i, none⟩ (.int .i64 nv)).drew).frozen? ⟨W.heap.size + 1, j, none⟩ = false := fun j hj => by
          have a := cell_gr G1 (HC.out j hj).1
          have b := frozen_gr G1 (HC.out j hj).1 (HC.out j hj).2
          by_cases e : j = i
          · subst e
            rw [if_pos (by omega), ← HV.out]
            exact ⟨by go_simp, by go_simp⟩
          · have e2 : (if j < i + 1 then kvl L j else 0) = (if j < i then kvl L j else 0) := by
              by_cases q : j < i
              · rw [if_pos q, if_pos (by omega)]
              · rw [if_neg q, if_neg (by omega)]
            rw [e2]
            exact ⟨(set_other (fun h => e h.symm) _).trans a, (set_frozen _ _ _).trans b⟩
        have hbn : ∀ j, j < 4 → ((w1.setCell ⟨W.heap.size + 1, i, none⟩ (.int .i64 nv)).drew).cell? ⟨W.heap.size, j, none⟩ = some (.int .i64 0) ∧ ((w1.setCell ⟨W.heap.size + 1, i, none⟩ (.int .i64 nv)).drew).frozen? ⟨W.heap.size, j, none⟩ = false := fun j hj => by
          have a := cell_gr G1 (HB.out j hj).1
          have b := frozen_gr G1 (HB.out j hj).1 (HB.out j hj).2
          exact ⟨by go_simp, by go_simp⟩
        have HCN := Lib.hid hcn
        have HBN := Lib.hid hbn
        have GN : Gr W ((w1.setCell ⟨W.heap.size + 1, i, none⟩ (.int .i64 nv)).drew) := by have gg := Gr.trans hg G1; have gs := gg.size; go_grown
        clear hcn hbn
        go_wp2_with fail
        go_roundg (4 - (i + 1))
        case measure => exact hmm
        case rel => exact ⟨i + 1, by go_num, by omega, rfl, HRN.out, fun j hj => (by rcases Nat.lt_succ_iff_lt_or_eq.1 hj with q | rfl; exact HO.out j q; rw [← HS.out]; exact h0), HBN.out, HCN.out, GN⟩
      · obtain rfl : s = 0 := by omega
        rw [decide_eq_false h0] at UN
        have hno : ¬ kOk L := fun q => by have := q.1 i hin; rw [← HS.out] at this; omega
        have HNO := Lib.hid hno
        clear hno h0 hmm hpl hpl2 ks
        go_wp2_with fail
        go_at_call 67
        refine (UN.out _ (by go_grown)).mono ?_
        rintro e w1 ⟨rfl, g1⟩
        have G1 : Gr wr w1 := Gr.trans (by go_grown) g1
        clear g1 UN
        go_wp2_with fail
        go_at_call 68
        refine (c_noKey _).mono ?_
        rintro e w2 ⟨B9, rfl, hB9, hf, g2⟩
        have G2 : Gr wr w2 := Gr.trans G1 (Gr.trans (by go_grown) g2)
        have b0 := cell_gr G2 (HB.out 0 (by omega)).1
        have b1 := cell_gr G2 (HB.out 1 (by omega)).1
        have b2 := cell_gr G2 (HB.out 2 (by omega)).1
        have b3 := cell_gr G2 (HB.out 3 (by omega)).1
        have f0 := frozen_gr G2 (HB.out 0 (by omega)).1 (HB.out 0 (by omega)).2
        have f1 := frozen_gr G2 (HB.out 1 (by omega)).1 (HB.out 1 (by omega)).2
        have f2 := frozen_gr G2 (HB.out 2 (by omega)).1 (HB.out 2 (by omega)).2
        have f3 := frozen_gr G2 (HB.out 3 (by omega)).1 (HB.out 3 (by omega)).2
        have zb := World.block_lt_of_cell? _ _ b0
        have HF := Lib.hid hf
        have nB : B9 ≠ W.heap.size := by have := G1.size; omega
        have G9 : Gr W w2 := Gr.trans hg G2
        clear hf g2
        go_wp2_with fail
        refine bodyPost_ret (v := .tuple #[.agg #[.int .i64 0, .int .i64 0, .int .i64 0, .int .i64 0], .iface 68 (.pointer (some ⟨B9, 0, none⟩))]) (by simp [results, Tryd.results33, go_sem, *]) rfl (Or.inr ⟨HNO.out, B9, rfl, fault_box HF.out nB, by have gg := G9; have gs := gg.size; go_grown⟩)
    · obtain rfl : i = 4 := by omega
      have C0 : wr.cell? ⟨W.heap.size + 1, 0, none⟩ = some (.int .i64 (kvl L 0)) := (HC.out 0 (by omega)).1
      have C1 : wr.cell? ⟨W.heap.size + 1, 1, none⟩ = some (.int .i64 (kvl L 1)) := (HC.out 1 (by omega)).1
      have C2 : wr.cell? ⟨W.heap.size + 1, 2, none⟩ = some (.int .i64 (kvl L 2)) := (HC.out 2 (by omega)).1
      have C3 : wr.cell? ⟨W.heap.size + 1, 3, none⟩ = some (.int .i64 (kvl L 3)) := (HC.out 3 (by omega)).1
      have b0 := (HB.out 0 (by omega)).1
      have b1 := (HB.out 1 (by omega)).1
      have b2 := (HB.out 2 (by omega)).1
      have b3 := (HB.out 3 (by omega)).1
      have f0 := (HB.out 0 (by omega)).2
      have f1 := (HB.out 1 (by omega)).2
      have f2 := (HB.out 2 (by omega)).2
      have f3 := (HB.out 3 (by omega)).2
      have hFour : kFour L := HO.out
      have CB := c_CheckBox (kvl L 0) (kvl L 1) (kvl L 2) (kvl L 3)
      have hOk : ∀ r : Nat, r = (L.drop (kps L 4)).length → (kOk L ↔ r = 0 ∧ boxB (kvl L 0) (kvl L 1) (kvl L 2) (kvl L 3) = true) := fun r hr => by
        unfold kOk; rw [← hr]; exact ⟨fun q => q.2, fun q => ⟨hFour, q⟩⟩
      obtain ⟨xa, xm, _, _, rfl, _⟩ := HR.out
      obtain ⟨r, hr⟩ : ∃ r, r = (L.drop (kps L 4)).length := ⟨_, rfl⟩
      have hOk2 := hOk r hr
      rw [← hr]
      have fin : ∀ w', UkTo W L w' = UkTo W L w' := fun _ => rfl
      unfold UkTo
      generalize hv0 : kvl L 0 = v0 at *
      have HW0 := Lib.hid hv0
      clear hv0
      generalize hv1 : kvl L 1 = v1 at *
      have HW1 := Lib.hid hv1
      clear hv1
      generalize hv2 : kvl L 2 = v2 at *
      have HW2 := Lib.hid hv2
      clear hv2
      generalize hv3 : kvl L 3 = v3 at *
      have HW3 := Lib.hid hv3
      clear hv3
      have HOK := Lib.hid hOk2
      have hr9 : r ≤ 1000 := by rw [hr, List.length_drop]; omega
      clear hOk hOk2 hFour HC HO fin hk hr HR
      by_cases hr0 : r = 0
      · subst hr0
        cases hq : boxB v0 v1 v2 v3
        · obtain ⟨ke, hke⟩ := boxErr_false hq
          rw [hke] at CB
          have HCB := Lib.hid CB
          have hno : ¬ kOk L := fun q => by have := (HOK.out.1 q).2; rw [hq] at this; cases this
          have HNO := Lib.hid hno
          clear CB hke hno hq
          go_wp2_with fail
          go_at_call 69
          refine (HCB.out _).mono ?_
          rintro e w1 ⟨rfl, g1⟩
          have G1 : Gr wr w1 := Gr.trans (by go_grown) g1
          clear g1
          go_wp2_with fail
          go_at_call 68
          refine (c_noKey _).mono ?_
          rintro e w2 ⟨B9, rfl, hB9, hf, g2⟩
          have G2 : Gr wr w2 := Gr.trans G1 (Gr.trans (by go_grown) g2)
          have f0' := frozen_gr G2 b0 f0
          have f1' := frozen_gr G2 b1 f1
          have f2' := frozen_gr G2 b2 f2
          have f3' := frozen_gr G2 b3 f3
          have b0' := cell_gr G2 b0
          have b1' := cell_gr G2 b1
          have b2' := cell_gr G2 b2
          have b3' := cell_gr G2 b3
          have zb := World.block_lt_of_cell? _ _ b0'
          have HF := Lib.hid hf
          have nB : B9 ≠ W.heap.size := by have := G1.size; omega
          have G9 : Gr W w2 := Gr.trans hg G2
          clear hf g2 b0 b1 b2 b3 f0 f1 f2 f3
          go_wp2_with fail
          refine bodyPost_ret (v := .tuple #[.agg #[.int .i64 0, .int .i64 0, .int .i64 0, .int .i64 0], .iface 68 (.pointer (some ⟨B9, 0, none⟩))]) (by simp [results, Tryd.results33, go_sem, *]) rfl (Or.inr ⟨HNO.out, B9, rfl, fault_box HF.out nB, by have gg := G9; have gs := gg.size; go_grown⟩)
        · rw [boxErr_true hq] at CB
          have HCB := Lib.hid CB
          have hyes : kOk L := HOK.out.2 ⟨rfl, hq⟩
          have HY := Lib.hid hyes
          clear CB hyes hq
          go_wp2_with fail
          go_at_call 69
          refine (HCB.out _).mono ?_
          rintro e w1 ⟨rfl, g1⟩
          have G1 : Gr wr w1 := Gr.trans (by go_grown) g1
          have d0 : w1.cell? ⟨wr.heap.size, 0, none⟩ = some (.int .i64 v0) := cell_gr g1 (by go_simp)
          have d1 : w1.cell? ⟨wr.heap.size, 1, none⟩ = some (.int .i64 v1) := cell_gr g1 (by go_simp)
          have d2 : w1.cell? ⟨wr.heap.size, 2, none⟩ = some (.int .i64 v2) := cell_gr g1 (by go_simp)
          have d3 : w1.cell? ⟨wr.heap.size, 3, none⟩ = some (.int .i64 v3) := cell_gr g1 (by go_simp)
          have f0' := frozen_gr G1 b0 f0
          have f1' := frozen_gr G1 b1 f1
          have f2' := frozen_gr G1 b2 f2
          have f3' := frozen_gr G1 b3 f3
          have b0' := cell_gr G1 b0
          have b1' := cell_gr G1 b1
          have b2' := cell_gr G1 b2
          have b3' := cell_gr G1 b3
          have zb := World.block_lt_of_cell? _ _ b0'
          have G9 : Gr W w1 := Gr.trans hg G1
          clear g1 b0 b1 b2 b3 f0 f1 f2 f3
          go_wp2_with fail
          refine bodyPost_ret (v := .tuple #[.agg #[.int .i64 v0, .int .i64 v1, .int .i64 v2, .int .i64 v3], .nilIface]) (by simp [results, Tryd.results33, go_sem, *]) rfl (Or.inl ⟨HY.out, by rw [HW0.out, HW1.out, HW2.out, HW3.out], by have gg := G9; have gs := gg.size; go_grown⟩)
      · have t1 : decide ((0 : Int) < (r : Int)) = true := decide_eq_true (by omega)
        have t2 : decide (0 < r) = true := decide_eq_true (by omega)
        have hno : ¬ kOk L := fun q => hr0 (HOK.out.1 q).1
        have HNO := Lib.hid hno
        clear CB hno hr0
        go_wp2_with fail
        go_at_call 68
        refine (c_noKey _).mono ?_
        rintro e w2 ⟨B9, rfl, hB9, hf, g2⟩
        have G2 : Gr wr w2 := Gr.trans (by go_grown) g2
        have f0' := frozen_gr G2 b0 f0
        have f1' := frozen_gr G2 b1 f1
        have f2' := frozen_gr G2 b2 f2
        have f3' := frozen_gr G2 b3 f3
        have b0' := cell_gr G2 b0
        have b1' := cell_gr G2 b1
        have b2' := cell_gr G2 b2
        have b3' := cell_gr G2 b3
        have zb := World.block_lt_of_cell? _ _ b0'
        have HF := Lib.hid hf
        have nB : B9 ≠ W.heap.size := by simp at hB9; omega
        have G9 : Gr W w2 := Gr.trans hg G2
        clear hf g2 b0 b1 b2 b3 f0 f1 f2 f3
        go_wp2_with fail
        refine bodyPost_ret (v := .tuple #[.agg #[.int .i64 0, .int .i64 0, .int .i64 0, .int .i64 0], .iface 68 (.pointer (some ⟨B9, 0, none⟩))]) (by simp [results, Tryd.results33, go_sem, *]) rfl (Or.inr ⟨HNO.out, B9, rfl, fault_box HF.out nB, by have gg := G9; have gs := gg.size; go_grown⟩)
end Go.Proofs.YtlkciinhhagjiaaDoor
