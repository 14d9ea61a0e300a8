/- opclass.Key; the document's Key -/
import Derived.Test.YtlkciinhhagjiaaDoorKa
import Derived.Test.YtlkciinhhagjiaaDoorOe
namespace Go.Proofs.YtlkciinhhagjiaaDoor
set_option linter.unusedVariables false
set_option linter.unusedSimpArgs false
open Go.ChangeShapes Go.WideShapes Go.ChangeAt Go.RowKit

theorem kb_kx {S : Nat → Prop} {a b : World} {u v : Value} (h : Grown a b u v) (hS : ∀ k, u.ownBlock = some k → S k) : Kx S a b :=
  ⟨h.1.os, h.1.tape, h.1.output, h.1.size, fun k hk hs => h.1.block k hk (fun e => by
    cases hu : u.ownBlock with
    | none => rw [hu] at e; cases e
    | some j => rw [hu] at e; cases e; exact hs (hS _ hu))⟩
theorem kb_low {w : World} {a b : Nat} {v : Value} {L : List UInt8} (h : Own w a v L) (hab : b ≤ a) : Own w b v L := by
  obtain ⟨h1, h2⟩ := h
  refine ⟨h1, ?_⟩
  rcases h2 with h2 | ⟨g, cap, cur, e, hb, h3⟩
  · exact Or.inl h2
  · exact Or.inr ⟨g, cap, cur, e, Nat.le_trans hab hb, h3⟩
theorem kb_at {w : World} {base k : Nat} {v : Value} {L : List UInt8} (h : Own w base v L) (hk : v.ownBlock = some k) : base ≤ k ∧ k < w.heap.size := World.ownsRow.lt h k hk
/-- The first numbers of a key. -/
def kp (V : Nat → Int) : Nat → List UInt8
  | 0 => []
  | i + 1 => kp V i ++ Ec.vr (zz (V i))
def bxV (lx ly hx hy : Int) : Nat → Int := fun i => if i = 0 then lx else if i = 1 then ly else if i = 2 then hx else hy
theorem kp_4 (lx ly hx hy : Int) : kp (bxV lx ly hx hy) 4 = keyB lx ly hx hy := rfl
theorem kp_len {V : Nat → Int} (h : ∀ i, Iw (V i)) : ∀ i, (kp V i).length ≤ 10 * i
  | 0 => by simp [kp]
  | i + 1 => by
    have a := kp_len h i
    have b := zz_len (h i)
    simp only [kp, List.length_append]
    omega
set_option maxHeartbeats 4000000 in
set_option maxRecDepth 100000 in
theorem c_oKey {lx ly hx hy : Int} (h1 : Iw lx) (h2 : Iw ly) (h3 : Iw hx) (h4 : Iw hy) (W : World) :
    Calls Tryd.prog 35 #[.agg #[.int .i64 lx, .int .i64 ly, .int .i64 hx, .int .i64 hy]] W fun e w' => ∃ b, e = .returned b ∧ Own w' W.heap.size b (keyB lx ly hx hy) ∧ Gr W w' := by
  have HV := Lib.hid (show ∀ i, Iw (bxV lx ly hx hy i) from fun i => by unfold bxV; split; exact h1; split; exact h2; split; exact h3; exact h4)
  have O0 : ∀ (w : World), Own (w.alloc (.cells #[] 5)) w.heap.size (.slice (some ⟨w.heap.size, 0, none⟩) 0 0) [] := fun w =>
    World.ownsRow_lit (base := w.heap.size) (e := 5) (size := 1) w #[] 0 (Nat.le_refl _) (by decide) (by simp)
  have HO0 := Lib.hid O0
  rw [← kp_4]
  clear O0 h1 h2 h3 h4
  go_enter Tryd.func35, Tryd.ntmps35
  go_wp2_with fail
  obtain ⟨V, eV⟩ : ∃ V, V = bxV lx ly hx hy := ⟨_, rfl⟩
  have HEV := Lib.hid eV
  go_loopg [3, 21] 4 (fun k x y wr => ∃ i : Nat, y = .int .i64 i ∧ i ≤ 4 ∧ k = 4 - i ∧ Own wr W.heap.size x (kp (bxV lx ly hx hy) i) ∧ (∀ k, x.ownBlock = some k → k ≠ W.heap.size + 1 + 1) ∧ (∀ j, j < 4 → wr.cell? ⟨W.heap.size + 1 + 1, j, none⟩ = some (.int .i64 (bxV lx ly hx hy j))) ∧ Gr W wr)
  case atStart =>
    refine ⟨0, rfl, Nat.zero_le _, by omega, ?_, fun k hk => ?_, fun j hj => ?_, by go_grown⟩
    · have h := HO0.out (W.alloc (.cells #[.int .i64 lx, .int .i64 ly, .int .i64 hx, .int .i64 hy] 28))
      rw [World.size_alloc] at h
      exact rowOwn_gr (kb_low h (by omega)) (by go_grown)
    · have e : k = W.heap.size + 1 := (Option.some.inj hk).symm
      omega
    · match j, hj with
      | 0, _ => show _ = some (Value.int .i64 lx); go_simp
      | 1, _ => show _ = some (Value.int .i64 ly); go_simp
      | 2, _ => show _ = some (Value.int .i64 hx); go_simp
      | 3, _ => show _ = some (Value.int .i64 hy); go_simp
  case round =>
    obtain ⟨i, rfl, hi, hk, hO, hne, hc, hg⟩ := hrel
    have HO := Lib.hid hO
    have HC := Lib.hid hc
    have HN := Lib.hid hne
    have hgs := hg.size
    clear hO hc hne
    by_cases hin : i < 4
    · have ti : decide ((i : Int) < 4) = true := decide_eq_true (by omega)
      have ti2 : decide (i < 4) = true := decide_eq_true hin
      have ti3 : (i : Int) < 4 := by omega
      have hmm : 4 - (i + 1) < gk := by omega
      have r0 := HC.out i hin
      have hb9 := World.block_lt_of_cell? _ _ r0
      have hv := HV.out i
      have hl := kp_len HV.out i
      have hvl := zz_len hv
      have SG := Lib.hid (fun w => c_Signed _ hv.1 hv.2 w)
      have hE : kp (bxV lx ly hx hy) (i + 1) = kp (bxV lx ly hx hy) i ++ Ec.vr (zz (bxV lx ly hx hy i)) := rfl
      have HE := Lib.hid hE
      clear hk hE hv
      generalize bxV lx ly hx hy i = vi at r0 SG HE hvl
      go_wp2_with fail
      go_at_call 71
      refine (SG.out _).mono ?_
      rintro e w1 ⟨b1, rfl, o1, g1⟩
      have G1 : Gr wr w1 := Gr.trans (by go_grown) g1
      have O1 := Lib.hid (row_own o1)
      have O2 := Lib.hid (show Own w1 W.heap.size u3 _ from rowOwn_gr HO.out G1)
      have hs1 := G1.size
      clear o1 g1
      go_wp2_with (at_builtin; (refine wpList_app rfl (.tmp 25) (.tmp 27) rfl W.heap.size u3 b1 _ _ rfl O2.out rfl O1.out (by omega) (by omega) ?_); intro x2 w2 o2 g2; (have G2 : Gr W w2 := g2.gr (Gr.trans hg G1) (fun k hk => (kb_at O2.out hk).1)); (have C2 := Lib.hid (fun j (hj : j < 4) => g2.cell (cell_gr G1 (HC.out j hj)) (fun k hk => HN.out k hk))); (have N2 := Lib.hid (fun k hk => (show k ≠ W.heap.size + 1 + 1 from by rcases g2.at k hk with h | h; exact HN.out k h; omega))); (have HO2 := Lib.hid o2); clear o2 g2 O1 O2 G1 SG)
      go_roundg (4 - (i + 1))
      case measure => exact hmm
      case rel => exact ⟨i + 1, by go_num, by omega, rfl, by rw [HE.out]; exact HO2.out, N2.out, C2.out, G2⟩
    · obtain rfl : i = 4 := by omega
      clear hk
      go_wp2_with fail
      go_ret
      exact ⟨_, rfl, HO.out, hg⟩
set_option maxHeartbeats 4000000 in
set_option maxRecDepth 100000 in
theorem c_rKey {lx ly hx hy : Int} (h1 : Iw lx) (h2 : Iw ly) (h3 : Iw hx) (h4 : Iw hy) (W : World) :
    Calls Tryd.prog 36 #[.agg #[.int .i64 lx, .int .i64 ly, .int .i64 hx, .int .i64 hy]] W fun e w' => ∃ b, e = .returned b ∧ Own w' W.heap.size b (keyB lx ly hx hy) ∧ Gr W w' := by
  have y1 := (zz_len h1).2
  have y2 := (zz_len h2).2
  have y3 := (zz_len h3).2
  have y4 := (zz_len h4).2
  have A1 := fun w => c_rSigned lx h1.lo h1.hi w
  have A2 := fun w => c_rSigned ly h2.lo h2.hi w
  have A3 := fun w => c_rSigned hx h3.lo h3.hi w
  have A4 := fun w => c_rSigned hy h4.lo h4.hi w
  unfold keyB
  generalize Ec.vr (zz lx) = L1 at *
  generalize Ec.vr (zz ly) = L2 at *
  generalize Ec.vr (zz hx) = L3 at *
  generalize Ec.vr (zz hy) = L4 at *
  have H1 := Lib.hid A1
  have H2 := Lib.hid A2
  have H3 := Lib.hid A3
  have H4 := Lib.hid A4
  clear A1 A2 A3 A4
  clear h1 h2 h3 h4
  go_enter Tryd.func36, Tryd.ntmps36
  go_wp2_with fail
  try simp only [List.append]
  refine Oe.wp_region_ord (R := Kx (fun k => W.heap.size + 1 ≤ k)) [(0, false), (1, false), (2, false), (4, false), (5, false), (6, false), (3, true), (7, true), (8, true), (9, false)] (by kernel_rfl) (by kernel_rfl) ?_
  intro w2 hw2 KQ hKQ
  have hhw2 := Kx.of_gr (S := (fun k => W.heap.size + 1 ≤ k)) hw2
  have cw2_0_0 : w2.cell? ⟨W.heap.size, 0, none⟩ = some (.int .i64 lx) := cell_kx hhw2 (by show ¬ (W.heap.size + 1 ≤ W.heap.size); omega) (by go_simp)
  have cw2_0_1 : w2.cell? ⟨W.heap.size, 1, none⟩ = some (.int .i64 ly) := cell_kx hhw2 (by show ¬ (W.heap.size + 1 ≤ W.heap.size); omega) (by go_simp)
  have cw2_0_2 : w2.cell? ⟨W.heap.size, 2, none⟩ = some (.int .i64 hx) := cell_kx hhw2 (by show ¬ (W.heap.size + 1 ≤ W.heap.size); omega) (by go_simp)
  have cw2_0_3 : w2.cell? ⟨W.heap.size, 3, none⟩ = some (.int .i64 hy) := cell_kx hhw2 (by show ¬ (W.heap.size + 1 ≤ W.heap.size); omega) (by go_simp)
  have zw2_0 : W.heap.size < w2.heap.size := World.block_lt_of_cell? _ _ cw2_0_0
  have gw2 : Gr W w2 := Kx.gr hhw2 (by go_grown) (fun k hk => by have hk2 : W.heap.size + 1 ≤ k := hk; omega)
  have sw2 := hhw2.size
  skip
  clear hhw2
  repeat (first | (refine Oe.wpO_skip (by simp only [List.getElem?_toArray, List.getElem?_cons_succ, List.getElem?_cons_zero] <;> rfl) rfl ?_; simp only [Act.put, List.setIfInBounds_toArray, List.set_cons_zero, List.set_cons_succ]) | (refine Oe.wpO_pure (by simp only [List.getElem?_toArray, List.getElem?_cons_succ, List.getElem?_cons_zero] <;> rfl) rfl ?_; apply Exists.intro; refine ⟨?_, ?_⟩; (· intro wx gx; have cx_0_0 : wx.cell? ⟨W.heap.size, 0, none⟩ = some (.int .i64 lx) := cell_kx gx (by show ¬ (W.heap.size + 1 ≤ W.heap.size); omega) cw2_0_0; have cx_0_1 : wx.cell? ⟨W.heap.size, 1, none⟩ = some (.int .i64 ly) := cell_kx gx (by show ¬ (W.heap.size + 1 ≤ W.heap.size); omega) cw2_0_1; have cx_0_2 : wx.cell? ⟨W.heap.size, 2, none⟩ = some (.int .i64 hx) := cell_kx gx (by show ¬ (W.heap.size + 1 ≤ W.heap.size); omega) cw2_0_2; have cx_0_3 : wx.cell? ⟨W.heap.size, 3, none⟩ = some (.int .i64 hy) := cell_kx gx (by show ¬ (W.heap.size + 1 ≤ W.heap.size); omega) cw2_0_3; have zx_0 : W.heap.size < wx.heap.size := World.block_lt_of_cell? _ _ cx_0_0; clear gx; all_goals (apply Oe.pAt_of_quiet; intro K hK; go_big_quiet_op; first | exact hK _ rfl | (apply Exists.intro; refine ⟨fun _ => ?_, ?_⟩; (· fail); exact hK _ rfl))); try simp only [Act.put, List.setIfInBounds_toArray, List.set_cons_zero, List.set_cons_succ]))
  have Z2 : W.heap.size < w2.heap.size := zw2_0
  refine Oe.wpO_call (by simp only [List.getElem?_toArray, List.getElem?_cons_succ, List.getElem?_cons_zero] <;> rfl) rfl ?_
  intro QS hQS
  go_wp2_with fail
  go_at_call 72
  (with_reducible refine ((H1.out _)).mono ?_)
  rintro e w3 ⟨b1, rfl, o1, hw3⟩
  have hhw3 : Kx (fun k => W.heap.size + 1 ≤ k) w2 w3 := Kx.of_gr hw3
  go_wp2_with fail
  first | (apply Exists.intro; refine ⟨?_, hhw3, ?_⟩; (· simp only [Act.put, List.setIfInBounds_toArray, List.set_cons_zero, List.set_cons_succ]; rfl)) | (refine ⟨hhw3, ?_⟩)
  have cw3_0_0 : w3.cell? ⟨W.heap.size, 0, none⟩ = some (.int .i64 lx) := cell_kx hhw3 (by show ¬ (W.heap.size + 1 ≤ W.heap.size); omega) (by go_simp)
  have cw3_0_1 : w3.cell? ⟨W.heap.size, 1, none⟩ = some (.int .i64 ly) := cell_kx hhw3 (by show ¬ (W.heap.size + 1 ≤ W.heap.size); omega) (by go_simp)
  have cw3_0_2 : w3.cell? ⟨W.heap.size, 2, none⟩ = some (.int .i64 hx) := cell_kx hhw3 (by show ¬ (W.heap.size + 1 ≤ W.heap.size); omega) (by go_simp)
  have cw3_0_3 : w3.cell? ⟨W.heap.size, 3, none⟩ = some (.int .i64 hy) := cell_kx hhw3 (by show ¬ (W.heap.size + 1 ≤ W.heap.size); omega) (by go_simp)
  have zw3_0 : W.heap.size < w3.heap.size := World.block_lt_of_cell? _ _ cw3_0_0
  have gw3 : Gr W w3 := Kx.gr hhw3 gw2 (fun k hk => by have hk2 : W.heap.size + 1 ≤ k := hk; omega)
  have sw3 := hhw3.size
  clear gw2 zw2_0 cw2_0_0 cw2_0_1 cw2_0_2 cw2_0_3
  clear hhw3
  try simp only [Act.put, List.setIfInBounds_toArray, List.set_cons_zero, List.set_cons_succ]
  repeat (first | (refine Oe.wpO_skip (by simp only [List.getElem?_toArray, List.getElem?_cons_succ, List.getElem?_cons_zero] <;> rfl) rfl ?_; simp only [Act.put, List.setIfInBounds_toArray, List.set_cons_zero, List.set_cons_succ]) | (refine Oe.wpO_pure (by simp only [List.getElem?_toArray, List.getElem?_cons_succ, List.getElem?_cons_zero] <;> rfl) rfl ?_; apply Exists.intro; refine ⟨?_, ?_⟩; (· intro wx gx; have cx_0_0 : wx.cell? ⟨W.heap.size, 0, none⟩ = some (.int .i64 lx) := cell_kx gx (by show ¬ (W.heap.size + 1 ≤ W.heap.size); omega) cw3_0_0; have cx_0_1 : wx.cell? ⟨W.heap.size, 1, none⟩ = some (.int .i64 ly) := cell_kx gx (by show ¬ (W.heap.size + 1 ≤ W.heap.size); omega) cw3_0_1; have cx_0_2 : wx.cell? ⟨W.heap.size, 2, none⟩ = some (.int .i64 hx) := cell_kx gx (by show ¬ (W.heap.size + 1 ≤ W.heap.size); omega) cw3_0_2; have cx_0_3 : wx.cell? ⟨W.heap.size, 3, none⟩ = some (.int .i64 hy) := cell_kx gx (by show ¬ (W.heap.size + 1 ≤ W.heap.size); omega) cw3_0_3; have zx_0 : W.heap.size < wx.heap.size := World.block_lt_of_cell? _ _ cx_0_0; clear gx; all_goals (apply Oe.pAt_of_quiet; intro K hK; go_big_quiet_op; first | exact hK _ rfl | (apply Exists.intro; refine ⟨fun _ => ?_, ?_⟩; (· fail); exact hK _ rfl))); try simp only [Act.put, List.setIfInBounds_toArray, List.set_cons_zero, List.set_cons_succ]))
  have O1 := Lib.hid o1
  clear o1
  refine Oe.wpO_call (by simp only [List.getElem?_toArray, List.getElem?_cons_succ, List.getElem?_cons_zero] <;> rfl) rfl ?_
  intro QS hQS
  go_wp2_with fail
  go_at_call 72
  (with_reducible refine ((H2.out _)).mono ?_)
  rintro e w4 ⟨b2, rfl, o2, hw4⟩
  have hhw4 : Kx (fun k => W.heap.size + 1 ≤ k) w3 w4 := Kx.of_gr hw4
  go_wp2_with fail
  first | (apply Exists.intro; refine ⟨?_, hhw4, ?_⟩; (· simp only [Act.put, List.setIfInBounds_toArray, List.set_cons_zero, List.set_cons_succ]; rfl)) | (refine ⟨hhw4, ?_⟩)
  have cw4_0_0 : w4.cell? ⟨W.heap.size, 0, none⟩ = some (.int .i64 lx) := cell_kx hhw4 (by show ¬ (W.heap.size + 1 ≤ W.heap.size); omega) (by go_simp)
  have cw4_0_1 : w4.cell? ⟨W.heap.size, 1, none⟩ = some (.int .i64 ly) := cell_kx hhw4 (by show ¬ (W.heap.size + 1 ≤ W.heap.size); omega) (by go_simp)
  have cw4_0_2 : w4.cell? ⟨W.heap.size, 2, none⟩ = some (.int .i64 hx) := cell_kx hhw4 (by show ¬ (W.heap.size + 1 ≤ W.heap.size); omega) (by go_simp)
  have cw4_0_3 : w4.cell? ⟨W.heap.size, 3, none⟩ = some (.int .i64 hy) := cell_kx hhw4 (by show ¬ (W.heap.size + 1 ≤ W.heap.size); omega) (by go_simp)
  have zw4_0 : W.heap.size < w4.heap.size := World.block_lt_of_cell? _ _ cw4_0_0
  have gw4 : Gr W w4 := Kx.gr hhw4 gw3 (fun k hk => by have hk2 : W.heap.size + 1 ≤ k := hk; omega)
  have sw4 := hhw4.size
  clear gw3 zw3_0 cw3_0_0 cw3_0_1 cw3_0_2 cw3_0_3
  clear hhw4
  try simp only [Act.put, List.setIfInBounds_toArray, List.set_cons_zero, List.set_cons_succ]
  repeat (first | (refine Oe.wpO_skip (by simp only [List.getElem?_toArray, List.getElem?_cons_succ, List.getElem?_cons_zero] <;> rfl) rfl ?_; simp only [Act.put, List.setIfInBounds_toArray, List.set_cons_zero, List.set_cons_succ]) | (refine Oe.wpO_pure (by simp only [List.getElem?_toArray, List.getElem?_cons_succ, List.getElem?_cons_zero] <;> rfl) rfl ?_; apply Exists.intro; refine ⟨?_, ?_⟩; (· intro wx gx; have cx_0_0 : wx.cell? ⟨W.heap.size, 0, none⟩ = some (.int .i64 lx) := cell_kx gx (by show ¬ (W.heap.size + 1 ≤ W.heap.size); omega) cw4_0_0; have cx_0_1 : wx.cell? ⟨W.heap.size, 1, none⟩ = some (.int .i64 ly) := cell_kx gx (by show ¬ (W.heap.size + 1 ≤ W.heap.size); omega) cw4_0_1; have cx_0_2 : wx.cell? ⟨W.heap.size, 2, none⟩ = some (.int .i64 hx) := cell_kx gx (by show ¬ (W.heap.size + 1 ≤ W.heap.size); omega) cw4_0_2; have cx_0_3 : wx.cell? ⟨W.heap.size, 3, none⟩ = some (.int .i64 hy) := cell_kx gx (by show ¬ (W.heap.size + 1 ≤ W.heap.size); omega) cw4_0_3; have zx_0 : W.heap.size < wx.heap.size := World.block_lt_of_cell? _ _ cx_0_0; clear gx; all_goals (apply Oe.pAt_of_quiet; intro K hK; go_big_quiet_op; first | exact hK _ rfl | (apply Exists.intro; refine ⟨fun _ => ?_, ?_⟩; (· fail); exact hK _ rfl))); try simp only [Act.put, List.setIfInBounds_toArray, List.set_cons_zero, List.set_cons_succ]))
  have O2 := Lib.hid (row_own o2)
  have O1b := Lib.hid (kb_low (b := W.heap.size + 1) (show Own w4 w2.heap.size b1 L1 from rowOwn_gr O1.out hw4) (by omega))
  clear o2 O1 hw3 hw4
  refine Oe.wpO_call (by simp only [List.getElem?_toArray, List.getElem?_cons_succ, List.getElem?_cons_zero] <;> rfl) rfl ?_
  intro QS hQS
  refine (wpList_app rfl (.tmp 7) (.tmp 11) rfl (W.heap.size + 1) b1 b2 L1 L2 rfl O1b.out rfl O2.out (by omega) (by omega) ?_)
  intro b3 w5 o3 g3
  have hhw5 : Kx (fun k => W.heap.size + 1 ≤ k) w4 w5 := kb_kx g3 (fun k hk => (kb_at O1b.out hk).1)
  refine hQS _ _ ⟨_, rfl, hhw5, ?_⟩
  clear hQS QS
  have cw5_0_0 : w5.cell? ⟨W.heap.size, 0, none⟩ = some (.int .i64 lx) := cell_kx hhw5 (by show ¬ (W.heap.size + 1 ≤ W.heap.size); omega) (by go_simp)
  have cw5_0_1 : w5.cell? ⟨W.heap.size, 1, none⟩ = some (.int .i64 ly) := cell_kx hhw5 (by show ¬ (W.heap.size + 1 ≤ W.heap.size); omega) (by go_simp)
  have cw5_0_2 : w5.cell? ⟨W.heap.size, 2, none⟩ = some (.int .i64 hx) := cell_kx hhw5 (by show ¬ (W.heap.size + 1 ≤ W.heap.size); omega) (by go_simp)
  have cw5_0_3 : w5.cell? ⟨W.heap.size, 3, none⟩ = some (.int .i64 hy) := cell_kx hhw5 (by show ¬ (W.heap.size + 1 ≤ W.heap.size); omega) (by go_simp)
  have zw5_0 : W.heap.size < w5.heap.size := World.block_lt_of_cell? _ _ cw5_0_0
  have gw5 : Gr W w5 := Kx.gr hhw5 gw4 (fun k hk => by have hk2 : W.heap.size + 1 ≤ k := hk; omega)
  have sw5 := hhw5.size
  clear gw4 zw4_0 cw4_0_0 cw4_0_1 cw4_0_2 cw4_0_3
  clear hhw5
  try simp only [Act.put, List.setIfInBounds_toArray, List.set_cons_zero, List.set_cons_succ]
  repeat (first | (refine Oe.wpO_skip (by simp only [List.getElem?_toArray, List.getElem?_cons_succ, List.getElem?_cons_zero] <;> rfl) rfl ?_; simp only [Act.put, List.setIfInBounds_toArray, List.set_cons_zero, List.set_cons_succ]) | (refine Oe.wpO_pure (by simp only [List.getElem?_toArray, List.getElem?_cons_succ, List.getElem?_cons_zero] <;> rfl) rfl ?_; apply Exists.intro; refine ⟨?_, ?_⟩; (· intro wx gx; have cx_0_0 : wx.cell? ⟨W.heap.size, 0, none⟩ = some (.int .i64 lx) := cell_kx gx (by show ¬ (W.heap.size + 1 ≤ W.heap.size); omega) cw5_0_0; have cx_0_1 : wx.cell? ⟨W.heap.size, 1, none⟩ = some (.int .i64 ly) := cell_kx gx (by show ¬ (W.heap.size + 1 ≤ W.heap.size); omega) cw5_0_1; have cx_0_2 : wx.cell? ⟨W.heap.size, 2, none⟩ = some (.int .i64 hx) := cell_kx gx (by show ¬ (W.heap.size + 1 ≤ W.heap.size); omega) cw5_0_2; have cx_0_3 : wx.cell? ⟨W.heap.size, 3, none⟩ = some (.int .i64 hy) := cell_kx gx (by show ¬ (W.heap.size + 1 ≤ W.heap.size); omega) cw5_0_3; have zx_0 : W.heap.size < wx.heap.size := World.block_lt_of_cell? _ _ cx_0_0; clear gx; all_goals (apply Oe.pAt_of_quiet; intro K hK; go_big_quiet_op; first | exact hK _ rfl | (apply Exists.intro; refine ⟨fun _ => ?_, ?_⟩; (· fail); exact hK _ rfl))); try simp only [Act.put, List.setIfInBounds_toArray, List.set_cons_zero, List.set_cons_succ]))
  have O3 := Lib.hid o3
  clear o3 O1b O2 g3
  refine Oe.wpO_nil (hKQ _ _ ?_)
  clear hKQ KQ
  go_wp2_with fail
  try simp only [List.append]
  refine Oe.wp_region_ord (R := Kx (fun k => W.heap.size + 1 ≤ k)) [(0, false), (1, false), (2, false), (3, false), (6, false), (7, false), (8, false), (4, true), (5, true), (9, true), (10, true), (11, false)] (by kernel_rfl) (by kernel_rfl) ?_
  intro w6 hw6 KQ hKQ
  have hhw6 := Kx.of_gr (S := (fun k => W.heap.size + 1 ≤ k)) hw6
  have cw6_0_0 : w6.cell? ⟨W.heap.size, 0, none⟩ = some (.int .i64 lx) := cell_kx hhw6 (by show ¬ (W.heap.size + 1 ≤ W.heap.size); omega) (by go_simp)
  have cw6_0_1 : w6.cell? ⟨W.heap.size, 1, none⟩ = some (.int .i64 ly) := cell_kx hhw6 (by show ¬ (W.heap.size + 1 ≤ W.heap.size); omega) (by go_simp)
  have cw6_0_2 : w6.cell? ⟨W.heap.size, 2, none⟩ = some (.int .i64 hx) := cell_kx hhw6 (by show ¬ (W.heap.size + 1 ≤ W.heap.size); omega) (by go_simp)
  have cw6_0_3 : w6.cell? ⟨W.heap.size, 3, none⟩ = some (.int .i64 hy) := cell_kx hhw6 (by show ¬ (W.heap.size + 1 ≤ W.heap.size); omega) (by go_simp)
  have zw6_0 : W.heap.size < w6.heap.size := World.block_lt_of_cell? _ _ cw6_0_0
  have gw6 : Gr W w6 := Kx.gr hhw6 (by have gg := gw5; have gs := gg.size; go_grown) (fun k hk => by have hk2 : W.heap.size + 1 ≤ k := hk; omega)
  have sw6 := hhw6.size
  clear gw5 zw5_0 cw5_0_0 cw5_0_1 cw5_0_2 cw5_0_3
  clear hhw6
  repeat (first | (refine Oe.wpO_skip (by simp only [List.getElem?_toArray, List.getElem?_cons_succ, List.getElem?_cons_zero] <;> rfl) rfl ?_; simp only [Act.put, List.setIfInBounds_toArray, List.set_cons_zero, List.set_cons_succ]) | (refine Oe.wpO_pure (by simp only [List.getElem?_toArray, List.getElem?_cons_succ, List.getElem?_cons_zero] <;> rfl) rfl ?_; apply Exists.intro; refine ⟨?_, ?_⟩; (· intro wx gx; have cx_0_0 : wx.cell? ⟨W.heap.size, 0, none⟩ = some (.int .i64 lx) := cell_kx gx (by show ¬ (W.heap.size + 1 ≤ W.heap.size); omega) cw6_0_0; have cx_0_1 : wx.cell? ⟨W.heap.size, 1, none⟩ = some (.int .i64 ly) := cell_kx gx (by show ¬ (W.heap.size + 1 ≤ W.heap.size); omega) cw6_0_1; have cx_0_2 : wx.cell? ⟨W.heap.size, 2, none⟩ = some (.int .i64 hx) := cell_kx gx (by show ¬ (W.heap.size + 1 ≤ W.heap.size); omega) cw6_0_2; have cx_0_3 : wx.cell? ⟨W.heap.size, 3, none⟩ = some (.int .i64 hy) := cell_kx gx (by show ¬ (W.heap.size + 1 ≤ W.heap.size); omega) cw6_0_3; have zx_0 : W.heap.size < wx.heap.size := World.block_lt_of_cell? _ _ cx_0_0; clear gx; all_goals (apply Oe.pAt_of_quiet; intro K hK; go_big_quiet_op; first | exact hK _ rfl | (apply Exists.intro; refine ⟨fun _ => ?_, ?_⟩; (· fail); exact hK _ rfl))); try simp only [Act.put, List.setIfInBounds_toArray, List.set_cons_zero, List.set_cons_succ]))
  have O6 := Lib.hid (show Own w6 (W.heap.size + 1) b3 (L1 ++ L2) from rowOwn_gr O3.out hw6)
  clear O3 hw6
  refine Oe.wpO_call (by simp only [List.getElem?_toArray, List.getElem?_cons_succ, List.getElem?_cons_zero] <;> rfl) rfl ?_
  intro QS hQS
  go_wp2_with fail
  go_at_call 72
  (with_reducible refine ((H3.out _)).mono ?_)
  rintro e w7 ⟨b4, rfl, o4, hw7⟩
  have hhw7 : Kx (fun k => W.heap.size + 1 ≤ k) w6 w7 := Kx.of_gr hw7
  go_wp2_with fail
  first | (apply Exists.intro; refine ⟨?_, hhw7, ?_⟩; (· simp only [Act.put, List.setIfInBounds_toArray, List.set_cons_zero, List.set_cons_succ]; rfl)) | (refine ⟨hhw7, ?_⟩)
  have cw7_0_0 : w7.cell? ⟨W.heap.size, 0, none⟩ = some (.int .i64 lx) := cell_kx hhw7 (by show ¬ (W.heap.size + 1 ≤ W.heap.size); omega) (by go_simp)
  have cw7_0_1 : w7.cell? ⟨W.heap.size, 1, none⟩ = some (.int .i64 ly) := cell_kx hhw7 (by show ¬ (W.heap.size + 1 ≤ W.heap.size); omega) (by go_simp)
  have cw7_0_2 : w7.cell? ⟨W.heap.size, 2, none⟩ = some (.int .i64 hx) := cell_kx hhw7 (by show ¬ (W.heap.size + 1 ≤ W.heap.size); omega) (by go_simp)
  have cw7_0_3 : w7.cell? ⟨W.heap.size, 3, none⟩ = some (.int .i64 hy) := cell_kx hhw7 (by show ¬ (W.heap.size + 1 ≤ W.heap.size); omega) (by go_simp)
  have zw7_0 : W.heap.size < w7.heap.size := World.block_lt_of_cell? _ _ cw7_0_0
  have gw7 : Gr W w7 := Kx.gr hhw7 gw6 (fun k hk => by have hk2 : W.heap.size + 1 ≤ k := hk; omega)
  have sw7 := hhw7.size
  clear gw6 zw6_0 cw6_0_0 cw6_0_1 cw6_0_2 cw6_0_3
  clear hhw7
  try simp only [Act.put, List.setIfInBounds_toArray, List.set_cons_zero, List.set_cons_succ]
  repeat (first | (refine Oe.wpO_skip (by simp only [List.getElem?_toArray, List.getElem?_cons_succ, List.getElem?_cons_zero] <;> rfl) rfl ?_; simp only [Act.put, List.setIfInBounds_toArray, List.set_cons_zero, List.set_cons_succ]) | (refine Oe.wpO_pure (by simp only [List.getElem?_toArray, List.getElem?_cons_succ, List.getElem?_cons_zero] <;> rfl) rfl ?_; apply Exists.intro; refine ⟨?_, ?_⟩; (· intro wx gx; have cx_0_0 : wx.cell? ⟨W.heap.size, 0, none⟩ = some (.int .i64 lx) := cell_kx gx (by show ¬ (W.heap.size + 1 ≤ W.heap.size); omega) cw7_0_0; have cx_0_1 : wx.cell? ⟨W.heap.size, 1, none⟩ = some (.int .i64 ly) := cell_kx gx (by show ¬ (W.heap.size + 1 ≤ W.heap.size); omega) cw7_0_1; have cx_0_2 : wx.cell? ⟨W.heap.size, 2, none⟩ = some (.int .i64 hx) := cell_kx gx (by show ¬ (W.heap.size + 1 ≤ W.heap.size); omega) cw7_0_2; have cx_0_3 : wx.cell? ⟨W.heap.size, 3, none⟩ = some (.int .i64 hy) := cell_kx gx (by show ¬ (W.heap.size + 1 ≤ W.heap.size); omega) cw7_0_3; have zx_0 : W.heap.size < wx.heap.size := World.block_lt_of_cell? _ _ cx_0_0; clear gx; all_goals (apply Oe.pAt_of_quiet; intro K hK; go_big_quiet_op; first | exact hK _ rfl | (apply Exists.intro; refine ⟨fun _ => ?_, ?_⟩; (· fail); exact hK _ rfl))); try simp only [Act.put, List.setIfInBounds_toArray, List.set_cons_zero, List.set_cons_succ]))
  have O4 := Lib.hid (row_own o4)
  have O7 := Lib.hid (show Own w7 (W.heap.size + 1) b3 (L1 ++ L2) from rowOwn_gr O6.out hw7)
  clear o4 O6 hw7
  refine Oe.wpO_call (by simp only [List.getElem?_toArray, List.getElem?_cons_succ, List.getElem?_cons_zero] <;> rfl) rfl ?_
  intro QS hQS
  refine (wpList_app rfl (.tmp 13) (.tmp 17) rfl (W.heap.size + 1) b3 b4 (L1 ++ L2) L3 rfl O7.out rfl O4.out (by simp only [List.length_append]; omega) (by omega) ?_)
  intro b5 w8 o5 g5
  have hhw8 : Kx (fun k => W.heap.size + 1 ≤ k) w7 w8 := kb_kx g5 (fun k hk => (kb_at O7.out hk).1)
  refine hQS _ _ ⟨_, rfl, hhw8, ?_⟩
  clear hQS QS
  have cw8_0_0 : w8.cell? ⟨W.heap.size, 0, none⟩ = some (.int .i64 lx) := cell_kx hhw8 (by show ¬ (W.heap.size + 1 ≤ W.heap.size); omega) (by go_simp)
  have cw8_0_1 : w8.cell? ⟨W.heap.size, 1, none⟩ = some (.int .i64 ly) := cell_kx hhw8 (by show ¬ (W.heap.size + 1 ≤ W.heap.size); omega) (by go_simp)
  have cw8_0_2 : w8.cell? ⟨W.heap.size, 2, none⟩ = some (.int .i64 hx) := cell_kx hhw8 (by show ¬ (W.heap.size + 1 ≤ W.heap.size); omega) (by go_simp)
  have cw8_0_3 : w8.cell? ⟨W.heap.size, 3, none⟩ = some (.int .i64 hy) := cell_kx hhw8 (by show ¬ (W.heap.size + 1 ≤ W.heap.size); omega) (by go_simp)
  have zw8_0 : W.heap.size < w8.heap.size := World.block_lt_of_cell? _ _ cw8_0_0
  have gw8 : Gr W w8 := Kx.gr hhw8 gw7 (fun k hk => by have hk2 : W.heap.size + 1 ≤ k := hk; omega)
  have sw8 := hhw8.size
  clear gw7 zw7_0 cw7_0_0 cw7_0_1 cw7_0_2 cw7_0_3
  clear hhw8
  try simp only [Act.put, List.setIfInBounds_toArray, List.set_cons_zero, List.set_cons_succ]
  repeat (first | (refine Oe.wpO_skip (by simp only [List.getElem?_toArray, List.getElem?_cons_succ, List.getElem?_cons_zero] <;> rfl) rfl ?_; simp only [Act.put, List.setIfInBounds_toArray, List.set_cons_zero, List.set_cons_succ]) | (refine Oe.wpO_pure (by simp only [List.getElem?_toArray, List.getElem?_cons_succ, List.getElem?_cons_zero] <;> rfl) rfl ?_; apply Exists.intro; refine ⟨?_, ?_⟩; (· intro wx gx; have cx_0_0 : wx.cell? ⟨W.heap.size, 0, none⟩ = some (.int .i64 lx) := cell_kx gx (by show ¬ (W.heap.size + 1 ≤ W.heap.size); omega) cw8_0_0; have cx_0_1 : wx.cell? ⟨W.heap.size, 1, none⟩ = some (.int .i64 ly) := cell_kx gx (by show ¬ (W.heap.size + 1 ≤ W.heap.size); omega) cw8_0_1; have cx_0_2 : wx.cell? ⟨W.heap.size, 2, none⟩ = some (.int .i64 hx) := cell_kx gx (by show ¬ (W.heap.size + 1 ≤ W.heap.size); omega) cw8_0_2; have cx_0_3 : wx.cell? ⟨W.heap.size, 3, none⟩ = some (.int .i64 hy) := cell_kx gx (by show ¬ (W.heap.size + 1 ≤ W.heap.size); omega) cw8_0_3; have zx_0 : W.heap.size < wx.heap.size := World.block_lt_of_cell? _ _ cx_0_0; clear gx; all_goals (apply Oe.pAt_of_quiet; intro K hK; go_big_quiet_op; first | exact hK _ rfl | (apply Exists.intro; refine ⟨fun _ => ?_, ?_⟩; (· fail); exact hK _ rfl))); try simp only [Act.put, List.setIfInBounds_toArray, List.set_cons_zero, List.set_cons_succ]))
  have O8 := Lib.hid o5
  clear o5 O7 O4 g5
  refine Oe.wpO_call (by simp only [List.getElem?_toArray, List.getElem?_cons_succ, List.getElem?_cons_zero] <;> rfl) rfl ?_
  intro QS hQS
  go_wp2_with fail
  go_at_call 72
  (with_reducible refine ((H4.out _)).mono ?_)
  rintro e w9 ⟨b6, rfl, o6, hw9⟩
  have hhw9 : Kx (fun k => W.heap.size + 1 ≤ k) w8 w9 := Kx.of_gr hw9
  go_wp2_with fail
  first | (apply Exists.intro; refine ⟨?_, hhw9, ?_⟩; (· simp only [Act.put, List.setIfInBounds_toArray, List.set_cons_zero, List.set_cons_succ]; rfl)) | (refine ⟨hhw9, ?_⟩)
  have cw9_0_0 : w9.cell? ⟨W.heap.size, 0, none⟩ = some (.int .i64 lx) := cell_kx hhw9 (by show ¬ (W.heap.size + 1 ≤ W.heap.size); omega) (by go_simp)
  have cw9_0_1 : w9.cell? ⟨W.heap.size, 1, none⟩ = some (.int .i64 ly) := cell_kx hhw9 (by show ¬ (W.heap.size + 1 ≤ W.heap.size); omega) (by go_simp)
  have cw9_0_2 : w9.cell? ⟨W.heap.size, 2, none⟩ = some (.int .i64 hx) := cell_kx hhw9 (by show ¬ (W.heap.size + 1 ≤ W.heap.size); omega) (by go_simp)
  have cw9_0_3 : w9.cell? ⟨W.heap.size, 3, none⟩ = some (.int .i64 hy) := cell_kx hhw9 (by show ¬ (W.heap.size + 1 ≤ W.heap.size); omega) (by go_simp)
  have zw9_0 : W.heap.size < w9.heap.size := World.block_lt_of_cell? _ _ cw9_0_0
  have gw9 : Gr W w9 := Kx.gr hhw9 gw8 (fun k hk => by have hk2 : W.heap.size + 1 ≤ k := hk; omega)
  have sw9 := hhw9.size
  clear gw8 zw8_0 cw8_0_0 cw8_0_1 cw8_0_2 cw8_0_3
  clear hhw9
  try simp only [Act.put, List.setIfInBounds_toArray, List.set_cons_zero, List.set_cons_succ]
  repeat (first | (refine Oe.wpO_skip (by simp only [List.getElem?_toArray, List.getElem?_cons_succ, List.getElem?_cons_zero] <;> rfl) rfl ?_; simp only [Act.put, List.setIfInBounds_toArray, List.set_cons_zero, List.set_cons_succ]) | (refine Oe.wpO_pure (by simp only [List.getElem?_toArray, List.getElem?_cons_succ, List.getElem?_cons_zero] <;> rfl) rfl ?_; apply Exists.intro; refine ⟨?_, ?_⟩; (· intro wx gx; have cx_0_0 : wx.cell? ⟨W.heap.size, 0, none⟩ = some (.int .i64 lx) := cell_kx gx (by show ¬ (W.heap.size + 1 ≤ W.heap.size); omega) cw9_0_0; have cx_0_1 : wx.cell? ⟨W.heap.size, 1, none⟩ = some (.int .i64 ly) := cell_kx gx (by show ¬ (W.heap.size + 1 ≤ W.heap.size); omega) cw9_0_1; have cx_0_2 : wx.cell? ⟨W.heap.size, 2, none⟩ = some (.int .i64 hx) := cell_kx gx (by show ¬ (W.heap.size + 1 ≤ W.heap.size); omega) cw9_0_2; have cx_0_3 : wx.cell? ⟨W.heap.size, 3, none⟩ = some (.int .i64 hy) := cell_kx gx (by show ¬ (W.heap.size + 1 ≤ W.heap.size); omega) cw9_0_3; have zx_0 : W.heap.size < wx.heap.size := World.block_lt_of_cell? _ _ cx_0_0; clear gx; all_goals (apply Oe.pAt_of_quiet; intro K hK; go_big_quiet_op; first | exact hK _ rfl | (apply Exists.intro; refine ⟨fun _ => ?_, ?_⟩; (· fail); exact hK _ rfl))); try simp only [Act.put, List.setIfInBounds_toArray, List.set_cons_zero, List.set_cons_succ]))
  have O9 := Lib.hid (row_own o6)
  have O10 := Lib.hid (show Own w9 (W.heap.size + 1) b5 (L1 ++ L2 ++ L3) from rowOwn_gr O8.out hw9)
  clear o6 O8 hw9
  refine Oe.wpO_call (by simp only [List.getElem?_toArray, List.getElem?_cons_succ, List.getElem?_cons_zero] <;> rfl) rfl ?_
  intro QS hQS
  refine (wpList_app rfl (.tmp 18) (.tmp 22) rfl (W.heap.size + 1) b5 b6 (L1 ++ L2 ++ L3) L4 rfl O10.out rfl O9.out (by simp only [List.length_append]; omega) (by omega) ?_)
  intro b7 wa o7 g7
  have hhwa : Kx (fun k => W.heap.size + 1 ≤ k) w9 wa := kb_kx g7 (fun k hk => (kb_at O10.out hk).1)
  refine hQS _ _ ⟨_, rfl, hhwa, ?_⟩
  clear hQS QS
  have cwa_0_0 : wa.cell? ⟨W.heap.size, 0, none⟩ = some (.int .i64 lx) := cell_kx hhwa (by show ¬ (W.heap.size + 1 ≤ W.heap.size); omega) (by go_simp)
  have cwa_0_1 : wa.cell? ⟨W.heap.size, 1, none⟩ = some (.int .i64 ly) := cell_kx hhwa (by show ¬ (W.heap.size + 1 ≤ W.heap.size); omega) (by go_simp)
  have cwa_0_2 : wa.cell? ⟨W.heap.size, 2, none⟩ = some (.int .i64 hx) := cell_kx hhwa (by show ¬ (W.heap.size + 1 ≤ W.heap.size); omega) (by go_simp)
  have cwa_0_3 : wa.cell? ⟨W.heap.size, 3, none⟩ = some (.int .i64 hy) := cell_kx hhwa (by show ¬ (W.heap.size + 1 ≤ W.heap.size); omega) (by go_simp)
  have zwa_0 : W.heap.size < wa.heap.size := World.block_lt_of_cell? _ _ cwa_0_0
  have gwa : Gr W wa := Kx.gr hhwa gw9 (fun k hk => by have hk2 : W.heap.size + 1 ≤ k := hk; omega)
  have swa := hhwa.size
  clear gw9 zw9_0 cw9_0_0 cw9_0_1 cw9_0_2 cw9_0_3
  clear hhwa
  try simp only [Act.put, List.setIfInBounds_toArray, List.set_cons_zero, List.set_cons_succ]
  repeat (first | (refine Oe.wpO_skip (by simp only [List.getElem?_toArray, List.getElem?_cons_succ, List.getElem?_cons_zero] <;> rfl) rfl ?_; simp only [Act.put, List.setIfInBounds_toArray, List.set_cons_zero, List.set_cons_succ]) | (refine Oe.wpO_pure (by simp only [List.getElem?_toArray, List.getElem?_cons_succ, List.getElem?_cons_zero] <;> rfl) rfl ?_; apply Exists.intro; refine ⟨?_, ?_⟩; (· intro wx gx; have cx_0_0 : wx.cell? ⟨W.heap.size, 0, none⟩ = some (.int .i64 lx) := cell_kx gx (by show ¬ (W.heap.size + 1 ≤ W.heap.size); omega) cwa_0_0; have cx_0_1 : wx.cell? ⟨W.heap.size, 1, none⟩ = some (.int .i64 ly) := cell_kx gx (by show ¬ (W.heap.size + 1 ≤ W.heap.size); omega) cwa_0_1; have cx_0_2 : wx.cell? ⟨W.heap.size, 2, none⟩ = some (.int .i64 hx) := cell_kx gx (by show ¬ (W.heap.size + 1 ≤ W.heap.size); omega) cwa_0_2; have cx_0_3 : wx.cell? ⟨W.heap.size, 3, none⟩ = some (.int .i64 hy) := cell_kx gx (by show ¬ (W.heap.size + 1 ≤ W.heap.size); omega) cwa_0_3; have zx_0 : W.heap.size < wx.heap.size := World.block_lt_of_cell? _ _ cx_0_0; clear gx; all_goals (apply Oe.pAt_of_quiet; intro K hK; go_big_quiet_op; first | exact hK _ rfl | (apply Exists.intro; refine ⟨fun _ => ?_, ?_⟩; (· fail); exact hK _ rfl))); try simp only [Act.put, List.setIfInBounds_toArray, List.set_cons_zero, List.set_cons_succ]))
  have O11 := Lib.hid o7
  clear o7 O10 O9 g7
  refine Oe.wpO_nil (hKQ _ _ ?_)
  clear hKQ KQ
  go_wp2_with fail
  go_ret
  exact ⟨_, rfl, kb_low O11.out (by omega), gwa⟩
end Go.Proofs.YtlkciinhhagjiaaDoor
