/- slots: a page with whatever slots: what is refused; Get, Set, Slots, Free, New -/
import Derived.Test.YtilijbplfobneaaDoorSf
namespace Go.Proofs.YtilijbplfobneaaDoor
set_option linter.unusedVariables false
set_option linter.unusedSimpArgs false
open Go.ChangeShapes Go.WideShapes Go.ChangeAt Go.RowKit

theorem news1 {w : World} {B : Nat} {a : Value} (h0 : w.cell? ⟨B, 0, none⟩ = some a) : ∀ j u, [a][j]? = some u → w.cell? ((⟨B, 0, none⟩ : Addr).add j) = some u := by
  intro j u hj
  have e : (⟨B, 0, none⟩ : Addr).add j = ⟨B, j, none⟩ := by unfold Addr.add; split <;> simp_all
  rw [e]
  match j, hj with
  | 0, hj => simp at hj; subst hj; exact h0
  | j + 1, hj => simp at hj
section
variable {B : Nat} {C : Option Nat} {kd id : Int} {S : List Sl}
theorem p_delete_no (n : Int) (hh : hasS S n = false) (W : World) (h : PageS W B C kd id S) :
    Calls Tryd.prog 16 #[.pointer (some ⟨B, 0, none⟩), .int .i64 n] W fun e w' => ∃ F, e = .returned (.iface 84 (.pointer (some ⟨F, 0, none⟩))) ∧ FaultAt w' F pageS n 15 ∧ Gr W w' := by
  have A1 := fun w (g : Gr W w) => p_hasS n w (pageS_gr h g)
  rw [hh] at A1
  clear h hh
  have H1 := Lib.hid A1
  clear A1
  go_enter Tryd.func16, Tryd.ntmps16
  go_wp2_with fail
  go_at_call 49
  refine ((H1.out _ (by go_grown))).mono ?_
  rintro e w1 ⟨rfl, hw1⟩
  have gw1 : Gr W w1 := Gr.trans (by go_grown) hw1
  clear hw1
  go_wp2_with fail
  go_at_call 42
  refine (c_fNew pageS n 15 _).mono ?_
  rintro e w3 ⟨F, rfl, hf, g3⟩
  go_wp2_with fail
  go_ret
  exact ⟨F, rfl, hf, Gr.trans (by have gg := gw1; have gs := gg.size; go_grown) g3⟩
theorem p_get_no (n : Int) (hh : hasS S n = false) (W : World) (h : PageS W B C kd id S) :
    Calls Tryd.prog 18 #[.pointer (some ⟨B, 0, none⟩), .int .i64 n] W fun e w' => ∃ F, e = .returned (.tuple #[.slice none 0 0, .iface 84 (.pointer (some ⟨F, 0, none⟩))]) ∧ FaultAt w' F pageS n 15 ∧ Gr W w' := by
  have A1 := fun w (g : Gr W w) => p_hasS n w (pageS_gr h g)
  rw [hh] at A1
  clear h hh
  have H1 := Lib.hid A1
  clear A1
  go_enter Tryd.func18, Tryd.ntmps18
  go_wp2_with fail
  go_at_call 49
  refine ((H1.out _ (by go_grown))).mono ?_
  rintro e w1 ⟨rfl, hw1⟩
  have gw1 : Gr W w1 := Gr.trans (by go_grown) hw1
  clear hw1
  go_wp2_with fail
  go_at_call 42
  refine (c_fNew pageS n 15 _).mono ?_
  rintro e w3 ⟨F, rfl, hf, g3⟩
  go_wp2_with fail
  go_ret2
  exact ⟨F, rfl, hf, Gr.trans (by have gg := gw1; have gs := gg.size; go_grown) g3⟩
set_option maxHeartbeats 1000000 in
theorem p_getS {L : List UInt8} (n : Nat) (hh : S.getD n none = some L) (W : World) (h : PageS W B C kd id S) :
    Calls Tryd.prog 18 #[.pointer (some ⟨B, 0, none⟩), .int .i64 n] W fun e w' => ∃ ad c, e = .returned (.tuple #[.slice ad L.length c, .nilIface]) ∧ Own w' W.heap.size (.slice ad L.length c) L ∧ Gr W w' := by
  have hs : (S.getD n none).isSome = true := by rw [hh]; rfl
  have hlt := has_lt hs
  obtain ⟨D, rfl⟩ := pageS_some h (by omega)
  have A1 := fun w (g : Gr W w) => p_hasS (n : Int) w (pageS_gr h g)
  rw [hasS_nat, hs] at A1
  have u2 : (n : Int) < (S.length : Int) := by omega
  have u3 : (0 : Int) ≤ (n : Int) := by omega
  have hB := pageS_lt h
  obtain ⟨cap3, pq, hc3, hc32, sD, hDB, hcc⟩ := pageS_cellsD h
  obtain ⟨c0, c1, c2, c3, v3⟩ := pq
  obtain ⟨d0, ⟨v, d1, hS⟩, -⟩ := hcc n hlt
  have hL : S[n] = some L := by rw [← getD_lt S hlt]; exact hh
  rw [hL] at hS d0
  have hR := hS.2.1.1
  have hl := hS.2.2
  obtain ⟨da, dc, hv⟩ : ∃ da dc, v = .slice da L.length dc := by obtain ⟨da, dc, _, _, e, _⟩ := hR; exact ⟨da, dc, e⟩
  subst hv
  have A2 : ∀ w, Gr W w → Calls Tryd.prog 52 #[.slice da L.length dc] w fun e w' => ∃ g5 cp5, e = .returned (.slice g5 L.length cp5) ∧ Own w' W.heap.size (.slice g5 L.length cp5) L ∧ Gr w w' := fun w G => by
    refine (c_bCloneR w (row_gr hR G) (by omega)).mono ?_
    rintro e w' ⟨g5, cp5, rfl, o5, g⟩
    exact ⟨g5, cp5, rfl, own_base o5 G.size, g⟩
  clear h hh hs hcc hS hL hlt hR
  generalize S.length = len at *
  have H1 := Lib.hid A1
  have H2 := Lib.hid A2
  clear A1 A2
  go_enter Tryd.func18, Tryd.ntmps18
  go_wp2_with fail
  go_at_call 49
  refine ((H1.out _ (by go_grown))).mono ?_
  rintro e w1 ⟨rfl, hw1⟩
  have cw1_0_0 : w1.cell? ⟨B, 0, none⟩ = some (.bool true) := cell_gr hw1 (by go_simp)
  have cw1_0_1 : w1.cell? ⟨B, 1, none⟩ = some (.int .i64 kd) := cell_gr hw1 (by go_simp)
  have cw1_0_2 : w1.cell? ⟨B, 2, none⟩ = some (.int .i64 id) := cell_gr hw1 (by go_simp)
  have cw1_0_3 : w1.cell? ⟨B, 3, none⟩ = some (.slice (some ⟨D, 0, none⟩) len cap3) := cell_gr hw1 (by go_simp)
  have zw1_0 : B < w1.heap.size := World.block_lt_of_cell? _ _ cw1_0_0
  have cw1_1_0 : w1.cell? ⟨D, n * 2, none⟩ = some (.bool (some L).isSome) := cell_gr hw1 (by go_simp)
  have cw1_1_1 : w1.cell? ⟨D, n * 2 + 1, none⟩ = some (.slice da L.length dc) := cell_gr hw1 (by go_simp)
  have zw1_1 : D < w1.heap.size := World.block_lt_of_cell? _ _ cw1_1_0
  have gw1 : Gr W w1 := Gr.trans (by go_grown) hw1
  clear hw1
  go_wp2_with fail
  go_at_call 52
  refine (H2.out _ (by have gg := gw1; have gs := gg.size; go_grown)).mono ?_
  rintro e w3 ⟨g5, cp5, rfl, o5, g3⟩
  have HO := Lib.hid o5
  clear o5
  go_wp2_with fail
  go_ret2
  exact ⟨g5, cp5, rfl, HO.out, Gr.trans (by have gg := gw1; have gs := gg.size; go_grown) g3⟩
theorem p_freeS (W : World) (h : PageS W B C kd id S) : Calls Tryd.prog 40 #[.pointer (some ⟨B, 0, none⟩)] W fun e w' => e = .returned (.int .i64 (512 - (usS S : Nat))) ∧ Gr W w' := by
  have hus := usS_le h
  have A2 := fun w (g : Gr W w) => p_usedS w (pageS_gr h g)
  obtain ⟨D, sa, scap, hp, -⟩ := pageS_cells h
  have A1 := fun w (g : Gr W w) => p_none w (pageAt_gr hp g)
  have hB := pageS_lt h
  generalize usS S = us at *
  have e1 : wrap64 (512 - (us : Int)) = 512 - (us : Int) := wr_small (by omega)
  have e2 : IntKind.i64.wrap (512 - (us : Int)) = 512 - (us : Int) := wk_small (by omega)
  clear h hp hus
  have H1 := Lib.hid A1
  have H2 := Lib.hid A2
  clear A1 A2
  go_enter Tryd.func40, Tryd.ntmps40
  go_wp2_with fail
  go_at_call 55
  refine ((H1.out _ (by go_grown))).mono ?_
  rintro e w1 ⟨rfl, hw1⟩
  have gw1 : Gr W w1 := Gr.trans (by go_grown) hw1
  clear hw1
  go_wp2_with fail
  go_at_call 77
  refine ((H2.out _ (by have gg := gw1; have gs := gg.size; go_grown))).mono ?_
  rintro e w2 ⟨rfl, hw2⟩
  have gw2 : Gr W w2 := Gr.trans (by have gg := gw1; have gs := gg.size; go_grown) hw2
  clear hw2 gw1
  go_wp2_with fail
  go_ret
  exact ⟨rfl, gw2⟩
theorem p_newS (kd id : Int) (h : 0 ≤ kd ∧ kd ≤ 255 ∧ 0 ≤ id ∧ id ≤ 4294967295) (W : World) : Calls Tryd.prog 7 #[.int .i64 kd, .int .i64 id] W fun e w' => ∃ B, e = .returned (.tuple #[.pointer (some ⟨B, 0, none⟩), .nilIface]) ∧ W.heap.size ≤ B ∧ PageS w' B none kd id [] ∧ Gr W w' := by
  obtain ⟨h1, h2, h3, h4⟩ := h
  have t1 : decide (kd < 0) = false := decide_eq_false (by omega)
  have t2 : decide ((255 : Int) < kd) = false := decide_eq_false (by omega)
  have t3 : decide (id < 0) = false := decide_eq_false (by omega)
  have t4 : decide ((4294967295 : Int) < id) = false := decide_eq_false (by omega)
  go_enter Tryd.func7, Tryd.ntmps7
  go_wp2_with fail
  go_ret2
  exact ⟨_, rfl, Nat.le_refl _, ⟨.slice none 0 0, [], ⟨by go_simp, by go_simp, by go_simp, by go_simp, by go_simp⟩, rfl, by simp, by simp, World.ownsRow_nil _ _ _ _, fun j hj => absurd hj (by simp)⟩, by go_grown⟩
/-- The slots that are not free. -/
def idxT (S : List Sl) : Nat → List Nat
  | 0 => []
  | i + 1 => idxT S i ++ (if (S.getD i none).isSome then [i] else [])
theorem idxT_le (S : List Sl) : ∀ i, (idxT S i).length ≤ i
  | 0 => Nat.le_refl _
  | i + 1 => by
    have := idxT_le S i
    simp only [idxT, List.length_append]
    split <;> simp <;> omega
abbrev intL (l : List Nat) : List Value := l.map fun (k : Nat) => Value.int .i64 (k : Int)
set_option maxHeartbeats 2000000 in
set_option maxRecDepth 100000 in
theorem p_slotsS (W : World) (h : PageS W B C kd id S) : Calls Tryd.prog 61 #[.pointer (some ⟨B, 0, none⟩)] W fun e w' => ∃ ad c, e = .returned (.slice ad (idxT S S.length).length c) ∧ w'.ownsRow W.heap.size 3 1 (.slice ad (idxT S S.length).length c) (idxT S S.length).length (intL (idxT S S.length)) ∧ Gr W w' := by
  obtain ⟨i0, hi0, hz0, hz1, hz2⟩ := info_parts (P := Tryd.prog) (e := 3) (z := .int .i64 0) (size := 1) (bytes := 8) (by kernel_rfl)
  have HI := Lib.hid (And.intro hi0 (And.intro hz0 (And.intro hz1 hz2)))
  clear hi0 hz0 hz1 hz2
  have hB := pageS_lt h
  obtain ⟨D, sa, cap, hp, had, hn, hcap, hcap2, hcc⟩ := pageS_cells h
  have A1 := fun w (g : Gr W w) => p_none w (pageAt_gr hp g)
  obtain ⟨p0, p1, p2, p3, f3⟩ := hp
  have hc' : ∀ j, j < S.length → W.cell? ⟨D, j * 2, none⟩ = some (.bool (S.getD j none).isSome) ∧ ∃ a z c, W.cell? ⟨D, j * 2 + 1, none⟩ = some (.slice a z c) := fun j hj => by
    obtain ⟨e1, ⟨v, e2, e3⟩⟩ := hcc j hj
    obtain ⟨a, c, rfl⟩ := slotC_val e3
    rw [getD_lt S hj]
    exact ⟨e1, a, _, c, e2⟩
  have hT : ∀ i, idxT S (i + 1) = idxT S i ++ (if (S.getD i none).isSome then [i] else []) := fun i => rfl
  have hT0 : idxT S 0 = [] := rfl
  have hTl := idxT_le S
  generalize idxT S = T at hT hT0 hTl ⊢
  generalize hq : (fun j => (S.getD j none).isSome) = q at *
  have hqe : ∀ j, (S.getD j none).isSome = q j := fun j => by rw [← hq]
  simp only [hqe] at hc' hT
  clear hcc h hq hqe
  generalize S.length = n at *
  have HC := Lib.hid hc'
  have HT := Lib.hid hT
  have HT0 := Lib.hid hT0
  have HTl := Lib.hid hTl
  have O2 : ∀ (w : World), (w.alloc (.cells #[] 3)).ownsRow w.heap.size 3 1 (.slice (some ⟨w.heap.size, 0, none⟩) 0 0) 0 [] := fun w =>
    World.ownsRow_lit (base := w.heap.size) (e := 3) (size := 1) w #[] 0 (Nat.le_refl _) (by decide) (by simp)
  clear hc' hT hT0 hTl
  have H1 := Lib.hid A1
  have H2 := Lib.hid O2
  clear A1 O2
  go_enter Tryd.func61, Tryd.ntmps61
  go_wp2_with fail
  go_at_call 55
  refine (H1.out _ (by go_grown)).mono ?_
  rintro e w1 ⟨rfl, hw1⟩
  have o1 := rowOwn_gr (H2.out W) hw1
  have g1 : Gr W w1 := Gr.trans (by go_grown) hw1
  have q3 := cell_gr g1 p3
  have s1 := g1.size
  have HO := Lib.hid o1
  clear o1 hw1 H2
  go_wp2_with fail
  go_loopg [3, 15] n (fun k x y wr => ∃ (i : Nat) (ad : Option Addr) (c : Nat), x = .slice ad (T i).length c ∧ y = .int .i64 i ∧ i ≤ n ∧ k = n - i ∧ Hid (wr.ownsRow W.heap.size 3 1 (.slice ad (T i).length c) (T i).length (intL (T i))) ∧ Gr W wr)
  case atStart => exact ⟨0, some ⟨W.heap.size, 0, none⟩, 0, by rw [HT0.out]; rfl, rfl, by omega, by omega, Lib.hid (by rw [HT0.out]; exact HO.out), g1⟩
  case round =>
    obtain ⟨i, ad, c, rfl, rfl, hi, hk, HR, hg⟩ := hrel
    by_cases hin : i < n
    · have ti : decide ((i : Int) < (n : Int)) = true := decide_eq_true (by omega)
      have ti2 : decide (i < n) = true := decide_eq_true hin
      have ti3 : (i : Int) < (n : Int) := by omega
      have ti4 : (i : Int) < (cap : Int) := by omega
      obtain rfl := had (by omega)
      obtain ⟨k0, a1, z1, k1, k2⟩ := HC.out i hin
      have q0 := cell_gr hg k0
      have q1 := cell_gr hg k2
      have sD := World.block_lt_of_cell? _ _ q0
      have hT1 := HT.out i
      have hle := HTl.out i
      have gs := hg.size
      generalize q i = b at q0 hT1
      clear k0 k2
      cases b with
      | false =>
        have e : T (i + 1) = T i := by rw [hT1]; simp
        clear hT1
        go_wp2_with fail
        go_roundg (n - (i + 1))
        case measure => omega
        case rel => exact ⟨i + 1, ad, c, by rw [e], by go_num, by omega, by omega, Lib.hid (by rw [e]; exact rowOwn_gr HR.out (by go_grown)), by go_grown⟩
      | true =>
        have e : T (i + 1) = T i ++ [i] := by rw [hT1]; simp
        have el : (T (i + 1)).length = (T i).length + 1 := by rw [e]; simp
        have ev : intL (T (i + 1)) = intL (T i) ++ [.int .i64 i] := by rw [e]; simp [intL]
        have HE := Lib.hid (And.intro el ev)
        clear hT1 e el ev
        generalize hl : (T i).length = l at *
        go_wp2_with (at_builtin; (refine wpList_append_own2 _ rfl (.tmp 22) (.tmp 24) 100 rfl W.heap.size 3 i0 (.int .i64 0) 1 8 Tryd.underlying100 HI.out.1 HI.out.2.1 HI.out.2.2.1 HI.out.2.2.2 rfl (by decide) (.slice ad l c) l (intL (T i)) rfl (rowOwn_gr HR.out (by go_grown)) ⟨wr.heap.size + 1, 0, none⟩ 1 1 [.int .i64 i] rfl rfl (news1 (by go_simp)) (by intro u hu; simp only [List.mem_cons, List.not_mem_nil, or_false] at hu; subst hu; rfl) (by unfold maxLen; omega) (by omega) (by simp; omega) ?_); intro x2 w2 o2 g2; (have G2 : Gr W w2 := g2.gr (by go_grown) (fun k hk => (World.ownsRow.lt HR.out k hk).1)); (obtain ⟨gx, cx, rfl, -⟩ := row_form o2 (by omega)); (have HO2 := Lib.hid o2); clear o2)
        go_roundg (n - (i + 1))
        case measure => omega
        case rel => exact ⟨i + 1, some ⟨gx, 0, none⟩, cx, by rw [HE.out.1], by go_num, by omega, by omega, Lib.hid (by rw [HE.out.1, HE.out.2]; exact HO2.out), G2⟩
    · obtain rfl : i = n := by omega
      have ti : decide ((i : Int) < (i : Int)) = false := decide_eq_false (by omega)
      have ti3 : ¬ (i : Int) < (i : Int) := by omega
      go_wp2_with fail
      go_ret
      exact ⟨ad, c, rfl, HR.out, hg⟩
end
end Go.Proofs.YtilijbplfobneaaDoor
