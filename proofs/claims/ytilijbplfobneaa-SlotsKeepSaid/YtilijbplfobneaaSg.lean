/- slots: a page with whatever slots: what is refused; Get, Set, Slots, Free, New -/
import Derived.Test.YtilijbplfobneaaSf
namespace Go.Proofs.Ytilijbplfobneaa
set_option linter.unusedVariables false
set_option linter.unusedSimpArgs false
open Go.ChangeShapes Go.WideShapes Go.ChangeAt Go.RowKit

theorem news1 {w : World} {B : Nat} {a : Value} (h0 : w.cell? ⟨B, 0, none⟩ = some a) : ∀ j u, [a][j]? = some u → w.cell? ((⟨B, 0, none⟩ : Addr).add j) = some u := by
  intro j u hj
  have e : (⟨B, 0, none⟩ : Addr).add j = ⟨B, j, none⟩ := by unfold Addr.add; split <;> simp_all
  rw [e]
  match j, hj with
  | 0, hj => simp at hj; subst hj; exact h0
  | j + 1, hj => simp at hj
section
variable {B : Nat} {C : Option Nat} {kd id : Int} {S : List Sl}
theorem p_delete_no (n : Int) (hh : hasS S n = false) (W : World) (h : PageS W B C kd id S) :
    Calls Try.prog 10 #[.pointer (some ⟨B, 0, none⟩), .int .i64 n] W fun e w' => ∃ F, e = .returned (.iface 55 (.pointer (some ⟨F, 0, none⟩))) ∧ FaultAt w' F pageS n 15 ∧ Gr W w' := by
  have A1 := fun w (g : Gr W w) => p_hasS n w (pageS_gr h g)
  rw [hh] at A1
  clear h hh
  have H1 := Lib.hid A1
  clear A1
  go_enter Try.func10, Try.ntmps10
  go_wp2_with fail
  go_at_call 19
  refine ((H1.out _ (by go_grown))).mono ?_
  rintro e w1 ⟨rfl, hw1⟩
  have gw1 : Gr W w1 := Gr.trans (by go_grown) hw1
  clear hw1
  go_wp2_with fail
  go_at_call 15
  refine (c_fNew pageS n 15 _).mono ?_
  rintro e w3 ⟨F, rfl, hf, g3⟩
  go_wp2_with fail
  go_ret
  exact ⟨F, rfl, hf, Gr.trans (by have gg := gw1; have gs := gg.size; go_grown) g3⟩
theorem p_get_no (n : Int) (hh : hasS S n = false) (W : World) (h : PageS W B C kd id S) :
    Calls Try.prog 11 #[.pointer (some ⟨B, 0, none⟩), .int .i64 n] W fun e w' => ∃ F, e = .returned (.tuple #[.slice none 0 0, .iface 55 (.pointer (some ⟨F, 0, none⟩))]) ∧ FaultAt w' F pageS n 15 ∧ Gr W w' := by
  have A1 := fun w (g : Gr W w) => p_hasS n w (pageS_gr h g)
  rw [hh] at A1
  clear h hh
  have H1 := Lib.hid A1
  clear A1
  go_enter Try.func11, Try.ntmps11
  go_wp2_with fail
  go_at_call 19
  refine ((H1.out _ (by go_grown))).mono ?_
  rintro e w1 ⟨rfl, hw1⟩
  have gw1 : Gr W w1 := Gr.trans (by go_grown) hw1
  clear hw1
  go_wp2_with fail
  go_at_call 15
  refine (c_fNew pageS n 15 _).mono ?_
  rintro e w3 ⟨F, rfl, hf, g3⟩
  go_wp2_with fail
  go_ret2
  exact ⟨F, rfl, hf, Gr.trans (by have gg := gw1; have gs := gg.size; go_grown) g3⟩
set_option maxHeartbeats 1000000 in
theorem p_getS {L : List UInt8} (n : Nat) (hh : S.getD n none = some L) (W : World) (h : PageS W B C kd id S) :
    Calls Try.prog 11 #[.pointer (some ⟨B, 0, none⟩), .int .i64 n] W fun e w' => ∃ ad c, e = .returned (.tuple #[.slice ad L.length c, .nilIface]) ∧ Own w' W.heap.size (.slice ad L.length c) L ∧ Gr W w' := by
  have hs : (S.getD n none).isSome = true := by rw [hh]; rfl
  have hlt := has_lt hs
  obtain ⟨D, rfl⟩ := pageS_some h (by omega)
  have A1 := fun w (g : Gr W w) => p_hasS (n : Int) w (pageS_gr h g)
  rw [hasS_nat, hs] at A1
  have u2 : (n : Int) < (S.length : Int) := by omega
  have u3 : (0 : Int) ≤ (n : Int) := by omega
  have hB := pageS_lt h
  obtain ⟨cap3, pq, hc3, hc32, sD, hDB, hcc⟩ := pageS_cellsD h
  obtain ⟨c0, c1, c2, c3, v3⟩ := pq
  obtain ⟨d0, ⟨v, d1, hS⟩, -⟩ := hcc n hlt
  have hL : S[n] = some L := by rw [← getD_lt S hlt]; exact hh
  rw [hL] at hS d0
  have hR := hS.2.1.1
  have hl := hS.2.2
  obtain ⟨da, dc, hv⟩ : ∃ da dc, v = .slice da L.length dc := by obtain ⟨da, dc, _, _, e, _⟩ := hR; exact ⟨da, dc, e⟩
  subst hv
  have A2 : ∀ w, Gr W w → Calls Try.prog 20 #[.slice da L.length dc] w fun e w' => ∃ g5 cp5, e = .returned (.slice g5 L.length cp5) ∧ Own w' W.heap.size (.slice g5 L.length cp5) L ∧ Gr w w' := fun w G => by
    refine (c_bCloneR w (row_gr hR G) (by omega)).mono ?_
    rintro e w' ⟨g5, cp5, rfl, o5, g⟩
    exact ⟨g5, cp5, rfl, own_base o5 G.size, g⟩
  clear h hh hs hcc hS hL hlt hR
  generalize S.length = len at *
  have H1 := Lib.hid A1
  have H2 := Lib.hid A2
  clear A1 A2
  go_enter Try.func11, Try.ntmps11
  go_wp2_with fail
  go_at_call 19
  refine ((H1.out _ (by go_grown))).mono ?_
  rintro e w1 ⟨rfl, hw1⟩
  have cw1_0_0 : w1.cell? ⟨B, 0, none⟩ = some (.bool true) := cell_gr hw1 (by go_simp)
  have cw1_0_1 : w1.cell? ⟨B, 1, none⟩ = some (.int .i64 kd) := cell_gr hw1 (by go_simp)
  have cw1_0_2 : w1.cell? ⟨B, 2, none⟩ = some (.int .i64 id) := cell_gr hw1 (by go_simp)
  have cw1_0_3 : w1.cell? ⟨B, 3, none⟩ = some (.slice (some ⟨D, 0, none⟩) len cap3) := cell_gr hw1 (by go_simp)
  have zw1_0 : B < w1.heap.size := World.block_lt_of_cell? _ _ cw1_0_0
  have cw1_1_0 : w1.cell? ⟨D, n * 2, none⟩ = some (.bool (some L).isSome) := cell_gr hw1 (by go_simp)
  have cw1_1_1 : w1.cell? ⟨D, n * 2 + 1, none⟩ = some (.slice da L.length dc) := cell_gr hw1 (by go_simp)
  have zw1_1 : D < w1.heap.size := World.block_lt_of_cell? _ _ cw1_1_0
  have gw1 : Gr W w1 := Gr.trans (by go_grown) hw1
  clear hw1
  go_wp2_with fail
  go_at_call 20
  refine (H2.out _ (by have gg := gw1; have gs := gg.size; go_grown)).mono ?_
  rintro e w3 ⟨g5, cp5, rfl, o5, g3⟩
  have HO := Lib.hid o5
  clear o5
  go_wp2_with fail
  go_ret2
  exact ⟨g5, cp5, rfl, HO.out, Gr.trans (by have gg := gw1; have gs := gg.size; go_grown) g3⟩
theorem p_freeS (W : World) (h : PageS W B C kd id S) : Calls Try.prog 13 #[.pointer (some ⟨B, 0, none⟩)] W fun e w' => e = .returned (.int .i64 (512 - (usS S : Nat))) ∧ Gr W w' := by
  have hus := usS_le h
  have A2 := fun w (g : Gr W w) => p_usedS w (pageS_gr h g)
  obtain ⟨D, sa, scap, hp, -⟩ := pageS_cells h
  have A1 := fun w (g : Gr W w) => p_none w (pageAt_gr hp g)
  have hB := pageS_lt h
  generalize usS S = us at *
  have e1 : wrap64 (512 - (us : Int)) = 512 - (us : Int) := wr_small (by omega)
  have e2 : IntKind.i64.wrap (512 - (us : Int)) = 512 - (us : Int) := wk_small (by omega)
  clear h hp hus
  have H1 := Lib.hid A1
  have H2 := Lib.hid A2
  clear A1 A2
  go_enter Try.func13, Try.ntmps13
  go_wp2_with fail
  go_at_call 21
  refine ((H1.out _ (by go_grown))).mono ?_
  rintro e w1 ⟨rfl, hw1⟩
  have gw1 : Gr W w1 := Gr.trans (by go_grown) hw1
  clear hw1
  go_wp2_with fail
  go_at_call 22
  refine ((H2.out _ (by have gg := gw1; have gs := gg.size; go_grown))).mono ?_
  rintro e w2 ⟨rfl, hw2⟩
  have gw2 : Gr W w2 := Gr.trans (by have gg := gw1; have gs := gg.size; go_grown) hw2
  clear hw2 gw1
  go_wp2_with fail
  go_ret
  exact ⟨rfl, gw2⟩
theorem p_newS (kd id : Int) (h : 0 ≤ kd ∧ kd ≤ 255 ∧ 0 ≤ id ∧ id ≤ 4294967295) (W : World) : Calls Try.prog 5 #[.int .i64 kd, .int .i64 id] W fun e w' => ∃ B, e = .returned (.tuple #[.pointer (some ⟨B, 0, none⟩), .nilIface]) ∧ W.heap.size ≤ B ∧ PageS w' B none kd id [] ∧ Gr W w' := by
  obtain ⟨h1, h2, h3, h4⟩ := h
  have t1 : decide (kd < 0) = false := decide_eq_false (by omega)
  have t2 : decide ((255 : Int) < kd) = false := decide_eq_false (by omega)
  have t3 : decide (id < 0) = false := decide_eq_false (by omega)
  have t4 : decide ((4294967295 : Int) < id) = false := decide_eq_false (by omega)
  go_enter Try.func5, Try.ntmps5
  go_wp2_with fail
  go_ret2
  exact ⟨_, rfl, Nat.le_refl _, ⟨.slice none 0 0, [], ⟨by go_simp, by go_simp, by go_simp, by go_simp, by go_simp⟩, rfl, by simp, by simp, World.ownsRow_nil _ _ _ _, fun j hj => absurd hj (by simp)⟩, by go_grown⟩
/-- The slots that are not free. -/
def idxT (S : List Sl) : Nat → List Nat
  | 0 => []
  | i + 1 => idxT S i ++ (if (S.getD i none).isSome then [i] else [])
theorem idxT_le (S : List Sl) : ∀ i, (idxT S i).length ≤ i
  | 0 => Nat.le_refl _
  | i + 1 => by
    have := idxT_le S i
    simp only [idxT, List.length_append]
    split <;> simp <;> omega
abbrev intL (l : List Nat) : List Value := l.map fun (k : Nat) => Value.int .i64 (k : Int)
end
end Go.Proofs.Ytilijbplfobneaa
