/- slots: a page with whatever slots: Delete, Get, Slots, Free, New -/
import Derived.Test.YtilijbplfobneaaDoorSe
namespace Go.Proofs.YtilijbplfobneaaDoor
set_option linter.unusedVariables false
set_option linter.unusedSimpArgs false
open Go.ChangeShapes Go.WideShapes Go.ChangeAt Go.RowKit

theorem row_cutS {w : World} {base g n cap size : Nat} {e : TypeId} {xs : List Value} (h : w.ownsRow base e size (.slice (some ⟨g, 0, none⟩) n cap) n xs) (n' : Nat) (hn : n' ≤ n) : w.ownsRow base e size (.slice (some ⟨g, 0, none⟩) n' cap) n' (xs.take (n' * size)) := by
  rcases h.2 with ⟨h', _⟩ | ⟨g', cap', cur, h', hb, hg, hnc, hcm, hcs, ht⟩
  · simp at h'
  · simp only [Value.slice.injEq, Option.some.injEq, Addr.mk.injEq, and_true, true_and] at h'
    obtain ⟨rfl, rfl⟩ := h'
    have hm : n' * size ≤ n * size := Nat.mul_le_mul_right _ hn
    refine ⟨by rw [List.length_take, h.1]; omega, .inr ⟨g, cap, cur, rfl, hb, hg, by omega, hcm, hcs, ?_⟩⟩
    rw [← ht, List.take_take, Nat.min_eq_left hm]
section
variable {B : Nat} {C : Option Nat} {kd id : Int} {S : List Sl}
/-- Up to the last one that is not free. -/
def lastN (S : List Sl) : Nat → Nat
  | 0 => 0
  | k + 1 => if (S.getD k none).isSome then k + 1 else lastN S k
theorem lastN_le (S : List Sl) : ∀ k, lastN S k ≤ k
  | 0 => Nat.le_refl _
  | k + 1 => by have := lastN_le S k; unfold lastN; split <;> omega
def delS (S : List Sl) (n : Nat) : List Sl := (S.set n none).take (lastN (S.set n none) S.length)
/-- The page's slots are cut. -/
theorem pageS_take {w : World} {D cap n' : Nat} (h : PageS w B (some D) kd id S) (hc : w.cell? ⟨B, 3, none⟩ = some (.slice (some ⟨D, 0, none⟩) S.length cap)) (hn : n' ≤ S.length) :
    PageS (w.setCell ⟨B, 3, none⟩ (.slice (some ⟨D, 0, none⟩) n' cap)) B (some D) kd id (S.take n') ∧ Kx (fun k => k = B) w (w.setCell ⟨B, 3, none⟩ (.slice (some ⟨D, 0, none⟩) n' cap)) := by
  obtain ⟨sl, xs, ⟨p0, p1, p2, p3, f3⟩, h2, h3, h4, h5, h6⟩ := h
  have hK : Kx (fun k => k = B) w (w.setCell ⟨B, 3, none⟩ (.slice (some ⟨D, 0, none⟩) n' cap)) := (Kx.refl (S := fun k => k = B) w).setCell (p := ⟨B, 3, none⟩) rfl _
  refine ⟨?_, hK⟩
  obtain rfl : sl = .slice (some ⟨D, 0, none⟩) S.length cap := by rw [hc] at p3; exact (Option.some.inj p3).symm
  have r := rowOwn_kxS (row_cutS h5 n' hn) hK (fun k hk e => by subst e; simp [Value.ownBlock] at hk; exact h3 (by rw [hk]))
  have hl : (S.take n').length = n' := by rw [List.length_take]; omega
  refine ⟨.slice (some ⟨D, 0, none⟩) n' cap, _, ⟨by go_simp, by go_simp, by go_simp, by go_simp, by go_simp⟩, rfl, h3, by omega, by rw [hl]; exact r, fun j hj => ?_⟩
  rw [hl] at hj
  obtain ⟨x, y, e1, e2, e3⟩ := h6 j (by omega)
  refine ⟨x, y, by rw [List.getElem?_take, if_pos (by omega)]; exact e1, by rw [List.getElem?_take, if_pos (by omega)]; exact e2, ?_⟩
  rw [List.getElem_take]
  exact slotC_kx e3 hK (fun k hk => Or.inl (Or.inl hk))
/-- What was there: the page's blocks alone have turned. -/
def DelTo (W : World) (B : Nat) (C : Option Nat) (kd id : Int) (S : List Sl) (w' : World) : Prop :=
  PageS w' B C kd id S ∧ Kx (fun k => pgZ B C k ∨ W.heap.size ≤ k) W w'
theorem has_lt {n : Nat} (h : (S.getD n none).isSome = true) : n < S.length := by
  rcases Nat.lt_or_ge n S.length with h' | h'
  · exact h'
  · rw [getD_ge S h'] at h; cases h
theorem pageS_some {w : World} (h : PageS w B C kd id S) (h0 : 0 < S.length) : ∃ D, C = some D := by
  obtain ⟨sl, xs, h1, h2, h3, h4, h5, h6⟩ := h
  obtain ⟨g, cap, rfl, -⟩ := row_form h5 h0
  exact ⟨g, h2.symm⟩
set_option maxHeartbeats 2000000 in
set_option maxRecDepth 100000 in
theorem p_deleteS (n : Nat) (hh : (S.getD n none).isSome = true) (W : World) (h : PageS W B C kd id S) :
    Calls Tryd.prog 16 #[.pointer (some ⟨B, 0, none⟩), .int .i64 n] W fun e w' => e = .returned .nilIface ∧ DelTo W B C kd id (delS S n) w' := by
  have hlt := has_lt hh
  obtain ⟨D, rfl⟩ := pageS_some h (by omega)
  have A1 := fun w (g : Gr W w) => p_hasS (n : Int) w (pageS_gr h g)
  rw [hasS_nat, hh] at A1
  have u2 : (n : Int) < (S.length : Int) := by omega
  have u3 : (0 : Int) ≤ (n : Int) := by omega
  have hB := pageS_lt h
  obtain ⟨cap3, pq, hc3, hc32, sD, hDB, -⟩ := pageS_cellsD h
  obtain ⟨c0, c1, c2, c3, v3⟩ := pq
  have u4 : (S.length : Int) ≤ 60 := by obtain ⟨_, _, _, _, _, h4, _⟩ := h; omega
  have HH := Lib.hid (And.intro h hlt)
  have HS : Hid (delS S n = (S.set n none).take (lastN (S.set n none) S.length)) := Lib.hid rfl
  generalize delS S n = S' at HS ⊢
  clear h hlt hh
  generalize hln : S.length = len at c3 hc3 u2 u4 HS
  have HL := Lib.hid hln
  clear hln
  have H1 := Lib.hid A1
  clear A1
  go_enter Tryd.func16, Tryd.ntmps16
  go_wp2_with fail
  go_at_call 49
  refine ((H1.out _ (by go_grown))).mono ?_
  rintro e w1 ⟨rfl, hw1⟩
  have cw1_0_0 : w1.cell? ⟨B, 0, none⟩ = some (.bool true) := cell_gr hw1 (by go_simp)
  have cw1_0_1 : w1.cell? ⟨B, 1, none⟩ = some (.int .i64 kd) := cell_gr hw1 (by go_simp)
  have cw1_0_2 : w1.cell? ⟨B, 2, none⟩ = some (.int .i64 id) := cell_gr hw1 (by go_simp)
  have cw1_0_3 : w1.cell? ⟨B, 3, none⟩ = some (.slice (some ⟨D, 0, none⟩) len cap3) := cell_gr hw1 (by go_simp)
  have zw1_0 : B < w1.heap.size := World.block_lt_of_cell? _ _ cw1_0_0
  have gw1 : Gr W w1 := Gr.trans (by go_grown) hw1
  clear hw1
  have P1 := pageS_gr HH.out.1 gw1
  obtain ⟨⟨b0, d0⟩, ⟨da, dz, dc, d1⟩, y0, y1, sD5⟩ := pageS_cell2 P1 n HH.out.2
  have y3 : w1.frozen? ⟨B, 3, none⟩ = false := frozen_gr gw1 c3 v3
  have HP := Lib.hid P1
  clear P1
  go_wp2_with fail
  have KP := pageS_put (o := none) (x := .bool false) (v := .slice none 0 0) HP.out (n := n) HH.out.2 ⟨rfl, rfl⟩
  generalize hh : (w1.setCell ⟨D, n * 2, none⟩ (.bool false)).setCell ⟨D, n * 2 + 1, none⟩ (.slice none 0 0) = w2 at KP ⊢
  have HK : Hid (PageS w2 B (some D) kd id (S.set n none) ∧ Kx (fun k => pgZ B (some D) k ∨ W.heap.size ≤ k) W w2) := Lib.hid ⟨KP.1, (Kx.of_gr gw1).trans (KP.2.mono (fun k h => Or.inl (Or.inr (by rw [h]))))⟩
  have c0' : w2.cell? ⟨B, 0, none⟩ = some (.bool true) := by subst hh; go_simp
  have c3' : w2.cell? ⟨B, 3, none⟩ = some (.slice (some ⟨D, 0, none⟩) len cap3) := by subst hh; go_simp
  have v3' : w2.frozen? ⟨B, 3, none⟩ = false := by subst hh; go_simp
  have HL2 : Hid ((S.set n none).length = len) := Lib.hid (by rw [List.length_set]; exact HL.out)
  clear KP hh HP HH HL
  generalize S.set n none = S1 at HK HS HL2
  go_loopg [5] len (fun k x wr => ∃ i : Nat, x = .int .i64 i ∧ i ≤ len ∧ k = i ∧ Hid (lastN S1 len = lastN S1 i) ∧ Gr w2 wr)
  case atStart => exact ⟨len, rfl, Nat.le_refl _, rfl, Lib.hid rfl, by go_grown⟩
  case round =>
    obtain ⟨i, rfl, hi, hk, HE, gwr⟩ := hrel
    obtain ⟨cap4, pq4, -, -, -, -, hcc⟩ := pageS_cellsD (pageS_gr HK.out.1 gwr)
    obtain ⟨r0, r1, r2, -, -⟩ := pq4
    have r3 := cell_gr gwr c3'
    obtain _ | j := i
    · clear hcc
      have t0 : decide ((0 : Int) < ((0 : Nat) : Int)) = false := by simp
      have P3 := pageS_gr HK.out.1 gwr
      have c3r := cell_gr gwr c3'
      have KT := pageS_take (n' := 0) (cap := cap3) P3 (by rw [HL2.out]; exact c3r) (by rw [HL2.out]; omega)
      have HT := Lib.hid KT
      have v3r := frozen_gr gwr c3' v3'
      have c0r := cell_gr gwr c0'
      have sBr := gwr.size
      clear P3 KT
      go_wp2_with fail
      go_ret
      have hk : Kx (fun k => pgZ B (some D) k ∨ W.heap.size ≤ k) W (wr.setCell ⟨B, 3, none⟩ (.slice (some ⟨D, 0, none⟩) 0 cap3)) :=
        (HK.out.2.trans (Kx.of_gr gwr)).trans (HT.out.2.mono (fun k h => Or.inl (Or.inl h)))
      refine ⟨rfl, ?_, by first | exact hk | simpa using hk⟩
      rw [HS.out, HE.out]
      exact HT.out.1
    · obtain ⟨e1, -⟩ := hcc j (by rw [HL2.out]; omega)
      have e2 : (S1.getD j none).isSome = (S1[j]'(by rw [HL2.out]; omega)).isSome := by rw [getD_lt]
      rw [← e2] at e1
      clear hcc e2
      have t0 : (0 : Int) < ((j + 1 : Nat) : Int) := by omega
      have t1 : decide ((0 : Int) < ((j + 1 : Nat) : Int)) = true := decide_eq_true t0
      have t2 : wrap64 (((j + 1 : Nat) : Int) - 1) = (j : Int) := by rw [show ((j + 1 : Nat) : Int) - 1 = (j : Int) by omega]; exact wr_small (by omega)
      have t3 : IntKind.i64.wrap (((j + 1 : Nat) : Int) - 1) = (j : Int) := by rw [show ((j + 1 : Nat) : Int) - 1 = (j : Int) by omega]; exact wk_small (by omega)
      have t4 : (j : Int) < (len : Int) := by omega
      have t5 : (0 : Int) ≤ (j : Int) := by omega
      cases hq : (S1.getD j none).isSome with
      | false =>
        rw [hq] at e1
        have HE2 : Hid (lastN S1 len = lastN S1 j) := Lib.hid (by rw [HE.out]; show (if _ then _ else _) = _; rw [hq]; rfl)
        clear hq HE
        go_wp2_with fail
        go_roundg j
        case measure => omega
        case rel => exact ⟨j, by go_num, by omega, rfl, HE2, by have gs := gwr.size; go_grown⟩
      | true =>
        rw [hq] at e1
        have HE2 : Hid (lastN S1 len = j + 1) := Lib.hid (by rw [HE.out]; show (if _ then _ else _) = _; rw [hq]; rfl)
        clear hq HE
        have P3 := pageS_gr HK.out.1 gwr
        have c3r := cell_gr gwr c3'
        have KT := pageS_take (n' := (j + 1)) (cap := cap3) P3 (by rw [HL2.out]; exact c3r) (by rw [HL2.out]; omega)
        have HT := Lib.hid KT
        have v3r := frozen_gr gwr c3' v3'
        have c0r := cell_gr gwr c0'
        have sBr := gwr.size
        clear P3 KT
        go_wp2_with fail
        go_ret
        have hk : Kx (fun k => pgZ B (some D) k ∨ W.heap.size ≤ k) W (wr.setCell ⟨B, 3, none⟩ (.slice (some ⟨D, 0, none⟩) (j + 1) cap3)) :=
          (HK.out.2.trans (Kx.of_gr gwr)).trans (HT.out.2.mono (fun k h => Or.inl (Or.inl h)))
        refine ⟨rfl, ?_, by first | exact hk | simpa using hk⟩
        rw [HS.out, HE2.out]
        exact HT.out.1
end
end Go.Proofs.YtilijbplfobneaaDoor
