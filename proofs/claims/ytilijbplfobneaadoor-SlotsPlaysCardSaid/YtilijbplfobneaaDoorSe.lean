/- slots: a page with whatever slots: fill, Insert -/
import Derived.Test.YtilijbplfobneaaDoorSd
namespace Go.Proofs.YtilijbplfobneaaDoor
set_option linter.unusedVariables false
set_option linter.unusedSimpArgs false
open Go.ChangeShapes Go.WideShapes Go.ChangeAt Go.RowKit

section
variable {B : Nat} {C : Option Nat} {kd id : Int} {S : List Sl}
/-- A slot gets other bytes, or none. -/
theorem pageS_put {w : World} {D : Nat} (h : PageS w B (some D) kd id S) {n : Nat} (hn : n < S.length) {o : Sl} {x v : Value} (hv : SlotC w (pgZ B (some D)) o x v) :
    PageS ((w.setCell ⟨D, n * 2, none⟩ x).setCell ⟨D, n * 2 + 1, none⟩ v) B (some D) kd id (S.set n o) ∧ Kx (fun k => k = D) w ((w.setCell ⟨D, n * 2, none⟩ x).setCell ⟨D, n * 2 + 1, none⟩ v) := by
  obtain ⟨sl, xs, h1, h2, h3, h4, h5, h6⟩ := h
  have hK : Kx (fun k => k = D) w ((w.setCell ⟨D, n * 2, none⟩ x).setCell ⟨D, n * 2 + 1, none⟩ v) := ((Kx.refl (S := fun k => k = D) w).setCell (p := ⟨D, n * 2, none⟩) rfl x).setCell (p := ⟨D, n * 2 + 1, none⟩) rfl v
  refine ⟨?_, hK⟩
  obtain ⟨g, cap, rfl, -⟩ := row_form h5 (by omega)
  obtain rfl : g = D := by simpa [Value.ownBlock] using h2
  have hBD : ¬ B = g := fun e => h3 (by rw [e])
  obtain ⟨r1, -⟩ := h5.stored (n * 2) x
  obtain ⟨r2, -⟩ := r1.stored (n * 2 + 1) v
  refine ⟨_, _, pageAt_kx h1 hK hBD, rfl, h3, by rw [List.length_set]; exact h4, by rw [List.length_set]; exact r2, fun j hj => ?_⟩
  rw [List.length_set] at hj
  have hx : xs.length = S.length * 2 := h5.1
  have hS : ∀ k, k = g → pgZ B (some g) k ∨ w.heap.size ≤ k := fun k hk => Or.inl (Or.inr (by rw [hk]))
  by_cases e : j = n
  · subst e
    refine ⟨x, v, ?_, ?_, ?_⟩
    · rw [List.getElem?_set_ne (by omega), List.getElem?_set_self (by omega)]
    · rw [List.getElem?_set_self (by rw [List.length_set]; omega)]
    · rw [List.getElem_set_self]
      exact slotC_kx hv hK hS
  · obtain ⟨y, u, e1, e2, e3⟩ := h6 j hj
    refine ⟨y, u, ?_, ?_, ?_⟩
    · rw [List.getElem?_set_ne (by omega), List.getElem?_set_ne (by omega)]; exact e1
    · rw [List.getElem?_set_ne (by omega), List.getElem?_set_ne (by omega)]; exact e2
    · rw [List.getElem_set_ne (fun h => e h.symm)]
      exact slotC_kx e3 hK hS
/-- One free slot more. -/
theorem pageS_push {W Wa w2 : World} {sl : Value} {xs : List Value} {D cp : Nat} (h1 : PageAt W B kd id sl) (h2 : sl.ownBlock = C) (h3 : C ≠ some B) (h4 : S.length < 60)
    (h6 : ∀ j (h : j < S.length), ∃ b v, xs[j * 2]? = some b ∧ xs[j * 2 + 1]? = some v ∧ SlotC W (pgZ B C) S[j] b v) (hx : xs.length = S.length * 2) (g1 : Gr W Wa)
    (o2 : w2.ownsRow 0 92 2 (.slice (some ⟨D, 0, none⟩) (S.length + 1) cp) (S.length + 1) (xs ++ [.bool false, .slice none 0 0])) (g2 : Grown Wa w2 sl (.slice (some ⟨D, 0, none⟩) (S.length + 1) cp)) :
    PageS (w2.setCell ⟨B, 3, none⟩ (.slice (some ⟨D, 0, none⟩) (S.length + 1) cp)) B (some D) kd id (S ++ [none]) ∧ (C = some D ∨ W.heap.size ≤ D) ∧
      Kx (fun k => pgZ B C k ∨ W.heap.size ≤ k) W (w2.setCell ⟨B, 3, none⟩ (.slice (some ⟨D, 0, none⟩) (S.length + 1) cp)) := by
  have hB : B < W.heap.size := World.block_lt_of_cell? _ _ h1.1
  have hD : C = some D ∨ W.heap.size ≤ D := by
    rcases g2.2 D rfl with h | h
    · exact Or.inl (by rw [← h2]; exact h)
    · exact Or.inr (Nat.le_trans g1.size h)
  have hDB : D ≠ B := fun e => by
    subst e
    rcases hD with h | h
    · exact h3 h
    · omega
  have k1 : Kx (fun k => C = some k) W w2 := (Kx.of_gr g1).trans ((kx_grown g2).mono (fun k h => by rw [← h2]; exact h))
  have p2 := pageAt_kx h1 k1 h3
  have k2 : Kx (fun k => pgZ B C k ∨ W.heap.size ≤ k) W (w2.setCell ⟨B, 3, none⟩ (.slice (some ⟨D, 0, none⟩) (S.length + 1) cp)) :=
    (k1.mono (T := fun k => pgZ B C k ∨ W.heap.size ≤ k) (fun k h => Or.inl (Or.inr h))).setCell (p := ⟨B, 3, none⟩) (Or.inl (Or.inl rfl)) _
  obtain ⟨q0, q1, q2, q3, f3⟩ := p2
  have f0 : (w2.setCell ⟨B, 3, none⟩ (.slice (some ⟨D, 0, none⟩) (S.length + 1) cp)).ownsRow 0 92 2 (.slice (some ⟨D, 0, none⟩) (S.length + 1) cp) (S.length + 1) (xs ++ [.bool false, .slice none 0 0]) :=
    rowOwn_kxS (S := fun k => k = B) o2 ((Kx.refl (S := fun k => k = B) w2).setCell (p := ⟨B, 3, none⟩) rfl _) (fun k hk => by simp [Value.ownBlock] at hk; omega)
  refine ⟨⟨.slice (some ⟨D, 0, none⟩) (S.length + 1) cp, _, ⟨by go_simp, by go_simp, by go_simp, by go_simp, by go_simp⟩, rfl, fun e => hDB (Option.some.inj e), by simp; omega, by simpa using f0, fun j hj => ?_⟩, hD, k2⟩
  have hZ : ∀ k, pgZ B (some D) k → pgZ B C k ∨ W.heap.size ≤ k := fun k hk => by
    rcases hk with h | h
    · exact Or.inl (Or.inl h)
    · obtain rfl := Option.some.inj h
      rcases hD with h | h
      · exact Or.inl (Or.inr h)
      · exact Or.inr h
  rw [List.length_append, List.length_singleton] at hj
  by_cases e : j < S.length
  · obtain ⟨y, u, e1, e2, e3⟩ := h6 j e
    refine ⟨y, u, ?_, ?_, ?_⟩
    · rw [List.getElem?_append_left (by omega)]; exact e1
    · rw [List.getElem?_append_left (by omega)]; exact e2
    · rw [List.getElem_append_left e]
      exact slotC_turn e3 k2 (fun k h => h) hZ
  · obtain rfl : j = S.length := by omega
    refine ⟨.bool false, .slice none 0 0, ?_, ?_, ?_⟩
    · rw [List.getElem?_append_right (by omega), hx, Nat.sub_self]; rfl
    · rw [List.getElem?_append_right (by omega), hx, show S.length * 2 + 1 - S.length * 2 = 1 by omega]; rfl
    · simp only [List.getElem_append_right (Nat.le_refl _), Nat.sub_self]
      exact ⟨rfl, rfl⟩
theorem pgZ_lt {B D b : Nat} (h1 : B < b) (h2 : D < b) : ∀ k, pgZ B (some D) k → k < b := fun k hk => by
  rcases hk with h | h
  · omega
  · have := Option.some.inj h; omega
/-- What fill leaves. -/
def putS (S : List Sl) (n : Nat) (o : Sl) : List Sl := if n = S.length then S ++ [o] else S.set n o
def PutTo (W : World) (B : Nat) (C : Option Nat) (kd id : Int) (S : List Sl) (w' : World) : Prop :=
  ∃ D, PageS w' B (some D) kd id S ∧ (C = some D ∨ W.heap.size ≤ D) ∧ Kx (fun k => pgZ B C k ∨ W.heap.size ≤ k) W w'
set_option maxHeartbeats 4000000 in
set_option maxRecDepth 100000 in
theorem p_fillS {L : List UInt8} (n m cap : Nat) (ad : Option Addr) (hm : m = L.length) (hn : n ≤ S.length) (h60 : n < 60) (hl : L.length ≤ 400) (W : World) (h : PageS W B C kd id S) (hR : RowOff W (pgZ B C) (.slice ad m cap) L) :
    Calls Tryd.prog 47 #[.pointer (some ⟨B, 0, none⟩), .int .i64 n, .slice ad m cap] W fun e w' => e = .returned (.tuple #[]) ∧ PutTo W B C kd id (putS S n (some L)) w' := by
  obtain ⟨i0, hi0, hz0, hz1, hz2⟩ := info_parts (P := Tryd.prog) (e := 92) (z := .agg #[.bool false, .slice none 0 0]) (size := 2) (bytes := 32) (by kernel_rfl)
  have HI := Lib.hid (And.intro hi0 (And.intro hz0 (And.intro hz1 hz2)))
  clear hi0 hz0 hz1 hz2
  have CL := Lib.hid (fun w (r : Row w (.slice ad m cap) L) => c_bCloneR w r (by omega))
  rw [← hm] at CL
  by_cases e : n = S.length
  · obtain ⟨sl, xs, h1, h2, h3, h4, h5, h6⟩ := h
    have hS : putS S n (some L) = (S ++ [none]).set n (some L) := by unfold putS; rw [if_pos e, e, List.set_append_right _ _ (Nat.le_refl _), Nat.sub_self]; rfl
    rw [hS]
    obtain ⟨p0, p1, p2, p3, f3⟩ := h1
    have hB := World.block_lt_of_cell? _ _ p0
    obtain ⟨sa, scap, rfl⟩ : ∃ sa scap, sl = .slice sa n scap := by
      rcases h5.2 with ⟨rfl, h0⟩ | ⟨g, cap, cur, rfl, _⟩
      · exact ⟨none, 0, by rw [e, h0]⟩
      · exact ⟨_, cap, by rw [e]⟩
    have u1 : ((n : Int) == (n : Int)) = true := by simp
    have HM := Lib.hid hm
    clear hm
    have H6 := Lib.hid (And.intro h2 (And.intro h3 (And.intro h6 (And.intro h5 hR))))
    clear h2 h3 h4 h6 hS hR
    rw [← e] at h5
    have HE := Lib.hid e
    clear e hn
    go_enter Tryd.func47, Tryd.ntmps47
    go_wp2_with (at_builtin; go_loud (refine wpList_append_own2 _ rfl (.tmp 17) (.tmp 19) 77 rfl 0 92 i0 (.agg #[.bool false, .slice none 0 0]) 2 32 Tryd.underlying77 HI.out.1 HI.out.2.1 HI.out.2.2.1 HI.out.2.2.2 rfl (by decide) (.slice sa n scap) n xs rfl (rowOwn_gr h5 (by go_grown)) ⟨W.heap.size, 0, none⟩ 1 1 [.bool false, .slice none 0 0] rfl rfl (newsS (by go_simp) (by go_simp)) (by intro u hu; simp only [List.mem_cons, List.not_mem_nil, or_false] at hu; rcases hu with rfl | rfl <;> rfl) (by unfold maxLen; omega) (by omega) (by simp) ?_); intro x2 w2 o2 g2; (obtain ⟨D, cp, rfl, hD0, hD2, hcp, hcp2⟩ := row_form o2 (by omega)); (have kx1 : Kx (fun k => C = some k) W w2 := (Kx.of_gr (by go_grown)).trans ((kx_grown g2).mono (fun k h => by rw [← H6.out.1]; exact h))); (obtain ⟨q0, q1, q2, q3, j3⟩ := pageAt_kx (⟨p0, p1, p2, p3, f3⟩ : PageAt W B kd id (.slice sa n scap)) kx1 H6.out.2.1); (have HO2 := Lib.hid (And.intro o2 g2)); clear o2 g2 kx1)
    obtain ⟨b2, b3, b6, b5, bR⟩ := H6.out
    have e := HE.out
    have P0 : PageAt W B kd id (.slice sa n scap) := ⟨p0, p1, p2, p3, f3⟩
    have hxl : xs.length = n * 2 := by have := b5.1; omega
    obtain ⟨o2, g2⟩ := HO2.out
    have K := pageS_push (S := S) (cp := cp) (Wa := W.alloc (.cells #[.bool false, .slice none 0 0] 92)) P0 b2 b3 (by omega) b6 (by have := b5.1; omega) (by go_grown) (by rw [← e]; exact o2) (by rw [← e]; exact g2)
    rw [← e] at K
    obtain ⟨k1, k2, k3⟩ := K
    have hR2 := rowOff_kx bR k3 (fun k h => h)
    have HK := Lib.hid (And.intro k1 (And.intro k2 (And.intro k3 hR2)))
    have sB : B < w2.heap.size := World.block_lt_of_cell? _ _ q0
    clear e k1 k2 k3 hR2 b2 b3 b6 b5 bR P0 H6 g2 o2 hxl HO2 p0 p1 p2 p3 f3 h5 q0 q1 q2 q3 j3
    generalize hh : w2.setCell ⟨B, 3, none⟩ (.slice (some ⟨D, 0, none⟩) (n + 1) cp) = w3 at HK ⊢
    obtain ⟨cap3, pq, hc3, hc32, sD, hDB, -⟩ := pageS_cellsD HK.out.1
    have hlen : (S ++ [none]).length = n + 1 := by rw [List.length_append, List.length_singleton, HE.out]
    rw [hlen] at pq hc3
    obtain ⟨c0, c1, c2, c3, v3⟩ := pq
    have sB3 : B < w3.heap.size := World.block_lt_of_cell? _ _ c0
    have CW : ∀ w, Gr w3 w → Calls Tryd.prog 52 #[.slice ad m cap] w fun e w' => ∃ g5 cp5, e = .returned (.slice g5 m cp5) ∧ Own w' w3.heap.size (.slice g5 m cp5) L ∧ Gr w w' := fun w G => by
      refine (CL.out w (row_gr HK.out.2.2.2.1 G)).mono ?_
      rintro e w' ⟨g5, cp5, rfl, o5, g⟩
      exact ⟨g5, cp5, rfl, own_base o5 G.size, g⟩
    have HW := Lib.hid CW
    have u2 : (n : Int) < (n : Int) + 1 := by omega
    have u3 : (0 : Int) ≤ (n : Int) := by omega
    clear hlen CW CL HI u1 hh hcp hcp2 hD0 hD2 sB
    go_wp2_with fail
    try simp only [List.append]
    refine Od.wp_region_ordT 8 [(0, false), (1, false), (2, false), (3, false), (4, false), (5, false), (6, true), (7, false)] (by kernel_rfl) (by kernel_rfl) ?_
    intro w4 hw4 KQ hKQ
    have cw4_0_0 : w4.cell? ⟨B, 0, none⟩ = some (.bool true) := cell_gr hw4 (by go_simp)
    have cw4_0_1 : w4.cell? ⟨B, 1, none⟩ = some (.int .i64 kd) := cell_gr hw4 (by go_simp)
    have cw4_0_2 : w4.cell? ⟨B, 2, none⟩ = some (.int .i64 id) := cell_gr hw4 (by go_simp)
    have cw4_0_3 : w4.cell? ⟨B, 3, none⟩ = some (.slice (some ⟨D, 0, none⟩) (n + 1) cap3) := cell_gr hw4 (by go_simp)
    have zw4_0 : B < w4.heap.size := World.block_lt_of_cell? _ _ cw4_0_0
    have gw4 : Gr w3 w4 := Gr.trans (by go_grown) hw4
    skip
    clear hw4
    repeat (first | (refine Od.wpO_skip (by simp only [List.getElem?_toArray, List.getElem?_cons_succ, List.getElem?_cons_zero] <;> rfl) rfl ?_; simp only [Act.put, List.setIfInBounds_toArray, List.set_cons_zero, List.set_cons_succ]) | (refine Od.wpO_pure (by simp only [List.getElem?_toArray, List.getElem?_cons_succ, List.getElem?_cons_zero] <;> rfl) rfl ?_; apply Exists.intro; refine ⟨?_, ?_⟩; (· intro wx gx; obtain ⟨mx, rfl⟩ := spread_of_gr gx; clear gx; all_goals (apply Od.pAt_of_quiet; intro K hK; go_big_quiet_op; first | exact hK _ rfl | (apply Exists.intro; refine ⟨fun _ => ?_, ?_⟩; (· fail); exact hK _ rfl))); try simp only [Act.put, List.setIfInBounds_toArray, List.set_cons_zero, List.set_cons_succ]))
    refine Od.wpO_call (by simp only [List.getElem?_toArray, List.getElem?_cons_succ, List.getElem?_cons_zero] <;> rfl) rfl ?_
    intro QS hQS
    go_wp2_with fail
    go_at_call 52
    (with_reducible refine ((HW.out _ gw4)).mono ?_)
    rintro e w5 ⟨g5, cp5, rfl, o5, hw5⟩
    go_wp2_with fail
    apply Exists.intro
    refine ⟨?_, hw5, ?_⟩
    · simp only [Act.put, List.setIfInBounds_toArray, List.set_cons_zero, List.set_cons_succ]; rfl
    have cw5_0_0 : w5.cell? ⟨B, 0, none⟩ = some (.bool true) := cell_gr hw5 (by go_simp)
    have cw5_0_1 : w5.cell? ⟨B, 1, none⟩ = some (.int .i64 kd) := cell_gr hw5 (by go_simp)
    have cw5_0_2 : w5.cell? ⟨B, 2, none⟩ = some (.int .i64 id) := cell_gr hw5 (by go_simp)
    have cw5_0_3 : w5.cell? ⟨B, 3, none⟩ = some (.slice (some ⟨D, 0, none⟩) (n + 1) cap3) := cell_gr hw5 (by go_simp)
    have zw5_0 : B < w5.heap.size := World.block_lt_of_cell? _ _ cw5_0_0
    have gw5 : Gr w3 w5 := Gr.trans (by have gg := gw4; have gs := gg.size; go_grown) hw5
    clear gw4 zw4_0 cw4_0_0 cw4_0_1 cw4_0_2 cw4_0_3
    clear hw5
    try simp only [Act.put, List.setIfInBounds_toArray, List.set_cons_zero, List.set_cons_succ]
    repeat (first | (refine Od.wpO_skip (by simp only [List.getElem?_toArray, List.getElem?_cons_succ, List.getElem?_cons_zero] <;> rfl) rfl ?_; simp only [Act.put, List.setIfInBounds_toArray, List.set_cons_zero, List.set_cons_succ]) | (refine Od.wpO_pure (by simp only [List.getElem?_toArray, List.getElem?_cons_succ, List.getElem?_cons_zero] <;> rfl) rfl ?_; apply Exists.intro; refine ⟨?_, ?_⟩; (· intro wx gx; obtain ⟨mx, rfl⟩ := spread_of_gr gx; clear gx; all_goals (apply Od.pAt_of_quiet; intro K hK; go_big_quiet_op; first | exact hK _ rfl | (apply Exists.intro; refine ⟨fun _ => ?_, ?_⟩; (· fail); exact hK _ rfl))); try simp only [Act.put, List.setIfInBounds_toArray, List.set_cons_zero, List.set_cons_succ]))
    refine Od.wpO_nil (hKQ _ _ ?_)
    clear hKQ KQ
    have P5 := pageS_gr HK.out.1 gw5
    have hlen : (S ++ [none]).length = n + 1 := by rw [List.length_append, List.length_singleton, HE.out]
    obtain ⟨⟨b0, d0⟩, ⟨da, dz, dc, d1⟩, y0, y1, sD5⟩ := pageS_cell2 P5 n (by omega)
    have HP := Lib.hid (And.intro P5 o5)
    clear P5 o5 hlen
    go_wp2_with fail
    go_end0
    obtain ⟨P5, o5⟩ := HP.out
    have K := pageS_put (o := some L) (x := .bool true) (v := .slice g5 m cp5) P5 (n := n) (by rw [List.length_append, List.length_singleton, HE.out]; omega) ⟨rfl, rowOff_own o5 (pgZ_lt sB3 sD), hl⟩
    exact ⟨rfl, D, K.1, HK.out.2.1, HK.out.2.2.1.trans ((Kx.of_gr gw5).trans (K.2.mono (fun k h => by subst h; rcases HK.out.2.1 with h | h; exact Or.inl (Or.inr h); exact Or.inr h)))⟩
  · have hlt : n < S.length := by omega
    obtain ⟨D, rfl⟩ : ∃ D, C = some D := by
      obtain ⟨sl, xs, h1, h2, h3, h4, h5, h6⟩ := h
      obtain ⟨g, cap, rfl, -⟩ := row_form h5 (by omega)
      exact ⟨g, h2.symm⟩
    have hS : putS S n (some L) = S.set n (some L) := by unfold putS; rw [if_neg e]
    rw [hS]
    obtain ⟨cap3, pq, hc3, hc32, sD, hDB, -⟩ := pageS_cellsD h
    obtain ⟨c0, c1, c2, c3, v3⟩ := pq
    have sB : B < W.heap.size := World.block_lt_of_cell? _ _ c0
    have CW : ∀ w, Gr W w → Calls Tryd.prog 52 #[.slice ad m cap] w fun e w' => ∃ g5 cp5, e = .returned (.slice g5 m cp5) ∧ Own w' W.heap.size (.slice g5 m cp5) L ∧ Gr w w' := fun w G => by
      refine (CL.out w (row_gr hR.1 G)).mono ?_
      rintro e w' ⟨g5, cp5, rfl, o5, g⟩
      exact ⟨g5, cp5, rfl, own_base o5 G.size, g⟩
    have HW := Lib.hid CW
    have HM := Lib.hid (And.intro hm (And.intro h hlt))
    have u1 : ((n : Int) == (S.length : Int)) = false := by simp; omega
    have u1' : (n == S.length) = false := by simp; omega
    have u2 : (n : Int) < (S.length : Int) := by omega
    have u3 : (0 : Int) ≤ (n : Int) := by omega
    have u4 : (S.length : Int) ≤ 60 := by obtain ⟨_, _, _, _, _, h4, _⟩ := h; omega
    clear CW CL HI hm hn h hR hS e hlt
    generalize hln : S.length = len at c3 hc3 u1 u1' u2 u4
    have HL := Lib.hid hln
    clear hln
    go_enter Tryd.func47, Tryd.ntmps47
    go_wp2_with fail
    try simp only [List.append]
    refine Od.wp_region_ordT 8 [(0, false), (1, false), (2, false), (3, false), (4, false), (5, false), (6, true), (7, false)] (by kernel_rfl) (by kernel_rfl) ?_
    intro w4 hw4 KQ hKQ
    have cw4_0_0 : w4.cell? ⟨B, 0, none⟩ = some (.bool true) := cell_gr hw4 (by go_simp)
    have cw4_0_1 : w4.cell? ⟨B, 1, none⟩ = some (.int .i64 kd) := cell_gr hw4 (by go_simp)
    have cw4_0_2 : w4.cell? ⟨B, 2, none⟩ = some (.int .i64 id) := cell_gr hw4 (by go_simp)
    have cw4_0_3 : w4.cell? ⟨B, 3, none⟩ = some (.slice (some ⟨D, 0, none⟩) len cap3) := cell_gr hw4 (by go_simp)
    have zw4_0 : B < w4.heap.size := World.block_lt_of_cell? _ _ cw4_0_0
    have gw4 : Gr W w4 := Gr.trans (by go_grown) hw4
    skip
    clear hw4
    repeat (first | (refine Od.wpO_skip (by simp only [List.getElem?_toArray, List.getElem?_cons_succ, List.getElem?_cons_zero] <;> rfl) rfl ?_; simp only [Act.put, List.setIfInBounds_toArray, List.set_cons_zero, List.set_cons_succ]) | (refine Od.wpO_pure (by simp only [List.getElem?_toArray, List.getElem?_cons_succ, List.getElem?_cons_zero] <;> rfl) rfl ?_; apply Exists.intro; refine ⟨?_, ?_⟩; (· intro wx gx; obtain ⟨mx, rfl⟩ := spread_of_gr gx; clear gx; all_goals (apply Od.pAt_of_quiet; intro K hK; go_big_quiet_op; first | exact hK _ rfl | (apply Exists.intro; refine ⟨fun _ => ?_, ?_⟩; (· fail); exact hK _ rfl))); try simp only [Act.put, List.setIfInBounds_toArray, List.set_cons_zero, List.set_cons_succ]))
    refine Od.wpO_call (by simp only [List.getElem?_toArray, List.getElem?_cons_succ, List.getElem?_cons_zero] <;> rfl) rfl ?_
    intro QS hQS
    go_wp2_with fail
    go_at_call 52
    (with_reducible refine ((HW.out _ gw4)).mono ?_)
    rintro e w5 ⟨g5, cp5, rfl, o5, hw5⟩
    go_wp2_with fail
    apply Exists.intro
    refine ⟨?_, hw5, ?_⟩
    · simp only [Act.put, List.setIfInBounds_toArray, List.set_cons_zero, List.set_cons_succ]; rfl
    have cw5_0_0 : w5.cell? ⟨B, 0, none⟩ = some (.bool true) := cell_gr hw5 (by go_simp)
    have cw5_0_1 : w5.cell? ⟨B, 1, none⟩ = some (.int .i64 kd) := cell_gr hw5 (by go_simp)
    have cw5_0_2 : w5.cell? ⟨B, 2, none⟩ = some (.int .i64 id) := cell_gr hw5 (by go_simp)
    have cw5_0_3 : w5.cell? ⟨B, 3, none⟩ = some (.slice (some ⟨D, 0, none⟩) len cap3) := cell_gr hw5 (by go_simp)
    have zw5_0 : B < w5.heap.size := World.block_lt_of_cell? _ _ cw5_0_0
    have gw5 : Gr W w5 := Gr.trans (by have gg := gw4; have gs := gg.size; go_grown) hw5
    clear gw4 zw4_0 cw4_0_0 cw4_0_1 cw4_0_2 cw4_0_3
    clear hw5
    try simp only [Act.put, List.setIfInBounds_toArray, List.set_cons_zero, List.set_cons_succ]
    repeat (first | (refine Od.wpO_skip (by simp only [List.getElem?_toArray, List.getElem?_cons_succ, List.getElem?_cons_zero] <;> rfl) rfl ?_; simp only [Act.put, List.setIfInBounds_toArray, List.set_cons_zero, List.set_cons_succ]) | (refine Od.wpO_pure (by simp only [List.getElem?_toArray, List.getElem?_cons_succ, List.getElem?_cons_zero] <;> rfl) rfl ?_; apply Exists.intro; refine ⟨?_, ?_⟩; (· intro wx gx; obtain ⟨mx, rfl⟩ := spread_of_gr gx; clear gx; all_goals (apply Od.pAt_of_quiet; intro K hK; go_big_quiet_op; first | exact hK _ rfl | (apply Exists.intro; refine ⟨fun _ => ?_, ?_⟩; (· fail); exact hK _ rfl))); try simp only [Act.put, List.setIfInBounds_toArray, List.set_cons_zero, List.set_cons_succ]))
    refine Od.wpO_nil (hKQ _ _ ?_)
    clear hKQ KQ
    have P5 := pageS_gr HM.out.2.1 gw5
    obtain ⟨⟨b0, d0⟩, ⟨da, dz, dc, d1⟩, y0, y1, sD5⟩ := pageS_cell2 P5 n HM.out.2.2
    have HP := Lib.hid (And.intro P5 o5)
    clear P5 o5
    go_wp2_with fail
    go_end0
    obtain ⟨P5, o5⟩ := HP.out
    have K := pageS_put (o := some L) (x := .bool true) (v := .slice g5 m cp5) P5 (n := n) HM.out.2.2 ⟨rfl, rowOff_own o5 (pgZ_lt sB sD), hl⟩
    exact ⟨rfl, D, K.1, Or.inl rfl, (Kx.of_gr gw5).trans (K.2.mono (fun k h => Or.inl (Or.inr (by rw [h]))))⟩
/-- What Insert leaves. -/
def insS (S : List Sl) (L : List UInt8) : List Sl := putS S (lfS S) (some L)
set_option maxHeartbeats 1000000 in
set_option maxRecDepth 100000 in
theorem p_insertS {L : List UInt8} (m cap : Nat) (ad : Option Addr) (hm : m = L.length) (he : reS S (lfS S) L.length = 0) (W : World) (h : PageS W B C kd id S) (hR : RowOff W (pgZ B C) (.slice ad m cap) L) :
    Calls Tryd.prog 12 #[.pointer (some ⟨B, 0, none⟩), .slice ad m cap] W fun e w' => e = .returned (.tuple #[.int .i64 (lfS S : Nat), .nilIface]) ∧ PutTo W B C kd id (insS S L) w' := by
  have hre := he
  have h60 : lfS S < 60 ∧ L.length ≤ 400 := by
    unfold reS at he
    by_cases h1 : 400 < L.length
    · rw [if_pos h1] at he; omega
    · rw [if_neg h1] at he
      by_cases h2 : 60 ≤ lfS S
      · rw [if_pos h2] at he; omega
      · omega
  have A1 := fun w (g : Gr W w) => p_leastS w (pageS_gr h g)
  have A2 := fun w (g : Gr W w) => p_refusalS (lfS S) m ad cap w (pageS_gr h g)
  have A3 := fun w (g : Gr W w) => p_fillS (lfS S) m cap ad hm (lfS_le S) h60.1 h60.2 w (pageS_gr h g) (rowOff_gr hR g)
  rw [hm, he] at A2
  have e0 : reV 0 = .nilIface := rfl
  rw [e0] at A2
  rw [← hm] at A2
  have hi : insS S L = putS S (lfS S) (some L) := rfl
  rw [hi]
  generalize lfS S = n at *
  have n60 : (n : Int) < 60 := by omega
  have H1 := Lib.hid A1
  have H2 := Lib.hid A2
  have H3 := Lib.hid A3
  clear A1 A2 A3
  clear h hR he hre h60 hm e0 hi
  go_enter Tryd.func12, Tryd.ntmps12
  go_wp2_with fail
  go_at_call 45
  refine ((H1.out _ (by go_grown))).mono ?_
  rintro e w1 ⟨rfl, hw1⟩
  have gw1 : Gr W w1 := Gr.trans (by go_grown) hw1
  clear hw1
  go_wp2_with fail
  go_at_call 46
  refine ((H2.out _ (by have gg := gw1; have gs := gg.size; go_grown))).mono ?_
  rintro e w2 ⟨rfl, hw2⟩
  have gw2 : Gr W w2 := Gr.trans (by have gg := gw1; have gs := gg.size; go_grown) hw2
  clear hw2 gw1
  go_wp2_with fail
  go_at_call 47
  refine (H3.out _ (by have gg := gw2; have gs := gg.size; go_grown)).mono ?_
  rintro e w3 ⟨rfl, D, hp, hD, hk⟩
  have hs2 := gw2.size
  have K3 : Kx (fun k => pgZ B C k ∨ W.heap.size ≤ k) W w3 := (Kx.of_gr gw2).trans (hk.mono (fun k h => by rcases h with h | h; exact Or.inl h; exact Or.inr (by omega)))
  have HP := Lib.hid (And.intro hp (And.intro hD K3))
  clear hk hp hD K3
  go_wp2_with fail
  go_ret2
  exact ⟨rfl, D, HP.out.1, by rcases HP.out.2.1 with h | h; exact Or.inl h; exact Or.inr (by omega), by first | exact HP.out.2.2 | exact HP.out.2.2.drew⟩
/-- .. or refuses. -/
theorem p_insert_no {k : Nat} (m cap : Nat) (ad : Option Addr) (he : reS S (lfS S) m = k + 1) (W : World) (h : PageS W B C kd id S) :
    Calls Tryd.prog 12 #[.pointer (some ⟨B, 0, none⟩), .slice ad m cap] W fun e w' => ∃ F, e = .returned (.tuple #[.int .i64 0, .iface 84 (.pointer (some ⟨F, 0, none⟩))]) ∧ FaultAt w' F pageS (lfS S : Nat) (k + 1 : Nat) ∧ Gr W w' := by
  have A1 := fun w (g : Gr W w) => p_leastS w (pageS_gr h g)
  have A2 := fun w (g : Gr W w) => p_refusalS (lfS S) m ad cap w (pageS_gr h g)
  rw [he] at A2
  have e0 : reV (k + 1) = .iface 76 (.int .i64 (k + 1 : Nat)) := rfl
  rw [e0] at A2
  have hl := lfS_le S
  obtain ⟨_, _, _, _, _, h4, _⟩ := h
  clear he e0
  generalize lfS S = n at *
  have n60 : (n : Int) ≤ 60 := by omega
  have H1 := Lib.hid A1
  have H2 := Lib.hid A2
  clear A1 A2
  go_enter Tryd.func12, Tryd.ntmps12
  go_wp2_with fail
  go_at_call 45
  refine ((H1.out _ (by go_grown))).mono ?_
  rintro e w1 ⟨rfl, hw1⟩
  have gw1 : Gr W w1 := Gr.trans (by go_grown) hw1
  clear hw1
  go_wp2_with fail
  go_at_call 46
  refine ((H2.out _ (by have gg := gw1; have gs := gg.size; go_grown))).mono ?_
  rintro e w2 ⟨rfl, hw2⟩
  have gw2 : Gr W w2 := Gr.trans (by have gg := gw1; have gs := gg.size; go_grown) hw2
  clear hw2 gw1
  go_wp2_with fail
  go_at_call 42
  refine (c_fNew pageS n (k + 1 : Nat) _).mono ?_
  rintro e w3 ⟨F, rfl, hf, g3⟩
  go_wp2_with fail
  go_ret2
  exact ⟨F, rfl, hf, Gr.trans (by have gg := gw2; have gs := gg.size; go_grown) g3⟩
end
end Go.Proofs.YtilijbplfobneaaDoor
