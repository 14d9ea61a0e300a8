/- model: a copy of an object; Same -/
import Derived.Test.YtpomllpplpalkaaGreatDoorWa
import Derived.Test.YtpomllpplpalkaaGreatDoorGc
namespace Go.Proofs.YtpomllpplpalkaaGreatDoor
set_option linter.unusedVariables false
set_option linter.unusedSimpArgs false
open Go.ChangeShapes Go.WideShapes Go.ChangeAt Go.RowKit Go.Maps

theorem own_rowW {w : World} {base e n : Nat} {v : Value} {xs : List Value} (h : w.ownsRow base e 2 v n xs) (hn : 0 < n) : ∃ D cap, v = .slice (some ⟨D, 0, none⟩) n cap ∧ n ≤ cap ∧ (cap : Int) ≤ 9223372036854775807 ∧ base ≤ D ∧ (∃ cur, w.heap[D]? = some (.cells cur e (0, 0))) ∧ ∀ j, j < n * 2 → w.cell? ⟨D, j, none⟩ = xs[j]? := by
  rcases h.2 with ⟨rfl, rfl⟩ | ⟨g, cap, cur, rfl, hb, hg, hn', hc, hs, ht⟩
  · exact absurd hn (Nat.lt_irrefl _)
  · exact ⟨g, cap, rfl, hn', by unfold maxLen at hc; omega, hb, ⟨cur, hg⟩, fun j hj => h.cellAt j hj⟩
theorem addAt_w (B off j : Nat) : (⟨B, off, none⟩ : Addr).add j = ⟨B, off + j, none⟩ := by unfold Addr.add; split <;> simp_all
def Fr2 (w : World) (B : Nat) : Prop := ∃ cur, w.heap[B]? = some (.cells cur 58 (0, 0))
theorem fr2_kx {a b : World} {S : Nat → Prop} {B : Nat} (h : Fr2 a B) (K : Kx S a b) (hB : ¬ S B) : Fr2 b B := by
  obtain ⟨cur, h⟩ := h
  exact ⟨cur, heap_kx K hB h⟩
def ptsL (n : Nat) (X Y : Nat → Int) : List Value := List.ofFn fun i : Fin (n * 2) => if i.1 % 2 = 0 then Value.int .i64 (X (i.1 / 2)) else Value.int .i64 (Y (i.1 / 2))
theorem ptsL_len (n : Nat) (X Y : Nat → Int) : (ptsL n X Y).length = n * 2 := by unfold ptsL; rw [List.length_ofFn]
theorem ptsL_x {n : Nat} {X Y : Nat → Int} {k : Nat} (h : k < n) : (ptsL n X Y)[k * 2]? = some (.int .i64 (X k)) := by
  unfold ptsL
  rw [List.getElem?_ofFn, dif_pos (by omega)]
  simp
theorem ptsL_y {n : Nat} {X Y : Nat → Int} {k : Nat} (h : k < n) : (ptsL n X Y)[k * 2 + 1]? = some (.int .i64 (Y k)) := by
  unfold ptsL
  rw [List.getElem?_ofFn, dif_pos (by omega)]
  simp only [show (k * 2 + 1) % 2 ≠ 0 by omega, if_false, show (k * 2 + 1) / 2 = k by omega, if_neg, not_false_eq_true]
theorem ptsL_one {n : Nat} {X Y : Nat → Int} : ∀ u ∈ ptsL n X Y, u.oneCell' = true := fun u hu => by
  unfold ptsL at hu
  rw [List.mem_ofFn] at hu
  obtain ⟨i, rfl⟩ := hu
  by_cases h : i.1 % 2 = 0
  · rw [if_pos h]; rfl
  · rw [if_neg h]; rfl
theorem ptsL_news {w : World} {B off n : Nat} {X Y : Nat → Int} (h : ∀ k, k < n → w.cell? ⟨B, off + k * 2, none⟩ = some (.int .i64 (X k)) ∧ w.cell? ⟨B, off + k * 2 + 1, none⟩ = some (.int .i64 (Y k))) : ∀ j u, (ptsL n X Y)[j]? = some u → w.cell? ((⟨B, off, none⟩ : Addr).add j) = some u := fun j u hu => by
  have hj : j < n * 2 := by
    have := (List.getElem?_eq_some_iff.1 hu).1
    rwa [ptsL_len] at this
  rw [addAt_w]
  by_cases e : j % 2 = 0
  · obtain ⟨k, rfl⟩ : ∃ k, j = k * 2 := ⟨j / 2, by omega⟩
    rw [ptsL_x (by omega)] at hu
    rw [← hu]
    exact (h k (by omega)).1
  · obtain ⟨k, rfl⟩ : ∃ k, j = k * 2 + 1 := ⟨j / 2, by omega⟩
    rw [ptsL_y (by omega)] at hu
    rw [← hu, ← Nat.add_assoc]
    exact (h k (by omega)).2
set_option maxHeartbeats 2000000 in
set_option maxRecDepth 100000 in
theorem c_rClone {n : Nat} {X Y : Nat → Int} {k : Int} {v : Value} (hn : 0 < n) (hn2 : n ≤ 1000) (W : World) (h : Pts W v n X Y) : Calls Tryz.prog 61 #[.agg #[.int .i64 k, v]] W fun e w' => ∃ B c, e = .returned (.agg #[.int .i64 k, .slice (some ⟨B, 0, none⟩) n c]) ∧ (Pts w' (.slice (some ⟨B, 0, none⟩) n c) n X Y ∧ Fr2 w' B) ∧ W.heap.size ≤ B ∧ Gr W w' := by
  obtain ⟨i0, hi0, hz0, hz1, hz2⟩ := info_parts (P := Tryz.prog) (e := 58) (z := .agg #[.int .i64 0, .int .i64 0]) (size := 2) (bytes := 16) (by kernel_rfl)
  have HI := Lib.hid (And.intro hi0 (And.intro hz0 (And.intro hz1 hz2)))
  clear hi0 hz0 hz1 hz2
  obtain ⟨ad, cap, B, off, rfl, h1, h2, h3, h4⟩ := h
  obtain rfl := h3 hn
  have HN := Lib.hid h4
  clear h3 h4
  go_enter Tryz.func61, Tryz.ntmps61
  go_wp2_with fail
  try simp only [List.append]
  refine Oe.wp_region_ordT (R := Kx (fun k => W.heap.size + 2 ≤ k)) 5 [(0, false), (1, false), (2, false), (3, false), (4, true)] (by kernel_rfl) (by kernel_rfl) ?_
  intro w1 hw1 KQ hKQ
  have hhw1 := Kx.of_gr (S := (fun k => W.heap.size + 2 ≤ k)) hw1
  have cw1_0_0 : w1.cell? ⟨W.heap.size, 0, none⟩ = some (.int .i64 k) := cell_kx hhw1 (by show ¬ (W.heap.size + 2 ≤ W.heap.size); omega) (by go_simp)
  have fw1_0_0 : w1.frozen? ⟨W.heap.size, 0, none⟩ = false := frozen_kx (v := .int .i64 k) hhw1 (by show ¬ (W.heap.size + 2 ≤ W.heap.size); omega) (by go_simp) (by go_simp)
  have cw1_0_1 : w1.cell? ⟨W.heap.size, 1, none⟩ = some (.slice (some ⟨B, off, none⟩) n cap) := cell_kx hhw1 (by show ¬ (W.heap.size + 2 ≤ W.heap.size); omega) (by go_simp)
  have fw1_0_1 : w1.frozen? ⟨W.heap.size, 1, none⟩ = false := frozen_kx (v := .slice (some ⟨B, off, none⟩) n cap) hhw1 (by show ¬ (W.heap.size + 2 ≤ W.heap.size); omega) (by go_simp) (by go_simp)
  have zw1_0 : W.heap.size < w1.heap.size := World.block_lt_of_cell? _ _ cw1_0_0
  have cw1_1_0 : w1.cell? ⟨W.heap.size + 1, 0, none⟩ = some (.int .i64 0) := cell_kx hhw1 (by show ¬ (W.heap.size + 2 ≤ W.heap.size + 1); omega) (by go_simp)
  have fw1_1_0 : w1.frozen? ⟨W.heap.size + 1, 0, none⟩ = false := frozen_kx (v := .int .i64 0) hhw1 (by show ¬ (W.heap.size + 2 ≤ W.heap.size + 1); omega) (by go_simp) (by go_simp)
  have cw1_1_1 : w1.cell? ⟨W.heap.size + 1, 1, none⟩ = some (.slice none 0 0) := cell_kx hhw1 (by show ¬ (W.heap.size + 2 ≤ W.heap.size + 1); omega) (by go_simp)
  have fw1_1_1 : w1.frozen? ⟨W.heap.size + 1, 1, none⟩ = false := frozen_kx (v := .slice none 0 0) hhw1 (by show ¬ (W.heap.size + 2 ≤ W.heap.size + 1); omega) (by go_simp) (by go_simp)
  have zw1_1 : W.heap.size + 1 < w1.heap.size := World.block_lt_of_cell? _ _ cw1_1_0
  have gw1 : Gr W w1 := Kx.gr hhw1 (by go_grown) (fun k hk => by have hk2 : W.heap.size + 2 ≤ k := hk; omega)
  have sw1 := hhw1.size
  skip
  clear hhw1
  repeat (first | (refine Oe.wpO_skip (by simp only [List.getElem?_toArray, List.getElem?_cons_succ, List.getElem?_cons_zero] <;> rfl) rfl ?_; simp only [Act.put, List.setIfInBounds_toArray, List.set_cons_zero, List.set_cons_succ]) | (refine Oe.wpO_pure (by simp only [List.getElem?_toArray, List.getElem?_cons_succ, List.getElem?_cons_zero] <;> rfl) rfl ?_; apply Exists.intro; refine ⟨?_, ?_⟩; (· intro wx gx; have cx_0_0 : wx.cell? ⟨W.heap.size, 0, none⟩ = some (.int .i64 k) := cell_kx gx (by show ¬ (W.heap.size + 2 ≤ W.heap.size); omega) cw1_0_0; have cx_0_1 : wx.cell? ⟨W.heap.size, 1, none⟩ = some (.slice (some ⟨B, off, none⟩) n cap) := cell_kx gx (by show ¬ (W.heap.size + 2 ≤ W.heap.size); omega) cw1_0_1; have zx_0 : W.heap.size < wx.heap.size := World.block_lt_of_cell? _ _ cx_0_0; have cx_1_0 : wx.cell? ⟨W.heap.size + 1, 0, none⟩ = some (.int .i64 0) := cell_kx gx (by show ¬ (W.heap.size + 2 ≤ W.heap.size + 1); omega) cw1_1_0; have cx_1_1 : wx.cell? ⟨W.heap.size + 1, 1, none⟩ = some (.slice none 0 0) := cell_kx gx (by show ¬ (W.heap.size + 2 ≤ W.heap.size + 1); omega) cw1_1_1; have zx_1 : W.heap.size + 1 < wx.heap.size := World.block_lt_of_cell? _ _ cx_1_0; clear gx; all_goals (apply Oe.pAt_of_quiet; intro K hK; go_big_quiet_op; first | exact hK _ rfl | (apply Exists.intro; refine ⟨fun _ => ?_, ?_⟩; (· fail); exact hK _ rfl))); try simp only [Act.put, List.setIfInBounds_toArray, List.set_cons_zero, List.set_cons_succ]))
  have HG1 := Lib.hid gw1
  have HL := Lib.hid (ptsL_news (X := X) (Y := Y) (fun k hk => ⟨cell_gr gw1 (HN.out k hk).1, cell_gr gw1 (HN.out k hk).2⟩))
  have s1 := gw1.size
  have zz1 := zw1_1
  refine Oe.wpO_call (by simp only [List.getElem?_toArray, List.getElem?_cons_succ, List.getElem?_cons_zero] <;> rfl) rfl ?_
  intro QS hQS
  refine (wpList_append_own2 _ rfl (.const (.slice none 0 0)) (.tmp 6) 32 rfl W.heap.size 58 i0 (.agg #[.int .i64 0, .int .i64 0]) 2 16 Tryz.underlying32 HI.out.1 HI.out.2.1 HI.out.2.2.1 HI.out.2.2.2 rfl (by decide) (.slice none 0 0) 0 [] rfl (World.ownsRow_nil _ _ _ _) ⟨B, off, none⟩ n cap (ptsL n X Y) rfl (ptsL_len n X Y) HL.out ptsL_one (by unfold maxLen; omega) (by omega) s1 ?_)
  intro x5 w5 o5 g5
  have hhw5 : Kx (fun k => W.heap.size + 2 ≤ k) w1 w5 := ((kx_grown g5).mono (fun k hk => by cases hk))
  refine hQS _ _ ⟨_, rfl, hhw5, ?_⟩
  clear hQS QS
  have cw5_0_0 : w5.cell? ⟨W.heap.size, 0, none⟩ = some (.int .i64 k) := cell_kx hhw5 (by show ¬ (W.heap.size + 2 ≤ W.heap.size); omega) (by go_simp)
  have fw5_0_0 : w5.frozen? ⟨W.heap.size, 0, none⟩ = false := frozen_kx (v := .int .i64 k) hhw5 (by show ¬ (W.heap.size + 2 ≤ W.heap.size); omega) (by go_simp) (by go_simp)
  have cw5_0_1 : w5.cell? ⟨W.heap.size, 1, none⟩ = some (.slice (some ⟨B, off, none⟩) n cap) := cell_kx hhw5 (by show ¬ (W.heap.size + 2 ≤ W.heap.size); omega) (by go_simp)
  have fw5_0_1 : w5.frozen? ⟨W.heap.size, 1, none⟩ = false := frozen_kx (v := .slice (some ⟨B, off, none⟩) n cap) hhw5 (by show ¬ (W.heap.size + 2 ≤ W.heap.size); omega) (by go_simp) (by go_simp)
  have zw5_0 : W.heap.size < w5.heap.size := World.block_lt_of_cell? _ _ cw5_0_0
  have cw5_1_0 : w5.cell? ⟨W.heap.size + 1, 0, none⟩ = some (.int .i64 0) := cell_kx hhw5 (by show ¬ (W.heap.size + 2 ≤ W.heap.size + 1); omega) (by go_simp)
  have fw5_1_0 : w5.frozen? ⟨W.heap.size + 1, 0, none⟩ = false := frozen_kx (v := .int .i64 0) hhw5 (by show ¬ (W.heap.size + 2 ≤ W.heap.size + 1); omega) (by go_simp) (by go_simp)
  have cw5_1_1 : w5.cell? ⟨W.heap.size + 1, 1, none⟩ = some (.slice none 0 0) := cell_kx hhw5 (by show ¬ (W.heap.size + 2 ≤ W.heap.size + 1); omega) (by go_simp)
  have fw5_1_1 : w5.frozen? ⟨W.heap.size + 1, 1, none⟩ = false := frozen_kx (v := .slice none 0 0) hhw5 (by show ¬ (W.heap.size + 2 ≤ W.heap.size + 1); omega) (by go_simp) (by go_simp)
  have zw5_1 : W.heap.size + 1 < w5.heap.size := World.block_lt_of_cell? _ _ cw5_1_0
  have gw5 : Gr W w5 := Kx.gr hhw5 gw1 (fun k hk => by have hk2 : W.heap.size + 2 ≤ k := hk; omega)
  have sw5 := hhw5.size
  clear gw1 zw1_0 cw1_0_0 fw1_0_0 cw1_0_1 fw1_0_1 zw1_1 cw1_1_0 fw1_1_0 cw1_1_1 fw1_1_1
  clear hhw5
  try simp only [Act.put, List.setIfInBounds_toArray, List.set_cons_zero, List.set_cons_succ]
  repeat (first | (refine Oe.wpO_skip (by simp only [List.getElem?_toArray, List.getElem?_cons_succ, List.getElem?_cons_zero] <;> rfl) rfl ?_; simp only [Act.put, List.setIfInBounds_toArray, List.set_cons_zero, List.set_cons_succ]) | (refine Oe.wpO_pure (by simp only [List.getElem?_toArray, List.getElem?_cons_succ, List.getElem?_cons_zero] <;> rfl) rfl ?_; apply Exists.intro; refine ⟨?_, ?_⟩; (· intro wx gx; have cx_0_0 : wx.cell? ⟨W.heap.size, 0, none⟩ = some (.int .i64 k) := cell_kx gx (by show ¬ (W.heap.size + 2 ≤ W.heap.size); omega) cw5_0_0; have cx_0_1 : wx.cell? ⟨W.heap.size, 1, none⟩ = some (.slice (some ⟨B, off, none⟩) n cap) := cell_kx gx (by show ¬ (W.heap.size + 2 ≤ W.heap.size); omega) cw5_0_1; have zx_0 : W.heap.size < wx.heap.size := World.block_lt_of_cell? _ _ cx_0_0; have cx_1_0 : wx.cell? ⟨W.heap.size + 1, 0, none⟩ = some (.int .i64 0) := cell_kx gx (by show ¬ (W.heap.size + 2 ≤ W.heap.size + 1); omega) cw5_1_0; have cx_1_1 : wx.cell? ⟨W.heap.size + 1, 1, none⟩ = some (.slice none 0 0) := cell_kx gx (by show ¬ (W.heap.size + 2 ≤ W.heap.size + 1); omega) cw5_1_1; have zx_1 : W.heap.size + 1 < wx.heap.size := World.block_lt_of_cell? _ _ cx_1_0; clear gx; all_goals (apply Oe.pAt_of_quiet; intro K hK; go_big_quiet_op; first | exact hK _ rfl | (apply Exists.intro; refine ⟨fun _ => ?_, ?_⟩; (· fail); exact hK _ rfl))); try simp only [Act.put, List.setIfInBounds_toArray, List.set_cons_zero, List.set_cons_succ]))
  obtain ⟨D, c5, rfl, e1, e2, e3, eh, e4⟩ := own_rowW o5 (by omega)
  have hD := g5.2 D rfl
  have hD' : w1.heap.size ≤ D := by rcases hD with h | h; cases h; exact h
  have HO5 := Lib.hid (And.intro gw5 (And.intro e4 (And.intro hD' (And.intro e1 eh))))
  clear o5 g5 hD e4 hD' eh
  refine Oe.wpO_nil (hKQ _ _ ?_)
  clear hKQ KQ
  go_wp2_with fail
  refine bodyPost_ret (res_obj (p := 2) (N := W.heap.size + 1) (k := k) (u := .slice (some ⟨D, 0, none⟩) (0 + n) c5) rfl rfl (by go_simp) (by go_simp)) rfl ?_
  obtain ⟨G5, e4, hD', e1, eh⟩ := HO5.out
  rw [Nat.zero_add] at e1 e4 ⊢
  have hne : ¬ D = W.heap.size + 1 := by omega
  have KK : Kx (fun k => k = W.heap.size + 1) w5 ((w5.setCell ⟨W.heap.size + 1, 0, none⟩ (.int .i64 k)).setCell ⟨W.heap.size + 1, 1, none⟩ (.slice (some ⟨D, 0, none⟩) n c5)) := ((Kx.refl (S := fun k => k = W.heap.size + 1) w5).setCell (p := ⟨W.heap.size + 1, 0, none⟩) rfl (.int .i64 k)).setCell (p := ⟨W.heap.size + 1, 1, none⟩) rfl (.slice (some ⟨D, 0, none⟩) n c5)
  refine ⟨D, c5, rfl, ⟨?_, fr2_kx (show Fr2 w5 D from eh) KK hne⟩, by omega, ?_⟩
  · refine ⟨some ⟨D, 0, none⟩, c5, D, 0, rfl, e1, by omega, fun _ => rfl, fun q hq => ?_⟩
    have a := e4 (q * 2) (by omega)
    have b := e4 (q * 2 + 1) (by omega)
    rw [List.nil_append, ptsL_x hq] at a
    rw [List.nil_append, ptsL_y hq] at b
    have K : Kx (fun k => k = W.heap.size + 1) w5 _ := ((Kx.refl (S := fun k => k = W.heap.size + 1) w5).setCell (p := ⟨W.heap.size + 1, 0, none⟩) rfl (.int .i64 k)).setCell (p := ⟨W.heap.size + 1, 1, none⟩) rfl (.slice (some ⟨D, 0, none⟩) n c5)
    rw [Nat.zero_add]
    exact ⟨cell_kx K (p := ⟨D, q * 2, none⟩) hne a, cell_kx K (p := ⟨D, q * 2 + 1, none⟩) hne b⟩
  · exact (G5.setCell (p := ⟨W.heap.size + 1, 0, none⟩) (by show W.heap.size ≤ W.heap.size + 1; omega) _).setCell (p := ⟨W.heap.size + 1, 1, none⟩) (by show W.heap.size ≤ W.heap.size + 1; omega) _
end Go.Proofs.YtpomllpplpalkaaGreatDoor
