/- stage: a copy of any object; Get of any map; an error that wraps one -/
import Derived.Test.YtpomllpplpalkaaGreatDoorWk
import Derived.Test.YtpomllpplpalkaaGreatDoorWl
import Derived.Test.YtpomllpplpalkaaGreatDoorWm
namespace Go.Proofs.YtpomllpplpalkaaGreatDoor
set_option linter.unusedVariables false
set_option linter.unusedSimpArgs false
open Go.ChangeShapes Go.WideShapes Go.ChangeAt Go.RowKit Go.Maps

theorem wpList_append_rowT {P : Program} {w : World} {ops : Array Oper} {rest : List Oper} {o : Oper} {a : Act} {Q : Exit → Act → World → Prop} (hgd : o.guard = none) (s x : Operand) (t : TypeId)
    (ho : o.op = .call { callee := .builtin .append, args := #[s, x], argTypes := #[t, t] })
    (base : Nat) (e : TypeId) (i : TypeInfo) (z : Value) (size bytes : Nat) (ht : P.underlying t = some (.slice e)) (hi : P.info? e = some i) (hz : i.zero = some z)
    (hsize : i.size = size) (hby : i.bytes = bytes) (hzs : z.cells.size = size) (hsz : 0 < size)
    (v : Value) (n : Nat) (xs : List Value) (hs : a.eval s = v) (hown : w.ownsRow base e size v n xs)
    {c : Nat} (hx : a.eval x = .slice none 0 c)
    (h : ∀ v' w', w'.ownsRow base e size v' n xs → Grown w w' v v' → wpList P ops Q rest (a.put o.dst v') w') : wpList P ops Q (o :: rest) a w := by
  refine wpList_plain hgd fun K hK => ?_
  unfold Oper.wp execOp
  simp only [ho, resolve, invoke, builtin, Sem.run_bind, Sem.run_pure, Result.andThen_ok, List.map_toArray, List.map_cons, List.map_nil, hs, hx, run_append_nothing (P := P) (ty := o.type) ht hi hown]
  exact hK _ _ (h v w hown (Grown.refl w v))
def PtsF (w : World) (base : Nat) (v : Value) (n : Nat) (X Y : Nat → Int) : Prop := Pts w v n X Y ∧ (0 < n → ∃ B c, v = .slice (some ⟨B, 0, none⟩) n c ∧ Fr2 w B ∧ base ≤ B)
theorem ptsF_ty {S : Nat → Prop} {a b : World} {base n : Nat} {v : Value} {X Y : Nat → Int} (h : PtsF a base v n X Y) (K : Kx S a b) (hS : ∀ B, Fr2 a B → ¬ S B) : PtsF b base v n X Y := by
  obtain ⟨hp, hb⟩ := h
  rcases Nat.eq_zero_or_pos n with e | hn
  · subst e
    obtain ⟨ad, cap, B, off, e, h1, h2, h3, h4⟩ := hp
    exact ⟨⟨ad, cap, B, off, e, h1, h2, h3, fun q hq => absurd hq (Nat.not_lt_zero _)⟩, fun h => absurd h (Nat.lt_irrefl _)⟩
  · obtain ⟨B, c, rfl, hf, hB⟩ := hb hn
    exact ⟨pts_kxW hn hp K (hS B hf), fun _ => ⟨B, c, rfl, fr2_kx hf K (hS B hf), hB⟩⟩
theorem ptsF_gr {a b : World} {base n : Nat} {v : Value} {X Y : Nat → Int} (h : PtsF a base v n X Y) (g : Gr a b) : PtsF b base v n X Y := ptsF_ty (S := fun _ => False) h (Kx.of_gr g) (fun _ _ h => h)
theorem ptsF_le {w : World} {base base' n : Nat} {v : Value} {X Y : Nat → Int} (h : PtsF w base v n X Y) (hb : base' ≤ base) : PtsF w base' v n X Y := ⟨h.1, fun hn => by
  obtain ⟨B, c, e, h1, h2⟩ := h.2 hn
  exact ⟨B, c, e, h1, Nat.le_trans hb h2⟩⟩
theorem pts_any0 {w : World} (X Y : Nat → Int) : Pts w (.slice none 0 0) 0 X Y := ⟨none, 0, 0, 0, rfl, Nat.le_refl _, by decide, fun h => absurd h (Nat.lt_irrefl _), fun q hq => absurd hq (Nat.not_lt_zero _)⟩
theorem own_any {w : World} {base e s : Nat} {v : Value} {n : Nat} {xs : List Value} (h : w.ownsRow base e s v n xs) : ∃ ad c, v = .slice ad n c ∧ n ≤ c ∧ c ≤ 9223372036854775807 := by
  rcases h.2 with ⟨rfl, rfl⟩ | ⟨g, cap, cur, rfl, hb, hg, hn', hc, hs, ht⟩
  · exact ⟨none, 0, rfl, Nat.le_refl _, by decide⟩
  · exact ⟨_, cap, rfl, hn', by unfold maxLen at hc; omega⟩
set_option maxHeartbeats 2000000 in
set_option maxRecDepth 100000 in
theorem c_rCloneL {n : Nat} {X Y : Nat → Int} {k : Int} {v : Value} (hn : 0 < n) (hn2 : n ≤ 1000000) (W : World) (h : Pts W v n X Y) : Calls Tryz.prog 61 #[.agg #[.int .i64 k, v]] W fun e w' => ∃ B c, e = .returned (.agg #[.int .i64 k, .slice (some ⟨B, 0, none⟩) n c]) ∧ (Pts w' (.slice (some ⟨B, 0, none⟩) n c) n X Y ∧ Fr2 w' B) ∧ W.heap.size ≤ B ∧ Gr W w' := by
  obtain ⟨i0, hi0, hz0, hz1, hz2⟩ := info_parts (P := Tryz.prog) (e := 58) (z := .agg #[.int .i64 0, .int .i64 0]) (size := 2) (bytes := 16) (by kernel_rfl)
  have HI := Lib.hid (And.intro hi0 (And.intro hz0 (And.intro hz1 hz2)))
  clear hi0 hz0 hz1 hz2
  obtain ⟨ad, cap, B, off, rfl, h1, h2, h3, h4⟩ := h
  obtain rfl := h3 hn
  have HN := Lib.hid h4
  clear h3 h4
  go_enter Tryz.func61, Tryz.ntmps61
  go_wp2_with fail
  try simp only [List.append]
  refine Oe.wp_region_ordT (R := Kx (fun k => W.heap.size + 2 ≤ k)) 5 [(0, false), (1, false), (2, false), (3, false), (4, true)] (by kernel_rfl) (by kernel_rfl) ?_
  intro w1 hw1 KQ hKQ
  have hhw1 := Kx.of_gr (S := (fun k => W.heap.size + 2 ≤ k)) hw1
  have cw1_0_0 : w1.cell? ⟨W.heap.size, 0, none⟩ = some (.int .i64 k) := cell_kx hhw1 (by show ¬ (W.heap.size + 2 ≤ W.heap.size); omega) (by go_simp)
  have fw1_0_0 : w1.frozen? ⟨W.heap.size, 0, none⟩ = false := frozen_kx (v := .int .i64 k) hhw1 (by show ¬ (W.heap.size + 2 ≤ W.heap.size); omega) (by go_simp) (by go_simp)
  have cw1_0_1 : w1.cell? ⟨W.heap.size, 1, none⟩ = some (.slice (some ⟨B, off, none⟩) n cap) := cell_kx hhw1 (by show ¬ (W.heap.size + 2 ≤ W.heap.size); omega) (by go_simp)
  have fw1_0_1 : w1.frozen? ⟨W.heap.size, 1, none⟩ = false := frozen_kx (v := .slice (some ⟨B, off, none⟩) n cap) hhw1 (by show ¬ (W.heap.size + 2 ≤ W.heap.size); omega) (by go_simp) (by go_simp)
  have zw1_0 : W.heap.size < w1.heap.size := World.block_lt_of_cell? _ _ cw1_0_0
  have cw1_1_0 : w1.cell? ⟨W.heap.size + 1, 0, none⟩ = some (.int .i64 0) := cell_kx hhw1 (by show ¬ (W.heap.size + 2 ≤ W.heap.size + 1); omega) (by go_simp)
  have fw1_1_0 : w1.frozen? ⟨W.heap.size + 1, 0, none⟩ = false := frozen_kx (v := .int .i64 0) hhw1 (by show ¬ (W.heap.size + 2 ≤ W.heap.size + 1); omega) (by go_simp) (by go_simp)
  have cw1_1_1 : w1.cell? ⟨W.heap.size + 1, 1, none⟩ = some (.slice none 0 0) := cell_kx hhw1 (by show ¬ (W.heap.size + 2 ≤ W.heap.size + 1); omega) (by go_simp)
  have fw1_1_1 : w1.frozen? ⟨W.heap.size + 1, 1, none⟩ = false := frozen_kx (v := .slice none 0 0) hhw1 (by show ¬ (W.heap.size + 2 ≤ W.heap.size + 1); omega) (by go_simp) (by go_simp)
  have zw1_1 : W.heap.size + 1 < w1.heap.size := World.block_lt_of_cell? _ _ cw1_1_0
  have gw1 : Gr W w1 := Kx.gr hhw1 (by go_grown) (fun k hk => by have hk2 : W.heap.size + 2 ≤ k := hk; omega)
  have sw1 := hhw1.size
  skip
  clear hhw1
  repeat (first | (refine Oe.wpO_skip (by simp only [List.getElem?_toArray, List.getElem?_cons_succ, List.getElem?_cons_zero] <;> rfl) rfl ?_; simp only [Act.put, List.setIfInBounds_toArray, List.set_cons_zero, List.set_cons_succ]) | (refine Oe.wpO_pure (by simp only [List.getElem?_toArray, List.getElem?_cons_succ, List.getElem?_cons_zero] <;> rfl) rfl ?_; apply Exists.intro; refine ⟨?_, ?_⟩; (· intro wx gx; have cx_0_0 : wx.cell? ⟨W.heap.size, 0, none⟩ = some (.int .i64 k) := cell_kx gx (by show ¬ (W.heap.size + 2 ≤ W.heap.size); omega) cw1_0_0; have cx_0_1 : wx.cell? ⟨W.heap.size, 1, none⟩ = some (.slice (some ⟨B, off, none⟩) n cap) := cell_kx gx (by show ¬ (W.heap.size + 2 ≤ W.heap.size); omega) cw1_0_1; have zx_0 : W.heap.size < wx.heap.size := World.block_lt_of_cell? _ _ cx_0_0; have cx_1_0 : wx.cell? ⟨W.heap.size + 1, 0, none⟩ = some (.int .i64 0) := cell_kx gx (by show ¬ (W.heap.size + 2 ≤ W.heap.size + 1); omega) cw1_1_0; have cx_1_1 : wx.cell? ⟨W.heap.size + 1, 1, none⟩ = some (.slice none 0 0) := cell_kx gx (by show ¬ (W.heap.size + 2 ≤ W.heap.size + 1); omega) cw1_1_1; have zx_1 : W.heap.size + 1 < wx.heap.size := World.block_lt_of_cell? _ _ cx_1_0; clear gx; all_goals (apply Oe.pAt_of_quiet; intro K hK; go_big_quiet_op; first | exact hK _ rfl | (apply Exists.intro; refine ⟨fun _ => ?_, ?_⟩; (· fail); exact hK _ rfl))); try simp only [Act.put, List.setIfInBounds_toArray, List.set_cons_zero, List.set_cons_succ]))
  have HG1 := Lib.hid gw1
  have HL := Lib.hid (ptsL_news (X := X) (Y := Y) (fun k hk => ⟨cell_gr gw1 (HN.out k hk).1, cell_gr gw1 (HN.out k hk).2⟩))
  have s1 := gw1.size
  have zz1 := zw1_1
  refine Oe.wpO_call (by simp only [List.getElem?_toArray, List.getElem?_cons_succ, List.getElem?_cons_zero] <;> rfl) rfl ?_
  intro QS hQS
  refine (wpList_append_own2 _ rfl (.const (.slice none 0 0)) (.tmp 6) 32 rfl W.heap.size 58 i0 (.agg #[.int .i64 0, .int .i64 0]) 2 16 Tryz.underlying32 HI.out.1 HI.out.2.1 HI.out.2.2.1 HI.out.2.2.2 rfl (by decide) (.slice none 0 0) 0 [] rfl (World.ownsRow_nil _ _ _ _) ⟨B, off, none⟩ n cap (ptsL n X Y) rfl (ptsL_len n X Y) HL.out ptsL_one (by unfold maxLen; omega) (by omega) s1 ?_)
  intro x5 w5 o5 g5
  have hhw5 : Kx (fun k => W.heap.size + 2 ≤ k) w1 w5 := ((kx_grown g5).mono (fun k hk => by cases hk))
  refine hQS _ _ ⟨_, rfl, hhw5, ?_⟩
  clear hQS QS
  have cw5_0_0 : w5.cell? ⟨W.heap.size, 0, none⟩ = some (.int .i64 k) := cell_kx hhw5 (by show ¬ (W.heap.size + 2 ≤ W.heap.size); omega) (by go_simp)
  have fw5_0_0 : w5.frozen? ⟨W.heap.size, 0, none⟩ = false := frozen_kx (v := .int .i64 k) hhw5 (by show ¬ (W.heap.size + 2 ≤ W.heap.size); omega) (by go_simp) (by go_simp)
  have cw5_0_1 : w5.cell? ⟨W.heap.size, 1, none⟩ = some (.slice (some ⟨B, off, none⟩) n cap) := cell_kx hhw5 (by show ¬ (W.heap.size + 2 ≤ W.heap.size); omega) (by go_simp)
  have fw5_0_1 : w5.frozen? ⟨W.heap.size, 1, none⟩ = false := frozen_kx (v := .slice (some ⟨B, off, none⟩) n cap) hhw5 (by show ¬ (W.heap.size + 2 ≤ W.heap.size); omega) (by go_simp) (by go_simp)
  have zw5_0 : W.heap.size < w5.heap.size := World.block_lt_of_cell? _ _ cw5_0_0
  have cw5_1_0 : w5.cell? ⟨W.heap.size + 1, 0, none⟩ = some (.int .i64 0) := cell_kx hhw5 (by show ¬ (W.heap.size + 2 ≤ W.heap.size + 1); omega) (by go_simp)
  have fw5_1_0 : w5.frozen? ⟨W.heap.size + 1, 0, none⟩ = false := frozen_kx (v := .int .i64 0) hhw5 (by show ¬ (W.heap.size + 2 ≤ W.heap.size + 1); omega) (by go_simp) (by go_simp)
  have cw5_1_1 : w5.cell? ⟨W.heap.size + 1, 1, none⟩ = some (.slice none 0 0) := cell_kx hhw5 (by show ¬ (W.heap.size + 2 ≤ W.heap.size + 1); omega) (by go_simp)
  have fw5_1_1 : w5.frozen? ⟨W.heap.size + 1, 1, none⟩ = false := frozen_kx (v := .slice none 0 0) hhw5 (by show ¬ (W.heap.size + 2 ≤ W.heap.size + 1); omega) (by go_simp) (by go_simp)
  have zw5_1 : W.heap.size + 1 < w5.heap.size := World.block_lt_of_cell? _ _ cw5_1_0
  have gw5 : Gr W w5 := Kx.gr hhw5 gw1 (fun k hk => by have hk2 : W.heap.size + 2 ≤ k := hk; omega)
  have sw5 := hhw5.size
  clear gw1 zw1_0 cw1_0_0 fw1_0_0 cw1_0_1 fw1_0_1 zw1_1 cw1_1_0 fw1_1_0 cw1_1_1 fw1_1_1
  clear hhw5
  try simp only [Act.put, List.setIfInBounds_toArray, List.set_cons_zero, List.set_cons_succ]
  repeat (first | (refine Oe.wpO_skip (by simp only [List.getElem?_toArray, List.getElem?_cons_succ, List.getElem?_cons_zero] <;> rfl) rfl ?_; simp only [Act.put, List.setIfInBounds_toArray, List.set_cons_zero, List.set_cons_succ]) | (refine Oe.wpO_pure (by simp only [List.getElem?_toArray, List.getElem?_cons_succ, List.getElem?_cons_zero] <;> rfl) rfl ?_; apply Exists.intro; refine ⟨?_, ?_⟩; (· intro wx gx; have cx_0_0 : wx.cell? ⟨W.heap.size, 0, none⟩ = some (.int .i64 k) := cell_kx gx (by show ¬ (W.heap.size + 2 ≤ W.heap.size); omega) cw5_0_0; have cx_0_1 : wx.cell? ⟨W.heap.size, 1, none⟩ = some (.slice (some ⟨B, off, none⟩) n cap) := cell_kx gx (by show ¬ (W.heap.size + 2 ≤ W.heap.size); omega) cw5_0_1; have zx_0 : W.heap.size < wx.heap.size := World.block_lt_of_cell? _ _ cx_0_0; have cx_1_0 : wx.cell? ⟨W.heap.size + 1, 0, none⟩ = some (.int .i64 0) := cell_kx gx (by show ¬ (W.heap.size + 2 ≤ W.heap.size + 1); omega) cw5_1_0; have cx_1_1 : wx.cell? ⟨W.heap.size + 1, 1, none⟩ = some (.slice none 0 0) := cell_kx gx (by show ¬ (W.heap.size + 2 ≤ W.heap.size + 1); omega) cw5_1_1; have zx_1 : W.heap.size + 1 < wx.heap.size := World.block_lt_of_cell? _ _ cx_1_0; clear gx; all_goals (apply Oe.pAt_of_quiet; intro K hK; go_big_quiet_op; first | exact hK _ rfl | (apply Exists.intro; refine ⟨fun _ => ?_, ?_⟩; (· fail); exact hK _ rfl))); try simp only [Act.put, List.setIfInBounds_toArray, List.set_cons_zero, List.set_cons_succ]))
  obtain ⟨D, c5, rfl, e1, e2, e3, eh, e4⟩ := own_rowW o5 (by omega)
  have hD := g5.2 D rfl
  have hD' : w1.heap.size ≤ D := by rcases hD with h | h; cases h; exact h
  have HO5 := Lib.hid (And.intro gw5 (And.intro e4 (And.intro hD' (And.intro e1 eh))))
  clear o5 g5 hD e4 hD' eh
  refine Oe.wpO_nil (hKQ _ _ ?_)
  clear hKQ KQ
  go_wp2_with fail
  refine bodyPost_ret (res_obj (p := 2) (N := W.heap.size + 1) (k := k) (u := .slice (some ⟨D, 0, none⟩) (0 + n) c5) rfl rfl (by go_simp) (by go_simp)) rfl ?_
  obtain ⟨G5, e4, hD', e1, eh⟩ := HO5.out
  rw [Nat.zero_add] at e1 e4 ⊢
  have hne : ¬ D = W.heap.size + 1 := by omega
  have KK : Kx (fun k => k = W.heap.size + 1) w5 ((w5.setCell ⟨W.heap.size + 1, 0, none⟩ (.int .i64 k)).setCell ⟨W.heap.size + 1, 1, none⟩ (.slice (some ⟨D, 0, none⟩) n c5)) := ((Kx.refl (S := fun k => k = W.heap.size + 1) w5).setCell (p := ⟨W.heap.size + 1, 0, none⟩) rfl (.int .i64 k)).setCell (p := ⟨W.heap.size + 1, 1, none⟩) rfl (.slice (some ⟨D, 0, none⟩) n c5)
  refine ⟨D, c5, rfl, ⟨?_, fr2_kx (show Fr2 w5 D from eh) KK hne⟩, by omega, ?_⟩
  · refine ⟨some ⟨D, 0, none⟩, c5, D, 0, rfl, e1, by omega, fun _ => rfl, fun q hq => ?_⟩
    have a := e4 (q * 2) (by omega)
    have b := e4 (q * 2 + 1) (by omega)
    rw [List.nil_append, ptsL_x hq] at a
    rw [List.nil_append, ptsL_y hq] at b
    have K : Kx (fun k => k = W.heap.size + 1) w5 _ := ((Kx.refl (S := fun k => k = W.heap.size + 1) w5).setCell (p := ⟨W.heap.size + 1, 0, none⟩) rfl (.int .i64 k)).setCell (p := ⟨W.heap.size + 1, 1, none⟩) rfl (.slice (some ⟨D, 0, none⟩) n c5)
    rw [Nat.zero_add]
    exact ⟨cell_kx K (p := ⟨D, q * 2, none⟩) hne a, cell_kx K (p := ⟨D, q * 2 + 1, none⟩) hne b⟩
  · exact (G5.setCell (p := ⟨W.heap.size + 1, 0, none⟩) (by show W.heap.size ≤ W.heap.size + 1; omega) _).setCell (p := ⟨W.heap.size + 1, 1, none⟩) (by show W.heap.size ≤ W.heap.size + 1; omega) _
set_option maxHeartbeats 2000000 in
set_option maxRecDepth 100000 in
theorem c_rClone0 {X Y : Nat → Int} {k : Int} {v : Value} (W : World) (h : Pts W v 0 X Y) : Calls Tryz.prog 61 #[.agg #[.int .i64 k, v]] W fun e w' => ∃ u, e = .returned (.agg #[.int .i64 k, u]) ∧ Pts w' u 0 X Y ∧ Gr W w' := by
  obtain ⟨i0, hi0, hz0, hz1, hz2⟩ := info_parts (P := Tryz.prog) (e := 58) (z := .agg #[.int .i64 0, .int .i64 0]) (size := 2) (bytes := 16) (by kernel_rfl)
  have HI := Lib.hid (And.intro hi0 (And.intro hz0 (And.intro hz1 hz2)))
  clear hi0 hz0 hz1 hz2
  obtain ⟨ad, cap, B, off, rfl, h1, h2, -, -⟩ := h
  cases ad with
  | none => 
    go_enter Tryz.func61, Tryz.ntmps61
    go_wp2_with fail
    try simp only [List.append]
    refine Oe.wp_region_ordT (R := Kx (fun k => W.heap.size + 2 ≤ k)) 5 [(0, false), (1, false), (2, false), (3, false), (4, true)] (by kernel_rfl) (by kernel_rfl) ?_
    intro w1 hw1 KQ hKQ
    have hhw1 := Kx.of_gr (S := (fun k => W.heap.size + 2 ≤ k)) hw1
    have cw1_0_0 : w1.cell? ⟨W.heap.size, 0, none⟩ = some (.int .i64 k) := cell_kx hhw1 (by show ¬ (W.heap.size + 2 ≤ W.heap.size); omega) (by go_simp)
    have fw1_0_0 : w1.frozen? ⟨W.heap.size, 0, none⟩ = false := frozen_kx (v := .int .i64 k) hhw1 (by show ¬ (W.heap.size + 2 ≤ W.heap.size); omega) (by go_simp) (by go_simp)
    have cw1_0_1 : w1.cell? ⟨W.heap.size, 1, none⟩ = some (.slice none 0 cap) := cell_kx hhw1 (by show ¬ (W.heap.size + 2 ≤ W.heap.size); omega) (by go_simp)
    have fw1_0_1 : w1.frozen? ⟨W.heap.size, 1, none⟩ = false := frozen_kx (v := .slice none 0 cap) hhw1 (by show ¬ (W.heap.size + 2 ≤ W.heap.size); omega) (by go_simp) (by go_simp)
    have zw1_0 : W.heap.size < w1.heap.size := World.block_lt_of_cell? _ _ cw1_0_0
    have cw1_1_0 : w1.cell? ⟨W.heap.size + 1, 0, none⟩ = some (.int .i64 0) := cell_kx hhw1 (by show ¬ (W.heap.size + 2 ≤ W.heap.size + 1); omega) (by go_simp)
    have fw1_1_0 : w1.frozen? ⟨W.heap.size + 1, 0, none⟩ = false := frozen_kx (v := .int .i64 0) hhw1 (by show ¬ (W.heap.size + 2 ≤ W.heap.size + 1); omega) (by go_simp) (by go_simp)
    have cw1_1_1 : w1.cell? ⟨W.heap.size + 1, 1, none⟩ = some (.slice none 0 0) := cell_kx hhw1 (by show ¬ (W.heap.size + 2 ≤ W.heap.size + 1); omega) (by go_simp)
    have fw1_1_1 : w1.frozen? ⟨W.heap.size + 1, 1, none⟩ = false := frozen_kx (v := .slice none 0 0) hhw1 (by show ¬ (W.heap.size + 2 ≤ W.heap.size + 1); omega) (by go_simp) (by go_simp)
    have zw1_1 : W.heap.size + 1 < w1.heap.size := World.block_lt_of_cell? _ _ cw1_1_0
    have gw1 : Gr W w1 := Kx.gr hhw1 (by go_grown) (fun k hk => by have hk2 : W.heap.size + 2 ≤ k := hk; omega)
    have sw1 := hhw1.size
    skip
    clear hhw1
    repeat (first | (refine Oe.wpO_skip (by simp only [List.getElem?_toArray, List.getElem?_cons_succ, List.getElem?_cons_zero] <;> rfl) rfl ?_; simp only [Act.put, List.setIfInBounds_toArray, List.set_cons_zero, List.set_cons_succ]) | (refine Oe.wpO_pure (by simp only [List.getElem?_toArray, List.getElem?_cons_succ, List.getElem?_cons_zero] <;> rfl) rfl ?_; apply Exists.intro; refine ⟨?_, ?_⟩; (· intro wx gx; have cx_0_0 : wx.cell? ⟨W.heap.size, 0, none⟩ = some (.int .i64 k) := cell_kx gx (by show ¬ (W.heap.size + 2 ≤ W.heap.size); omega) cw1_0_0; have cx_0_1 : wx.cell? ⟨W.heap.size, 1, none⟩ = some (.slice none 0 cap) := cell_kx gx (by show ¬ (W.heap.size + 2 ≤ W.heap.size); omega) cw1_0_1; have zx_0 : W.heap.size < wx.heap.size := World.block_lt_of_cell? _ _ cx_0_0; have cx_1_0 : wx.cell? ⟨W.heap.size + 1, 0, none⟩ = some (.int .i64 0) := cell_kx gx (by show ¬ (W.heap.size + 2 ≤ W.heap.size + 1); omega) cw1_1_0; have cx_1_1 : wx.cell? ⟨W.heap.size + 1, 1, none⟩ = some (.slice none 0 0) := cell_kx gx (by show ¬ (W.heap.size + 2 ≤ W.heap.size + 1); omega) cw1_1_1; have zx_1 : W.heap.size + 1 < wx.heap.size := World.block_lt_of_cell? _ _ cx_1_0; clear gx; all_goals (apply Oe.pAt_of_quiet; intro K hK; go_big_quiet_op; first | exact hK _ rfl | (apply Exists.intro; refine ⟨fun _ => ?_, ?_⟩; (· fail); exact hK _ rfl))); try simp only [Act.put, List.setIfInBounds_toArray, List.set_cons_zero, List.set_cons_succ]))
    have HG1 := Lib.hid gw1
    have s1 := gw1.size
    have zz1 := zw1_1
    refine Oe.wpO_call (by simp only [List.getElem?_toArray, List.getElem?_cons_succ, List.getElem?_cons_zero] <;> rfl) rfl ?_
    intro QS hQS
    refine (wpList_append_rowT rfl (.const (.slice none 0 0)) (.tmp 6) 32 rfl W.heap.size 58 i0 (.agg #[.int .i64 0, .int .i64 0]) 2 16 Tryz.underlying32 HI.out.1 HI.out.2.1 HI.out.2.2.1 HI.out.2.2.2 rfl (by decide) (.slice none 0 0) 0 [] rfl (World.ownsRow_nil _ _ _ _) rfl ?_)
    intro x5 w5 o5 g5
    have hhw5 : Kx (fun k => W.heap.size + 2 ≤ k) w1 w5 := ((kx_grown g5).mono (fun k hk => by cases hk))
    refine hQS _ _ ⟨_, rfl, hhw5, ?_⟩
    clear hQS QS
    have cw5_0_0 : w5.cell? ⟨W.heap.size, 0, none⟩ = some (.int .i64 k) := cell_kx hhw5 (by show ¬ (W.heap.size + 2 ≤ W.heap.size); omega) (by go_simp)
    have fw5_0_0 : w5.frozen? ⟨W.heap.size, 0, none⟩ = false := frozen_kx (v := .int .i64 k) hhw5 (by show ¬ (W.heap.size + 2 ≤ W.heap.size); omega) (by go_simp) (by go_simp)
    have cw5_0_1 : w5.cell? ⟨W.heap.size, 1, none⟩ = some (.slice none 0 cap) := cell_kx hhw5 (by show ¬ (W.heap.size + 2 ≤ W.heap.size); omega) (by go_simp)
    have fw5_0_1 : w5.frozen? ⟨W.heap.size, 1, none⟩ = false := frozen_kx (v := .slice none 0 cap) hhw5 (by show ¬ (W.heap.size + 2 ≤ W.heap.size); omega) (by go_simp) (by go_simp)
    have zw5_0 : W.heap.size < w5.heap.size := World.block_lt_of_cell? _ _ cw5_0_0
    have cw5_1_0 : w5.cell? ⟨W.heap.size + 1, 0, none⟩ = some (.int .i64 0) := cell_kx hhw5 (by show ¬ (W.heap.size + 2 ≤ W.heap.size + 1); omega) (by go_simp)
    have fw5_1_0 : w5.frozen? ⟨W.heap.size + 1, 0, none⟩ = false := frozen_kx (v := .int .i64 0) hhw5 (by show ¬ (W.heap.size + 2 ≤ W.heap.size + 1); omega) (by go_simp) (by go_simp)
    have cw5_1_1 : w5.cell? ⟨W.heap.size + 1, 1, none⟩ = some (.slice none 0 0) := cell_kx hhw5 (by show ¬ (W.heap.size + 2 ≤ W.heap.size + 1); omega) (by go_simp)
    have fw5_1_1 : w5.frozen? ⟨W.heap.size + 1, 1, none⟩ = false := frozen_kx (v := .slice none 0 0) hhw5 (by show ¬ (W.heap.size + 2 ≤ W.heap.size + 1); omega) (by go_simp) (by go_simp)
    have zw5_1 : W.heap.size + 1 < w5.heap.size := World.block_lt_of_cell? _ _ cw5_1_0
    have gw5 : Gr W w5 := Kx.gr hhw5 gw1 (fun k hk => by have hk2 : W.heap.size + 2 ≤ k := hk; omega)
    have sw5 := hhw5.size
    clear gw1 zw1_0 cw1_0_0 fw1_0_0 cw1_0_1 fw1_0_1 zw1_1 cw1_1_0 fw1_1_0 cw1_1_1 fw1_1_1
    clear hhw5
    try simp only [Act.put, List.setIfInBounds_toArray, List.set_cons_zero, List.set_cons_succ]
    repeat (first | (refine Oe.wpO_skip (by simp only [List.getElem?_toArray, List.getElem?_cons_succ, List.getElem?_cons_zero] <;> rfl) rfl ?_; simp only [Act.put, List.setIfInBounds_toArray, List.set_cons_zero, List.set_cons_succ]) | (refine Oe.wpO_pure (by simp only [List.getElem?_toArray, List.getElem?_cons_succ, List.getElem?_cons_zero] <;> rfl) rfl ?_; apply Exists.intro; refine ⟨?_, ?_⟩; (· intro wx gx; have cx_0_0 : wx.cell? ⟨W.heap.size, 0, none⟩ = some (.int .i64 k) := cell_kx gx (by show ¬ (W.heap.size + 2 ≤ W.heap.size); omega) cw5_0_0; have cx_0_1 : wx.cell? ⟨W.heap.size, 1, none⟩ = some (.slice none 0 cap) := cell_kx gx (by show ¬ (W.heap.size + 2 ≤ W.heap.size); omega) cw5_0_1; have zx_0 : W.heap.size < wx.heap.size := World.block_lt_of_cell? _ _ cx_0_0; have cx_1_0 : wx.cell? ⟨W.heap.size + 1, 0, none⟩ = some (.int .i64 0) := cell_kx gx (by show ¬ (W.heap.size + 2 ≤ W.heap.size + 1); omega) cw5_1_0; have cx_1_1 : wx.cell? ⟨W.heap.size + 1, 1, none⟩ = some (.slice none 0 0) := cell_kx gx (by show ¬ (W.heap.size + 2 ≤ W.heap.size + 1); omega) cw5_1_1; have zx_1 : W.heap.size + 1 < wx.heap.size := World.block_lt_of_cell? _ _ cx_1_0; clear gx; all_goals (apply Oe.pAt_of_quiet; intro K hK; go_big_quiet_op; first | exact hK _ rfl | (apply Exists.intro; refine ⟨fun _ => ?_, ?_⟩; (· fail); exact hK _ rfl))); try simp only [Act.put, List.setIfInBounds_toArray, List.set_cons_zero, List.set_cons_succ]))
    obtain ⟨ad5, c5, rfl, e1, e2⟩ := own_any o5
    have HO5 := Lib.hid (And.intro gw5 (And.intro e1 e2))
    clear o5 g5 e1 e2
    refine Oe.wpO_nil (hKQ _ _ ?_)
    clear hKQ KQ
    go_wp2_with fail
    refine bodyPost_ret (res_obj (p := 2) (N := W.heap.size + 1) (k := k) (u := .slice ad5 0 c5) rfl rfl (by go_simp) (by go_simp)) rfl ?_
    obtain ⟨G5, e1, e2⟩ := HO5.out
    exact ⟨_, rfl, ⟨ad5, c5, 0, 0, rfl, e1, e2, fun h => absurd h (Nat.lt_irrefl _), fun q hq => absurd hq (Nat.not_lt_zero _)⟩, (G5.setCell (p := ⟨W.heap.size + 1, 0, none⟩) (by show W.heap.size ≤ W.heap.size + 1; omega) _).setCell (p := ⟨W.heap.size + 1, 1, none⟩) (by show W.heap.size ≤ W.heap.size + 1; omega) _⟩
  | some a => 
    go_enter Tryz.func61, Tryz.ntmps61
    go_wp2_with fail
    try simp only [List.append]
    refine Oe.wp_region_ordT (R := Kx (fun k => W.heap.size + 2 ≤ k)) 5 [(0, false), (1, false), (2, false), (3, false), (4, true)] (by kernel_rfl) (by kernel_rfl) ?_
    intro w1 hw1 KQ hKQ
    have hhw1 := Kx.of_gr (S := (fun k => W.heap.size + 2 ≤ k)) hw1
    have cw1_0_0 : w1.cell? ⟨W.heap.size, 0, none⟩ = some (.int .i64 k) := cell_kx hhw1 (by show ¬ (W.heap.size + 2 ≤ W.heap.size); omega) (by go_simp)
    have fw1_0_0 : w1.frozen? ⟨W.heap.size, 0, none⟩ = false := frozen_kx (v := .int .i64 k) hhw1 (by show ¬ (W.heap.size + 2 ≤ W.heap.size); omega) (by go_simp) (by go_simp)
    have cw1_0_1 : w1.cell? ⟨W.heap.size, 1, none⟩ = some (.slice (some a) 0 cap) := cell_kx hhw1 (by show ¬ (W.heap.size + 2 ≤ W.heap.size); omega) (by go_simp)
    have fw1_0_1 : w1.frozen? ⟨W.heap.size, 1, none⟩ = false := frozen_kx (v := .slice (some a) 0 cap) hhw1 (by show ¬ (W.heap.size + 2 ≤ W.heap.size); omega) (by go_simp) (by go_simp)
    have zw1_0 : W.heap.size < w1.heap.size := World.block_lt_of_cell? _ _ cw1_0_0
    have cw1_1_0 : w1.cell? ⟨W.heap.size + 1, 0, none⟩ = some (.int .i64 0) := cell_kx hhw1 (by show ¬ (W.heap.size + 2 ≤ W.heap.size + 1); omega) (by go_simp)
    have fw1_1_0 : w1.frozen? ⟨W.heap.size + 1, 0, none⟩ = false := frozen_kx (v := .int .i64 0) hhw1 (by show ¬ (W.heap.size + 2 ≤ W.heap.size + 1); omega) (by go_simp) (by go_simp)
    have cw1_1_1 : w1.cell? ⟨W.heap.size + 1, 1, none⟩ = some (.slice none 0 0) := cell_kx hhw1 (by show ¬ (W.heap.size + 2 ≤ W.heap.size + 1); omega) (by go_simp)
    have fw1_1_1 : w1.frozen? ⟨W.heap.size + 1, 1, none⟩ = false := frozen_kx (v := .slice none 0 0) hhw1 (by show ¬ (W.heap.size + 2 ≤ W.heap.size + 1); omega) (by go_simp) (by go_simp)
    have zw1_1 : W.heap.size + 1 < w1.heap.size := World.block_lt_of_cell? _ _ cw1_1_0
    have gw1 : Gr W w1 := Kx.gr hhw1 (by go_grown) (fun k hk => by have hk2 : W.heap.size + 2 ≤ k := hk; omega)
    have sw1 := hhw1.size
    skip
    clear hhw1
    repeat (first | (refine Oe.wpO_skip (by simp only [List.getElem?_toArray, List.getElem?_cons_succ, List.getElem?_cons_zero] <;> rfl) rfl ?_; simp only [Act.put, List.setIfInBounds_toArray, List.set_cons_zero, List.set_cons_succ]) | (refine Oe.wpO_pure (by simp only [List.getElem?_toArray, List.getElem?_cons_succ, List.getElem?_cons_zero] <;> rfl) rfl ?_; apply Exists.intro; refine ⟨?_, ?_⟩; (· intro wx gx; have cx_0_0 : wx.cell? ⟨W.heap.size, 0, none⟩ = some (.int .i64 k) := cell_kx gx (by show ¬ (W.heap.size + 2 ≤ W.heap.size); omega) cw1_0_0; have cx_0_1 : wx.cell? ⟨W.heap.size, 1, none⟩ = some (.slice (some a) 0 cap) := cell_kx gx (by show ¬ (W.heap.size + 2 ≤ W.heap.size); omega) cw1_0_1; have zx_0 : W.heap.size < wx.heap.size := World.block_lt_of_cell? _ _ cx_0_0; have cx_1_0 : wx.cell? ⟨W.heap.size + 1, 0, none⟩ = some (.int .i64 0) := cell_kx gx (by show ¬ (W.heap.size + 2 ≤ W.heap.size + 1); omega) cw1_1_0; have cx_1_1 : wx.cell? ⟨W.heap.size + 1, 1, none⟩ = some (.slice none 0 0) := cell_kx gx (by show ¬ (W.heap.size + 2 ≤ W.heap.size + 1); omega) cw1_1_1; have zx_1 : W.heap.size + 1 < wx.heap.size := World.block_lt_of_cell? _ _ cx_1_0; clear gx; all_goals (apply Oe.pAt_of_quiet; intro K hK; go_big_quiet_op; first | exact hK _ rfl | (apply Exists.intro; refine ⟨fun _ => ?_, ?_⟩; (· fail); exact hK _ rfl))); try simp only [Act.put, List.setIfInBounds_toArray, List.set_cons_zero, List.set_cons_succ]))
    have HG1 := Lib.hid gw1
    have s1 := gw1.size
    have zz1 := zw1_1
    refine Oe.wpO_call (by simp only [List.getElem?_toArray, List.getElem?_cons_succ, List.getElem?_cons_zero] <;> rfl) rfl ?_
    intro QS hQS
    refine (wpList_append_own2 _ rfl (.const (.slice none 0 0)) (.tmp 6) 32 rfl W.heap.size 58 i0 (.agg #[.int .i64 0, .int .i64 0]) 2 16 Tryz.underlying32 HI.out.1 HI.out.2.1 HI.out.2.2.1 HI.out.2.2.2 rfl (by decide) (.slice none 0 0) 0 [] rfl (World.ownsRow_nil _ _ _ _) a 0 cap [] rfl rfl (fun j u hu => by simp at hu) (fun u hu => by cases hu) (by unfold maxLen; omega) (by omega) s1 ?_)
    intro x5 w5 o5 g5
    have hhw5 : Kx (fun k => W.heap.size + 2 ≤ k) w1 w5 := ((kx_grown g5).mono (fun k hk => by cases hk))
    refine hQS _ _ ⟨_, rfl, hhw5, ?_⟩
    clear hQS QS
    have cw5_0_0 : w5.cell? ⟨W.heap.size, 0, none⟩ = some (.int .i64 k) := cell_kx hhw5 (by show ¬ (W.heap.size + 2 ≤ W.heap.size); omega) (by go_simp)
    have fw5_0_0 : w5.frozen? ⟨W.heap.size, 0, none⟩ = false := frozen_kx (v := .int .i64 k) hhw5 (by show ¬ (W.heap.size + 2 ≤ W.heap.size); omega) (by go_simp) (by go_simp)
    have cw5_0_1 : w5.cell? ⟨W.heap.size, 1, none⟩ = some (.slice (some a) 0 cap) := cell_kx hhw5 (by show ¬ (W.heap.size + 2 ≤ W.heap.size); omega) (by go_simp)
    have fw5_0_1 : w5.frozen? ⟨W.heap.size, 1, none⟩ = false := frozen_kx (v := .slice (some a) 0 cap) hhw5 (by show ¬ (W.heap.size + 2 ≤ W.heap.size); omega) (by go_simp) (by go_simp)
    have zw5_0 : W.heap.size < w5.heap.size := World.block_lt_of_cell? _ _ cw5_0_0
    have cw5_1_0 : w5.cell? ⟨W.heap.size + 1, 0, none⟩ = some (.int .i64 0) := cell_kx hhw5 (by show ¬ (W.heap.size + 2 ≤ W.heap.size + 1); omega) (by go_simp)
    have fw5_1_0 : w5.frozen? ⟨W.heap.size + 1, 0, none⟩ = false := frozen_kx (v := .int .i64 0) hhw5 (by show ¬ (W.heap.size + 2 ≤ W.heap.size + 1); omega) (by go_simp) (by go_simp)
    have cw5_1_1 : w5.cell? ⟨W.heap.size + 1, 1, none⟩ = some (.slice none 0 0) := cell_kx hhw5 (by show ¬ (W.heap.size + 2 ≤ W.heap.size + 1); omega) (by go_simp)
    have fw5_1_1 : w5.frozen? ⟨W.heap.size + 1, 1, none⟩ = false := frozen_kx (v := .slice none 0 0) hhw5 (by show ¬ (W.heap.size + 2 ≤ W.heap.size + 1); omega) (by go_simp) (by go_simp)
    have zw5_1 : W.heap.size + 1 < w5.heap.size := World.block_lt_of_cell? _ _ cw5_1_0
    have gw5 : Gr W w5 := Kx.gr hhw5 gw1 (fun k hk => by have hk2 : W.heap.size + 2 ≤ k := hk; omega)
    have sw5 := hhw5.size
    clear gw1 zw1_0 cw1_0_0 fw1_0_0 cw1_0_1 fw1_0_1 zw1_1 cw1_1_0 fw1_1_0 cw1_1_1 fw1_1_1
    clear hhw5
    try simp only [Act.put, List.setIfInBounds_toArray, List.set_cons_zero, List.set_cons_succ]
    repeat (first | (refine Oe.wpO_skip (by simp only [List.getElem?_toArray, List.getElem?_cons_succ, List.getElem?_cons_zero] <;> rfl) rfl ?_; simp only [Act.put, List.setIfInBounds_toArray, List.set_cons_zero, List.set_cons_succ]) | (refine Oe.wpO_pure (by simp only [List.getElem?_toArray, List.getElem?_cons_succ, List.getElem?_cons_zero] <;> rfl) rfl ?_; apply Exists.intro; refine ⟨?_, ?_⟩; (· intro wx gx; have cx_0_0 : wx.cell? ⟨W.heap.size, 0, none⟩ = some (.int .i64 k) := cell_kx gx (by show ¬ (W.heap.size + 2 ≤ W.heap.size); omega) cw5_0_0; have cx_0_1 : wx.cell? ⟨W.heap.size, 1, none⟩ = some (.slice (some a) 0 cap) := cell_kx gx (by show ¬ (W.heap.size + 2 ≤ W.heap.size); omega) cw5_0_1; have zx_0 : W.heap.size < wx.heap.size := World.block_lt_of_cell? _ _ cx_0_0; have cx_1_0 : wx.cell? ⟨W.heap.size + 1, 0, none⟩ = some (.int .i64 0) := cell_kx gx (by show ¬ (W.heap.size + 2 ≤ W.heap.size + 1); omega) cw5_1_0; have cx_1_1 : wx.cell? ⟨W.heap.size + 1, 1, none⟩ = some (.slice none 0 0) := cell_kx gx (by show ¬ (W.heap.size + 2 ≤ W.heap.size + 1); omega) cw5_1_1; have zx_1 : W.heap.size + 1 < wx.heap.size := World.block_lt_of_cell? _ _ cx_1_0; clear gx; all_goals (apply Oe.pAt_of_quiet; intro K hK; go_big_quiet_op; first | exact hK _ rfl | (apply Exists.intro; refine ⟨fun _ => ?_, ?_⟩; (· fail); exact hK _ rfl))); try simp only [Act.put, List.setIfInBounds_toArray, List.set_cons_zero, List.set_cons_succ]))
    obtain ⟨ad5, c5, rfl, e1, e2⟩ := own_any o5
    have HO5 := Lib.hid (And.intro gw5 (And.intro e1 e2))
    clear o5 g5 e1 e2
    refine Oe.wpO_nil (hKQ _ _ ?_)
    clear hKQ KQ
    go_wp2_with fail
    refine bodyPost_ret (res_obj (p := 2) (N := W.heap.size + 1) (k := k) (u := .slice ad5 0 c5) rfl rfl (by go_simp) (by go_simp)) rfl ?_
    obtain ⟨G5, e1, e2⟩ := HO5.out
    exact ⟨_, rfl, ⟨ad5, c5, 0, 0, rfl, e1, e2, fun h => absurd h (Nat.lt_irrefl _), fun q hq => absurd hq (Nat.not_lt_zero _)⟩, (G5.setCell (p := ⟨W.heap.size + 1, 0, none⟩) (by show W.heap.size ≤ W.heap.size + 1; omega) _).setCell (p := ⟨W.heap.size + 1, 1, none⟩) (by show W.heap.size ≤ W.heap.size + 1; omega) _⟩
theorem c_rCloneA {n : Nat} {X Y : Nat → Int} {k : Int} {v : Value} (hn2 : n ≤ 1000000) (W : World) (h : Pts W v n X Y) : Calls Tryz.prog 61 #[.agg #[.int .i64 k, v]] W fun e w' => ∃ u, e = .returned (.agg #[.int .i64 k, u]) ∧ PtsF w' W.heap.size u n X Y ∧ Gr W w' := by
  rcases Nat.eq_zero_or_pos n with e | hn
  · subst e
    refine (c_rClone0 W h).mono ?_
    rintro e w' ⟨u, rfl, hp, g⟩
    exact ⟨u, rfl, ⟨hp, fun h => absurd h (Nat.lt_irrefl _)⟩, g⟩
  · refine (c_rCloneL hn hn2 W h).mono ?_
    rintro e w' ⟨B, c, rfl, ⟨hp, hf⟩, hB, g⟩
    exact ⟨_, rfl, ⟨hp, fun _ => ⟨B, c, rfl, hf, hB⟩⟩, g⟩
def MO.zero : MO := ⟨0, 0, fun _ => 0, fun _ => 0⟩
set_option maxHeartbeats 1000000 in
set_option maxRecDepth 100000 in
theorem md_getM {Q N : Nat} {M : Option Nat} {σ : Int → Option MO} {z : Int} (hz : i64R z) (hs : σ z = none) (W : World) (hM : MdAt W Q M σ N) :
    Calls Tryz.prog 46 #[.pointer (some ⟨Q, 0, none⟩), .int .i64 z] W fun e w' => e = .returned (.tuple #[.agg #[.int .i64 0, .slice none 0 0], .bool false]) ∧ Gr W w' := by
  have AH := Lib.hid (fun w (g : Gr W w) => show Calls Tryz.prog 71 #[.pointer (some ⟨Q, 0, none⟩), .int .i64 z] w (fun e w' => e = .returned (.bool false) ∧ Gr w w') from by
    have := md_has hz w (mdAt_gr hM g)
    rwa [hs] at this)
  clear hM hs hz
  go_enter Tryz.func46, Tryz.ntmps46
  go_wp2_with fail
  go_at_call 71
  refine ((AH.out _ (by go_grown))).mono ?_
  rintro e w1 ⟨rfl, hw1⟩
  have cw1_0_0 : w1.cell? ⟨W.heap.size, 0, none⟩ = some (.int .i64 0) := cell_gr hw1 (by go_simp)
  have fw1_0_0 : w1.frozen? ⟨W.heap.size, 0, none⟩ = false := frozen_gr (v := .int .i64 0) hw1 (by go_simp) (by go_simp)
  have cw1_0_1 : w1.cell? ⟨W.heap.size, 1, none⟩ = some (.slice none 0 0) := cell_gr hw1 (by go_simp)
  have fw1_0_1 : w1.frozen? ⟨W.heap.size, 1, none⟩ = false := frozen_gr (v := .slice none 0 0) hw1 (by go_simp) (by go_simp)
  have zw1_0 : W.heap.size < w1.heap.size := World.block_lt_of_cell? _ _ cw1_0_0
  have gw1 : Gr W w1 := Gr.trans (by go_grown) hw1
  clear hw1
  go_wp2_with fail
  refine bodyPost_ret (v := .tuple #[.agg #[.int .i64 0, .slice none 0 0], .bool false]) (by simp [results, Tryz.results46, go_sem, *]) rfl ⟨rfl, by have gg := gw1; have gs := gg.size; go_grown⟩
set_option maxHeartbeats 1000000 in
set_option maxRecDepth 100000 in
theorem md_getH {Q N : Nat} {M : Option Nat} {σ : Int → Option MO} {z : Int} {o : MO} (hz : i64R z) (hs : σ z = some o) (W : World) (hM : MdAt W Q M σ N) :
    Calls Tryz.prog 46 #[.pointer (some ⟨Q, 0, none⟩), .int .i64 z] W fun e w' => ∃ B' c', e = .returned (.tuple #[.agg #[.int .i64 o.k, .slice (some ⟨B', 0, none⟩) o.n c'], .bool true]) ∧ (Pts w' (.slice (some ⟨B', 0, none⟩) o.n c') o.n o.X o.Y ∧ Fr2 w' B') ∧ W.heap.size ≤ B' ∧ Gr W w' := by
  have c0 : W.cell? ⟨Q, 0, none⟩ = some (.map M) := Hm.cell_of_heap hM.1 0
  have zQ := World.block_lt_of_cell? _ _ c0
  have AH := Lib.hid (fun w (g : Gr W w) => show Calls Tryz.prog 71 #[.pointer (some ⟨Q, 0, none⟩), .int .i64 z] w (fun e w' => e = .returned (.bool true) ∧ Gr w w') from by
    have := md_has hz w (mdAt_gr hM g)
    rwa [hs] at this)
  obtain ⟨m, D, B, c, rfl, hD, hv, hn, hn2, hp⟩ := mdAt_some hM hz hs
  have AC := Lib.hid (fun w (g : Gr W w) => c_rClone (k := o.k) hn hn2 w (pts_gr hp g))
  have HM := Lib.hid (And.intro hD hv)
  have HZ := Lib.hid hz
  have HN := Lib.hid hn
  obtain ⟨k, n, X, Y⟩ := o
  simp only at AC hn hn2 hp HM HN ⊢
  clear hM hs hz hD hv hp
  go_enter Tryz.func46, Tryz.ntmps46
  go_wp2_with fail
  go_at_call 71
  (with_reducible refine ((AH.out _ (by go_grown))).mono ?_)
  rintro e w1 ⟨rfl, hw1⟩
  have cw1_0_0 : w1.cell? ⟨W.heap.size, 0, none⟩ = some (.int .i64 0) := cell_gr hw1 (by go_simp)
  have fw1_0_0 : w1.frozen? ⟨W.heap.size, 0, none⟩ = false := frozen_gr (v := .int .i64 0) hw1 (by go_simp) (by go_simp)
  have cw1_0_1 : w1.cell? ⟨W.heap.size, 1, none⟩ = some (.slice none 0 0) := cell_gr hw1 (by go_simp)
  have fw1_0_1 : w1.frozen? ⟨W.heap.size, 1, none⟩ = false := frozen_gr (v := .slice none 0 0) hw1 (by go_simp) (by go_simp)
  have zw1_0 : W.heap.size < w1.heap.size := World.block_lt_of_cell? _ _ cw1_0_0
  have cw1_1_0 : w1.cell? ⟨Q, 0, none⟩ = some (.map (some m)) := cell_gr hw1 (by go_simp)
  have zw1_1 : Q < w1.heap.size := World.block_lt_of_cell? _ _ cw1_1_0
  have gw1 : Gr W w1 := Gr.trans (by go_grown) hw1
  clear hw1
  have M1 := Lib.hid (ownsMap_kx HM.out.1 (Kx.of_gr (S := fun _ => False) gw1) (fun h => h))
  go_wp2_with (at_lookup; (refine wpList_look1_hit _ rfl _ _ 103 rfl 3 34 KI Tryz.underlying103 (zeroO _) m N D rfl M1.out _ (zk z) rfl (zk_of HZ.out) _ HM.out.2 ?_))
  go_at_call 61
  refine (AC.out _ gw1).mono ?_
  rintro e w3 ⟨B', c', rfl, hp, hB, g3⟩
  have d0 := cell_gr g3 cw1_0_0
  have d1 := cell_gr g3 cw1_0_1
  have f0 := frozen_gr g3 cw1_0_0 fw1_0_0
  have f1 := frozen_gr g3 cw1_0_1 fw1_0_1
  have z3 := World.block_lt_of_cell? _ _ d0
  have hz := zw1_0
  have G3 := Gr.trans gw1 g3
  have HP := Lib.hid (And.intro hp (And.intro hB G3))
  have s1 := gw1.size
  clear hp g3 G3
  go_wp2_with fail
  refine bodyPost_ret (res_objb (p := 4) (q := 5) (N := W.heap.size) (k := k) (u := .slice (some ⟨B', 0, none⟩) n c') (b := true) rfl rfl rfl (by go_simp) (by go_simp)) rfl ?_
  obtain ⟨hp, hB', G3⟩ := HP.out
  have hne : ¬ B' = W.heap.size := by omega
  have K : Kx (fun j => j = W.heap.size) w3 ((w3.setCell ⟨W.heap.size, 0, none⟩ (.int .i64 k)).setCell ⟨W.heap.size, 1, none⟩ (.slice (some ⟨B', 0, none⟩) n c')) := ((Kx.refl (S := fun j => j = W.heap.size) w3).setCell (p := ⟨W.heap.size, 0, none⟩) rfl _).setCell (p := ⟨W.heap.size, 1, none⟩) rfl _
  exact ⟨B', c', rfl, ⟨pts_kxW HN.out hp.1 K hne, fr2_kx hp.2 K hne⟩, by omega, (G3.setCell (p := ⟨W.heap.size, 0, none⟩) (Nat.le_refl _) _).setCell (p := ⟨W.heap.size, 1, none⟩) (Nat.le_refl _) _⟩
theorem md_fNewW (op : ByteArray) (id : Int) {k d : Nat} {v : Value} (hk : 1 ≤ k ∧ k ≤ 15) (W : World) (h : EAt W k d v) : Calls Tryz.prog 57 #[.string op, .int .i64 id, v] W fun e w' => ∃ F, e = .returned (.iface 108 (.pointer (some ⟨F, 0, none⟩))) ∧ WErr op w' (.iface 108 (.pointer (some ⟨F, 0, none⟩))) id k ∧ Gr W w' := by
  have HE := Lib.hid h
  obtain ⟨U, y, rfl⟩ : ∃ U y, v = .iface U y := by
    rcases eAt_form h with ⟨x, rfl⟩ | ⟨x, rfl⟩ <;> exact ⟨_, _, rfl⟩
  clear h
  go_enter Tryz.func57, Tryz.ntmps57
  go_wp2_with fail
  go_ret
  exact ⟨_, rfl, Or.inr ⟨_, _, d, rfl, hk.1, hk.2, by go_simp, by go_simp, by go_simp, eAt_gr HE.out (by go_grown)⟩, by go_grown⟩
end Go.Proofs.YtpomllpplpalkaaGreatDoor
