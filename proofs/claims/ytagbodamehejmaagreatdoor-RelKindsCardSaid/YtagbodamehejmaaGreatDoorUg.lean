/- rel.Far, Dist of an object that is no polygon; such objects; RelKinds -/
import Derived.Test.YtagbodamehejmaaGreatDoorUf
namespace Go.Proofs.YtagbodamehejmaaGreatDoor
set_option linter.unusedVariables false
set_option linter.unusedSimpArgs false
open Go.ChangeShapes Go.WideShapes Go.ChangeAt Go.RowKit

theorem boxN_0 {lx ly hx hy : Int} : boxN lx ly hx hy = 0 ↔ boxB lx ly hx hy = true := by
  unfold boxN boxB
  cases nearB lx ly <;> cases nearB hx hy <;> cases decide (lx ≤ hx) <;> cases decide (ly ≤ hy) <;> simp
section
variable {k : Int} {v : Value} {lx ly hx hy px py : Int}
set_option maxHeartbeats 2000000 in
set_option maxRecDepth 100000 in
theorem c_FarB (W : World) (h : FrTo W k v lx ly hx hy) (hb : boxB lx ly hx hy = true) (hp : nearB px py = true) :
    Calls Tryz.prog 15 #[.agg #[.int .i64 k, v], .agg #[.int .i64 px, .int .i64 py]] W fun e w' => e = .returned (.agg #[.int .u64 0, .int .u64 (distZ lx ly hx hy px py), .int .u64 1]) ∧ Gr W w' := by
  have A1 := fun w => c_Dist lx ly hx hy px py w ⟨hb, hp⟩
  generalize distZ lx ly hx hy px py = z at A1 ⊢
  obtain ⟨hk, ⟨ad, n, cap, rfl⟩, A2⟩ := h
  have k4 : (k != 4) = true := by simp; omega
  have H1 := Lib.hid A1
  have H2 := Lib.hid A2
  clear A1 A2
  clear hk hb hp
  go_enter Tryz.func15, Tryz.ntmps15
  go_wp2_with fail
  generalize hhw0 : ((W.alloc (.cells #[.int .i64 k, .slice ad n cap] 31)).alloc (.cells #[.int .i64 px, .int .i64 py] 23)).alloc (.cells #[.int .u64 0, .int .u64 0, .int .u64 0] 35) = w0
  have cw0_0_0 : w0.cell? ⟨W.heap.size, 0, none⟩ = some (.int .i64 k) := by subst hhw0; go_simp
  have cw0_0_1 : w0.cell? ⟨W.heap.size, 1, none⟩ = some (.slice ad n cap) := by subst hhw0; go_simp
  have zw0_0 : W.heap.size < w0.heap.size := World.block_lt_of_cell? _ _ cw0_0_0
  have cw0_1_0 : w0.cell? ⟨W.heap.size + 1, 0, none⟩ = some (.int .i64 px) := by subst hhw0; go_simp
  have cw0_1_1 : w0.cell? ⟨W.heap.size + 1, 1, none⟩ = some (.int .i64 py) := by subst hhw0; go_simp
  have zw0_1 : W.heap.size + 1 < w0.heap.size := World.block_lt_of_cell? _ _ cw0_1_0
  have cw0_2_0 : w0.cell? ⟨W.heap.size + 1 + 1, 0, none⟩ = some (.int .u64 0) := by subst hhw0; go_simp
  have fw0_2_0 : w0.frozen? ⟨W.heap.size + 1 + 1, 0, none⟩ = false := by subst hhw0; go_simp
  have cw0_2_1 : w0.cell? ⟨W.heap.size + 1 + 1, 1, none⟩ = some (.int .u64 0) := by subst hhw0; go_simp
  have fw0_2_1 : w0.frozen? ⟨W.heap.size + 1 + 1, 1, none⟩ = false := by subst hhw0; go_simp
  have cw0_2_2 : w0.cell? ⟨W.heap.size + 1 + 1, 2, none⟩ = some (.int .u64 0) := by subst hhw0; go_simp
  have fw0_2_2 : w0.frozen? ⟨W.heap.size + 1 + 1, 2, none⟩ = false := by subst hhw0; go_simp
  have zw0_2 : W.heap.size + 1 + 1 < w0.heap.size := World.block_lt_of_cell? _ _ cw0_2_0
  have gw0 : Gr W w0 := by subst hhw0; go_grown
  clear hhw0
  go_wp2_with fail
  refine Hd.wp_region_tail 4 (by kernel_rfl) (by kernel_rfl) ?_
  intro KQ hKQ
  repeat (first | (refine Hd.wpG_skip (by decide) rfl ?_; simp only [Act.put, List.setIfInBounds_toArray, List.set_cons_zero, List.set_cons_succ]) | (refine Hd.wpG_want (by decide) rfl ?_; apply Exists.intro; refine ⟨?_, ?_⟩; (· intro wx gx; (obtain ⟨mx, rfl⟩ := gx); all_goals (apply Hd.gAt_of_quiet; intro K hK; go_big_quiet_op; first | exact hK _ rfl | (apply Exists.intro; refine ⟨fun _ => ?_, ?_⟩; (· (first | (go_at_call 24; first | ((with_reducible refine ((H2.out _ (Gr.trans (Gr.trans gw0 (gr_spread _ _)) (gr_spread _ _)))).mono ?_); rintro e w' ⟨rfl, hg⟩; exact ⟨rfl, spread_gr hg⟩)) | (go_at_call 28; first | ((with_reducible refine ((H1.out _)).mono ?_); rintro e w' ⟨rfl, hg⟩; exact ⟨rfl, spread_gr hg⟩)))); exact hK _ rfl))); try simp only [Act.put, List.setIfInBounds_toArray, List.set_cons_zero, List.set_cons_succ]))
  refine Hd.wpG_nil (hKQ _ ?_)
  clear hKQ KQ
  intro w1 hhw1
  have hw1 := Hd.gr_of_spread hhw1
  have cw1_0_0 : w1.cell? ⟨W.heap.size, 0, none⟩ = some (.int .i64 k) := cell_gr hw1 (by go_simp)
  have cw1_0_1 : w1.cell? ⟨W.heap.size, 1, none⟩ = some (.slice ad n cap) := cell_gr hw1 (by go_simp)
  have zw1_0 : W.heap.size < w1.heap.size := World.block_lt_of_cell? _ _ cw1_0_0
  have cw1_1_0 : w1.cell? ⟨W.heap.size + 1, 0, none⟩ = some (.int .i64 px) := cell_gr hw1 (by go_simp)
  have cw1_1_1 : w1.cell? ⟨W.heap.size + 1, 1, none⟩ = some (.int .i64 py) := cell_gr hw1 (by go_simp)
  have zw1_1 : W.heap.size + 1 < w1.heap.size := World.block_lt_of_cell? _ _ cw1_1_0
  have cw1_2_0 : w1.cell? ⟨W.heap.size + 1 + 1, 0, none⟩ = some (.int .u64 0) := cell_gr hw1 (by go_simp)
  have fw1_2_0 : w1.frozen? ⟨W.heap.size + 1 + 1, 0, none⟩ = false := frozen_gr (v := .int .u64 0) hw1 (by go_simp) (by go_simp)
  have cw1_2_1 : w1.cell? ⟨W.heap.size + 1 + 1, 1, none⟩ = some (.int .u64 0) := cell_gr hw1 (by go_simp)
  have fw1_2_1 : w1.frozen? ⟨W.heap.size + 1 + 1, 1, none⟩ = false := frozen_gr (v := .int .u64 0) hw1 (by go_simp) (by go_simp)
  have cw1_2_2 : w1.cell? ⟨W.heap.size + 1 + 1, 2, none⟩ = some (.int .u64 0) := cell_gr hw1 (by go_simp)
  have fw1_2_2 : w1.frozen? ⟨W.heap.size + 1 + 1, 2, none⟩ = false := frozen_gr (v := .int .u64 0) hw1 (by go_simp) (by go_simp)
  have zw1_2 : W.heap.size + 1 + 1 < w1.heap.size := World.block_lt_of_cell? _ _ cw1_2_0
  have gw1 : Gr W w1 := Gr.trans (by have gg := gw0; have gs := gg.size; go_grown) hw1
  clear hw1 hhw1 gw0 zw0_0 cw0_0_0 cw0_0_1 zw0_1 cw0_1_0 cw0_1_1 zw0_2 cw0_2_0 fw0_2_0 cw0_2_1 fw0_2_1 cw0_2_2 fw0_2_2
  go_wp2_with fail
  refine bodyPost_ret (v := .agg #[.int .u64 0, .int .u64 z, .int .u64 1]) (by simp [results, Tryz.results15, go_sem, *]) rfl ⟨rfl, by go_grown⟩
end
/-- An object that is no polygon: its box, and whether it may be. -/
def BL (W : World) (k : Int) (v : Value) (lx ly hx hy : Int) : Prop := FrTo W k v lx ly hx hy ∧ ∃ n X Y, Pts W v n X Y ∧ objC k n X Y = boxN lx ly hx hy
theorem bl_gr {a b : World} {k : Int} {v : Value} {lx ly hx hy : Int} (h : BL a k v lx ly hx hy) (g : Gr a b) : BL b k v lx ly hx hy := by
  obtain ⟨h1, n, X, Y, h2, h3⟩ := h
  exact ⟨frTo_gr h1 g, n, X, Y, pts_gr h2 g, h3⟩
theorem pts_1 {w : World} {B : Nat} {x y : Int} (h0 : w.cell? ⟨B, 0, none⟩ = some (.int .i64 x)) (h1 : w.cell? ⟨B, 1, none⟩ = some (.int .i64 y)) : Pts w (.slice (some ⟨B, 0, none⟩) 1 1) 1 (fun _ => x) (fun _ => y) :=
  ⟨some ⟨B, 0, none⟩, 1, B, 0, rfl, Nat.le_refl _, by decide, fun _ => rfl, fun k hk => by match k, hk with | 0, _ => exact ⟨h0, h1⟩⟩
theorem bl_1 {w : World} {B : Nat} {x y : Int} (h0 : w.cell? ⟨B, 0, none⟩ = some (.int .i64 x)) (h1 : w.cell? ⟨B, 1, none⟩ = some (.int .i64 y)) : BL w 1 (.slice (some ⟨B, 0, none⟩) 1 1) x y x y :=
  ⟨⟨Or.inl rfl, ⟨_, _, _, rfl⟩, fun w' g => c_frame_1 x y B 0 1 w' (cell_gr g h0) (cell_gr g h1) (World.block_lt_of_cell? _ _ (cell_gr g h0))⟩, 1, _, _, pts_1 h0 h1, by rw [objC_1, if_pos rfl]⟩
theorem bl_2 {w : World} {B : Nat} {x y : Int} (h0 : w.cell? ⟨B, 0, none⟩ = some (.int .i64 x)) (h1 : w.cell? ⟨B, 1, none⟩ = some (.int .i64 y)) : BL w 2 (.slice (some ⟨B, 0, none⟩) 1 1) x 0 y 0 :=
  ⟨⟨Or.inr (Or.inl rfl), ⟨_, _, _, rfl⟩, fun w' g => c_frame_2 x y B 0 1 w' (cell_gr g h0) (cell_gr g h1) (World.block_lt_of_cell? _ _ (cell_gr g h0))⟩, 1, _, _, pts_1 h0 h1, by rw [objC_2, if_pos rfl]⟩
theorem bl_3 {w : World} {B : Nat} {x y z u : Int} (h0 : w.cell? ⟨B, 0, none⟩ = some (.int .i64 x)) (h1 : w.cell? ⟨B, 1, none⟩ = some (.int .i64 y)) (h2 : w.cell? ⟨B, 2, none⟩ = some (.int .i64 z)) (h3 : w.cell? ⟨B, 3, none⟩ = some (.int .i64 u)) : BL w 3 (.slice (some ⟨B, 0, none⟩) 2 2) x y z u :=
  ⟨⟨Or.inr (Or.inr rfl), ⟨_, _, _, rfl⟩, fun w' g => c_frame_3 x y z u B 0 2 w' (cell_gr g h0) (cell_gr g h1) (cell_gr g h2) (cell_gr g h3) (World.block_lt_of_cell? _ _ (cell_gr g h0))⟩, 2, fun i => if i = 0 then x else z, fun i => if i = 0 then y else u,
    ⟨some ⟨B, 0, none⟩, 2, B, 0, rfl, Nat.le_refl _, by decide, fun _ => rfl, fun k hk => by match k, hk with | 0, _ => exact ⟨h0, h1⟩ | 1, _ => exact ⟨h2, h3⟩⟩, by rw [objC_3, if_pos rfl]; rfl⟩
/-- What is asked of an object that is no polygon. -/
def maV (lx ly hx hy kq qlx qly qhx qhy : Int) (m : Nat) (P Q : Nat → Int) : Bool := decide (boxN lx ly hx hy = 0) && decide (qC kq qlx qly qhx qhy m P Q = 0) && msV lx ly hx hy kq qlx qly qhx qhy m P Q
theorem c_MatchO {k lx ly hx hy : Int} {v : Value} {m : Nat} {P Q : Nat → Int} {u : Value} (kq qlx qly qhx qhy : Int) (W : World) (hE : ErrT W) (h : BL W k v lx ly hx hy) (hu : Pts W u m P Q) :
    Calls Tryz.prog 5 #[.agg #[.int .i64 k, v], qryV kq qlx qly qhx qhy u] W fun e w' => e = .returned (.bool (maV lx ly hx hy kq qlx qly qhx qhy m P Q)) ∧ Gr W w' := by
  obtain ⟨hF, n, X, Y, hp, hc⟩ := h
  have A1 : ∀ w, Gr W w → Calls Tryz.prog 9 #[.agg #[.int .i64 k, v]] w fun e w' => ∃ x, e = .returned x ∧ WErr objectS w' x k (boxN lx ly hx hy) ∧ Gr w w' := fun w g => by have C := c_relCheck k w (pts_gr hp g); rw [hc] at C; exact C
  have A2 : ∀ w, Gr W w → Calls Tryz.prog 12 #[qryV kq qlx qly qhx qhy u] w fun e w' => ∃ x, e = .returned x ∧ WErr queryS w' x kq (qC kq qlx qly qhx qhy m P Q) ∧ Gr w w' := fun w g => c_CheckQuery kq qlx qly qhx qhy w (pts_gr hu g)
  have A3 : qC kq qlx qly qhx qhy m P Q = 0 → ∀ w, Gr W w → Calls Tryz.prog 13 #[.agg #[.int .i64 k, v], qryV kq qlx qly qhx qhy u] w fun e w' => e = .returned (.bool (msV lx ly hx hy kq qlx qly qhx qhy m P Q)) ∧ Gr w w' := fun hd w g => c_MatchesB kq qlx qly qhx qhy w (frTo_gr hF g) (pts_gr hu g) (fun h4 => by unfold qC at hd; rw [if_neg (by omega), if_neg (by omega), if_pos h4] at hd; exact hd)
  obtain ⟨ad, cap, _, _, rfl, -⟩ := hp
  obtain ⟨bd, bcap, _, _, rfl, -⟩ := hu
  exact match_core kq qlx qly qhx qhy ad bd n cap m bcap _ _ _ W hE A1 A2 (fun _ hd => A3 hd)
/-- A number, or none. -/
def diV (ok : Bool) (d : Int) : Value := if ok then .agg #[.int .u64 0, .int .u64 d, .int .u64 1] else .agg #[.int .u64 0, .int .u64 0, .int .u64 0]
set_option maxHeartbeats 4000000 in
set_option maxRecDepth 100000 in
theorem c_DistO {k lx ly hx hy : Int} {v : Value} (px py : Int) (W : World) (hE : ErrT W) (h : BL W k v lx ly hx hy) :
    Calls Tryz.prog 6 #[.agg #[.int .i64 k, v], .agg #[.int .i64 px, .int .i64 py]] W fun e w' => e = .returned (diV (decide (boxN lx ly hx hy = 0) && nearB px py) (distZ lx ly hx hy px py)) ∧ Gr W w' := by
  obtain ⟨hF, n, X, Y, hpt, hc⟩ := h
  have B1 : ∀ w, Gr W w → Calls Tryz.prog 9 #[.agg #[.int .i64 k, v]] w fun e w' => ∃ x, e = .returned x ∧ (NF x ∧ (x = .nilIface ↔ boxN lx ly hx hy = 0)) ∧ Gr w w' := fun w g => (c_relCheck k w (pts_gr hpt g)).mono (by
    rintro e w' ⟨x, rfl, hx, g'⟩
    rw [hc] at hx
    exact ⟨x, rfl, werr_nf hx, g'⟩)
  have B2 := c_CheckPoint px py
  have B3 : boxB lx ly hx hy = true → nearB px py = true → ∀ w, Gr W w → Calls Tryz.prog 15 #[.agg #[.int .i64 k, v], .agg #[.int .i64 px, .int .i64 py]] w fun e w' => e = .returned (.agg #[.int .u64 0, .int .u64 (distZ lx ly hx hy px py), .int .u64 1]) ∧ Gr w w' := fun a b w g => c_FarB w (frTo_gr hF g) a b
  have B4 : ∀ (w : World) (D : Nat) (x : Value) (q : Bool), Gr W w → w.cell? ⟨D, 0, none⟩ = some x → NF x → (q = true ↔ x = .nilIface) → Calls Tryz.prog 11 #[.slice (some ⟨D, 0, none⟩) 1 1] w fun e w' => e = .returned (.bool q) ∧ Gr w w' := fun w D x q g h0 n0 hq =>
    c_allowed (D := D) (n := 1) (cap := 1) (e := fun _ => x) w (errT_gr hE g) (by omega) (fun k hk => by match k, hk with | 0, _ => exact h0) (fun k hk => n0) (World.block_lt_of_cell? _ _ h0) (Nat.le_refl _) q (by
      rw [hq]
      exact ⟨fun a k _ => a, fun h => h 0 (by omega)⟩)
  generalize distZ lx ly hx hy px py = dz at B3 ⊢
  obtain ⟨ad, cap, _, _, rfl, -⟩ := hpt
  clear hF hc hE
  by_cases h0 : boxN lx ly hx hy = 0
  · rw [decide_eq_true h0, Bool.true_and]
    have C1 : ∀ w, Gr W w → Calls Tryz.prog 9 #[.agg #[.int .i64 k, .slice ad n cap]] w fun e w' => e = .returned .nilIface ∧ Gr w w' := fun w g => (B1 w g).mono (by
      rintro e w' ⟨x, rfl, ⟨-, hx⟩, g'⟩
      obtain rfl := hx.2 h0
      exact ⟨rfl, g'⟩)
    have C3 := B3 (boxN_0.1 h0)
    cases hq : nearB px py
    · rw [hq, if_neg (by decide)] at B2
      rw [show diV false dz = .agg #[.int .u64 0, .int .u64 0, .int .u64 0] from rfl]
      have H1 := Lib.hid C1
      have H2 := Lib.hid B2
      have H4 := Lib.hid B4
      clear C1 B2 B4
      clear B1 B3 C3 hq h0
      go_enter Tryz.func6, Tryz.ntmps6
      go_wp2_with fail
      go_at_call 9
      refine ((H1.out _ (by go_grown))).mono ?_
      rintro e w1 ⟨rfl, hw1⟩
      have cw1_0_0 : w1.cell? ⟨W.heap.size, 0, none⟩ = some (.int .i64 k) := cell_gr hw1 (by go_simp)
      have cw1_0_1 : w1.cell? ⟨W.heap.size, 1, none⟩ = some (.slice ad n cap) := cell_gr hw1 (by go_simp)
      have zw1_0 : W.heap.size < w1.heap.size := World.block_lt_of_cell? _ _ cw1_0_0
      have cw1_1_0 : w1.cell? ⟨W.heap.size + 1, 0, none⟩ = some (.int .i64 px) := cell_gr hw1 (by go_simp)
      have cw1_1_1 : w1.cell? ⟨W.heap.size + 1, 1, none⟩ = some (.int .i64 py) := cell_gr hw1 (by go_simp)
      have zw1_1 : W.heap.size + 1 < w1.heap.size := World.block_lt_of_cell? _ _ cw1_1_0
      have cw1_2_0 : w1.cell? ⟨W.heap.size + 1 + 1, 0, none⟩ = some (.int .u64 0) := cell_gr hw1 (by go_simp)
      have fw1_2_0 : w1.frozen? ⟨W.heap.size + 1 + 1, 0, none⟩ = false := frozen_gr (v := .int .u64 0) hw1 (by go_simp) (by go_simp)
      have cw1_2_1 : w1.cell? ⟨W.heap.size + 1 + 1, 1, none⟩ = some (.int .u64 0) := cell_gr hw1 (by go_simp)
      have fw1_2_1 : w1.frozen? ⟨W.heap.size + 1 + 1, 1, none⟩ = false := frozen_gr (v := .int .u64 0) hw1 (by go_simp) (by go_simp)
      have cw1_2_2 : w1.cell? ⟨W.heap.size + 1 + 1, 2, none⟩ = some (.int .u64 0) := cell_gr hw1 (by go_simp)
      have fw1_2_2 : w1.frozen? ⟨W.heap.size + 1 + 1, 2, none⟩ = false := frozen_gr (v := .int .u64 0) hw1 (by go_simp) (by go_simp)
      have zw1_2 : W.heap.size + 1 + 1 < w1.heap.size := World.block_lt_of_cell? _ _ cw1_2_0
      have gw1 : Gr W w1 := Gr.trans (by go_grown) hw1
      clear hw1
      go_wp2_with fail
      go_at_call 11
      refine ((H4.out _ _ _ true (by have gg := gw1; have gs := gg.size; go_grown) (by go_simp) nf_nil (by simp))).mono ?_
      rintro e w2 ⟨rfl, hw2⟩
      have cw2_0_0 : w2.cell? ⟨W.heap.size, 0, none⟩ = some (.int .i64 k) := cell_gr hw2 (by go_simp)
      have cw2_0_1 : w2.cell? ⟨W.heap.size, 1, none⟩ = some (.slice ad n cap) := cell_gr hw2 (by go_simp)
      have zw2_0 : W.heap.size < w2.heap.size := World.block_lt_of_cell? _ _ cw2_0_0
      have cw2_1_0 : w2.cell? ⟨W.heap.size + 1, 0, none⟩ = some (.int .i64 px) := cell_gr hw2 (by go_simp)
      have cw2_1_1 : w2.cell? ⟨W.heap.size + 1, 1, none⟩ = some (.int .i64 py) := cell_gr hw2 (by go_simp)
      have zw2_1 : W.heap.size + 1 < w2.heap.size := World.block_lt_of_cell? _ _ cw2_1_0
      have cw2_2_0 : w2.cell? ⟨W.heap.size + 1 + 1, 0, none⟩ = some (.int .u64 0) := cell_gr hw2 (by go_simp)
      have fw2_2_0 : w2.frozen? ⟨W.heap.size + 1 + 1, 0, none⟩ = false := frozen_gr (v := .int .u64 0) hw2 (by go_simp) (by go_simp)
      have cw2_2_1 : w2.cell? ⟨W.heap.size + 1 + 1, 1, none⟩ = some (.int .u64 0) := cell_gr hw2 (by go_simp)
      have fw2_2_1 : w2.frozen? ⟨W.heap.size + 1 + 1, 1, none⟩ = false := frozen_gr (v := .int .u64 0) hw2 (by go_simp) (by go_simp)
      have cw2_2_2 : w2.cell? ⟨W.heap.size + 1 + 1, 2, none⟩ = some (.int .u64 0) := cell_gr hw2 (by go_simp)
      have fw2_2_2 : w2.frozen? ⟨W.heap.size + 1 + 1, 2, none⟩ = false := frozen_gr (v := .int .u64 0) hw2 (by go_simp) (by go_simp)
      have zw2_2 : W.heap.size + 1 + 1 < w2.heap.size := World.block_lt_of_cell? _ _ cw2_2_0
      have gw2 : Gr W w2 := Gr.trans (by have gg := gw1; have gs := gg.size; go_grown) hw2
      clear hw2 gw1 zw1_0 cw1_0_0 cw1_0_1 zw1_1 cw1_1_0 cw1_1_1 zw1_2 cw1_2_0 fw1_2_0 cw1_2_1 fw1_2_1 cw1_2_2 fw1_2_2
      go_wp2_with fail
      go_at_call 14
      refine ((H2.out _)).mono ?_
      rintro e w3 ⟨rfl, hw3⟩
      have cw3_0_0 : w3.cell? ⟨W.heap.size, 0, none⟩ = some (.int .i64 k) := cell_gr hw3 (by go_simp)
      have cw3_0_1 : w3.cell? ⟨W.heap.size, 1, none⟩ = some (.slice ad n cap) := cell_gr hw3 (by go_simp)
      have zw3_0 : W.heap.size < w3.heap.size := World.block_lt_of_cell? _ _ cw3_0_0
      have cw3_1_0 : w3.cell? ⟨W.heap.size + 1, 0, none⟩ = some (.int .i64 px) := cell_gr hw3 (by go_simp)
      have cw3_1_1 : w3.cell? ⟨W.heap.size + 1, 1, none⟩ = some (.int .i64 py) := cell_gr hw3 (by go_simp)
      have zw3_1 : W.heap.size + 1 < w3.heap.size := World.block_lt_of_cell? _ _ cw3_1_0
      have cw3_2_0 : w3.cell? ⟨W.heap.size + 1 + 1, 0, none⟩ = some (.int .u64 0) := cell_gr hw3 (by go_simp)
      have fw3_2_0 : w3.frozen? ⟨W.heap.size + 1 + 1, 0, none⟩ = false := frozen_gr (v := .int .u64 0) hw3 (by go_simp) (by go_simp)
      have cw3_2_1 : w3.cell? ⟨W.heap.size + 1 + 1, 1, none⟩ = some (.int .u64 0) := cell_gr hw3 (by go_simp)
      have fw3_2_1 : w3.frozen? ⟨W.heap.size + 1 + 1, 1, none⟩ = false := frozen_gr (v := .int .u64 0) hw3 (by go_simp) (by go_simp)
      have cw3_2_2 : w3.cell? ⟨W.heap.size + 1 + 1, 2, none⟩ = some (.int .u64 0) := cell_gr hw3 (by go_simp)
      have fw3_2_2 : w3.frozen? ⟨W.heap.size + 1 + 1, 2, none⟩ = false := frozen_gr (v := .int .u64 0) hw3 (by go_simp) (by go_simp)
      have zw3_2 : W.heap.size + 1 + 1 < w3.heap.size := World.block_lt_of_cell? _ _ cw3_2_0
      have gw3 : Gr W w3 := Gr.trans (by have gg := gw2; have gs := gg.size; go_grown) hw3
      clear hw3 gw2 zw2_0 cw2_0_0 cw2_0_1 zw2_1 cw2_1_0 cw2_1_1 zw2_2 cw2_2_0 fw2_2_0 cw2_2_1 fw2_2_1 cw2_2_2 fw2_2_2
      go_wp2_with fail
      refine bodyPost_ret (v := .agg #[.int .u64 0, .int .u64 0, .int .u64 0]) (by simp [results, Tryz.results6, go_sem, *]) rfl ⟨rfl, by go_grown⟩
    · rw [hq, if_pos rfl] at B2
      rw [show diV true dz = .agg #[.int .u64 0, .int .u64 dz, .int .u64 1] from rfl]
      replace C3 := C3 hq
      have H1 := Lib.hid C1
      have H2 := Lib.hid B2
      have H3 := Lib.hid C3
      have H4 := Lib.hid B4
      clear C1 B2 C3 B4
      clear B1 B3 hq h0
      go_enter Tryz.func6, Tryz.ntmps6
      go_wp2_with fail
      go_at_call 9
      refine ((H1.out _ (by go_grown))).mono ?_
      rintro e w1 ⟨rfl, hw1⟩
      have cw1_0_0 : w1.cell? ⟨W.heap.size, 0, none⟩ = some (.int .i64 k) := cell_gr hw1 (by go_simp)
      have cw1_0_1 : w1.cell? ⟨W.heap.size, 1, none⟩ = some (.slice ad n cap) := cell_gr hw1 (by go_simp)
      have zw1_0 : W.heap.size < w1.heap.size := World.block_lt_of_cell? _ _ cw1_0_0
      have cw1_1_0 : w1.cell? ⟨W.heap.size + 1, 0, none⟩ = some (.int .i64 px) := cell_gr hw1 (by go_simp)
      have cw1_1_1 : w1.cell? ⟨W.heap.size + 1, 1, none⟩ = some (.int .i64 py) := cell_gr hw1 (by go_simp)
      have zw1_1 : W.heap.size + 1 < w1.heap.size := World.block_lt_of_cell? _ _ cw1_1_0
      have cw1_2_0 : w1.cell? ⟨W.heap.size + 1 + 1, 0, none⟩ = some (.int .u64 0) := cell_gr hw1 (by go_simp)
      have fw1_2_0 : w1.frozen? ⟨W.heap.size + 1 + 1, 0, none⟩ = false := frozen_gr (v := .int .u64 0) hw1 (by go_simp) (by go_simp)
      have cw1_2_1 : w1.cell? ⟨W.heap.size + 1 + 1, 1, none⟩ = some (.int .u64 0) := cell_gr hw1 (by go_simp)
      have fw1_2_1 : w1.frozen? ⟨W.heap.size + 1 + 1, 1, none⟩ = false := frozen_gr (v := .int .u64 0) hw1 (by go_simp) (by go_simp)
      have cw1_2_2 : w1.cell? ⟨W.heap.size + 1 + 1, 2, none⟩ = some (.int .u64 0) := cell_gr hw1 (by go_simp)
      have fw1_2_2 : w1.frozen? ⟨W.heap.size + 1 + 1, 2, none⟩ = false := frozen_gr (v := .int .u64 0) hw1 (by go_simp) (by go_simp)
      have zw1_2 : W.heap.size + 1 + 1 < w1.heap.size := World.block_lt_of_cell? _ _ cw1_2_0
      have gw1 : Gr W w1 := Gr.trans (by go_grown) hw1
      clear hw1
      go_wp2_with fail
      go_at_call 11
      refine ((H4.out _ _ _ true (by have gg := gw1; have gs := gg.size; go_grown) (by go_simp) nf_nil (by simp))).mono ?_
      rintro e w2 ⟨rfl, hw2⟩
      have cw2_0_0 : w2.cell? ⟨W.heap.size, 0, none⟩ = some (.int .i64 k) := cell_gr hw2 (by go_simp)
      have cw2_0_1 : w2.cell? ⟨W.heap.size, 1, none⟩ = some (.slice ad n cap) := cell_gr hw2 (by go_simp)
      have zw2_0 : W.heap.size < w2.heap.size := World.block_lt_of_cell? _ _ cw2_0_0
      have cw2_1_0 : w2.cell? ⟨W.heap.size + 1, 0, none⟩ = some (.int .i64 px) := cell_gr hw2 (by go_simp)
      have cw2_1_1 : w2.cell? ⟨W.heap.size + 1, 1, none⟩ = some (.int .i64 py) := cell_gr hw2 (by go_simp)
      have zw2_1 : W.heap.size + 1 < w2.heap.size := World.block_lt_of_cell? _ _ cw2_1_0
      have cw2_2_0 : w2.cell? ⟨W.heap.size + 1 + 1, 0, none⟩ = some (.int .u64 0) := cell_gr hw2 (by go_simp)
      have fw2_2_0 : w2.frozen? ⟨W.heap.size + 1 + 1, 0, none⟩ = false := frozen_gr (v := .int .u64 0) hw2 (by go_simp) (by go_simp)
      have cw2_2_1 : w2.cell? ⟨W.heap.size + 1 + 1, 1, none⟩ = some (.int .u64 0) := cell_gr hw2 (by go_simp)
      have fw2_2_1 : w2.frozen? ⟨W.heap.size + 1 + 1, 1, none⟩ = false := frozen_gr (v := .int .u64 0) hw2 (by go_simp) (by go_simp)
      have cw2_2_2 : w2.cell? ⟨W.heap.size + 1 + 1, 2, none⟩ = some (.int .u64 0) := cell_gr hw2 (by go_simp)
      have fw2_2_2 : w2.frozen? ⟨W.heap.size + 1 + 1, 2, none⟩ = false := frozen_gr (v := .int .u64 0) hw2 (by go_simp) (by go_simp)
      have zw2_2 : W.heap.size + 1 + 1 < w2.heap.size := World.block_lt_of_cell? _ _ cw2_2_0
      have gw2 : Gr W w2 := Gr.trans (by have gg := gw1; have gs := gg.size; go_grown) hw2
      clear hw2 gw1 zw1_0 cw1_0_0 cw1_0_1 zw1_1 cw1_1_0 cw1_1_1 zw1_2 cw1_2_0 fw1_2_0 cw1_2_1 fw1_2_1 cw1_2_2 fw1_2_2
      go_wp2_with fail
      go_at_call 14
      refine ((H2.out _)).mono ?_
      rintro e w3 ⟨rfl, hw3⟩
      have cw3_0_0 : w3.cell? ⟨W.heap.size, 0, none⟩ = some (.int .i64 k) := cell_gr hw3 (by go_simp)
      have cw3_0_1 : w3.cell? ⟨W.heap.size, 1, none⟩ = some (.slice ad n cap) := cell_gr hw3 (by go_simp)
      have zw3_0 : W.heap.size < w3.heap.size := World.block_lt_of_cell? _ _ cw3_0_0
      have cw3_1_0 : w3.cell? ⟨W.heap.size + 1, 0, none⟩ = some (.int .i64 px) := cell_gr hw3 (by go_simp)
      have cw3_1_1 : w3.cell? ⟨W.heap.size + 1, 1, none⟩ = some (.int .i64 py) := cell_gr hw3 (by go_simp)
      have zw3_1 : W.heap.size + 1 < w3.heap.size := World.block_lt_of_cell? _ _ cw3_1_0
      have cw3_2_0 : w3.cell? ⟨W.heap.size + 1 + 1, 0, none⟩ = some (.int .u64 0) := cell_gr hw3 (by go_simp)
      have fw3_2_0 : w3.frozen? ⟨W.heap.size + 1 + 1, 0, none⟩ = false := frozen_gr (v := .int .u64 0) hw3 (by go_simp) (by go_simp)
      have cw3_2_1 : w3.cell? ⟨W.heap.size + 1 + 1, 1, none⟩ = some (.int .u64 0) := cell_gr hw3 (by go_simp)
      have fw3_2_1 : w3.frozen? ⟨W.heap.size + 1 + 1, 1, none⟩ = false := frozen_gr (v := .int .u64 0) hw3 (by go_simp) (by go_simp)
      have cw3_2_2 : w3.cell? ⟨W.heap.size + 1 + 1, 2, none⟩ = some (.int .u64 0) := cell_gr hw3 (by go_simp)
      have fw3_2_2 : w3.frozen? ⟨W.heap.size + 1 + 1, 2, none⟩ = false := frozen_gr (v := .int .u64 0) hw3 (by go_simp) (by go_simp)
      have zw3_2 : W.heap.size + 1 + 1 < w3.heap.size := World.block_lt_of_cell? _ _ cw3_2_0
      have gw3 : Gr W w3 := Gr.trans (by have gg := gw2; have gs := gg.size; go_grown) hw3
      clear hw3 gw2 zw2_0 cw2_0_0 cw2_0_1 zw2_1 cw2_1_0 cw2_1_1 zw2_2 cw2_2_0 fw2_2_0 cw2_2_1 fw2_2_1 cw2_2_2 fw2_2_2
      go_wp2_with fail
      go_at_call 15
      refine ((H3.out _ (by have gg := gw3; have gs := gg.size; go_grown))).mono ?_
      rintro e w4 ⟨rfl, hw4⟩
      have cw4_0_0 : w4.cell? ⟨W.heap.size, 0, none⟩ = some (.int .i64 k) := cell_gr hw4 (by go_simp)
      have cw4_0_1 : w4.cell? ⟨W.heap.size, 1, none⟩ = some (.slice ad n cap) := cell_gr hw4 (by go_simp)
      have zw4_0 : W.heap.size < w4.heap.size := World.block_lt_of_cell? _ _ cw4_0_0
      have cw4_1_0 : w4.cell? ⟨W.heap.size + 1, 0, none⟩ = some (.int .i64 px) := cell_gr hw4 (by go_simp)
      have cw4_1_1 : w4.cell? ⟨W.heap.size + 1, 1, none⟩ = some (.int .i64 py) := cell_gr hw4 (by go_simp)
      have zw4_1 : W.heap.size + 1 < w4.heap.size := World.block_lt_of_cell? _ _ cw4_1_0
      have cw4_2_0 : w4.cell? ⟨W.heap.size + 1 + 1, 0, none⟩ = some (.int .u64 0) := cell_gr hw4 (by go_simp)
      have fw4_2_0 : w4.frozen? ⟨W.heap.size + 1 + 1, 0, none⟩ = false := frozen_gr (v := .int .u64 0) hw4 (by go_simp) (by go_simp)
      have cw4_2_1 : w4.cell? ⟨W.heap.size + 1 + 1, 1, none⟩ = some (.int .u64 0) := cell_gr hw4 (by go_simp)
      have fw4_2_1 : w4.frozen? ⟨W.heap.size + 1 + 1, 1, none⟩ = false := frozen_gr (v := .int .u64 0) hw4 (by go_simp) (by go_simp)
      have cw4_2_2 : w4.cell? ⟨W.heap.size + 1 + 1, 2, none⟩ = some (.int .u64 0) := cell_gr hw4 (by go_simp)
      have fw4_2_2 : w4.frozen? ⟨W.heap.size + 1 + 1, 2, none⟩ = false := frozen_gr (v := .int .u64 0) hw4 (by go_simp) (by go_simp)
      have zw4_2 : W.heap.size + 1 + 1 < w4.heap.size := World.block_lt_of_cell? _ _ cw4_2_0
      have gw4 : Gr W w4 := Gr.trans (by have gg := gw3; have gs := gg.size; go_grown) hw4
      clear hw4 gw3 zw3_0 cw3_0_0 cw3_0_1 zw3_1 cw3_1_0 cw3_1_1 zw3_2 cw3_2_0 fw3_2_0 cw3_2_1 fw3_2_1 cw3_2_2 fw3_2_2
      go_wp2_with fail
      refine bodyPost_ret (v := .agg #[.int .u64 0, .int .u64 dz, .int .u64 1]) (by simp [results, Tryz.results6, go_sem, *]) rfl ⟨rfl, by go_grown⟩
  · rw [decide_eq_false h0, Bool.false_and, show diV false dz = .agg #[.int .u64 0, .int .u64 0, .int .u64 0] from rfl]
    have C1 : ∀ w, Gr W w → Calls Tryz.prog 9 #[.agg #[.int .i64 k, .slice ad n cap]] w fun e w' => ∃ B, e = .returned (.iface 52 (.pointer (some ⟨B, 0, none⟩))) ∧ Gr w w' := fun w g => (B1 w g).mono (by
      rintro e w' ⟨x, rfl, ⟨hn, hx⟩, g'⟩
      rcases hn with rfl | ⟨B, rfl⟩
      · exact absurd (hx.1 rfl) h0
      · exact ⟨B, rfl, g'⟩)
    have H1 := Lib.hid C1
    have H4 := Lib.hid B4
    clear C1 B4
    clear B1 B2 B3 h0
    go_enter Tryz.func6, Tryz.ntmps6
    go_wp2_with fail
    go_at_call 9
    refine (H1.out _ (by go_grown)).mono ?_
    rintro e w1 ⟨B5, rfl, g1⟩
    have c20 : w1.cell? ⟨W.heap.size + 1 + 1, 0, none⟩ = some (.int .u64 0) := cell_gr g1 (by go_simp)
    have c21 : w1.cell? ⟨W.heap.size + 1 + 1, 1, none⟩ = some (.int .u64 0) := cell_gr g1 (by go_simp)
    have c22 : w1.cell? ⟨W.heap.size + 1 + 1, 2, none⟩ = some (.int .u64 0) := cell_gr g1 (by go_simp)
    have f20 : w1.frozen? ⟨W.heap.size + 1 + 1, 0, none⟩ = false := frozen_gr (v := .int .u64 0) g1 (by go_simp) (by go_simp)
    have f21 : w1.frozen? ⟨W.heap.size + 1 + 1, 1, none⟩ = false := frozen_gr (v := .int .u64 0) g1 (by go_simp) (by go_simp)
    have f22 : w1.frozen? ⟨W.heap.size + 1 + 1, 2, none⟩ = false := frozen_gr (v := .int .u64 0) g1 (by go_simp) (by go_simp)
    have z2 := World.block_lt_of_cell? _ _ c20
    have gw1 : Gr W w1 := Gr.trans (by go_grown) g1
    clear g1
    go_wp2_with fail
    go_at_call 11
    refine ((H4.out _ _ _ false (by have gg := gw1; have gs := gg.size; go_grown) (by go_simp) (nf_f B5) (by simp))).mono ?_
    rintro e w2 ⟨rfl, hw2⟩
    have cw2_0_0 : w2.cell? ⟨W.heap.size + 1 + 1, 0, none⟩ = some (.int .u64 0) := cell_gr hw2 (by go_simp)
    have fw2_0_0 : w2.frozen? ⟨W.heap.size + 1 + 1, 0, none⟩ = false := frozen_gr (v := .int .u64 0) hw2 (by go_simp) (by go_simp)
    have cw2_0_1 : w2.cell? ⟨W.heap.size + 1 + 1, 1, none⟩ = some (.int .u64 0) := cell_gr hw2 (by go_simp)
    have fw2_0_1 : w2.frozen? ⟨W.heap.size + 1 + 1, 1, none⟩ = false := frozen_gr (v := .int .u64 0) hw2 (by go_simp) (by go_simp)
    have cw2_0_2 : w2.cell? ⟨W.heap.size + 1 + 1, 2, none⟩ = some (.int .u64 0) := cell_gr hw2 (by go_simp)
    have fw2_0_2 : w2.frozen? ⟨W.heap.size + 1 + 1, 2, none⟩ = false := frozen_gr (v := .int .u64 0) hw2 (by go_simp) (by go_simp)
    have zw2_0 : W.heap.size + 1 + 1 < w2.heap.size := World.block_lt_of_cell? _ _ cw2_0_0
    have gw2 : Gr W w2 := Gr.trans (by have gg := gw1; have gs := gg.size; go_grown) hw2
    clear hw2 gw1
    go_wp2_with fail
    refine bodyPost_ret (v := .agg #[.int .u64 0, .int .u64 0, .int .u64 0]) (by simp [results, Tryz.results6, go_sem, *]) rfl ⟨rfl, by go_grown⟩
theorem c_rCheckO {k lx ly hx hy : Int} {v : Value} (W : World) (h : BL W k v lx ly hx hy) : Calls Tryz.prog 7 #[.agg #[.int .i64 k, v]] W fun e w' => e = .returned (.int .i64 (boxN lx ly hx hy : Nat)) ∧ Gr W w' := by
  obtain ⟨-, n, X, Y, hpt, hc⟩ := h
  have C := c_rCheck k W hpt
  rw [hc] at C
  exact C
end Go.Proofs.YtagbodamehejmaaGreatDoor
