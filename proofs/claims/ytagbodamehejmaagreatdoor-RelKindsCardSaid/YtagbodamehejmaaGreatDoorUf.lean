/- rel.Match of an object that is no polygon -/
import Derived.Test.YtagbodamehejmaaGreatDoorUe
namespace Go.Proofs.YtagbodamehejmaaGreatDoor
set_option linter.unusedVariables false
set_option linter.unusedSimpArgs false
open Go.ChangeShapes Go.WideShapes Go.ChangeAt Go.RowKit

/-- Do two boxes meet? Is one in another? Does a ring meet a box? -/
def meV (lx ly hx hy mx my nx ny : Int) : Bool := boxB lx ly hx hy && boxB mx my nx ny && decide (lx ≤ nx) && decide (mx ≤ hx) && decide (ly ≤ ny) && decide (my ≤ hy)
def inV (lx ly hx hy mx my nx ny : Int) : Bool := boxB lx ly hx hy && boxB mx my nx ny && inB mx my nx ny lx ly && inB mx my nx ny hx hy
def rmV (n : Nat) (X Y : Nat → Int) (lx ly hx hy : Int) : Bool := arM n X Y lx ly hx hy && rmbV n X Y lx ly hx hy
theorem c_rmbA {n : Nat} {X Y : Nat → Int} {v : Value} (lx ly hx hy : Int) (W : World) (h : Pts W v n X Y) (h0 : (Rg.ringC n X Y).1 = 0) : Calls Tryz.prog 46 #[v, .agg #[.int .i64 lx, .int .i64 ly, .int .i64 hx, .int .i64 hy]] W fun e w' => e = .returned (.bool (rmV n X Y lx ly hx hy)) ∧ Gr W w' := by
  unfold rmV
  cases hm : arM n X Y lx ly hx hy
  · exact c_rmb_no lx ly hx hy W h (by have := (Rg.ringC_ok h0).1; omega) hm
  · rw [Bool.true_and]; exact c_rmb' W h h0 hm
/-- An object that is no polygon, and its point set, a box. -/
def FrTo (W : World) (k : Int) (v : Value) (lx ly hx hy : Int) : Prop := (k = 1 ∨ k = 2 ∨ k = 3) ∧ (∃ ad n cap, v = .slice ad n cap) ∧ ∀ w, Gr W w → Calls Tryz.prog 24 #[.agg #[.int .i64 k, v]] w fun e w' => e = .returned (.agg #[.int .i64 lx, .int .i64 ly, .int .i64 hx, .int .i64 hy]) ∧ Gr w w'
theorem frTo_gr {a b : World} {k : Int} {v : Value} {lx ly hx hy : Int} (h : FrTo a k v lx ly hx hy) (g : Gr a b) : FrTo b k v lx ly hx hy := ⟨h.1, h.2.1, fun w g' => h.2.2 w (Gr.trans g g')⟩
section
variable {k : Int} {v : Value} {lx ly hx hy : Int}
set_option maxHeartbeats 2000000 in
set_option maxRecDepth 100000 in
theorem c_meetsBoxB (mx my nx ny : Int) (W : World) (h : FrTo W k v lx ly hx hy) : Calls Tryz.prog 25 #[.agg #[.int .i64 k, v], .agg #[.int .i64 mx, .int .i64 my, .int .i64 nx, .int .i64 ny]] W fun e w' => e = .returned (.bool (meV lx ly hx hy mx my nx ny)) ∧ Gr W w' := by
  have A1 := fun w => c_Meets lx ly hx hy mx my nx ny w
  unfold meV
  generalize (boxB lx ly hx hy && boxB mx my nx ny && decide (lx ≤ nx) && decide (mx ≤ hx) && decide (ly ≤ ny) && decide (my ≤ hy)) = z at A1 ⊢
  obtain ⟨hk, ⟨ad, n, cap, rfl⟩, A2⟩ := h
  have k4 : (k == 4) = false := by simp; omega
  have H1 := Lib.hid A1
  have H2 := Lib.hid A2
  clear A1 A2
  clear hk
  go_enter Tryz.func25, Tryz.ntmps25
  go_wp2_with fail
  go_wp2_with fail
  refine wp_region_spread (by kernel_rfl) (by kernel_rfl) ?_
  try simp only [List.append]
  repeat (first | go_big_quiet_skip | (go_big_quiet_want; go_big_quiet_op; (first | go_big_quiet_on | (apply Exists.intro; refine ⟨fun _ => ?_, ?_⟩; (· (first | (go_at_call 24; first | ((with_reducible refine ((H2.out _ (Gr.trans (by go_grown) (gr_spread _ _)))).mono ?_); rintro e w' ⟨rfl, hg⟩; exact ⟨rfl, spread_gr hg⟩)) | (go_at_call 47; first | ((with_reducible refine ((H1.out _)).mono ?_); rintro e w' ⟨rfl, hg⟩; exact ⟨rfl, spread_gr hg⟩)))); go_big_quiet_on))))
  refine wpQuiet_nil ?_
  intro w1 hhw1
  have hw1 := Hd.gr_of_spread hhw1
  have cw1_0_0 : w1.cell? ⟨W.heap.size, 0, none⟩ = some (.int .i64 k) := cell_gr hw1 (by go_simp)
  have cw1_0_1 : w1.cell? ⟨W.heap.size, 1, none⟩ = some (.slice ad n cap) := cell_gr hw1 (by go_simp)
  have zw1_0 : W.heap.size < w1.heap.size := World.block_lt_of_cell? _ _ cw1_0_0
  have cw1_1_0 : w1.cell? ⟨W.heap.size + 1, 0, none⟩ = some (.int .i64 mx) := cell_gr hw1 (by go_simp)
  have cw1_1_1 : w1.cell? ⟨W.heap.size + 1, 1, none⟩ = some (.int .i64 my) := cell_gr hw1 (by go_simp)
  have cw1_1_2 : w1.cell? ⟨W.heap.size + 1, 2, none⟩ = some (.int .i64 nx) := cell_gr hw1 (by go_simp)
  have cw1_1_3 : w1.cell? ⟨W.heap.size + 1, 3, none⟩ = some (.int .i64 ny) := cell_gr hw1 (by go_simp)
  have zw1_1 : W.heap.size + 1 < w1.heap.size := World.block_lt_of_cell? _ _ cw1_1_0
  have gw1 : Gr W w1 := Gr.trans (by go_grown) hw1
  clear hw1 hhw1
  go_wp2_with fail
  go_ret
  exact ⟨rfl, by have gg := gw1; have gs := gg.size; go_grown⟩
set_option maxHeartbeats 2000000 in
set_option maxRecDepth 100000 in
theorem c_meetsRingB {m : Nat} {P Q : Nat → Int} {u : Value} (W : World) (h : FrTo W k v lx ly hx hy) (hu : Pts W u m P Q) (h0 : (Rg.ringC m P Q).1 = 0) : Calls Tryz.prog 26 #[.agg #[.int .i64 k, v], u] W fun e w' => e = .returned (.bool (rmV m P Q lx ly hx hy)) ∧ Gr W w' := by
  have A1 := fun w (g : Gr W w) => c_rmbA lx ly hx hy w (pts_gr hu g) h0
  generalize rmV m P Q lx ly hx hy = z at A1 ⊢
  obtain ⟨hk, ⟨ad, n, cap, rfl⟩, A2⟩ := h
  obtain ⟨bd, bcap, _, _, rfl, -⟩ := hu
  have k4 : (k == 4) = false := by simp; omega
  have H1 := Lib.hid A1
  have H2 := Lib.hid A2
  clear A1 A2
  clear hk
  go_enter Tryz.func26, Tryz.ntmps26
  go_wp2_with fail
  go_at_call 24
  refine ((H2.out _ (by go_grown))).mono ?_
  rintro e w1 ⟨rfl, hw1⟩
  have cw1_0_0 : w1.cell? ⟨W.heap.size, 0, none⟩ = some (.int .i64 k) := cell_gr hw1 (by go_simp)
  have cw1_0_1 : w1.cell? ⟨W.heap.size, 1, none⟩ = some (.slice ad n cap) := cell_gr hw1 (by go_simp)
  have zw1_0 : W.heap.size < w1.heap.size := World.block_lt_of_cell? _ _ cw1_0_0
  have gw1 : Gr W w1 := Gr.trans (by go_grown) hw1
  clear hw1
  go_wp2_with fail
  go_at_call 46
  refine ((H1.out _ (by have gg := gw1; have gs := gg.size; go_grown))).mono ?_
  rintro e w2 ⟨rfl, hw2⟩
  have cw2_0_0 : w2.cell? ⟨W.heap.size, 0, none⟩ = some (.int .i64 k) := cell_gr hw2 (by go_simp)
  have cw2_0_1 : w2.cell? ⟨W.heap.size, 1, none⟩ = some (.slice ad n cap) := cell_gr hw2 (by go_simp)
  have zw2_0 : W.heap.size < w2.heap.size := World.block_lt_of_cell? _ _ cw2_0_0
  have gw2 : Gr W w2 := Gr.trans (by have gg := gw1; have gs := gg.size; go_grown) hw2
  clear hw2 gw1 zw1_0 cw1_0_0 cw1_0_1
  go_wp2_with fail
  go_ret
  exact ⟨rfl, gw2⟩
/-- What a query asks of a box. -/
def msV (lx ly hx hy kq qlx qly qhx qhy : Int) (m : Nat) (P Q : Nat → Int) : Bool :=
  if kq = 2 then inV lx ly hx hy qlx qly qhx qhy else if kq = 3 then meV lx ly hx hy qlx qly qlx qly else if kq = 4 then rmV m P Q lx ly hx hy else meV lx ly hx hy qlx qly qhx qhy
set_option maxHeartbeats 4000000 in
set_option maxRecDepth 100000 in
theorem c_MatchesB {m : Nat} {P Q : Nat → Int} {u : Value} (kq qlx qly qhx qhy : Int) (W : World) (h : FrTo W k v lx ly hx hy) (hu : Pts W u m P Q) (h0 : kq = 4 → (Rg.ringC m P Q).1 = 0) :
    Calls Tryz.prog 13 #[.agg #[.int .i64 k, v], qryV kq qlx qly qhx qhy u] W fun e w' => e = .returned (.bool (msV lx ly hx hy kq qlx qly qhx qhy m P Q)) ∧ Gr W w' := by
  unfold msV
  by_cases k2 : kq = 2
  · rw [if_pos k2]
    subst k2
    have A1 := fun w => c_Inside lx ly hx hy qlx qly qhx qhy w
    unfold inV
    generalize (boxB lx ly hx hy && boxB qlx qly qhx qhy && inB qlx qly qhx qhy lx ly && inB qlx qly qhx qhy hx hy) = z at A1 ⊢
    obtain ⟨hk, ⟨ad, n, cap, rfl⟩, A2⟩ := h
    obtain ⟨bd, bcap, _, _, rfl, -⟩ := hu
    have H1 := Lib.hid A1
    have H2 := Lib.hid A2
    clear A1 A2
    clear hk h0
    go_enter Tryz.func13, Tryz.ntmps13
    go_wp2_with fail
    go_wp2_with fail
    refine wp_region_spread (by kernel_rfl) (by kernel_rfl) ?_
    try simp only [List.append]
    repeat (first | go_big_quiet_skip | (go_big_quiet_want; go_big_quiet_op; (first | go_big_quiet_on | (apply Exists.intro; refine ⟨fun _ => ?_, ?_⟩; (· (first | (go_at_call 24; first | ((with_reducible refine ((H2.out _ (Gr.trans (by go_grown) (gr_spread _ _)))).mono ?_); rintro e w' ⟨rfl, hg⟩; exact ⟨rfl, spread_gr hg⟩)) | (go_at_call 23; first | ((with_reducible refine ((H1.out _)).mono ?_); rintro e w' ⟨rfl, hg⟩; exact ⟨rfl, spread_gr hg⟩)))); go_big_quiet_on))))
    refine wpQuiet_nil ?_
    intro w1 hhw1
    have hw1 := Hd.gr_of_spread hhw1
    have cw1_0_0 : w1.cell? ⟨W.heap.size, 0, none⟩ = some (.int .i64 k) := cell_gr hw1 (by go_simp)
    have cw1_0_1 : w1.cell? ⟨W.heap.size, 1, none⟩ = some (.slice ad n cap) := cell_gr hw1 (by go_simp)
    have zw1_0 : W.heap.size < w1.heap.size := World.block_lt_of_cell? _ _ cw1_0_0
    have cw1_1_0 : w1.cell? ⟨W.heap.size + 1, 0, none⟩ = some (.int .i64 2) := cell_gr hw1 (by go_simp)
    have cw1_1_1 : w1.cell? ⟨W.heap.size + 1, 1, none⟩ = some (.int .i64 qlx) := cell_gr hw1 (by go_simp)
    have cw1_1_2 : w1.cell? ⟨W.heap.size + 1, 2, none⟩ = some (.int .i64 qly) := cell_gr hw1 (by go_simp)
    have cw1_1_3 : w1.cell? ⟨W.heap.size + 1, 3, none⟩ = some (.int .i64 qhx) := cell_gr hw1 (by go_simp)
    have cw1_1_4 : w1.cell? ⟨W.heap.size + 1, 4, none⟩ = some (.int .i64 qhy) := cell_gr hw1 (by go_simp)
    have cw1_1_5 : w1.cell? ⟨W.heap.size + 1, 5, none⟩ = some (.slice bd m bcap) := cell_gr hw1 (by go_simp)
    have zw1_1 : W.heap.size + 1 < w1.heap.size := World.block_lt_of_cell? _ _ cw1_1_0
    have gw1 : Gr W w1 := Gr.trans (by go_grown) hw1
    clear hw1 hhw1
    go_wp2_with fail
    go_ret
    exact ⟨rfl, by have gg := gw1; have gs := gg.size; go_grown⟩
  rw [if_neg k2]
  have b2 : (kq == 2) = false := by simp; omega
  by_cases k3 : kq = 3
  · rw [if_pos k3]
    subst k3
    have A1 := fun w (g : Gr W w) => c_meetsBoxB qlx qly qlx qly w (frTo_gr h g)
    generalize meV lx ly hx hy qlx qly qlx qly = z at A1 ⊢
    obtain ⟨hk, ⟨ad, n, cap, rfl⟩, A2⟩ := h
    obtain ⟨bd, bcap, _, _, rfl, -⟩ := hu
    have H1 := Lib.hid A1
    have H2 := Lib.hid A2
    clear A1 A2
    clear hk h0
    go_enter Tryz.func13, Tryz.ntmps13
    go_wp2_with fail
    go_at_call 25
    refine ((H1.out _ (by go_grown))).mono ?_
    rintro e w1 ⟨rfl, hw1⟩
    have gw1 : Gr W w1 := Gr.trans (by go_grown) hw1
    clear hw1
    go_wp2_with fail
    go_ret
    exact ⟨rfl, gw1⟩
  rw [if_neg k3]
  have b3 : (kq == 3) = false := by simp; omega
  by_cases k4 : kq = 4
  · rw [if_pos k4]
    have A1 := fun w (g : Gr W w) => c_meetsRingB w (frTo_gr h g) (pts_gr hu g) (h0 k4)
    subst k4
    generalize rmV m P Q lx ly hx hy = z at A1 ⊢
    obtain ⟨hk, ⟨ad, n, cap, rfl⟩, A2⟩ := h
    obtain ⟨bd, bcap, _, _, rfl, -⟩ := hu
    have H1 := Lib.hid A1
    have H2 := Lib.hid A2
    clear A1 A2
    clear hk h0
    go_enter Tryz.func13, Tryz.ntmps13
    go_wp2_with fail
    go_at_call 26
    refine ((H1.out _ (by go_grown))).mono ?_
    rintro e w1 ⟨rfl, hw1⟩
    have gw1 : Gr W w1 := Gr.trans (by go_grown) hw1
    clear hw1
    go_wp2_with fail
    go_ret
    exact ⟨rfl, gw1⟩
  rw [if_neg k4]
  have b4 : (kq == 4) = false := by simp; omega
  have A1 := fun w (g : Gr W w) => c_meetsBoxB qlx qly qhx qhy w (frTo_gr h g)
  generalize meV lx ly hx hy qlx qly qhx qhy = z at A1 ⊢
  obtain ⟨hk, ⟨ad, n, cap, rfl⟩, A2⟩ := h
  obtain ⟨bd, bcap, _, _, rfl, -⟩ := hu
  have H1 := Lib.hid A1
  have H2 := Lib.hid A2
  clear A1 A2
  clear hk h0
  go_enter Tryz.func13, Tryz.ntmps13
  go_wp2_with fail
  go_at_call 25
  refine ((H1.out _ (by go_grown))).mono ?_
  rintro e w1 ⟨rfl, hw1⟩
  have gw1 : Gr W w1 := Gr.trans (by go_grown) hw1
  clear hw1
  go_wp2_with fail
  go_ret
  exact ⟨rfl, gw1⟩
set_option maxHeartbeats 4000000 in
set_option maxRecDepth 100000 in
/-- Both may be: it is asked; else it is not. -/
theorem match_core (kq qlx qly qhx qhy : Int) (ad bd : Option Addr) (n cap m bcap c d : Nat) (z : Bool) (W : World) (hE : ErrT W)
    (A1 : ∀ w, Gr W w → Calls Tryz.prog 9 #[.agg #[.int .i64 k, .slice ad n cap]] w fun e w' => ∃ x, e = .returned x ∧ WErr objectS w' x k c ∧ Gr w w')
    (A2 : ∀ w, Gr W w → Calls Tryz.prog 12 #[qryV kq qlx qly qhx qhy (.slice bd m bcap)] w fun e w' => ∃ x, e = .returned x ∧ WErr queryS w' x kq d ∧ Gr w w')
    (A3 : c = 0 → d = 0 → ∀ w, Gr W w → Calls Tryz.prog 13 #[.agg #[.int .i64 k, .slice ad n cap], qryV kq qlx qly qhx qhy (.slice bd m bcap)] w fun e w' => e = .returned (.bool z) ∧ Gr w w') :
    Calls Tryz.prog 5 #[.agg #[.int .i64 k, .slice ad n cap], qryV kq qlx qly qhx qhy (.slice bd m bcap)] W fun e w' => e = .returned (.bool (decide (c = 0) && decide (d = 0) && z)) ∧ Gr W w' := by
  have B1 : ∀ w, Gr W w → Calls Tryz.prog 9 #[.agg #[.int .i64 k, .slice ad n cap]] w fun e w' => ∃ x, e = .returned x ∧ (NF x ∧ (x = .nilIface ↔ c = 0)) ∧ Gr w w' := fun w g => (A1 w g).mono (by
    rintro e w' ⟨x, rfl, hx, g'⟩
    exact ⟨x, rfl, werr_nf hx, g'⟩)
  have B2 : ∀ w, Gr W w → Calls Tryz.prog 12 #[qryV kq qlx qly qhx qhy (.slice bd m bcap)] w fun e w' => ∃ x, e = .returned x ∧ (NF x ∧ (x = .nilIface ↔ d = 0)) ∧ Gr w w' := fun w g => (A2 w g).mono (by
    rintro e w' ⟨x, rfl, hx, g'⟩
    exact ⟨x, rfl, werr_nf hx, g'⟩)
  have B4 : ∀ (w : World) (D : Nat) (x y : Value) (q : Bool), Gr W w → w.cell? ⟨D, 0, none⟩ = some x → w.cell? ⟨D, 1, none⟩ = some y → NF x → NF y → (q = true ↔ x = .nilIface ∧ y = .nilIface) → Calls Tryz.prog 11 #[.slice (some ⟨D, 0, none⟩) 2 2] w fun e w' => e = .returned (.bool q) ∧ Gr w w' := fun w D x y q g h0 h1 n0 n1 hq =>
    c_allowed (D := D) (n := 2) (cap := 2) (e := fun k => if k = 0 then x else y) w (errT_gr hE g) (by omega) (fun k hk => by match k, hk with | 0, _ => exact h0 | 1, _ => exact h1) (fun k hk => by match k, hk with | 0, _ => exact n0 | 1, _ => exact n1) (World.block_lt_of_cell? _ _ h0) (Nat.le_refl _) q (by
      rw [hq]
      constructor
      · rintro ⟨a, b⟩ k hk
        match k, hk with
        | 0, _ => exact a
        | 1, _ => exact b
      · intro h
        exact ⟨h 0 (by omega), h 1 (by omega)⟩)
  clear A1 A2 hE
  by_cases hc : c = 0
  · rw [decide_eq_true hc, Bool.true_and]
    by_cases hd : d = 0
    · rw [decide_eq_true hd, Bool.true_and]
      have C3 := A3 hc hd
      have C1 : ∀ w, Gr W w → Calls Tryz.prog 9 #[.agg #[.int .i64 k, .slice ad n cap]] w fun e w' => e = .returned .nilIface ∧ Gr w w' := fun w g => (B1 w g).mono (by
        rintro e w' ⟨x, rfl, ⟨-, hx⟩, g'⟩
        obtain rfl := hx.2 hc
        exact ⟨rfl, g'⟩)
      have C2 : ∀ w, Gr W w → Calls Tryz.prog 12 #[qryV kq qlx qly qhx qhy (.slice bd m bcap)] w fun e w' => e = .returned .nilIface ∧ Gr w w' := fun w g => (B2 w g).mono (by
        rintro e w' ⟨x, rfl, ⟨-, hx⟩, g'⟩
        obtain rfl := hx.2 hd
        exact ⟨rfl, g'⟩)
      have H1 := Lib.hid C1
      have H2 := Lib.hid C2
      have H3 := Lib.hid C3
      have H4 := Lib.hid B4
      clear C1 C2 C3 B4
      clear A3 B1 B2
      go_enter Tryz.func5, Tryz.ntmps5
      go_wp2_with fail
      try simp only [List.append]
      refine Od.wp_region_ord [(0, false), (2, false), (1, true), (3, true), (4, true), (5, true), (6, false), (7, false), (8, false), (9, true), (10, false), (11, false)] (by kernel_rfl) (by kernel_rfl) ?_
      intro w0 hw0 KQ hKQ
      have cw0_0_0 : w0.cell? ⟨W.heap.size, 0, none⟩ = some (.int .i64 k) := cell_gr hw0 (by go_simp)
      have cw0_0_1 : w0.cell? ⟨W.heap.size, 1, none⟩ = some (.slice ad n cap) := cell_gr hw0 (by go_simp)
      have zw0_0 : W.heap.size < w0.heap.size := World.block_lt_of_cell? _ _ cw0_0_0
      have cw0_1_0 : w0.cell? ⟨W.heap.size + 1, 0, none⟩ = some (.int .i64 kq) := cell_gr hw0 (by go_simp)
      have cw0_1_1 : w0.cell? ⟨W.heap.size + 1, 1, none⟩ = some (.int .i64 qlx) := cell_gr hw0 (by go_simp)
      have cw0_1_2 : w0.cell? ⟨W.heap.size + 1, 2, none⟩ = some (.int .i64 qly) := cell_gr hw0 (by go_simp)
      have cw0_1_3 : w0.cell? ⟨W.heap.size + 1, 3, none⟩ = some (.int .i64 qhx) := cell_gr hw0 (by go_simp)
      have cw0_1_4 : w0.cell? ⟨W.heap.size + 1, 4, none⟩ = some (.int .i64 qhy) := cell_gr hw0 (by go_simp)
      have cw0_1_5 : w0.cell? ⟨W.heap.size + 1, 5, none⟩ = some (.slice bd m bcap) := cell_gr hw0 (by go_simp)
      have zw0_1 : W.heap.size + 1 < w0.heap.size := World.block_lt_of_cell? _ _ cw0_1_0
      have gw0 : Gr W w0 := Gr.trans (by go_grown) hw0
      skip
      clear hw0
      repeat (first | (refine Od.wpO_skip (by simp only [List.getElem?_toArray, List.getElem?_cons_succ, List.getElem?_cons_zero] <;> rfl) rfl ?_; simp only [Act.put, List.setIfInBounds_toArray, List.set_cons_zero, List.set_cons_succ]) | (refine Od.wpO_pure (by simp only [List.getElem?_toArray, List.getElem?_cons_succ, List.getElem?_cons_zero] <;> rfl) rfl ?_; apply Exists.intro; refine ⟨?_, ?_⟩; (· intro wx gx; obtain ⟨mx, rfl⟩ := spread_of_gr gx; clear gx; all_goals (apply Od.pAt_of_quiet; intro K hK; go_big_quiet_op; first | exact hK _ rfl | (apply Exists.intro; refine ⟨fun _ => ?_, ?_⟩; (· fail); exact hK _ rfl))); try simp only [Act.put, List.setIfInBounds_toArray, List.set_cons_zero, List.set_cons_succ]))
      refine Od.wpO_call (by simp only [List.getElem?_toArray, List.getElem?_cons_succ, List.getElem?_cons_zero] <;> rfl) rfl ?_
      intro QS hQS
      go_wp2_with fail
      go_at_call 9
      (with_reducible refine ((H1.out _ gw0)).mono ?_)
      rintro e w1 ⟨rfl, hw1⟩
      go_wp2_with fail
      apply Exists.intro
      refine ⟨?_, hw1, ?_⟩
      · simp only [Act.put, List.setIfInBounds_toArray, List.set_cons_zero, List.set_cons_succ]; rfl
      have cw1_0_0 : w1.cell? ⟨W.heap.size, 0, none⟩ = some (.int .i64 k) := cell_gr hw1 (by go_simp)
      have cw1_0_1 : w1.cell? ⟨W.heap.size, 1, none⟩ = some (.slice ad n cap) := cell_gr hw1 (by go_simp)
      have zw1_0 : W.heap.size < w1.heap.size := World.block_lt_of_cell? _ _ cw1_0_0
      have cw1_1_0 : w1.cell? ⟨W.heap.size + 1, 0, none⟩ = some (.int .i64 kq) := cell_gr hw1 (by go_simp)
      have cw1_1_1 : w1.cell? ⟨W.heap.size + 1, 1, none⟩ = some (.int .i64 qlx) := cell_gr hw1 (by go_simp)
      have cw1_1_2 : w1.cell? ⟨W.heap.size + 1, 2, none⟩ = some (.int .i64 qly) := cell_gr hw1 (by go_simp)
      have cw1_1_3 : w1.cell? ⟨W.heap.size + 1, 3, none⟩ = some (.int .i64 qhx) := cell_gr hw1 (by go_simp)
      have cw1_1_4 : w1.cell? ⟨W.heap.size + 1, 4, none⟩ = some (.int .i64 qhy) := cell_gr hw1 (by go_simp)
      have cw1_1_5 : w1.cell? ⟨W.heap.size + 1, 5, none⟩ = some (.slice bd m bcap) := cell_gr hw1 (by go_simp)
      have zw1_1 : W.heap.size + 1 < w1.heap.size := World.block_lt_of_cell? _ _ cw1_1_0
      have gw1 : Gr W w1 := Gr.trans (by have gg := gw0; have gs := gg.size; go_grown) hw1
      clear gw0 zw0_0 cw0_0_0 cw0_0_1 zw0_1 cw0_1_0 cw0_1_1 cw0_1_2 cw0_1_3 cw0_1_4 cw0_1_5
      clear hw1
      try simp only [Act.put, List.setIfInBounds_toArray, List.set_cons_zero, List.set_cons_succ]
      repeat (first | (refine Od.wpO_skip (by simp only [List.getElem?_toArray, List.getElem?_cons_succ, List.getElem?_cons_zero] <;> rfl) rfl ?_; simp only [Act.put, List.setIfInBounds_toArray, List.set_cons_zero, List.set_cons_succ]) | (refine Od.wpO_pure (by simp only [List.getElem?_toArray, List.getElem?_cons_succ, List.getElem?_cons_zero] <;> rfl) rfl ?_; apply Exists.intro; refine ⟨?_, ?_⟩; (· intro wx gx; obtain ⟨mx, rfl⟩ := spread_of_gr gx; clear gx; all_goals (apply Od.pAt_of_quiet; intro K hK; go_big_quiet_op; first | exact hK _ rfl | (apply Exists.intro; refine ⟨fun _ => ?_, ?_⟩; (· fail); exact hK _ rfl))); try simp only [Act.put, List.setIfInBounds_toArray, List.set_cons_zero, List.set_cons_succ]))
      refine Od.wpO_call (by simp only [List.getElem?_toArray, List.getElem?_cons_succ, List.getElem?_cons_zero] <;> rfl) rfl ?_
      intro QS hQS
      go_wp2_with fail
      go_at_call 12
      (with_reducible refine ((H2.out _ gw1)).mono ?_)
      rintro e w2 ⟨rfl, hw2⟩
      go_wp2_with fail
      apply Exists.intro
      refine ⟨?_, hw2, ?_⟩
      · simp only [Act.put, List.setIfInBounds_toArray, List.set_cons_zero, List.set_cons_succ]; rfl
      have cw2_0_0 : w2.cell? ⟨W.heap.size, 0, none⟩ = some (.int .i64 k) := cell_gr hw2 (by go_simp)
      have cw2_0_1 : w2.cell? ⟨W.heap.size, 1, none⟩ = some (.slice ad n cap) := cell_gr hw2 (by go_simp)
      have zw2_0 : W.heap.size < w2.heap.size := World.block_lt_of_cell? _ _ cw2_0_0
      have cw2_1_0 : w2.cell? ⟨W.heap.size + 1, 0, none⟩ = some (.int .i64 kq) := cell_gr hw2 (by go_simp)
      have cw2_1_1 : w2.cell? ⟨W.heap.size + 1, 1, none⟩ = some (.int .i64 qlx) := cell_gr hw2 (by go_simp)
      have cw2_1_2 : w2.cell? ⟨W.heap.size + 1, 2, none⟩ = some (.int .i64 qly) := cell_gr hw2 (by go_simp)
      have cw2_1_3 : w2.cell? ⟨W.heap.size + 1, 3, none⟩ = some (.int .i64 qhx) := cell_gr hw2 (by go_simp)
      have cw2_1_4 : w2.cell? ⟨W.heap.size + 1, 4, none⟩ = some (.int .i64 qhy) := cell_gr hw2 (by go_simp)
      have cw2_1_5 : w2.cell? ⟨W.heap.size + 1, 5, none⟩ = some (.slice bd m bcap) := cell_gr hw2 (by go_simp)
      have zw2_1 : W.heap.size + 1 < w2.heap.size := World.block_lt_of_cell? _ _ cw2_1_0
      have gw2 : Gr W w2 := Gr.trans (by have gg := gw1; have gs := gg.size; go_grown) hw2
      clear gw1 zw1_0 cw1_0_0 cw1_0_1 zw1_1 cw1_1_0 cw1_1_1 cw1_1_2 cw1_1_3 cw1_1_4 cw1_1_5
      clear hw2
      try simp only [Act.put, List.setIfInBounds_toArray, List.set_cons_zero, List.set_cons_succ]
      repeat (first | (refine Od.wpO_skip (by simp only [List.getElem?_toArray, List.getElem?_cons_succ, List.getElem?_cons_zero] <;> rfl) rfl ?_; simp only [Act.put, List.setIfInBounds_toArray, List.set_cons_zero, List.set_cons_succ]) | (refine Od.wpO_pure (by simp only [List.getElem?_toArray, List.getElem?_cons_succ, List.getElem?_cons_zero] <;> rfl) rfl ?_; apply Exists.intro; refine ⟨?_, ?_⟩; (· intro wx gx; obtain ⟨mx, rfl⟩ := spread_of_gr gx; clear gx; all_goals (apply Od.pAt_of_quiet; intro K hK; go_big_quiet_op; first | exact hK _ rfl | (apply Exists.intro; refine ⟨fun _ => ?_, ?_⟩; (· fail); exact hK _ rfl))); try simp only [Act.put, List.setIfInBounds_toArray, List.set_cons_zero, List.set_cons_succ]))
      refine Od.wpO_call (by simp only [List.getElem?_toArray, List.getElem?_cons_succ, List.getElem?_cons_zero] <;> rfl) rfl ?_
      intro QS hQS
      go_wp2_with fail
      first | (apply Exists.intro; refine ⟨?_, (by go_grown), ?_⟩; (· simp only [Act.put, List.setIfInBounds_toArray, List.set_cons_zero, List.set_cons_succ]; rfl)) | (refine ⟨(by go_grown), ?_⟩)
      generalize hhw3 : (w2.alloc (.cells #[.nilIface, .nilIface] 41)) = w3
      have hw3 : Gr w2 w3 := by subst hhw3; go_grown
      have cw3_0_0 : w3.cell? ⟨W.heap.size, 0, none⟩ = some (.int .i64 k) := by subst hhw3; go_simp
      have cw3_0_1 : w3.cell? ⟨W.heap.size, 1, none⟩ = some (.slice ad n cap) := by subst hhw3; go_simp
      have zw3_0 : W.heap.size < w3.heap.size := World.block_lt_of_cell? _ _ cw3_0_0
      have cw3_1_0 : w3.cell? ⟨W.heap.size + 1, 0, none⟩ = some (.int .i64 kq) := by subst hhw3; go_simp
      have cw3_1_1 : w3.cell? ⟨W.heap.size + 1, 1, none⟩ = some (.int .i64 qlx) := by subst hhw3; go_simp
      have cw3_1_2 : w3.cell? ⟨W.heap.size + 1, 2, none⟩ = some (.int .i64 qly) := by subst hhw3; go_simp
      have cw3_1_3 : w3.cell? ⟨W.heap.size + 1, 3, none⟩ = some (.int .i64 qhx) := by subst hhw3; go_simp
      have cw3_1_4 : w3.cell? ⟨W.heap.size + 1, 4, none⟩ = some (.int .i64 qhy) := by subst hhw3; go_simp
      have cw3_1_5 : w3.cell? ⟨W.heap.size + 1, 5, none⟩ = some (.slice bd m bcap) := by subst hhw3; go_simp
      have zw3_1 : W.heap.size + 1 < w3.heap.size := World.block_lt_of_cell? _ _ cw3_1_0
      have cw3_2_0 : w3.cell? ⟨w2.heap.size, 0, none⟩ = some (.nilIface) := by subst hhw3; go_simp
      have cw3_2_1 : w3.cell? ⟨w2.heap.size, 1, none⟩ = some (.nilIface) := by subst hhw3; go_simp
      have zw3_2 : w2.heap.size < w3.heap.size := World.block_lt_of_cell? _ _ cw3_2_0
      have gw3 : Gr W w3 := Gr.trans (by have gg := gw2; have gs := gg.size; go_grown) hw3
      clear hhw3 hw3 gw2 zw2_0 cw2_0_0 cw2_0_1 zw2_1 cw2_1_0 cw2_1_1 cw2_1_2 cw2_1_3 cw2_1_4 cw2_1_5
      try simp only [Act.put, List.setIfInBounds_toArray, List.set_cons_zero, List.set_cons_succ]
      repeat (first | (refine Od.wpO_skip (by simp only [List.getElem?_toArray, List.getElem?_cons_succ, List.getElem?_cons_zero] <;> rfl) rfl ?_; simp only [Act.put, List.setIfInBounds_toArray, List.set_cons_zero, List.set_cons_succ]) | (refine Od.wpO_pure (by simp only [List.getElem?_toArray, List.getElem?_cons_succ, List.getElem?_cons_zero] <;> rfl) rfl ?_; apply Exists.intro; refine ⟨?_, ?_⟩; (· intro wx gx; obtain ⟨mx, rfl⟩ := spread_of_gr gx; clear gx; all_goals (apply Od.pAt_of_quiet; intro K hK; go_big_quiet_op; first | exact hK _ rfl | (apply Exists.intro; refine ⟨fun _ => ?_, ?_⟩; (· fail); exact hK _ rfl))); try simp only [Act.put, List.setIfInBounds_toArray, List.set_cons_zero, List.set_cons_succ]))
      refine Od.wpO_call (by simp only [List.getElem?_toArray, List.getElem?_cons_succ, List.getElem?_cons_zero] <;> rfl) rfl ?_
      intro QS hQS
      go_wp2_with fail
      go_at_call 11
      (with_reducible refine ((H4.out _ _ _ _ true gw3 cw3_2_0 cw3_2_1 nf_nil nf_nil (by simp))).mono ?_)
      rintro e w4 ⟨rfl, hw4⟩
      go_wp2_with fail
      apply Exists.intro
      refine ⟨?_, hw4, ?_⟩
      · simp only [Act.put, List.setIfInBounds_toArray, List.set_cons_zero, List.set_cons_succ]; rfl
      have cw4_0_0 : w4.cell? ⟨W.heap.size, 0, none⟩ = some (.int .i64 k) := cell_gr hw4 (by go_simp)
      have cw4_0_1 : w4.cell? ⟨W.heap.size, 1, none⟩ = some (.slice ad n cap) := cell_gr hw4 (by go_simp)
      have zw4_0 : W.heap.size < w4.heap.size := World.block_lt_of_cell? _ _ cw4_0_0
      have cw4_1_0 : w4.cell? ⟨W.heap.size + 1, 0, none⟩ = some (.int .i64 kq) := cell_gr hw4 (by go_simp)
      have cw4_1_1 : w4.cell? ⟨W.heap.size + 1, 1, none⟩ = some (.int .i64 qlx) := cell_gr hw4 (by go_simp)
      have cw4_1_2 : w4.cell? ⟨W.heap.size + 1, 2, none⟩ = some (.int .i64 qly) := cell_gr hw4 (by go_simp)
      have cw4_1_3 : w4.cell? ⟨W.heap.size + 1, 3, none⟩ = some (.int .i64 qhx) := cell_gr hw4 (by go_simp)
      have cw4_1_4 : w4.cell? ⟨W.heap.size + 1, 4, none⟩ = some (.int .i64 qhy) := cell_gr hw4 (by go_simp)
      have cw4_1_5 : w4.cell? ⟨W.heap.size + 1, 5, none⟩ = some (.slice bd m bcap) := cell_gr hw4 (by go_simp)
      have zw4_1 : W.heap.size + 1 < w4.heap.size := World.block_lt_of_cell? _ _ cw4_1_0
      have cw4_2_0 : w4.cell? ⟨w2.heap.size, 0, none⟩ = some (.nilIface) := cell_gr hw4 (by go_simp)
      have cw4_2_1 : w4.cell? ⟨w2.heap.size, 1, none⟩ = some (.nilIface) := cell_gr hw4 (by go_simp)
      have zw4_2 : w2.heap.size < w4.heap.size := World.block_lt_of_cell? _ _ cw4_2_0
      have gw4 : Gr W w4 := Gr.trans (by have gg := gw3; have gs := gg.size; go_grown) hw4
      clear gw3 zw3_0 cw3_0_0 cw3_0_1 zw3_1 cw3_1_0 cw3_1_1 cw3_1_2 cw3_1_3 cw3_1_4 cw3_1_5 zw3_2 cw3_2_0 cw3_2_1
      clear hw4
      try simp only [Act.put, List.setIfInBounds_toArray, List.set_cons_zero, List.set_cons_succ]
      repeat (first | (refine Od.wpO_skip (by simp only [List.getElem?_toArray, List.getElem?_cons_succ, List.getElem?_cons_zero] <;> rfl) rfl ?_; simp only [Act.put, List.setIfInBounds_toArray, List.set_cons_zero, List.set_cons_succ]) | (refine Od.wpO_pure (by simp only [List.getElem?_toArray, List.getElem?_cons_succ, List.getElem?_cons_zero] <;> rfl) rfl ?_; apply Exists.intro; refine ⟨?_, ?_⟩; (· intro wx gx; obtain ⟨mx, rfl⟩ := spread_of_gr gx; clear gx; all_goals (apply Od.pAt_of_quiet; intro K hK; go_big_quiet_op; first | exact hK _ rfl | (apply Exists.intro; refine ⟨fun _ => ?_, ?_⟩; (· fail); exact hK _ rfl))); try simp only [Act.put, List.setIfInBounds_toArray, List.set_cons_zero, List.set_cons_succ]))
      refine Od.wpO_call (by simp only [List.getElem?_toArray, List.getElem?_cons_succ, List.getElem?_cons_zero] <;> rfl) rfl ?_
      intro QS hQS
      go_wp2_with fail
      go_at_call 13
      (with_reducible refine ((H3.out _ gw4)).mono ?_)
      rintro e w5 ⟨rfl, hw5⟩
      go_wp2_with fail
      apply Exists.intro
      refine ⟨?_, hw5, ?_⟩
      · simp only [Act.put, List.setIfInBounds_toArray, List.set_cons_zero, List.set_cons_succ]; rfl
      have cw5_0_0 : w5.cell? ⟨W.heap.size, 0, none⟩ = some (.int .i64 k) := cell_gr hw5 (by go_simp)
      have cw5_0_1 : w5.cell? ⟨W.heap.size, 1, none⟩ = some (.slice ad n cap) := cell_gr hw5 (by go_simp)
      have zw5_0 : W.heap.size < w5.heap.size := World.block_lt_of_cell? _ _ cw5_0_0
      have cw5_1_0 : w5.cell? ⟨W.heap.size + 1, 0, none⟩ = some (.int .i64 kq) := cell_gr hw5 (by go_simp)
      have cw5_1_1 : w5.cell? ⟨W.heap.size + 1, 1, none⟩ = some (.int .i64 qlx) := cell_gr hw5 (by go_simp)
      have cw5_1_2 : w5.cell? ⟨W.heap.size + 1, 2, none⟩ = some (.int .i64 qly) := cell_gr hw5 (by go_simp)
      have cw5_1_3 : w5.cell? ⟨W.heap.size + 1, 3, none⟩ = some (.int .i64 qhx) := cell_gr hw5 (by go_simp)
      have cw5_1_4 : w5.cell? ⟨W.heap.size + 1, 4, none⟩ = some (.int .i64 qhy) := cell_gr hw5 (by go_simp)
      have cw5_1_5 : w5.cell? ⟨W.heap.size + 1, 5, none⟩ = some (.slice bd m bcap) := cell_gr hw5 (by go_simp)
      have zw5_1 : W.heap.size + 1 < w5.heap.size := World.block_lt_of_cell? _ _ cw5_1_0
      have cw5_2_0 : w5.cell? ⟨w2.heap.size, 0, none⟩ = some (.nilIface) := cell_gr hw5 (by go_simp)
      have cw5_2_1 : w5.cell? ⟨w2.heap.size, 1, none⟩ = some (.nilIface) := cell_gr hw5 (by go_simp)
      have zw5_2 : w2.heap.size < w5.heap.size := World.block_lt_of_cell? _ _ cw5_2_0
      have gw5 : Gr W w5 := Gr.trans (by have gg := gw4; have gs := gg.size; go_grown) hw5
      clear gw4 zw4_0 cw4_0_0 cw4_0_1 zw4_1 cw4_1_0 cw4_1_1 cw4_1_2 cw4_1_3 cw4_1_4 cw4_1_5 zw4_2 cw4_2_0 cw4_2_1
      clear hw5
      try simp only [Act.put, List.setIfInBounds_toArray, List.set_cons_zero, List.set_cons_succ]
      repeat (first | (refine Od.wpO_skip (by simp only [List.getElem?_toArray, List.getElem?_cons_succ, List.getElem?_cons_zero] <;> rfl) rfl ?_; simp only [Act.put, List.setIfInBounds_toArray, List.set_cons_zero, List.set_cons_succ]) | (refine Od.wpO_pure (by simp only [List.getElem?_toArray, List.getElem?_cons_succ, List.getElem?_cons_zero] <;> rfl) rfl ?_; apply Exists.intro; refine ⟨?_, ?_⟩; (· intro wx gx; obtain ⟨mx, rfl⟩ := spread_of_gr gx; clear gx; all_goals (apply Od.pAt_of_quiet; intro K hK; go_big_quiet_op; first | exact hK _ rfl | (apply Exists.intro; refine ⟨fun _ => ?_, ?_⟩; (· fail); exact hK _ rfl))); try simp only [Act.put, List.setIfInBounds_toArray, List.set_cons_zero, List.set_cons_succ]))
      refine Od.wpO_nil (hKQ _ _ ?_)
      clear hKQ KQ
      go_wp2_with fail
      go_ret
      exact ⟨rfl, gw5⟩
    · rw [decide_eq_false hd, Bool.false_and]
      have C1 : ∀ w, Gr W w → Calls Tryz.prog 9 #[.agg #[.int .i64 k, .slice ad n cap]] w fun e w' => e = .returned .nilIface ∧ Gr w w' := fun w g => (B1 w g).mono (by
        rintro e w' ⟨x, rfl, ⟨-, hx⟩, g'⟩
        obtain rfl := hx.2 hc
        exact ⟨rfl, g'⟩)
      have C2 : ∀ w, Gr W w → Calls Tryz.prog 12 #[qryV kq qlx qly qhx qhy (.slice bd m bcap)] w fun e w' => ∃ B, e = .returned (.iface 52 (.pointer (some ⟨B, 0, none⟩))) ∧ Gr w w' := fun w g => (B2 w g).mono (by
        rintro e w' ⟨x, rfl, ⟨hn, hx⟩, g'⟩
        rcases hn with rfl | ⟨B, rfl⟩
        · exact absurd (hx.1 rfl) hd
        · exact ⟨B, rfl, g'⟩)
      have H1 := Lib.hid C1
      have H2 := Lib.hid C2
      have H4 := Lib.hid B4
      clear C1 C2 B4
      clear A3 B1 B2
      go_enter Tryz.func5, Tryz.ntmps5
      go_wp2_with fail
      try simp only [List.append]
      refine Od.wp_region_ord [(0, false), (2, false), (1, true), (3, true), (4, true), (5, true), (6, false), (7, false), (8, false), (9, true), (10, false), (11, false)] (by kernel_rfl) (by kernel_rfl) ?_
      intro w0 hw0 KQ hKQ
      have cw0_0_0 : w0.cell? ⟨W.heap.size, 0, none⟩ = some (.int .i64 k) := cell_gr hw0 (by go_simp)
      have cw0_0_1 : w0.cell? ⟨W.heap.size, 1, none⟩ = some (.slice ad n cap) := cell_gr hw0 (by go_simp)
      have zw0_0 : W.heap.size < w0.heap.size := World.block_lt_of_cell? _ _ cw0_0_0
      have cw0_1_0 : w0.cell? ⟨W.heap.size + 1, 0, none⟩ = some (.int .i64 kq) := cell_gr hw0 (by go_simp)
      have cw0_1_1 : w0.cell? ⟨W.heap.size + 1, 1, none⟩ = some (.int .i64 qlx) := cell_gr hw0 (by go_simp)
      have cw0_1_2 : w0.cell? ⟨W.heap.size + 1, 2, none⟩ = some (.int .i64 qly) := cell_gr hw0 (by go_simp)
      have cw0_1_3 : w0.cell? ⟨W.heap.size + 1, 3, none⟩ = some (.int .i64 qhx) := cell_gr hw0 (by go_simp)
      have cw0_1_4 : w0.cell? ⟨W.heap.size + 1, 4, none⟩ = some (.int .i64 qhy) := cell_gr hw0 (by go_simp)
      have cw0_1_5 : w0.cell? ⟨W.heap.size + 1, 5, none⟩ = some (.slice bd m bcap) := cell_gr hw0 (by go_simp)
      have zw0_1 : W.heap.size + 1 < w0.heap.size := World.block_lt_of_cell? _ _ cw0_1_0
      have gw0 : Gr W w0 := Gr.trans (by go_grown) hw0
      skip
      clear hw0
      repeat (first | (refine Od.wpO_skip (by simp only [List.getElem?_toArray, List.getElem?_cons_succ, List.getElem?_cons_zero] <;> rfl) rfl ?_; simp only [Act.put, List.setIfInBounds_toArray, List.set_cons_zero, List.set_cons_succ]) | (refine Od.wpO_pure (by simp only [List.getElem?_toArray, List.getElem?_cons_succ, List.getElem?_cons_zero] <;> rfl) rfl ?_; apply Exists.intro; refine ⟨?_, ?_⟩; (· intro wx gx; obtain ⟨mx, rfl⟩ := spread_of_gr gx; clear gx; all_goals (apply Od.pAt_of_quiet; intro K hK; go_big_quiet_op; first | exact hK _ rfl | (apply Exists.intro; refine ⟨fun _ => ?_, ?_⟩; (· fail); exact hK _ rfl))); try simp only [Act.put, List.setIfInBounds_toArray, List.set_cons_zero, List.set_cons_succ]))
      refine Od.wpO_call (by simp only [List.getElem?_toArray, List.getElem?_cons_succ, List.getElem?_cons_zero] <;> rfl) rfl ?_
      intro QS hQS
      go_wp2_with fail
      go_at_call 9
      (with_reducible refine ((H1.out _ gw0)).mono ?_)
      rintro e w1 ⟨rfl, hw1⟩
      go_wp2_with fail
      apply Exists.intro
      refine ⟨?_, hw1, ?_⟩
      · simp only [Act.put, List.setIfInBounds_toArray, List.set_cons_zero, List.set_cons_succ]; rfl
      have cw1_0_0 : w1.cell? ⟨W.heap.size, 0, none⟩ = some (.int .i64 k) := cell_gr hw1 (by go_simp)
      have cw1_0_1 : w1.cell? ⟨W.heap.size, 1, none⟩ = some (.slice ad n cap) := cell_gr hw1 (by go_simp)
      have zw1_0 : W.heap.size < w1.heap.size := World.block_lt_of_cell? _ _ cw1_0_0
      have cw1_1_0 : w1.cell? ⟨W.heap.size + 1, 0, none⟩ = some (.int .i64 kq) := cell_gr hw1 (by go_simp)
      have cw1_1_1 : w1.cell? ⟨W.heap.size + 1, 1, none⟩ = some (.int .i64 qlx) := cell_gr hw1 (by go_simp)
      have cw1_1_2 : w1.cell? ⟨W.heap.size + 1, 2, none⟩ = some (.int .i64 qly) := cell_gr hw1 (by go_simp)
      have cw1_1_3 : w1.cell? ⟨W.heap.size + 1, 3, none⟩ = some (.int .i64 qhx) := cell_gr hw1 (by go_simp)
      have cw1_1_4 : w1.cell? ⟨W.heap.size + 1, 4, none⟩ = some (.int .i64 qhy) := cell_gr hw1 (by go_simp)
      have cw1_1_5 : w1.cell? ⟨W.heap.size + 1, 5, none⟩ = some (.slice bd m bcap) := cell_gr hw1 (by go_simp)
      have zw1_1 : W.heap.size + 1 < w1.heap.size := World.block_lt_of_cell? _ _ cw1_1_0
      have gw1 : Gr W w1 := Gr.trans (by have gg := gw0; have gs := gg.size; go_grown) hw1
      clear gw0 zw0_0 cw0_0_0 cw0_0_1 zw0_1 cw0_1_0 cw0_1_1 cw0_1_2 cw0_1_3 cw0_1_4 cw0_1_5
      clear hw1
      try simp only [Act.put, List.setIfInBounds_toArray, List.set_cons_zero, List.set_cons_succ]
      repeat (first | (refine Od.wpO_skip (by simp only [List.getElem?_toArray, List.getElem?_cons_succ, List.getElem?_cons_zero] <;> rfl) rfl ?_; simp only [Act.put, List.setIfInBounds_toArray, List.set_cons_zero, List.set_cons_succ]) | (refine Od.wpO_pure (by simp only [List.getElem?_toArray, List.getElem?_cons_succ, List.getElem?_cons_zero] <;> rfl) rfl ?_; apply Exists.intro; refine ⟨?_, ?_⟩; (· intro wx gx; obtain ⟨mx, rfl⟩ := spread_of_gr gx; clear gx; all_goals (apply Od.pAt_of_quiet; intro K hK; go_big_quiet_op; first | exact hK _ rfl | (apply Exists.intro; refine ⟨fun _ => ?_, ?_⟩; (· fail); exact hK _ rfl))); try simp only [Act.put, List.setIfInBounds_toArray, List.set_cons_zero, List.set_cons_succ]))
      refine Od.wpO_call (by simp only [List.getElem?_toArray, List.getElem?_cons_succ, List.getElem?_cons_zero] <;> rfl) rfl ?_
      intro QS hQS
      go_wp2_with fail
      go_at_call 12
      (with_reducible refine ((H2.out _ gw1)).mono ?_)
      rintro e w2 ⟨B2, rfl, hw2⟩
      go_wp2_with fail
      apply Exists.intro
      refine ⟨?_, hw2, ?_⟩
      · simp only [Act.put, List.setIfInBounds_toArray, List.set_cons_zero, List.set_cons_succ]; rfl
      have cw2_0_0 : w2.cell? ⟨W.heap.size, 0, none⟩ = some (.int .i64 k) := cell_gr hw2 (by go_simp)
      have cw2_0_1 : w2.cell? ⟨W.heap.size, 1, none⟩ = some (.slice ad n cap) := cell_gr hw2 (by go_simp)
      have zw2_0 : W.heap.size < w2.heap.size := World.block_lt_of_cell? _ _ cw2_0_0
      have cw2_1_0 : w2.cell? ⟨W.heap.size + 1, 0, none⟩ = some (.int .i64 kq) := cell_gr hw2 (by go_simp)
      have cw2_1_1 : w2.cell? ⟨W.heap.size + 1, 1, none⟩ = some (.int .i64 qlx) := cell_gr hw2 (by go_simp)
      have cw2_1_2 : w2.cell? ⟨W.heap.size + 1, 2, none⟩ = some (.int .i64 qly) := cell_gr hw2 (by go_simp)
      have cw2_1_3 : w2.cell? ⟨W.heap.size + 1, 3, none⟩ = some (.int .i64 qhx) := cell_gr hw2 (by go_simp)
      have cw2_1_4 : w2.cell? ⟨W.heap.size + 1, 4, none⟩ = some (.int .i64 qhy) := cell_gr hw2 (by go_simp)
      have cw2_1_5 : w2.cell? ⟨W.heap.size + 1, 5, none⟩ = some (.slice bd m bcap) := cell_gr hw2 (by go_simp)
      have zw2_1 : W.heap.size + 1 < w2.heap.size := World.block_lt_of_cell? _ _ cw2_1_0
      have gw2 : Gr W w2 := Gr.trans (by have gg := gw1; have gs := gg.size; go_grown) hw2
      clear gw1 zw1_0 cw1_0_0 cw1_0_1 zw1_1 cw1_1_0 cw1_1_1 cw1_1_2 cw1_1_3 cw1_1_4 cw1_1_5
      clear hw2
      try simp only [Act.put, List.setIfInBounds_toArray, List.set_cons_zero, List.set_cons_succ]
      repeat (first | (refine Od.wpO_skip (by simp only [List.getElem?_toArray, List.getElem?_cons_succ, List.getElem?_cons_zero] <;> rfl) rfl ?_; simp only [Act.put, List.setIfInBounds_toArray, List.set_cons_zero, List.set_cons_succ]) | (refine Od.wpO_pure (by simp only [List.getElem?_toArray, List.getElem?_cons_succ, List.getElem?_cons_zero] <;> rfl) rfl ?_; apply Exists.intro; refine ⟨?_, ?_⟩; (· intro wx gx; obtain ⟨mx, rfl⟩ := spread_of_gr gx; clear gx; all_goals (apply Od.pAt_of_quiet; intro K hK; go_big_quiet_op; first | exact hK _ rfl | (apply Exists.intro; refine ⟨fun _ => ?_, ?_⟩; (· fail); exact hK _ rfl))); try simp only [Act.put, List.setIfInBounds_toArray, List.set_cons_zero, List.set_cons_succ]))
      refine Od.wpO_call (by simp only [List.getElem?_toArray, List.getElem?_cons_succ, List.getElem?_cons_zero] <;> rfl) rfl ?_
      intro QS hQS
      go_wp2_with fail
      first | (apply Exists.intro; refine ⟨?_, (by go_grown), ?_⟩; (· simp only [Act.put, List.setIfInBounds_toArray, List.set_cons_zero, List.set_cons_succ]; rfl)) | (refine ⟨(by go_grown), ?_⟩)
      generalize hhw3 : (w2.alloc (.cells #[.nilIface, .iface 52 (.pointer (some ⟨B2, 0, none⟩))] 41)) = w3
      have hw3 : Gr w2 w3 := by subst hhw3; go_grown
      have cw3_0_0 : w3.cell? ⟨W.heap.size, 0, none⟩ = some (.int .i64 k) := by subst hhw3; go_simp
      have cw3_0_1 : w3.cell? ⟨W.heap.size, 1, none⟩ = some (.slice ad n cap) := by subst hhw3; go_simp
      have zw3_0 : W.heap.size < w3.heap.size := World.block_lt_of_cell? _ _ cw3_0_0
      have cw3_1_0 : w3.cell? ⟨W.heap.size + 1, 0, none⟩ = some (.int .i64 kq) := by subst hhw3; go_simp
      have cw3_1_1 : w3.cell? ⟨W.heap.size + 1, 1, none⟩ = some (.int .i64 qlx) := by subst hhw3; go_simp
      have cw3_1_2 : w3.cell? ⟨W.heap.size + 1, 2, none⟩ = some (.int .i64 qly) := by subst hhw3; go_simp
      have cw3_1_3 : w3.cell? ⟨W.heap.size + 1, 3, none⟩ = some (.int .i64 qhx) := by subst hhw3; go_simp
      have cw3_1_4 : w3.cell? ⟨W.heap.size + 1, 4, none⟩ = some (.int .i64 qhy) := by subst hhw3; go_simp
      have cw3_1_5 : w3.cell? ⟨W.heap.size + 1, 5, none⟩ = some (.slice bd m bcap) := by subst hhw3; go_simp
      have zw3_1 : W.heap.size + 1 < w3.heap.size := World.block_lt_of_cell? _ _ cw3_1_0
      have cw3_2_0 : w3.cell? ⟨w2.heap.size, 0, none⟩ = some (.nilIface) := by subst hhw3; go_simp
      have cw3_2_1 : w3.cell? ⟨w2.heap.size, 1, none⟩ = some (.iface 52 (.pointer (some ⟨B2, 0, none⟩))) := by subst hhw3; go_simp
      have zw3_2 : w2.heap.size < w3.heap.size := World.block_lt_of_cell? _ _ cw3_2_0
      have gw3 : Gr W w3 := Gr.trans (by have gg := gw2; have gs := gg.size; go_grown) hw3
      clear hhw3 hw3 gw2 zw2_0 cw2_0_0 cw2_0_1 zw2_1 cw2_1_0 cw2_1_1 cw2_1_2 cw2_1_3 cw2_1_4 cw2_1_5
      try simp only [Act.put, List.setIfInBounds_toArray, List.set_cons_zero, List.set_cons_succ]
      repeat (first | (refine Od.wpO_skip (by simp only [List.getElem?_toArray, List.getElem?_cons_succ, List.getElem?_cons_zero] <;> rfl) rfl ?_; simp only [Act.put, List.setIfInBounds_toArray, List.set_cons_zero, List.set_cons_succ]) | (refine Od.wpO_pure (by simp only [List.getElem?_toArray, List.getElem?_cons_succ, List.getElem?_cons_zero] <;> rfl) rfl ?_; apply Exists.intro; refine ⟨?_, ?_⟩; (· intro wx gx; obtain ⟨mx, rfl⟩ := spread_of_gr gx; clear gx; all_goals (apply Od.pAt_of_quiet; intro K hK; go_big_quiet_op; first | exact hK _ rfl | (apply Exists.intro; refine ⟨fun _ => ?_, ?_⟩; (· fail); exact hK _ rfl))); try simp only [Act.put, List.setIfInBounds_toArray, List.set_cons_zero, List.set_cons_succ]))
      refine Od.wpO_call (by simp only [List.getElem?_toArray, List.getElem?_cons_succ, List.getElem?_cons_zero] <;> rfl) rfl ?_
      intro QS hQS
      go_wp2_with fail
      go_at_call 11
      (with_reducible refine ((H4.out _ _ _ _ false gw3 cw3_2_0 cw3_2_1 nf_nil (nf_f _) (by simp))).mono ?_)
      rintro e w4 ⟨rfl, hw4⟩
      go_wp2_with fail
      apply Exists.intro
      refine ⟨?_, hw4, ?_⟩
      · simp only [Act.put, List.setIfInBounds_toArray, List.set_cons_zero, List.set_cons_succ]; rfl
      have cw4_0_0 : w4.cell? ⟨W.heap.size, 0, none⟩ = some (.int .i64 k) := cell_gr hw4 (by go_simp)
      have cw4_0_1 : w4.cell? ⟨W.heap.size, 1, none⟩ = some (.slice ad n cap) := cell_gr hw4 (by go_simp)
      have zw4_0 : W.heap.size < w4.heap.size := World.block_lt_of_cell? _ _ cw4_0_0
      have cw4_1_0 : w4.cell? ⟨W.heap.size + 1, 0, none⟩ = some (.int .i64 kq) := cell_gr hw4 (by go_simp)
      have cw4_1_1 : w4.cell? ⟨W.heap.size + 1, 1, none⟩ = some (.int .i64 qlx) := cell_gr hw4 (by go_simp)
      have cw4_1_2 : w4.cell? ⟨W.heap.size + 1, 2, none⟩ = some (.int .i64 qly) := cell_gr hw4 (by go_simp)
      have cw4_1_3 : w4.cell? ⟨W.heap.size + 1, 3, none⟩ = some (.int .i64 qhx) := cell_gr hw4 (by go_simp)
      have cw4_1_4 : w4.cell? ⟨W.heap.size + 1, 4, none⟩ = some (.int .i64 qhy) := cell_gr hw4 (by go_simp)
      have cw4_1_5 : w4.cell? ⟨W.heap.size + 1, 5, none⟩ = some (.slice bd m bcap) := cell_gr hw4 (by go_simp)
      have zw4_1 : W.heap.size + 1 < w4.heap.size := World.block_lt_of_cell? _ _ cw4_1_0
      have cw4_2_0 : w4.cell? ⟨w2.heap.size, 0, none⟩ = some (.nilIface) := cell_gr hw4 (by go_simp)
      have cw4_2_1 : w4.cell? ⟨w2.heap.size, 1, none⟩ = some (.iface 52 (.pointer (some ⟨B2, 0, none⟩))) := cell_gr hw4 (by go_simp)
      have zw4_2 : w2.heap.size < w4.heap.size := World.block_lt_of_cell? _ _ cw4_2_0
      have gw4 : Gr W w4 := Gr.trans (by have gg := gw3; have gs := gg.size; go_grown) hw4
      clear gw3 zw3_0 cw3_0_0 cw3_0_1 zw3_1 cw3_1_0 cw3_1_1 cw3_1_2 cw3_1_3 cw3_1_4 cw3_1_5 zw3_2 cw3_2_0 cw3_2_1
      clear hw4
      try simp only [Act.put, List.setIfInBounds_toArray, List.set_cons_zero, List.set_cons_succ]
      repeat (first | (refine Od.wpO_skip (by simp only [List.getElem?_toArray, List.getElem?_cons_succ, List.getElem?_cons_zero] <;> rfl) rfl ?_; simp only [Act.put, List.setIfInBounds_toArray, List.set_cons_zero, List.set_cons_succ]) | (refine Od.wpO_pure (by simp only [List.getElem?_toArray, List.getElem?_cons_succ, List.getElem?_cons_zero] <;> rfl) rfl ?_; apply Exists.intro; refine ⟨?_, ?_⟩; (· intro wx gx; obtain ⟨mx, rfl⟩ := spread_of_gr gx; clear gx; all_goals (apply Od.pAt_of_quiet; intro K hK; go_big_quiet_op; first | exact hK _ rfl | (apply Exists.intro; refine ⟨fun _ => ?_, ?_⟩; (· fail); exact hK _ rfl))); try simp only [Act.put, List.setIfInBounds_toArray, List.set_cons_zero, List.set_cons_succ]))
      refine Od.wpO_nil (hKQ _ _ ?_)
      clear hKQ KQ
      go_wp2_with fail
      go_ret
      exact ⟨rfl, gw4⟩
  · rw [decide_eq_false hc, Bool.false_and, Bool.false_and]
    by_cases hd : d = 0
    · skip
      have C1 : ∀ w, Gr W w → Calls Tryz.prog 9 #[.agg #[.int .i64 k, .slice ad n cap]] w fun e w' => ∃ B, e = .returned (.iface 52 (.pointer (some ⟨B, 0, none⟩))) ∧ Gr w w' := fun w g => (B1 w g).mono (by
        rintro e w' ⟨x, rfl, ⟨hn, hx⟩, g'⟩
        rcases hn with rfl | ⟨B, rfl⟩
        · exact absurd (hx.1 rfl) hc
        · exact ⟨B, rfl, g'⟩)
      have C2 : ∀ w, Gr W w → Calls Tryz.prog 12 #[qryV kq qlx qly qhx qhy (.slice bd m bcap)] w fun e w' => e = .returned .nilIface ∧ Gr w w' := fun w g => (B2 w g).mono (by
        rintro e w' ⟨x, rfl, ⟨-, hx⟩, g'⟩
        obtain rfl := hx.2 hd
        exact ⟨rfl, g'⟩)
      have H1 := Lib.hid C1
      have H2 := Lib.hid C2
      have H4 := Lib.hid B4
      clear C1 C2 B4
      clear A3 B1 B2
      go_enter Tryz.func5, Tryz.ntmps5
      go_wp2_with fail
      try simp only [List.append]
      refine Od.wp_region_ord [(0, false), (2, false), (1, true), (3, true), (4, true), (5, true), (6, false), (7, false), (8, false), (9, true), (10, false), (11, false)] (by kernel_rfl) (by kernel_rfl) ?_
      intro w0 hw0 KQ hKQ
      have cw0_0_0 : w0.cell? ⟨W.heap.size, 0, none⟩ = some (.int .i64 k) := cell_gr hw0 (by go_simp)
      have cw0_0_1 : w0.cell? ⟨W.heap.size, 1, none⟩ = some (.slice ad n cap) := cell_gr hw0 (by go_simp)
      have zw0_0 : W.heap.size < w0.heap.size := World.block_lt_of_cell? _ _ cw0_0_0
      have cw0_1_0 : w0.cell? ⟨W.heap.size + 1, 0, none⟩ = some (.int .i64 kq) := cell_gr hw0 (by go_simp)
      have cw0_1_1 : w0.cell? ⟨W.heap.size + 1, 1, none⟩ = some (.int .i64 qlx) := cell_gr hw0 (by go_simp)
      have cw0_1_2 : w0.cell? ⟨W.heap.size + 1, 2, none⟩ = some (.int .i64 qly) := cell_gr hw0 (by go_simp)
      have cw0_1_3 : w0.cell? ⟨W.heap.size + 1, 3, none⟩ = some (.int .i64 qhx) := cell_gr hw0 (by go_simp)
      have cw0_1_4 : w0.cell? ⟨W.heap.size + 1, 4, none⟩ = some (.int .i64 qhy) := cell_gr hw0 (by go_simp)
      have cw0_1_5 : w0.cell? ⟨W.heap.size + 1, 5, none⟩ = some (.slice bd m bcap) := cell_gr hw0 (by go_simp)
      have zw0_1 : W.heap.size + 1 < w0.heap.size := World.block_lt_of_cell? _ _ cw0_1_0
      have gw0 : Gr W w0 := Gr.trans (by go_grown) hw0
      skip
      clear hw0
      repeat (first | (refine Od.wpO_skip (by simp only [List.getElem?_toArray, List.getElem?_cons_succ, List.getElem?_cons_zero] <;> rfl) rfl ?_; simp only [Act.put, List.setIfInBounds_toArray, List.set_cons_zero, List.set_cons_succ]) | (refine Od.wpO_pure (by simp only [List.getElem?_toArray, List.getElem?_cons_succ, List.getElem?_cons_zero] <;> rfl) rfl ?_; apply Exists.intro; refine ⟨?_, ?_⟩; (· intro wx gx; obtain ⟨mx, rfl⟩ := spread_of_gr gx; clear gx; all_goals (apply Od.pAt_of_quiet; intro K hK; go_big_quiet_op; first | exact hK _ rfl | (apply Exists.intro; refine ⟨fun _ => ?_, ?_⟩; (· fail); exact hK _ rfl))); try simp only [Act.put, List.setIfInBounds_toArray, List.set_cons_zero, List.set_cons_succ]))
      refine Od.wpO_call (by simp only [List.getElem?_toArray, List.getElem?_cons_succ, List.getElem?_cons_zero] <;> rfl) rfl ?_
      intro QS hQS
      go_wp2_with fail
      go_at_call 9
      (with_reducible refine ((H1.out _ gw0)).mono ?_)
      rintro e w1 ⟨B1, rfl, hw1⟩
      go_wp2_with fail
      apply Exists.intro
      refine ⟨?_, hw1, ?_⟩
      · simp only [Act.put, List.setIfInBounds_toArray, List.set_cons_zero, List.set_cons_succ]; rfl
      have cw1_0_0 : w1.cell? ⟨W.heap.size, 0, none⟩ = some (.int .i64 k) := cell_gr hw1 (by go_simp)
      have cw1_0_1 : w1.cell? ⟨W.heap.size, 1, none⟩ = some (.slice ad n cap) := cell_gr hw1 (by go_simp)
      have zw1_0 : W.heap.size < w1.heap.size := World.block_lt_of_cell? _ _ cw1_0_0
      have cw1_1_0 : w1.cell? ⟨W.heap.size + 1, 0, none⟩ = some (.int .i64 kq) := cell_gr hw1 (by go_simp)
      have cw1_1_1 : w1.cell? ⟨W.heap.size + 1, 1, none⟩ = some (.int .i64 qlx) := cell_gr hw1 (by go_simp)
      have cw1_1_2 : w1.cell? ⟨W.heap.size + 1, 2, none⟩ = some (.int .i64 qly) := cell_gr hw1 (by go_simp)
      have cw1_1_3 : w1.cell? ⟨W.heap.size + 1, 3, none⟩ = some (.int .i64 qhx) := cell_gr hw1 (by go_simp)
      have cw1_1_4 : w1.cell? ⟨W.heap.size + 1, 4, none⟩ = some (.int .i64 qhy) := cell_gr hw1 (by go_simp)
      have cw1_1_5 : w1.cell? ⟨W.heap.size + 1, 5, none⟩ = some (.slice bd m bcap) := cell_gr hw1 (by go_simp)
      have zw1_1 : W.heap.size + 1 < w1.heap.size := World.block_lt_of_cell? _ _ cw1_1_0
      have gw1 : Gr W w1 := Gr.trans (by have gg := gw0; have gs := gg.size; go_grown) hw1
      clear gw0 zw0_0 cw0_0_0 cw0_0_1 zw0_1 cw0_1_0 cw0_1_1 cw0_1_2 cw0_1_3 cw0_1_4 cw0_1_5
      clear hw1
      try simp only [Act.put, List.setIfInBounds_toArray, List.set_cons_zero, List.set_cons_succ]
      repeat (first | (refine Od.wpO_skip (by simp only [List.getElem?_toArray, List.getElem?_cons_succ, List.getElem?_cons_zero] <;> rfl) rfl ?_; simp only [Act.put, List.setIfInBounds_toArray, List.set_cons_zero, List.set_cons_succ]) | (refine Od.wpO_pure (by simp only [List.getElem?_toArray, List.getElem?_cons_succ, List.getElem?_cons_zero] <;> rfl) rfl ?_; apply Exists.intro; refine ⟨?_, ?_⟩; (· intro wx gx; obtain ⟨mx, rfl⟩ := spread_of_gr gx; clear gx; all_goals (apply Od.pAt_of_quiet; intro K hK; go_big_quiet_op; first | exact hK _ rfl | (apply Exists.intro; refine ⟨fun _ => ?_, ?_⟩; (· fail); exact hK _ rfl))); try simp only [Act.put, List.setIfInBounds_toArray, List.set_cons_zero, List.set_cons_succ]))
      refine Od.wpO_call (by simp only [List.getElem?_toArray, List.getElem?_cons_succ, List.getElem?_cons_zero] <;> rfl) rfl ?_
      intro QS hQS
      go_wp2_with fail
      go_at_call 12
      (with_reducible refine ((H2.out _ gw1)).mono ?_)
      rintro e w2 ⟨rfl, hw2⟩
      go_wp2_with fail
      apply Exists.intro
      refine ⟨?_, hw2, ?_⟩
      · simp only [Act.put, List.setIfInBounds_toArray, List.set_cons_zero, List.set_cons_succ]; rfl
      have cw2_0_0 : w2.cell? ⟨W.heap.size, 0, none⟩ = some (.int .i64 k) := cell_gr hw2 (by go_simp)
      have cw2_0_1 : w2.cell? ⟨W.heap.size, 1, none⟩ = some (.slice ad n cap) := cell_gr hw2 (by go_simp)
      have zw2_0 : W.heap.size < w2.heap.size := World.block_lt_of_cell? _ _ cw2_0_0
      have cw2_1_0 : w2.cell? ⟨W.heap.size + 1, 0, none⟩ = some (.int .i64 kq) := cell_gr hw2 (by go_simp)
      have cw2_1_1 : w2.cell? ⟨W.heap.size + 1, 1, none⟩ = some (.int .i64 qlx) := cell_gr hw2 (by go_simp)
      have cw2_1_2 : w2.cell? ⟨W.heap.size + 1, 2, none⟩ = some (.int .i64 qly) := cell_gr hw2 (by go_simp)
      have cw2_1_3 : w2.cell? ⟨W.heap.size + 1, 3, none⟩ = some (.int .i64 qhx) := cell_gr hw2 (by go_simp)
      have cw2_1_4 : w2.cell? ⟨W.heap.size + 1, 4, none⟩ = some (.int .i64 qhy) := cell_gr hw2 (by go_simp)
      have cw2_1_5 : w2.cell? ⟨W.heap.size + 1, 5, none⟩ = some (.slice bd m bcap) := cell_gr hw2 (by go_simp)
      have zw2_1 : W.heap.size + 1 < w2.heap.size := World.block_lt_of_cell? _ _ cw2_1_0
      have gw2 : Gr W w2 := Gr.trans (by have gg := gw1; have gs := gg.size; go_grown) hw2
      clear gw1 zw1_0 cw1_0_0 cw1_0_1 zw1_1 cw1_1_0 cw1_1_1 cw1_1_2 cw1_1_3 cw1_1_4 cw1_1_5
      clear hw2
      try simp only [Act.put, List.setIfInBounds_toArray, List.set_cons_zero, List.set_cons_succ]
      repeat (first | (refine Od.wpO_skip (by simp only [List.getElem?_toArray, List.getElem?_cons_succ, List.getElem?_cons_zero] <;> rfl) rfl ?_; simp only [Act.put, List.setIfInBounds_toArray, List.set_cons_zero, List.set_cons_succ]) | (refine Od.wpO_pure (by simp only [List.getElem?_toArray, List.getElem?_cons_succ, List.getElem?_cons_zero] <;> rfl) rfl ?_; apply Exists.intro; refine ⟨?_, ?_⟩; (· intro wx gx; obtain ⟨mx, rfl⟩ := spread_of_gr gx; clear gx; all_goals (apply Od.pAt_of_quiet; intro K hK; go_big_quiet_op; first | exact hK _ rfl | (apply Exists.intro; refine ⟨fun _ => ?_, ?_⟩; (· fail); exact hK _ rfl))); try simp only [Act.put, List.setIfInBounds_toArray, List.set_cons_zero, List.set_cons_succ]))
      refine Od.wpO_call (by simp only [List.getElem?_toArray, List.getElem?_cons_succ, List.getElem?_cons_zero] <;> rfl) rfl ?_
      intro QS hQS
      go_wp2_with fail
      first | (apply Exists.intro; refine ⟨?_, (by go_grown), ?_⟩; (· simp only [Act.put, List.setIfInBounds_toArray, List.set_cons_zero, List.set_cons_succ]; rfl)) | (refine ⟨(by go_grown), ?_⟩)
      generalize hhw3 : (w2.alloc (.cells #[.iface 52 (.pointer (some ⟨B1, 0, none⟩)), .nilIface] 41)) = w3
      have hw3 : Gr w2 w3 := by subst hhw3; go_grown
      have cw3_0_0 : w3.cell? ⟨W.heap.size, 0, none⟩ = some (.int .i64 k) := by subst hhw3; go_simp
      have cw3_0_1 : w3.cell? ⟨W.heap.size, 1, none⟩ = some (.slice ad n cap) := by subst hhw3; go_simp
      have zw3_0 : W.heap.size < w3.heap.size := World.block_lt_of_cell? _ _ cw3_0_0
      have cw3_1_0 : w3.cell? ⟨W.heap.size + 1, 0, none⟩ = some (.int .i64 kq) := by subst hhw3; go_simp
      have cw3_1_1 : w3.cell? ⟨W.heap.size + 1, 1, none⟩ = some (.int .i64 qlx) := by subst hhw3; go_simp
      have cw3_1_2 : w3.cell? ⟨W.heap.size + 1, 2, none⟩ = some (.int .i64 qly) := by subst hhw3; go_simp
      have cw3_1_3 : w3.cell? ⟨W.heap.size + 1, 3, none⟩ = some (.int .i64 qhx) := by subst hhw3; go_simp
      have cw3_1_4 : w3.cell? ⟨W.heap.size + 1, 4, none⟩ = some (.int .i64 qhy) := by subst hhw3; go_simp
      have cw3_1_5 : w3.cell? ⟨W.heap.size + 1, 5, none⟩ = some (.slice bd m bcap) := by subst hhw3; go_simp
      have zw3_1 : W.heap.size + 1 < w3.heap.size := World.block_lt_of_cell? _ _ cw3_1_0
      have cw3_2_0 : w3.cell? ⟨w2.heap.size, 0, none⟩ = some (.iface 52 (.pointer (some ⟨B1, 0, none⟩))) := by subst hhw3; go_simp
      have cw3_2_1 : w3.cell? ⟨w2.heap.size, 1, none⟩ = some (.nilIface) := by subst hhw3; go_simp
      have zw3_2 : w2.heap.size < w3.heap.size := World.block_lt_of_cell? _ _ cw3_2_0
      have gw3 : Gr W w3 := Gr.trans (by have gg := gw2; have gs := gg.size; go_grown) hw3
      clear hhw3 hw3 gw2 zw2_0 cw2_0_0 cw2_0_1 zw2_1 cw2_1_0 cw2_1_1 cw2_1_2 cw2_1_3 cw2_1_4 cw2_1_5
      try simp only [Act.put, List.setIfInBounds_toArray, List.set_cons_zero, List.set_cons_succ]
      repeat (first | (refine Od.wpO_skip (by simp only [List.getElem?_toArray, List.getElem?_cons_succ, List.getElem?_cons_zero] <;> rfl) rfl ?_; simp only [Act.put, List.setIfInBounds_toArray, List.set_cons_zero, List.set_cons_succ]) | (refine Od.wpO_pure (by simp only [List.getElem?_toArray, List.getElem?_cons_succ, List.getElem?_cons_zero] <;> rfl) rfl ?_; apply Exists.intro; refine ⟨?_, ?_⟩; (· intro wx gx; obtain ⟨mx, rfl⟩ := spread_of_gr gx; clear gx; all_goals (apply Od.pAt_of_quiet; intro K hK; go_big_quiet_op; first | exact hK _ rfl | (apply Exists.intro; refine ⟨fun _ => ?_, ?_⟩; (· fail); exact hK _ rfl))); try simp only [Act.put, List.setIfInBounds_toArray, List.set_cons_zero, List.set_cons_succ]))
      refine Od.wpO_call (by simp only [List.getElem?_toArray, List.getElem?_cons_succ, List.getElem?_cons_zero] <;> rfl) rfl ?_
      intro QS hQS
      go_wp2_with fail
      go_at_call 11
      (with_reducible refine ((H4.out _ _ _ _ false gw3 cw3_2_0 cw3_2_1 (nf_f _) nf_nil (by simp))).mono ?_)
      rintro e w4 ⟨rfl, hw4⟩
      go_wp2_with fail
      apply Exists.intro
      refine ⟨?_, hw4, ?_⟩
      · simp only [Act.put, List.setIfInBounds_toArray, List.set_cons_zero, List.set_cons_succ]; rfl
      have cw4_0_0 : w4.cell? ⟨W.heap.size, 0, none⟩ = some (.int .i64 k) := cell_gr hw4 (by go_simp)
      have cw4_0_1 : w4.cell? ⟨W.heap.size, 1, none⟩ = some (.slice ad n cap) := cell_gr hw4 (by go_simp)
      have zw4_0 : W.heap.size < w4.heap.size := World.block_lt_of_cell? _ _ cw4_0_0
      have cw4_1_0 : w4.cell? ⟨W.heap.size + 1, 0, none⟩ = some (.int .i64 kq) := cell_gr hw4 (by go_simp)
      have cw4_1_1 : w4.cell? ⟨W.heap.size + 1, 1, none⟩ = some (.int .i64 qlx) := cell_gr hw4 (by go_simp)
      have cw4_1_2 : w4.cell? ⟨W.heap.size + 1, 2, none⟩ = some (.int .i64 qly) := cell_gr hw4 (by go_simp)
      have cw4_1_3 : w4.cell? ⟨W.heap.size + 1, 3, none⟩ = some (.int .i64 qhx) := cell_gr hw4 (by go_simp)
      have cw4_1_4 : w4.cell? ⟨W.heap.size + 1, 4, none⟩ = some (.int .i64 qhy) := cell_gr hw4 (by go_simp)
      have cw4_1_5 : w4.cell? ⟨W.heap.size + 1, 5, none⟩ = some (.slice bd m bcap) := cell_gr hw4 (by go_simp)
      have zw4_1 : W.heap.size + 1 < w4.heap.size := World.block_lt_of_cell? _ _ cw4_1_0
      have cw4_2_0 : w4.cell? ⟨w2.heap.size, 0, none⟩ = some (.iface 52 (.pointer (some ⟨B1, 0, none⟩))) := cell_gr hw4 (by go_simp)
      have cw4_2_1 : w4.cell? ⟨w2.heap.size, 1, none⟩ = some (.nilIface) := cell_gr hw4 (by go_simp)
      have zw4_2 : w2.heap.size < w4.heap.size := World.block_lt_of_cell? _ _ cw4_2_0
      have gw4 : Gr W w4 := Gr.trans (by have gg := gw3; have gs := gg.size; go_grown) hw4
      clear gw3 zw3_0 cw3_0_0 cw3_0_1 zw3_1 cw3_1_0 cw3_1_1 cw3_1_2 cw3_1_3 cw3_1_4 cw3_1_5 zw3_2 cw3_2_0 cw3_2_1
      clear hw4
      try simp only [Act.put, List.setIfInBounds_toArray, List.set_cons_zero, List.set_cons_succ]
      repeat (first | (refine Od.wpO_skip (by simp only [List.getElem?_toArray, List.getElem?_cons_succ, List.getElem?_cons_zero] <;> rfl) rfl ?_; simp only [Act.put, List.setIfInBounds_toArray, List.set_cons_zero, List.set_cons_succ]) | (refine Od.wpO_pure (by simp only [List.getElem?_toArray, List.getElem?_cons_succ, List.getElem?_cons_zero] <;> rfl) rfl ?_; apply Exists.intro; refine ⟨?_, ?_⟩; (· intro wx gx; obtain ⟨mx, rfl⟩ := spread_of_gr gx; clear gx; all_goals (apply Od.pAt_of_quiet; intro K hK; go_big_quiet_op; first | exact hK _ rfl | (apply Exists.intro; refine ⟨fun _ => ?_, ?_⟩; (· fail); exact hK _ rfl))); try simp only [Act.put, List.setIfInBounds_toArray, List.set_cons_zero, List.set_cons_succ]))
      refine Od.wpO_nil (hKQ _ _ ?_)
      clear hKQ KQ
      go_wp2_with fail
      go_ret
      exact ⟨rfl, gw4⟩
    · skip
      have C1 : ∀ w, Gr W w → Calls Tryz.prog 9 #[.agg #[.int .i64 k, .slice ad n cap]] w fun e w' => ∃ B, e = .returned (.iface 52 (.pointer (some ⟨B, 0, none⟩))) ∧ Gr w w' := fun w g => (B1 w g).mono (by
        rintro e w' ⟨x, rfl, ⟨hn, hx⟩, g'⟩
        rcases hn with rfl | ⟨B, rfl⟩
        · exact absurd (hx.1 rfl) hc
        · exact ⟨B, rfl, g'⟩)
      have C2 : ∀ w, Gr W w → Calls Tryz.prog 12 #[qryV kq qlx qly qhx qhy (.slice bd m bcap)] w fun e w' => ∃ B, e = .returned (.iface 52 (.pointer (some ⟨B, 0, none⟩))) ∧ Gr w w' := fun w g => (B2 w g).mono (by
        rintro e w' ⟨x, rfl, ⟨hn, hx⟩, g'⟩
        rcases hn with rfl | ⟨B, rfl⟩
        · exact absurd (hx.1 rfl) hd
        · exact ⟨B, rfl, g'⟩)
      have H1 := Lib.hid C1
      have H2 := Lib.hid C2
      have H4 := Lib.hid B4
      clear C1 C2 B4
      clear A3 B1 B2
      go_enter Tryz.func5, Tryz.ntmps5
      go_wp2_with fail
      try simp only [List.append]
      refine Od.wp_region_ord [(0, false), (2, false), (1, true), (3, true), (4, true), (5, true), (6, false), (7, false), (8, false), (9, true), (10, false), (11, false)] (by kernel_rfl) (by kernel_rfl) ?_
      intro w0 hw0 KQ hKQ
      have cw0_0_0 : w0.cell? ⟨W.heap.size, 0, none⟩ = some (.int .i64 k) := cell_gr hw0 (by go_simp)
      have cw0_0_1 : w0.cell? ⟨W.heap.size, 1, none⟩ = some (.slice ad n cap) := cell_gr hw0 (by go_simp)
      have zw0_0 : W.heap.size < w0.heap.size := World.block_lt_of_cell? _ _ cw0_0_0
      have cw0_1_0 : w0.cell? ⟨W.heap.size + 1, 0, none⟩ = some (.int .i64 kq) := cell_gr hw0 (by go_simp)
      have cw0_1_1 : w0.cell? ⟨W.heap.size + 1, 1, none⟩ = some (.int .i64 qlx) := cell_gr hw0 (by go_simp)
      have cw0_1_2 : w0.cell? ⟨W.heap.size + 1, 2, none⟩ = some (.int .i64 qly) := cell_gr hw0 (by go_simp)
      have cw0_1_3 : w0.cell? ⟨W.heap.size + 1, 3, none⟩ = some (.int .i64 qhx) := cell_gr hw0 (by go_simp)
      have cw0_1_4 : w0.cell? ⟨W.heap.size + 1, 4, none⟩ = some (.int .i64 qhy) := cell_gr hw0 (by go_simp)
      have cw0_1_5 : w0.cell? ⟨W.heap.size + 1, 5, none⟩ = some (.slice bd m bcap) := cell_gr hw0 (by go_simp)
      have zw0_1 : W.heap.size + 1 < w0.heap.size := World.block_lt_of_cell? _ _ cw0_1_0
      have gw0 : Gr W w0 := Gr.trans (by go_grown) hw0
      skip
      clear hw0
      repeat (first | (refine Od.wpO_skip (by simp only [List.getElem?_toArray, List.getElem?_cons_succ, List.getElem?_cons_zero] <;> rfl) rfl ?_; simp only [Act.put, List.setIfInBounds_toArray, List.set_cons_zero, List.set_cons_succ]) | (refine Od.wpO_pure (by simp only [List.getElem?_toArray, List.getElem?_cons_succ, List.getElem?_cons_zero] <;> rfl) rfl ?_; apply Exists.intro; refine ⟨?_, ?_⟩; (· intro wx gx; obtain ⟨mx, rfl⟩ := spread_of_gr gx; clear gx; all_goals (apply Od.pAt_of_quiet; intro K hK; go_big_quiet_op; first | exact hK _ rfl | (apply Exists.intro; refine ⟨fun _ => ?_, ?_⟩; (· fail); exact hK _ rfl))); try simp only [Act.put, List.setIfInBounds_toArray, List.set_cons_zero, List.set_cons_succ]))
      refine Od.wpO_call (by simp only [List.getElem?_toArray, List.getElem?_cons_succ, List.getElem?_cons_zero] <;> rfl) rfl ?_
      intro QS hQS
      go_wp2_with fail
      go_at_call 9
      (with_reducible refine ((H1.out _ gw0)).mono ?_)
      rintro e w1 ⟨B1, rfl, hw1⟩
      go_wp2_with fail
      apply Exists.intro
      refine ⟨?_, hw1, ?_⟩
      · simp only [Act.put, List.setIfInBounds_toArray, List.set_cons_zero, List.set_cons_succ]; rfl
      have cw1_0_0 : w1.cell? ⟨W.heap.size, 0, none⟩ = some (.int .i64 k) := cell_gr hw1 (by go_simp)
      have cw1_0_1 : w1.cell? ⟨W.heap.size, 1, none⟩ = some (.slice ad n cap) := cell_gr hw1 (by go_simp)
      have zw1_0 : W.heap.size < w1.heap.size := World.block_lt_of_cell? _ _ cw1_0_0
      have cw1_1_0 : w1.cell? ⟨W.heap.size + 1, 0, none⟩ = some (.int .i64 kq) := cell_gr hw1 (by go_simp)
      have cw1_1_1 : w1.cell? ⟨W.heap.size + 1, 1, none⟩ = some (.int .i64 qlx) := cell_gr hw1 (by go_simp)
      have cw1_1_2 : w1.cell? ⟨W.heap.size + 1, 2, none⟩ = some (.int .i64 qly) := cell_gr hw1 (by go_simp)
      have cw1_1_3 : w1.cell? ⟨W.heap.size + 1, 3, none⟩ = some (.int .i64 qhx) := cell_gr hw1 (by go_simp)
      have cw1_1_4 : w1.cell? ⟨W.heap.size + 1, 4, none⟩ = some (.int .i64 qhy) := cell_gr hw1 (by go_simp)
      have cw1_1_5 : w1.cell? ⟨W.heap.size + 1, 5, none⟩ = some (.slice bd m bcap) := cell_gr hw1 (by go_simp)
      have zw1_1 : W.heap.size + 1 < w1.heap.size := World.block_lt_of_cell? _ _ cw1_1_0
      have gw1 : Gr W w1 := Gr.trans (by have gg := gw0; have gs := gg.size; go_grown) hw1
      clear gw0 zw0_0 cw0_0_0 cw0_0_1 zw0_1 cw0_1_0 cw0_1_1 cw0_1_2 cw0_1_3 cw0_1_4 cw0_1_5
      clear hw1
      try simp only [Act.put, List.setIfInBounds_toArray, List.set_cons_zero, List.set_cons_succ]
      repeat (first | (refine Od.wpO_skip (by simp only [List.getElem?_toArray, List.getElem?_cons_succ, List.getElem?_cons_zero] <;> rfl) rfl ?_; simp only [Act.put, List.setIfInBounds_toArray, List.set_cons_zero, List.set_cons_succ]) | (refine Od.wpO_pure (by simp only [List.getElem?_toArray, List.getElem?_cons_succ, List.getElem?_cons_zero] <;> rfl) rfl ?_; apply Exists.intro; refine ⟨?_, ?_⟩; (· intro wx gx; obtain ⟨mx, rfl⟩ := spread_of_gr gx; clear gx; all_goals (apply Od.pAt_of_quiet; intro K hK; go_big_quiet_op; first | exact hK _ rfl | (apply Exists.intro; refine ⟨fun _ => ?_, ?_⟩; (· fail); exact hK _ rfl))); try simp only [Act.put, List.setIfInBounds_toArray, List.set_cons_zero, List.set_cons_succ]))
      refine Od.wpO_call (by simp only [List.getElem?_toArray, List.getElem?_cons_succ, List.getElem?_cons_zero] <;> rfl) rfl ?_
      intro QS hQS
      go_wp2_with fail
      go_at_call 12
      (with_reducible refine ((H2.out _ gw1)).mono ?_)
      rintro e w2 ⟨B2, rfl, hw2⟩
      go_wp2_with fail
      apply Exists.intro
      refine ⟨?_, hw2, ?_⟩
      · simp only [Act.put, List.setIfInBounds_toArray, List.set_cons_zero, List.set_cons_succ]; rfl
      have cw2_0_0 : w2.cell? ⟨W.heap.size, 0, none⟩ = some (.int .i64 k) := cell_gr hw2 (by go_simp)
      have cw2_0_1 : w2.cell? ⟨W.heap.size, 1, none⟩ = some (.slice ad n cap) := cell_gr hw2 (by go_simp)
      have zw2_0 : W.heap.size < w2.heap.size := World.block_lt_of_cell? _ _ cw2_0_0
      have cw2_1_0 : w2.cell? ⟨W.heap.size + 1, 0, none⟩ = some (.int .i64 kq) := cell_gr hw2 (by go_simp)
      have cw2_1_1 : w2.cell? ⟨W.heap.size + 1, 1, none⟩ = some (.int .i64 qlx) := cell_gr hw2 (by go_simp)
      have cw2_1_2 : w2.cell? ⟨W.heap.size + 1, 2, none⟩ = some (.int .i64 qly) := cell_gr hw2 (by go_simp)
      have cw2_1_3 : w2.cell? ⟨W.heap.size + 1, 3, none⟩ = some (.int .i64 qhx) := cell_gr hw2 (by go_simp)
      have cw2_1_4 : w2.cell? ⟨W.heap.size + 1, 4, none⟩ = some (.int .i64 qhy) := cell_gr hw2 (by go_simp)
      have cw2_1_5 : w2.cell? ⟨W.heap.size + 1, 5, none⟩ = some (.slice bd m bcap) := cell_gr hw2 (by go_simp)
      have zw2_1 : W.heap.size + 1 < w2.heap.size := World.block_lt_of_cell? _ _ cw2_1_0
      have gw2 : Gr W w2 := Gr.trans (by have gg := gw1; have gs := gg.size; go_grown) hw2
      clear gw1 zw1_0 cw1_0_0 cw1_0_1 zw1_1 cw1_1_0 cw1_1_1 cw1_1_2 cw1_1_3 cw1_1_4 cw1_1_5
      clear hw2
      try simp only [Act.put, List.setIfInBounds_toArray, List.set_cons_zero, List.set_cons_succ]
      repeat (first | (refine Od.wpO_skip (by simp only [List.getElem?_toArray, List.getElem?_cons_succ, List.getElem?_cons_zero] <;> rfl) rfl ?_; simp only [Act.put, List.setIfInBounds_toArray, List.set_cons_zero, List.set_cons_succ]) | (refine Od.wpO_pure (by simp only [List.getElem?_toArray, List.getElem?_cons_succ, List.getElem?_cons_zero] <;> rfl) rfl ?_; apply Exists.intro; refine ⟨?_, ?_⟩; (· intro wx gx; obtain ⟨mx, rfl⟩ := spread_of_gr gx; clear gx; all_goals (apply Od.pAt_of_quiet; intro K hK; go_big_quiet_op; first | exact hK _ rfl | (apply Exists.intro; refine ⟨fun _ => ?_, ?_⟩; (· fail); exact hK _ rfl))); try simp only [Act.put, List.setIfInBounds_toArray, List.set_cons_zero, List.set_cons_succ]))
      refine Od.wpO_call (by simp only [List.getElem?_toArray, List.getElem?_cons_succ, List.getElem?_cons_zero] <;> rfl) rfl ?_
      intro QS hQS
      go_wp2_with fail
      first | (apply Exists.intro; refine ⟨?_, (by go_grown), ?_⟩; (· simp only [Act.put, List.setIfInBounds_toArray, List.set_cons_zero, List.set_cons_succ]; rfl)) | (refine ⟨(by go_grown), ?_⟩)
      generalize hhw3 : (w2.alloc (.cells #[.iface 52 (.pointer (some ⟨B1, 0, none⟩)), .iface 52 (.pointer (some ⟨B2, 0, none⟩))] 41)) = w3
      have hw3 : Gr w2 w3 := by subst hhw3; go_grown
      have cw3_0_0 : w3.cell? ⟨W.heap.size, 0, none⟩ = some (.int .i64 k) := by subst hhw3; go_simp
      have cw3_0_1 : w3.cell? ⟨W.heap.size, 1, none⟩ = some (.slice ad n cap) := by subst hhw3; go_simp
      have zw3_0 : W.heap.size < w3.heap.size := World.block_lt_of_cell? _ _ cw3_0_0
      have cw3_1_0 : w3.cell? ⟨W.heap.size + 1, 0, none⟩ = some (.int .i64 kq) := by subst hhw3; go_simp
      have cw3_1_1 : w3.cell? ⟨W.heap.size + 1, 1, none⟩ = some (.int .i64 qlx) := by subst hhw3; go_simp
      have cw3_1_2 : w3.cell? ⟨W.heap.size + 1, 2, none⟩ = some (.int .i64 qly) := by subst hhw3; go_simp
      have cw3_1_3 : w3.cell? ⟨W.heap.size + 1, 3, none⟩ = some (.int .i64 qhx) := by subst hhw3; go_simp
      have cw3_1_4 : w3.cell? ⟨W.heap.size + 1, 4, none⟩ = some (.int .i64 qhy) := by subst hhw3; go_simp
      have cw3_1_5 : w3.cell? ⟨W.heap.size + 1, 5, none⟩ = some (.slice bd m bcap) := by subst hhw3; go_simp
      have zw3_1 : W.heap.size + 1 < w3.heap.size := World.block_lt_of_cell? _ _ cw3_1_0
      have cw3_2_0 : w3.cell? ⟨w2.heap.size, 0, none⟩ = some (.iface 52 (.pointer (some ⟨B1, 0, none⟩))) := by subst hhw3; go_simp
      have cw3_2_1 : w3.cell? ⟨w2.heap.size, 1, none⟩ = some (.iface 52 (.pointer (some ⟨B2, 0, none⟩))) := by subst hhw3; go_simp
      have zw3_2 : w2.heap.size < w3.heap.size := World.block_lt_of_cell? _ _ cw3_2_0
      have gw3 : Gr W w3 := Gr.trans (by have gg := gw2; have gs := gg.size; go_grown) hw3
      clear hhw3 hw3 gw2 zw2_0 cw2_0_0 cw2_0_1 zw2_1 cw2_1_0 cw2_1_1 cw2_1_2 cw2_1_3 cw2_1_4 cw2_1_5
      try simp only [Act.put, List.setIfInBounds_toArray, List.set_cons_zero, List.set_cons_succ]
      repeat (first | (refine Od.wpO_skip (by simp only [List.getElem?_toArray, List.getElem?_cons_succ, List.getElem?_cons_zero] <;> rfl) rfl ?_; simp only [Act.put, List.setIfInBounds_toArray, List.set_cons_zero, List.set_cons_succ]) | (refine Od.wpO_pure (by simp only [List.getElem?_toArray, List.getElem?_cons_succ, List.getElem?_cons_zero] <;> rfl) rfl ?_; apply Exists.intro; refine ⟨?_, ?_⟩; (· intro wx gx; obtain ⟨mx, rfl⟩ := spread_of_gr gx; clear gx; all_goals (apply Od.pAt_of_quiet; intro K hK; go_big_quiet_op; first | exact hK _ rfl | (apply Exists.intro; refine ⟨fun _ => ?_, ?_⟩; (· fail); exact hK _ rfl))); try simp only [Act.put, List.setIfInBounds_toArray, List.set_cons_zero, List.set_cons_succ]))
      refine Od.wpO_call (by simp only [List.getElem?_toArray, List.getElem?_cons_succ, List.getElem?_cons_zero] <;> rfl) rfl ?_
      intro QS hQS
      go_wp2_with fail
      go_at_call 11
      (with_reducible refine ((H4.out _ _ _ _ false gw3 cw3_2_0 cw3_2_1 (nf_f _) (nf_f _) (by simp))).mono ?_)
      rintro e w4 ⟨rfl, hw4⟩
      go_wp2_with fail
      apply Exists.intro
      refine ⟨?_, hw4, ?_⟩
      · simp only [Act.put, List.setIfInBounds_toArray, List.set_cons_zero, List.set_cons_succ]; rfl
      have cw4_0_0 : w4.cell? ⟨W.heap.size, 0, none⟩ = some (.int .i64 k) := cell_gr hw4 (by go_simp)
      have cw4_0_1 : w4.cell? ⟨W.heap.size, 1, none⟩ = some (.slice ad n cap) := cell_gr hw4 (by go_simp)
      have zw4_0 : W.heap.size < w4.heap.size := World.block_lt_of_cell? _ _ cw4_0_0
      have cw4_1_0 : w4.cell? ⟨W.heap.size + 1, 0, none⟩ = some (.int .i64 kq) := cell_gr hw4 (by go_simp)
      have cw4_1_1 : w4.cell? ⟨W.heap.size + 1, 1, none⟩ = some (.int .i64 qlx) := cell_gr hw4 (by go_simp)
      have cw4_1_2 : w4.cell? ⟨W.heap.size + 1, 2, none⟩ = some (.int .i64 qly) := cell_gr hw4 (by go_simp)
      have cw4_1_3 : w4.cell? ⟨W.heap.size + 1, 3, none⟩ = some (.int .i64 qhx) := cell_gr hw4 (by go_simp)
      have cw4_1_4 : w4.cell? ⟨W.heap.size + 1, 4, none⟩ = some (.int .i64 qhy) := cell_gr hw4 (by go_simp)
      have cw4_1_5 : w4.cell? ⟨W.heap.size + 1, 5, none⟩ = some (.slice bd m bcap) := cell_gr hw4 (by go_simp)
      have zw4_1 : W.heap.size + 1 < w4.heap.size := World.block_lt_of_cell? _ _ cw4_1_0
      have cw4_2_0 : w4.cell? ⟨w2.heap.size, 0, none⟩ = some (.iface 52 (.pointer (some ⟨B1, 0, none⟩))) := cell_gr hw4 (by go_simp)
      have cw4_2_1 : w4.cell? ⟨w2.heap.size, 1, none⟩ = some (.iface 52 (.pointer (some ⟨B2, 0, none⟩))) := cell_gr hw4 (by go_simp)
      have zw4_2 : w2.heap.size < w4.heap.size := World.block_lt_of_cell? _ _ cw4_2_0
      have gw4 : Gr W w4 := Gr.trans (by have gg := gw3; have gs := gg.size; go_grown) hw4
      clear gw3 zw3_0 cw3_0_0 cw3_0_1 zw3_1 cw3_1_0 cw3_1_1 cw3_1_2 cw3_1_3 cw3_1_4 cw3_1_5 zw3_2 cw3_2_0 cw3_2_1
      clear hw4
      try simp only [Act.put, List.setIfInBounds_toArray, List.set_cons_zero, List.set_cons_succ]
      repeat (first | (refine Od.wpO_skip (by simp only [List.getElem?_toArray, List.getElem?_cons_succ, List.getElem?_cons_zero] <;> rfl) rfl ?_; simp only [Act.put, List.setIfInBounds_toArray, List.set_cons_zero, List.set_cons_succ]) | (refine Od.wpO_pure (by simp only [List.getElem?_toArray, List.getElem?_cons_succ, List.getElem?_cons_zero] <;> rfl) rfl ?_; apply Exists.intro; refine ⟨?_, ?_⟩; (· intro wx gx; obtain ⟨mx, rfl⟩ := spread_of_gr gx; clear gx; all_goals (apply Od.pAt_of_quiet; intro K hK; go_big_quiet_op; first | exact hK _ rfl | (apply Exists.intro; refine ⟨fun _ => ?_, ?_⟩; (· fail); exact hK _ rfl))); try simp only [Act.put, List.setIfInBounds_toArray, List.set_cons_zero, List.set_cons_succ]))
      refine Od.wpO_nil (hKQ _ _ ?_)
      clear hKQ KQ
      go_wp2_with fail
      go_ret
      exact ⟨rfl, gw4⟩
end
end Go.Proofs.YtagbodamehejmaaGreatDoor
