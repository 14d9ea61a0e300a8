/- What RelMoves leans on: Uf Ug Uk Rb Ul Um Un Uo Ob Ea Gl Oe Uq Ur Ut -/
import Derived.Test.YtfobmlgpjhghdaaGreatDoorCRelMoves2
import Derived.Lib.SmallJoins
import Derived.Laws.AppendOwn
import Derived.OwnWalk
import Derived.Laws.OwnMore
import Derived.Deep.RegionLaw
import Derived.Laws.Bits64b
import Derived.ArgAppend
import Derived.Deep.LoopGhost
import Derived.Maps.AppendAt
import Derived.Deep.RegionWith
import Derived.WalkSmall
import Derived.RegionTactic
import Derived.BigRegion
namespace Go.Proofs.YtfobmlgpjhghdaaGreatDoor
set_option linter.unusedVariables false
set_option linter.unusedSimpArgs false
open Go.ChangeShapes Go.WideShapes Go.ChangeAt Go.RowKit
def meV (lx ly hx hy mx my nx ny : Int) : Bool := boxB lx ly hx hy && boxB mx my nx ny && decide (lx ≤ nx) && decide (mx ≤ hx) && decide (ly ≤ ny) && decide (my ≤ hy)
def inV (lx ly hx hy mx my nx ny : Int) : Bool := boxB lx ly hx hy && boxB mx my nx ny && inB mx my nx ny lx ly && inB mx my nx ny hx hy
def rmV (n : Nat) (X Y : Nat → Int) (lx ly hx hy : Int) : Bool := arM n X Y lx ly hx hy && rmbV n X Y lx ly hx hy
theorem c_rmbA {n : Nat} {X Y : Nat → Int} {v : Value} (lx ly hx hy : Int) (W : World) (h : Pts W v n X Y) (h0 : (Rg.ringC n X Y).1 = 0) : Calls Tryz.prog 104 #[v, .agg #[.int .i64 lx, .int .i64 ly, .int .i64 hx, .int .i64 hy]] W fun e w' => e = .returned (.bool (rmV n X Y lx ly hx hy)) ∧ Gr W w' := by
  unfold rmV
  cases hm : arM n X Y lx ly hx hy
  · exact c_rmb_no lx ly hx hy W h (by have := (Rg.ringC_ok h0).1; omega) hm
  · rw [Bool.true_and]; exact c_rmb' W h h0 hm
def FrTo (W : World) (k : Int) (v : Value) (lx ly hx hy : Int) : Prop := (k = 1 ∨ k = 2 ∨ k = 3) ∧ (∃ ad n cap, v = .slice ad n cap) ∧ ∀ w, Gr W w → Calls Tryz.prog 36 #[.agg #[.int .i64 k, v]] w fun e w' => e = .returned (.agg #[.int .i64 lx, .int .i64 ly, .int .i64 hx, .int .i64 hy]) ∧ Gr w w'
theorem frTo_gr {a b : World} {k : Int} {v : Value} {lx ly hx hy : Int} (h : FrTo a k v lx ly hx hy) (g : Gr a b) : FrTo b k v lx ly hx hy := ⟨h.1, h.2.1, fun w g' => h.2.2 w (Gr.trans g g')⟩
section
variable {k : Int} {v : Value} {lx ly hx hy : Int}
set_option maxHeartbeats 2000000 in
set_option maxRecDepth 100000 in
theorem c_meetsBoxB (mx my nx ny : Int) (W : World) (h : FrTo W k v lx ly hx hy) : Calls Tryz.prog 68 #[.agg #[.int .i64 k, v], .agg #[.int .i64 mx, .int .i64 my, .int .i64 nx, .int .i64 ny]] W fun e w' => e = .returned (.bool (meV lx ly hx hy mx my nx ny)) ∧ Gr W w' := by
  have A1 := fun w => c_Meets lx ly hx hy mx my nx ny w
  unfold meV
  generalize (boxB lx ly hx hy && boxB mx my nx ny && decide (lx ≤ nx) && decide (mx ≤ hx) && decide (ly ≤ ny) && decide (my ≤ hy)) = z at A1 ⊢
  obtain ⟨hk, ⟨ad, n, cap, rfl⟩, A2⟩ := h
  have k4 : (k == 4) = false := by simp; omega
  have H1 := Lib.hid A1
  have H2 := Lib.hid A2
  clear A1 A2
  clear hk
  go_enter Tryz.func68, Tryz.ntmps68
  go_wp2_with fail
  go_wp2_with fail
  refine wp_region_spread (by kernel_rfl) (by kernel_rfl) ?_
  try simp only [List.append]
  repeat (first | go_big_quiet_skip | (go_big_quiet_want; go_big_quiet_op; (first | go_big_quiet_on | (apply Exists.intro; refine ⟨fun _ => ?_, ?_⟩; (· (first | (go_at_call 36; first | ((with_reducible refine ((H2.out _ (Gr.trans (by go_grown) (gr_spread _ _)))).mono ?_); rintro e w' ⟨rfl, hg⟩; exact ⟨rfl, spread_gr hg⟩)) | (go_at_call 87; first | ((with_reducible refine ((H1.out _)).mono ?_); rintro e w' ⟨rfl, hg⟩; exact ⟨rfl, spread_gr hg⟩)))); go_big_quiet_on))))
  refine wpQuiet_nil ?_
  intro w1 hhw1
  have hw1 := Hd.gr_of_spread hhw1
  have gw1 : Gr W w1 := Gr.trans (by go_grown) hw1
  clear hw1 hhw1
  go_wp2_with fail
  go_ret
  exact ⟨rfl, by have gg := gw1; have gs := gg.size; go_grown⟩
set_option maxHeartbeats 2000000 in
set_option maxRecDepth 100000 in
theorem c_meetsRingB {m : Nat} {P Q : Nat → Int} {u : Value} (W : World) (h : FrTo W k v lx ly hx hy) (hu : Pts W u m P Q) (h0 : (Rg.ringC m P Q).1 = 0) : Calls Tryz.prog 69 #[.agg #[.int .i64 k, v], u] W fun e w' => e = .returned (.bool (rmV m P Q lx ly hx hy)) ∧ Gr W w' := by
  have A1 := fun w (g : Gr W w) => c_rmbA lx ly hx hy w (pts_gr hu g) h0
  generalize rmV m P Q lx ly hx hy = z at A1 ⊢
  obtain ⟨hk, ⟨ad, n, cap, rfl⟩, A2⟩ := h
  obtain ⟨bd, bcap, _, _, rfl, -⟩ := hu
  have k4 : (k == 4) = false := by simp; omega
  have H1 := Lib.hid A1
  have H2 := Lib.hid A2
  clear A1 A2
  clear hk
  go_enter Tryz.func69, Tryz.ntmps69
  go_wp2_with fail
  go_at_call 36
  refine ((H2.out _ (by go_grown))).mono ?_
  rintro e w1 ⟨rfl, hw1⟩
  have gw1 : Gr W w1 := Gr.trans (by go_grown) hw1
  clear hw1
  go_wp2_with fail
  go_at_call 104
  refine ((H1.out _ (by have gg := gw1; have gs := gg.size; go_grown))).mono ?_
  rintro e w2 ⟨rfl, hw2⟩
  have gw2 : Gr W w2 := Gr.trans (by have gg := gw1; have gs := gg.size; go_grown) hw2
  clear hw2 gw1
  go_wp2_with fail
  go_ret
  exact ⟨rfl, gw2⟩
def msV (lx ly hx hy kq qlx qly qhx qhy : Int) (m : Nat) (P Q : Nat → Int) : Bool :=
  if kq = 2 then inV lx ly hx hy qlx qly qhx qhy else if kq = 3 then meV lx ly hx hy qlx qly qlx qly else if kq = 4 then rmV m P Q lx ly hx hy else meV lx ly hx hy qlx qly qhx qhy
set_option maxHeartbeats 4000000 in
set_option maxRecDepth 100000 in
theorem c_MatchesB {m : Nat} {P Q : Nat → Int} {u : Value} (kq qlx qly qhx qhy : Int) (W : World) (h : FrTo W k v lx ly hx hy) (hu : Pts W u m P Q) (h0 : kq = 4 → (Rg.ringC m P Q).1 = 0) :
    Calls Tryz.prog 41 #[.agg #[.int .i64 k, v], qryV kq qlx qly qhx qhy u] W fun e w' => e = .returned (.bool (msV lx ly hx hy kq qlx qly qhx qhy m P Q)) ∧ Gr W w' := by
  unfold msV
  by_cases k2 : kq = 2
  · rw [if_pos k2]
    subst k2
    have A1 := fun w => c_Inside lx ly hx hy qlx qly qhx qhy w
    unfold inV
    generalize (boxB lx ly hx hy && boxB qlx qly qhx qhy && inB qlx qly qhx qhy lx ly && inB qlx qly qhx qhy hx hy) = z at A1 ⊢
    obtain ⟨hk, ⟨ad, n, cap, rfl⟩, A2⟩ := h
    obtain ⟨bd, bcap, _, _, rfl, -⟩ := hu
    have H1 := Lib.hid A1
    have H2 := Lib.hid A2
    clear A1 A2
    clear hk h0
    go_enter Tryz.func41, Tryz.ntmps41
    go_wp2_with fail
    go_wp2_with fail
    refine wp_region_spread (by kernel_rfl) (by kernel_rfl) ?_
    try simp only [List.append]
    repeat (first | go_big_quiet_skip | (go_big_quiet_want; go_big_quiet_op; (first | go_big_quiet_on | (apply Exists.intro; refine ⟨fun _ => ?_, ?_⟩; (· (first | (go_at_call 36; first | ((with_reducible refine ((H2.out _ (Gr.trans (by go_grown) (gr_spread _ _)))).mono ?_); rintro e w' ⟨rfl, hg⟩; exact ⟨rfl, spread_gr hg⟩)) | (go_at_call 67; first | ((with_reducible refine ((H1.out _)).mono ?_); rintro e w' ⟨rfl, hg⟩; exact ⟨rfl, spread_gr hg⟩)))); go_big_quiet_on))))
    refine wpQuiet_nil ?_
    intro w1 hhw1
    have hw1 := Hd.gr_of_spread hhw1
    have gw1 : Gr W w1 := Gr.trans (by go_grown) hw1
    clear hw1 hhw1
    go_wp2_with fail
    go_ret
    exact ⟨rfl, by have gg := gw1; have gs := gg.size; go_grown⟩
  rw [if_neg k2]
  have b2 : (kq == 2) = false := by simp; omega
  by_cases k3 : kq = 3
  · rw [if_pos k3]
    subst k3
    have A1 := fun w (g : Gr W w) => c_meetsBoxB qlx qly qlx qly w (frTo_gr h g)
    generalize meV lx ly hx hy qlx qly qlx qly = z at A1 ⊢
    obtain ⟨hk, ⟨ad, n, cap, rfl⟩, A2⟩ := h
    obtain ⟨bd, bcap, _, _, rfl, -⟩ := hu
    have H1 := Lib.hid A1
    have H2 := Lib.hid A2
    clear A1 A2
    clear hk h0
    go_enter Tryz.func41, Tryz.ntmps41
    go_wp2_with fail
    go_at_call 68
    refine ((H1.out _ (by go_grown))).mono ?_
    rintro e w1 ⟨rfl, hw1⟩
    have gw1 : Gr W w1 := Gr.trans (by go_grown) hw1
    clear hw1
    go_wp2_with fail
    go_ret
    exact ⟨rfl, gw1⟩
  rw [if_neg k3]
  have b3 : (kq == 3) = false := by simp; omega
  by_cases k4 : kq = 4
  · rw [if_pos k4]
    have A1 := fun w (g : Gr W w) => c_meetsRingB w (frTo_gr h g) (pts_gr hu g) (h0 k4)
    subst k4
    generalize rmV m P Q lx ly hx hy = z at A1 ⊢
    obtain ⟨hk, ⟨ad, n, cap, rfl⟩, A2⟩ := h
    obtain ⟨bd, bcap, _, _, rfl, -⟩ := hu
    have H1 := Lib.hid A1
    have H2 := Lib.hid A2
    clear A1 A2
    clear hk h0
    go_enter Tryz.func41, Tryz.ntmps41
    go_wp2_with fail
    go_at_call 69
    refine ((H1.out _ (by go_grown))).mono ?_
    rintro e w1 ⟨rfl, hw1⟩
    have gw1 : Gr W w1 := Gr.trans (by go_grown) hw1
    clear hw1
    go_wp2_with fail
    go_ret
    exact ⟨rfl, gw1⟩
  rw [if_neg k4]
  have b4 : (kq == 4) = false := by simp; omega
  have A1 := fun w (g : Gr W w) => c_meetsBoxB qlx qly qhx qhy w (frTo_gr h g)
  generalize meV lx ly hx hy qlx qly qhx qhy = z at A1 ⊢
  obtain ⟨hk, ⟨ad, n, cap, rfl⟩, A2⟩ := h
  obtain ⟨bd, bcap, _, _, rfl, -⟩ := hu
  have H1 := Lib.hid A1
  have H2 := Lib.hid A2
  clear A1 A2
  clear hk h0
  go_enter Tryz.func41, Tryz.ntmps41
  go_wp2_with fail
  go_at_call 68
  refine ((H1.out _ (by go_grown))).mono ?_
  rintro e w1 ⟨rfl, hw1⟩
  have gw1 : Gr W w1 := Gr.trans (by go_grown) hw1
  clear hw1
  go_wp2_with fail
  go_ret
  exact ⟨rfl, gw1⟩
set_option maxHeartbeats 4000000 in
set_option maxRecDepth 100000 in
theorem match_core (kq qlx qly qhx qhy : Int) (ad bd : Option Addr) (n cap m bcap c d : Nat) (z : Bool) (W : World) (hE : ErrT W)
    (A1 : ∀ w, Gr W w → Calls Tryz.prog 34 #[.agg #[.int .i64 k, .slice ad n cap]] w fun e w' => ∃ x, e = .returned x ∧ WErr objectS w' x k c ∧ Gr w w')
    (A2 : ∀ w, Gr W w → Calls Tryz.prog 40 #[qryV kq qlx qly qhx qhy (.slice bd m bcap)] w fun e w' => ∃ x, e = .returned x ∧ WErr queryS w' x kq d ∧ Gr w w')
    (A3 : c = 0 → d = 0 → ∀ w, Gr W w → Calls Tryz.prog 41 #[.agg #[.int .i64 k, .slice ad n cap], qryV kq qlx qly qhx qhy (.slice bd m bcap)] w fun e w' => e = .returned (.bool z) ∧ Gr w w') :
    Calls Tryz.prog 13 #[.agg #[.int .i64 k, .slice ad n cap], qryV kq qlx qly qhx qhy (.slice bd m bcap)] W fun e w' => e = .returned (.bool (decide (c = 0) && decide (d = 0) && z)) ∧ Gr W w' := by
  have B1 : ∀ w, Gr W w → Calls Tryz.prog 34 #[.agg #[.int .i64 k, .slice ad n cap]] w fun e w' => ∃ x, e = .returned x ∧ (NF x ∧ (x = .nilIface ↔ c = 0)) ∧ Gr w w' := fun w g => (A1 w g).mono (by
    rintro e w' ⟨x, rfl, hx, g'⟩
    exact ⟨x, rfl, werr_nf hx, g'⟩)
  have B2 : ∀ w, Gr W w → Calls Tryz.prog 40 #[qryV kq qlx qly qhx qhy (.slice bd m bcap)] w fun e w' => ∃ x, e = .returned x ∧ (NF x ∧ (x = .nilIface ↔ d = 0)) ∧ Gr w w' := fun w g => (A2 w g).mono (by
    rintro e w' ⟨x, rfl, hx, g'⟩
    exact ⟨x, rfl, werr_nf hx, g'⟩)
  have B4 : ∀ (w : World) (D : Nat) (x y : Value) (q : Bool), Gr W w → w.cell? ⟨D, 0, none⟩ = some x → w.cell? ⟨D, 1, none⟩ = some y → NF x → NF y → (q = true ↔ x = .nilIface ∧ y = .nilIface) → Calls Tryz.prog 39 #[.slice (some ⟨D, 0, none⟩) 2 2] w fun e w' => e = .returned (.bool q) ∧ Gr w w' := fun w D x y q g h0 h1 n0 n1 hq =>
    c_allowed (D := D) (n := 2) (cap := 2) (e := fun k => if k = 0 then x else y) w (errT_gr hE g) (by omega) (fun k hk => by match k, hk with | 0, _ => exact h0 | 1, _ => exact h1) (fun k hk => by match k, hk with | 0, _ => exact n0 | 1, _ => exact n1) (World.block_lt_of_cell? _ _ h0) (Nat.le_refl _) q (by
      rw [hq]
      constructor
      · rintro ⟨a, b⟩ k hk
        match k, hk with
        | 0, _ => exact a
        | 1, _ => exact b
      · intro h
        exact ⟨h 0 (by omega), h 1 (by omega)⟩)
  clear A1 A2 hE
  by_cases hc : c = 0
  · rw [decide_eq_true hc, Bool.true_and]
    by_cases hd : d = 0
    · rw [decide_eq_true hd, Bool.true_and]
      have C3 := A3 hc hd
      have C1 : ∀ w, Gr W w → Calls Tryz.prog 34 #[.agg #[.int .i64 k, .slice ad n cap]] w fun e w' => e = .returned .nilIface ∧ Gr w w' := fun w g => (B1 w g).mono (by
        rintro e w' ⟨x, rfl, ⟨-, hx⟩, g'⟩
        obtain rfl := hx.2 hc
        exact ⟨rfl, g'⟩)
      have C2 : ∀ w, Gr W w → Calls Tryz.prog 40 #[qryV kq qlx qly qhx qhy (.slice bd m bcap)] w fun e w' => e = .returned .nilIface ∧ Gr w w' := fun w g => (B2 w g).mono (by
        rintro e w' ⟨x, rfl, ⟨-, hx⟩, g'⟩
        obtain rfl := hx.2 hd
        exact ⟨rfl, g'⟩)
      have H1 := Lib.hid C1
      have H2 := Lib.hid C2
      have H3 := Lib.hid C3
      have H4 := Lib.hid B4
      clear C1 C2 C3 B4
      clear A3 B1 B2
      go_enter Tryz.func13, Tryz.ntmps13
      go_wp2_with fail
      try simp only [List.append]
      refine Od.wp_region_ord [(0, false), (2, false), (1, true), (3, true), (4, true), (5, true), (6, false), (7, false), (8, false), (9, true), (10, false), (11, false)] (by kernel_rfl) (by kernel_rfl) ?_
      intro w0 hw0 KQ hKQ
      have cw0_0_0 := ci hw0 (W.heap.size) 0 k (by go_simp)
      have cw0_0_1 := cg hw0 (W.heap.size) 1 (.slice ad n cap) (by go_simp)
      have cw0_1_0 := ci hw0 (W.heap.size + 1) 0 kq (by go_simp)
      have cw0_1_1 := ci hw0 (W.heap.size + 1) 1 qlx (by go_simp)
      have cw0_1_2 := ci hw0 (W.heap.size + 1) 2 qly (by go_simp)
      have cw0_1_3 := ci hw0 (W.heap.size + 1) 3 qhx (by go_simp)
      have cw0_1_4 := ci hw0 (W.heap.size + 1) 4 qhy (by go_simp)
      have cw0_1_5 := cg hw0 (W.heap.size + 1) 5 (.slice bd m bcap) (by go_simp)
      have gw0 : Gr W w0 := Gr.trans (by go_grown) hw0
      skip
      clear hw0
      repeat (first | (refine Od.wpO_skip (by simp only [List.getElem?_toArray, List.getElem?_cons_succ, List.getElem?_cons_zero] <;> rfl) rfl ?_; simp only [Act.put, List.setIfInBounds_toArray, List.set_cons_zero, List.set_cons_succ]) | (refine Od.wpO_pure (by simp only [List.getElem?_toArray, List.getElem?_cons_succ, List.getElem?_cons_zero] <;> rfl) rfl ?_; apply Exists.intro; refine ⟨?_, ?_⟩; (· intro wx gx; obtain ⟨mx, rfl⟩ := spread_of_gr gx; clear gx; all_goals (apply Od.pAt_of_quiet; intro K hK; go_big_quiet_op; first | exact hK _ rfl | (apply Exists.intro; refine ⟨fun _ => ?_, ?_⟩; (· fail); exact hK _ rfl))); try simp only [Act.put, List.setIfInBounds_toArray, List.set_cons_zero, List.set_cons_succ]))
      refine Od.wpO_call (by simp only [List.getElem?_toArray, List.getElem?_cons_succ, List.getElem?_cons_zero] <;> rfl) rfl ?_
      intro QS hQS
      go_wp2_with fail
      go_at_call 34
      (with_reducible refine ((H1.out _ gw0)).mono ?_)
      rintro e w1 ⟨rfl, hw1⟩
      go_wp2_with fail
      apply Exists.intro
      refine ⟨?_, hw1, ?_⟩
      · simp only [Act.put, List.setIfInBounds_toArray, List.set_cons_zero, List.set_cons_succ]; rfl
      have cw1_0_0 := ci hw1 (W.heap.size) 0 k (by go_simp)
      have cw1_0_1 := cg hw1 (W.heap.size) 1 (.slice ad n cap) (by go_simp)
      have cw1_1_0 := ci hw1 (W.heap.size + 1) 0 kq (by go_simp)
      have cw1_1_1 := ci hw1 (W.heap.size + 1) 1 qlx (by go_simp)
      have cw1_1_2 := ci hw1 (W.heap.size + 1) 2 qly (by go_simp)
      have cw1_1_3 := ci hw1 (W.heap.size + 1) 3 qhx (by go_simp)
      have cw1_1_4 := ci hw1 (W.heap.size + 1) 4 qhy (by go_simp)
      have cw1_1_5 := cg hw1 (W.heap.size + 1) 5 (.slice bd m bcap) (by go_simp)
      have gw1 : Gr W w1 := Gr.trans (by have gg := gw0; have gs := gg.size; go_grown) hw1
      clear gw0 cw0_0_0 cw0_0_1 cw0_1_0 cw0_1_1 cw0_1_2 cw0_1_3 cw0_1_4 cw0_1_5
      clear hw1
      try simp only [Act.put, List.setIfInBounds_toArray, List.set_cons_zero, List.set_cons_succ]
      repeat (first | (refine Od.wpO_skip (by simp only [List.getElem?_toArray, List.getElem?_cons_succ, List.getElem?_cons_zero] <;> rfl) rfl ?_; simp only [Act.put, List.setIfInBounds_toArray, List.set_cons_zero, List.set_cons_succ]) | (refine Od.wpO_pure (by simp only [List.getElem?_toArray, List.getElem?_cons_succ, List.getElem?_cons_zero] <;> rfl) rfl ?_; apply Exists.intro; refine ⟨?_, ?_⟩; (· intro wx gx; obtain ⟨mx, rfl⟩ := spread_of_gr gx; clear gx; all_goals (apply Od.pAt_of_quiet; intro K hK; go_big_quiet_op; first | exact hK _ rfl | (apply Exists.intro; refine ⟨fun _ => ?_, ?_⟩; (· fail); exact hK _ rfl))); try simp only [Act.put, List.setIfInBounds_toArray, List.set_cons_zero, List.set_cons_succ]))
      refine Od.wpO_call (by simp only [List.getElem?_toArray, List.getElem?_cons_succ, List.getElem?_cons_zero] <;> rfl) rfl ?_
      intro QS hQS
      go_wp2_with fail
      go_at_call 40
      (with_reducible refine ((H2.out _ gw1)).mono ?_)
      rintro e w2 ⟨rfl, hw2⟩
      go_wp2_with fail
      apply Exists.intro
      refine ⟨?_, hw2, ?_⟩
      · simp only [Act.put, List.setIfInBounds_toArray, List.set_cons_zero, List.set_cons_succ]; rfl
      have cw2_0_0 := ci hw2 (W.heap.size) 0 k (by go_simp)
      have cw2_0_1 := cg hw2 (W.heap.size) 1 (.slice ad n cap) (by go_simp)
      have zw2_0 := zb cw2_0_0
      have cw2_1_0 := ci hw2 (W.heap.size + 1) 0 kq (by go_simp)
      have cw2_1_1 := ci hw2 (W.heap.size + 1) 1 qlx (by go_simp)
      have cw2_1_2 := ci hw2 (W.heap.size + 1) 2 qly (by go_simp)
      have cw2_1_3 := ci hw2 (W.heap.size + 1) 3 qhx (by go_simp)
      have cw2_1_4 := ci hw2 (W.heap.size + 1) 4 qhy (by go_simp)
      have cw2_1_5 := cg hw2 (W.heap.size + 1) 5 (.slice bd m bcap) (by go_simp)
      have zw2_1 := zb cw2_1_0
      have gw2 : Gr W w2 := Gr.trans (by have gg := gw1; have gs := gg.size; go_grown) hw2
      clear gw1 cw1_0_0 cw1_0_1 cw1_1_0 cw1_1_1 cw1_1_2 cw1_1_3 cw1_1_4 cw1_1_5
      clear hw2
      try simp only [Act.put, List.setIfInBounds_toArray, List.set_cons_zero, List.set_cons_succ]
      repeat (first | (refine Od.wpO_skip (by simp only [List.getElem?_toArray, List.getElem?_cons_succ, List.getElem?_cons_zero] <;> rfl) rfl ?_; simp only [Act.put, List.setIfInBounds_toArray, List.set_cons_zero, List.set_cons_succ]) | (refine Od.wpO_pure (by simp only [List.getElem?_toArray, List.getElem?_cons_succ, List.getElem?_cons_zero] <;> rfl) rfl ?_; apply Exists.intro; refine ⟨?_, ?_⟩; (· intro wx gx; obtain ⟨mx, rfl⟩ := spread_of_gr gx; clear gx; all_goals (apply Od.pAt_of_quiet; intro K hK; go_big_quiet_op; first | exact hK _ rfl | (apply Exists.intro; refine ⟨fun _ => ?_, ?_⟩; (· fail); exact hK _ rfl))); try simp only [Act.put, List.setIfInBounds_toArray, List.set_cons_zero, List.set_cons_succ]))
      refine Od.wpO_call (by simp only [List.getElem?_toArray, List.getElem?_cons_succ, List.getElem?_cons_zero] <;> rfl) rfl ?_
      intro QS hQS
      go_wp2_with fail
      first | (apply Exists.intro; refine ⟨?_, (by go_grown), ?_⟩; (· simp only [Act.put, List.setIfInBounds_toArray, List.set_cons_zero, List.set_cons_succ]; rfl)) | (refine ⟨(by go_grown), ?_⟩)
      generalize hhw3 : (w2.alloc (.cells #[.nilIface, .nilIface] 34)) = w3
      have hw3 : Gr w2 w3 := by subst hhw3; go_grown
      have cw3_0_0 : w3.cell? ⟨W.heap.size, 0, none⟩ = some (.int .i64 k) := by subst hhw3; go_simp
      have cw3_0_1 : w3.cell? ⟨W.heap.size, 1, none⟩ = some (.slice ad n cap) := by subst hhw3; go_simp
      have zw3_0 := zb cw3_0_0
      have cw3_1_0 : w3.cell? ⟨W.heap.size + 1, 0, none⟩ = some (.int .i64 kq) := by subst hhw3; go_simp
      have cw3_1_1 : w3.cell? ⟨W.heap.size + 1, 1, none⟩ = some (.int .i64 qlx) := by subst hhw3; go_simp
      have cw3_1_2 : w3.cell? ⟨W.heap.size + 1, 2, none⟩ = some (.int .i64 qly) := by subst hhw3; go_simp
      have cw3_1_3 : w3.cell? ⟨W.heap.size + 1, 3, none⟩ = some (.int .i64 qhx) := by subst hhw3; go_simp
      have cw3_1_4 : w3.cell? ⟨W.heap.size + 1, 4, none⟩ = some (.int .i64 qhy) := by subst hhw3; go_simp
      have cw3_1_5 : w3.cell? ⟨W.heap.size + 1, 5, none⟩ = some (.slice bd m bcap) := by subst hhw3; go_simp
      have zw3_1 := zb cw3_1_0
      have cw3_2_0 : w3.cell? ⟨w2.heap.size, 0, none⟩ = some (.nilIface) := by subst hhw3; go_simp
      have cw3_2_1 : w3.cell? ⟨w2.heap.size, 1, none⟩ = some (.nilIface) := by subst hhw3; go_simp
      have gw3 : Gr W w3 := Gr.trans (by have gg := gw2; have gs := gg.size; go_grown) hw3
      clear hhw3 hw3 gw2 zw2_0 cw2_0_0 cw2_0_1 zw2_1 cw2_1_0 cw2_1_1 cw2_1_2 cw2_1_3 cw2_1_4 cw2_1_5
      try simp only [Act.put, List.setIfInBounds_toArray, List.set_cons_zero, List.set_cons_succ]
      repeat (first | (refine Od.wpO_skip (by simp only [List.getElem?_toArray, List.getElem?_cons_succ, List.getElem?_cons_zero] <;> rfl) rfl ?_; simp only [Act.put, List.setIfInBounds_toArray, List.set_cons_zero, List.set_cons_succ]) | (refine Od.wpO_pure (by simp only [List.getElem?_toArray, List.getElem?_cons_succ, List.getElem?_cons_zero] <;> rfl) rfl ?_; apply Exists.intro; refine ⟨?_, ?_⟩; (· intro wx gx; obtain ⟨mx, rfl⟩ := spread_of_gr gx; clear gx; all_goals (apply Od.pAt_of_quiet; intro K hK; go_big_quiet_op; first | exact hK _ rfl | (apply Exists.intro; refine ⟨fun _ => ?_, ?_⟩; (· fail); exact hK _ rfl))); try simp only [Act.put, List.setIfInBounds_toArray, List.set_cons_zero, List.set_cons_succ]))
      refine Od.wpO_call (by simp only [List.getElem?_toArray, List.getElem?_cons_succ, List.getElem?_cons_zero] <;> rfl) rfl ?_
      intro QS hQS
      go_wp2_with fail
      go_at_call 39
      (with_reducible refine ((H4.out _ _ _ _ true gw3 cw3_2_0 cw3_2_1 nf_nil nf_nil (by simp))).mono ?_)
      rintro e w4 ⟨rfl, hw4⟩
      go_wp2_with fail
      apply Exists.intro
      refine ⟨?_, hw4, ?_⟩
      · simp only [Act.put, List.setIfInBounds_toArray, List.set_cons_zero, List.set_cons_succ]; rfl
      have cw4_0_0 := ci hw4 (W.heap.size) 0 k (by go_simp)
      have cw4_0_1 := cg hw4 (W.heap.size) 1 (.slice ad n cap) (by go_simp)
      have cw4_1_0 := ci hw4 (W.heap.size + 1) 0 kq (by go_simp)
      have cw4_1_1 := ci hw4 (W.heap.size + 1) 1 qlx (by go_simp)
      have cw4_1_2 := ci hw4 (W.heap.size + 1) 2 qly (by go_simp)
      have cw4_1_3 := ci hw4 (W.heap.size + 1) 3 qhx (by go_simp)
      have cw4_1_4 := ci hw4 (W.heap.size + 1) 4 qhy (by go_simp)
      have cw4_1_5 := cg hw4 (W.heap.size + 1) 5 (.slice bd m bcap) (by go_simp)
      have gw4 : Gr W w4 := Gr.trans (by have gg := gw3; have gs := gg.size; go_grown) hw4
      clear gw3 zw3_0 cw3_0_0 cw3_0_1 zw3_1 cw3_1_0 cw3_1_1 cw3_1_2 cw3_1_3 cw3_1_4 cw3_1_5 cw3_2_0 cw3_2_1
      clear hw4
      try simp only [Act.put, List.setIfInBounds_toArray, List.set_cons_zero, List.set_cons_succ]
      repeat (first | (refine Od.wpO_skip (by simp only [List.getElem?_toArray, List.getElem?_cons_succ, List.getElem?_cons_zero] <;> rfl) rfl ?_; simp only [Act.put, List.setIfInBounds_toArray, List.set_cons_zero, List.set_cons_succ]) | (refine Od.wpO_pure (by simp only [List.getElem?_toArray, List.getElem?_cons_succ, List.getElem?_cons_zero] <;> rfl) rfl ?_; apply Exists.intro; refine ⟨?_, ?_⟩; (· intro wx gx; obtain ⟨mx, rfl⟩ := spread_of_gr gx; clear gx; all_goals (apply Od.pAt_of_quiet; intro K hK; go_big_quiet_op; first | exact hK _ rfl | (apply Exists.intro; refine ⟨fun _ => ?_, ?_⟩; (· fail); exact hK _ rfl))); try simp only [Act.put, List.setIfInBounds_toArray, List.set_cons_zero, List.set_cons_succ]))
      refine Od.wpO_call (by simp only [List.getElem?_toArray, List.getElem?_cons_succ, List.getElem?_cons_zero] <;> rfl) rfl ?_
      intro QS hQS
      go_wp2_with fail
      go_at_call 41
      (with_reducible refine ((H3.out _ gw4)).mono ?_)
      rintro e w5 ⟨rfl, hw5⟩
      go_wp2_with fail
      apply Exists.intro
      refine ⟨?_, hw5, ?_⟩
      · simp only [Act.put, List.setIfInBounds_toArray, List.set_cons_zero, List.set_cons_succ]; rfl
      have gw5 : Gr W w5 := Gr.trans (by have gg := gw4; have gs := gg.size; go_grown) hw5
      clear gw4 cw4_0_0 cw4_0_1 cw4_1_0 cw4_1_1 cw4_1_2 cw4_1_3 cw4_1_4 cw4_1_5
      clear hw5
      try simp only [Act.put, List.setIfInBounds_toArray, List.set_cons_zero, List.set_cons_succ]
      repeat (first | (refine Od.wpO_skip (by simp only [List.getElem?_toArray, List.getElem?_cons_succ, List.getElem?_cons_zero] <;> rfl) rfl ?_; simp only [Act.put, List.setIfInBounds_toArray, List.set_cons_zero, List.set_cons_succ]) | (refine Od.wpO_pure (by simp only [List.getElem?_toArray, List.getElem?_cons_succ, List.getElem?_cons_zero] <;> rfl) rfl ?_; apply Exists.intro; refine ⟨?_, ?_⟩; (· intro wx gx; obtain ⟨mx, rfl⟩ := spread_of_gr gx; clear gx; all_goals (apply Od.pAt_of_quiet; intro K hK; go_big_quiet_op; first | exact hK _ rfl | (apply Exists.intro; refine ⟨fun _ => ?_, ?_⟩; (· fail); exact hK _ rfl))); try simp only [Act.put, List.setIfInBounds_toArray, List.set_cons_zero, List.set_cons_succ]))
      refine Od.wpO_nil (hKQ _ _ ?_)
      clear hKQ KQ
      go_wp2_with fail
      go_ret
      exact ⟨rfl, gw5⟩
    · rw [decide_eq_false hd, Bool.false_and]
      have C1 : ∀ w, Gr W w → Calls Tryz.prog 34 #[.agg #[.int .i64 k, .slice ad n cap]] w fun e w' => e = .returned .nilIface ∧ Gr w w' := fun w g => (B1 w g).mono (by
        rintro e w' ⟨x, rfl, ⟨-, hx⟩, g'⟩
        obtain rfl := hx.2 hc
        exact ⟨rfl, g'⟩)
      have C2 : ∀ w, Gr W w → Calls Tryz.prog 40 #[qryV kq qlx qly qhx qhy (.slice bd m bcap)] w fun e w' => ∃ B, e = .returned (.iface 84 (.pointer (some ⟨B, 0, none⟩))) ∧ Gr w w' := fun w g => (B2 w g).mono (by
        rintro e w' ⟨x, rfl, ⟨hn, hx⟩, g'⟩
        rcases hn with rfl | ⟨B, rfl⟩
        · exact absurd (hx.1 rfl) hd
        · exact ⟨B, rfl, g'⟩)
      have H1 := Lib.hid C1
      have H2 := Lib.hid C2
      have H4 := Lib.hid B4
      clear C1 C2 B4
      clear A3 B1 B2
      go_enter Tryz.func13, Tryz.ntmps13
      go_wp2_with fail
      try simp only [List.append]
      refine Od.wp_region_ord [(0, false), (2, false), (1, true), (3, true), (4, true), (5, true), (6, false), (7, false), (8, false), (9, true), (10, false), (11, false)] (by kernel_rfl) (by kernel_rfl) ?_
      intro w0 hw0 KQ hKQ
      have cw0_0_0 := ci hw0 (W.heap.size) 0 k (by go_simp)
      have cw0_0_1 := cg hw0 (W.heap.size) 1 (.slice ad n cap) (by go_simp)
      have cw0_1_0 := ci hw0 (W.heap.size + 1) 0 kq (by go_simp)
      have cw0_1_1 := ci hw0 (W.heap.size + 1) 1 qlx (by go_simp)
      have cw0_1_2 := ci hw0 (W.heap.size + 1) 2 qly (by go_simp)
      have cw0_1_3 := ci hw0 (W.heap.size + 1) 3 qhx (by go_simp)
      have cw0_1_4 := ci hw0 (W.heap.size + 1) 4 qhy (by go_simp)
      have cw0_1_5 := cg hw0 (W.heap.size + 1) 5 (.slice bd m bcap) (by go_simp)
      have gw0 : Gr W w0 := Gr.trans (by go_grown) hw0
      skip
      clear hw0
      repeat (first | (refine Od.wpO_skip (by simp only [List.getElem?_toArray, List.getElem?_cons_succ, List.getElem?_cons_zero] <;> rfl) rfl ?_; simp only [Act.put, List.setIfInBounds_toArray, List.set_cons_zero, List.set_cons_succ]) | (refine Od.wpO_pure (by simp only [List.getElem?_toArray, List.getElem?_cons_succ, List.getElem?_cons_zero] <;> rfl) rfl ?_; apply Exists.intro; refine ⟨?_, ?_⟩; (· intro wx gx; obtain ⟨mx, rfl⟩ := spread_of_gr gx; clear gx; all_goals (apply Od.pAt_of_quiet; intro K hK; go_big_quiet_op; first | exact hK _ rfl | (apply Exists.intro; refine ⟨fun _ => ?_, ?_⟩; (· fail); exact hK _ rfl))); try simp only [Act.put, List.setIfInBounds_toArray, List.set_cons_zero, List.set_cons_succ]))
      refine Od.wpO_call (by simp only [List.getElem?_toArray, List.getElem?_cons_succ, List.getElem?_cons_zero] <;> rfl) rfl ?_
      intro QS hQS
      go_wp2_with fail
      go_at_call 34
      (with_reducible refine ((H1.out _ gw0)).mono ?_)
      rintro e w1 ⟨rfl, hw1⟩
      go_wp2_with fail
      apply Exists.intro
      refine ⟨?_, hw1, ?_⟩
      · simp only [Act.put, List.setIfInBounds_toArray, List.set_cons_zero, List.set_cons_succ]; rfl
      have cw1_0_0 := ci hw1 (W.heap.size) 0 k (by go_simp)
      have cw1_0_1 := cg hw1 (W.heap.size) 1 (.slice ad n cap) (by go_simp)
      have cw1_1_0 := ci hw1 (W.heap.size + 1) 0 kq (by go_simp)
      have cw1_1_1 := ci hw1 (W.heap.size + 1) 1 qlx (by go_simp)
      have cw1_1_2 := ci hw1 (W.heap.size + 1) 2 qly (by go_simp)
      have cw1_1_3 := ci hw1 (W.heap.size + 1) 3 qhx (by go_simp)
      have cw1_1_4 := ci hw1 (W.heap.size + 1) 4 qhy (by go_simp)
      have cw1_1_5 := cg hw1 (W.heap.size + 1) 5 (.slice bd m bcap) (by go_simp)
      have gw1 : Gr W w1 := Gr.trans (by have gg := gw0; have gs := gg.size; go_grown) hw1
      clear gw0 cw0_0_0 cw0_0_1 cw0_1_0 cw0_1_1 cw0_1_2 cw0_1_3 cw0_1_4 cw0_1_5
      clear hw1
      try simp only [Act.put, List.setIfInBounds_toArray, List.set_cons_zero, List.set_cons_succ]
      repeat (first | (refine Od.wpO_skip (by simp only [List.getElem?_toArray, List.getElem?_cons_succ, List.getElem?_cons_zero] <;> rfl) rfl ?_; simp only [Act.put, List.setIfInBounds_toArray, List.set_cons_zero, List.set_cons_succ]) | (refine Od.wpO_pure (by simp only [List.getElem?_toArray, List.getElem?_cons_succ, List.getElem?_cons_zero] <;> rfl) rfl ?_; apply Exists.intro; refine ⟨?_, ?_⟩; (· intro wx gx; obtain ⟨mx, rfl⟩ := spread_of_gr gx; clear gx; all_goals (apply Od.pAt_of_quiet; intro K hK; go_big_quiet_op; first | exact hK _ rfl | (apply Exists.intro; refine ⟨fun _ => ?_, ?_⟩; (· fail); exact hK _ rfl))); try simp only [Act.put, List.setIfInBounds_toArray, List.set_cons_zero, List.set_cons_succ]))
      refine Od.wpO_call (by simp only [List.getElem?_toArray, List.getElem?_cons_succ, List.getElem?_cons_zero] <;> rfl) rfl ?_
      intro QS hQS
      go_wp2_with fail
      go_at_call 40
      (with_reducible refine ((H2.out _ gw1)).mono ?_)
      rintro e w2 ⟨B2, rfl, hw2⟩
      go_wp2_with fail
      apply Exists.intro
      refine ⟨?_, hw2, ?_⟩
      · simp only [Act.put, List.setIfInBounds_toArray, List.set_cons_zero, List.set_cons_succ]; rfl
      have cw2_0_0 := ci hw2 (W.heap.size) 0 k (by go_simp)
      have cw2_0_1 := cg hw2 (W.heap.size) 1 (.slice ad n cap) (by go_simp)
      have zw2_0 := zb cw2_0_0
      have cw2_1_0 := ci hw2 (W.heap.size + 1) 0 kq (by go_simp)
      have cw2_1_1 := ci hw2 (W.heap.size + 1) 1 qlx (by go_simp)
      have cw2_1_2 := ci hw2 (W.heap.size + 1) 2 qly (by go_simp)
      have cw2_1_3 := ci hw2 (W.heap.size + 1) 3 qhx (by go_simp)
      have cw2_1_4 := ci hw2 (W.heap.size + 1) 4 qhy (by go_simp)
      have cw2_1_5 := cg hw2 (W.heap.size + 1) 5 (.slice bd m bcap) (by go_simp)
      have zw2_1 := zb cw2_1_0
      have gw2 : Gr W w2 := Gr.trans (by have gg := gw1; have gs := gg.size; go_grown) hw2
      clear gw1 cw1_0_0 cw1_0_1 cw1_1_0 cw1_1_1 cw1_1_2 cw1_1_3 cw1_1_4 cw1_1_5
      clear hw2
      try simp only [Act.put, List.setIfInBounds_toArray, List.set_cons_zero, List.set_cons_succ]
      repeat (first | (refine Od.wpO_skip (by simp only [List.getElem?_toArray, List.getElem?_cons_succ, List.getElem?_cons_zero] <;> rfl) rfl ?_; simp only [Act.put, List.setIfInBounds_toArray, List.set_cons_zero, List.set_cons_succ]) | (refine Od.wpO_pure (by simp only [List.getElem?_toArray, List.getElem?_cons_succ, List.getElem?_cons_zero] <;> rfl) rfl ?_; apply Exists.intro; refine ⟨?_, ?_⟩; (· intro wx gx; obtain ⟨mx, rfl⟩ := spread_of_gr gx; clear gx; all_goals (apply Od.pAt_of_quiet; intro K hK; go_big_quiet_op; first | exact hK _ rfl | (apply Exists.intro; refine ⟨fun _ => ?_, ?_⟩; (· fail); exact hK _ rfl))); try simp only [Act.put, List.setIfInBounds_toArray, List.set_cons_zero, List.set_cons_succ]))
      refine Od.wpO_call (by simp only [List.getElem?_toArray, List.getElem?_cons_succ, List.getElem?_cons_zero] <;> rfl) rfl ?_
      intro QS hQS
      go_wp2_with fail
      first | (apply Exists.intro; refine ⟨?_, (by go_grown), ?_⟩; (· simp only [Act.put, List.setIfInBounds_toArray, List.set_cons_zero, List.set_cons_succ]; rfl)) | (refine ⟨(by go_grown), ?_⟩)
      generalize hhw3 : (w2.alloc (.cells #[.nilIface, .iface 84 (.pointer (some ⟨B2, 0, none⟩))] 34)) = w3
      have hw3 : Gr w2 w3 := by subst hhw3; go_grown
      have cw3_0_0 : w3.cell? ⟨W.heap.size, 0, none⟩ = some (.int .i64 k) := by subst hhw3; go_simp
      have cw3_0_1 : w3.cell? ⟨W.heap.size, 1, none⟩ = some (.slice ad n cap) := by subst hhw3; go_simp
      have zw3_0 := zb cw3_0_0
      have cw3_1_0 : w3.cell? ⟨W.heap.size + 1, 0, none⟩ = some (.int .i64 kq) := by subst hhw3; go_simp
      have cw3_1_1 : w3.cell? ⟨W.heap.size + 1, 1, none⟩ = some (.int .i64 qlx) := by subst hhw3; go_simp
      have cw3_1_2 : w3.cell? ⟨W.heap.size + 1, 2, none⟩ = some (.int .i64 qly) := by subst hhw3; go_simp
      have cw3_1_3 : w3.cell? ⟨W.heap.size + 1, 3, none⟩ = some (.int .i64 qhx) := by subst hhw3; go_simp
      have cw3_1_4 : w3.cell? ⟨W.heap.size + 1, 4, none⟩ = some (.int .i64 qhy) := by subst hhw3; go_simp
      have cw3_1_5 : w3.cell? ⟨W.heap.size + 1, 5, none⟩ = some (.slice bd m bcap) := by subst hhw3; go_simp
      have zw3_1 := zb cw3_1_0
      have cw3_2_0 : w3.cell? ⟨w2.heap.size, 0, none⟩ = some (.nilIface) := by subst hhw3; go_simp
      have cw3_2_1 : w3.cell? ⟨w2.heap.size, 1, none⟩ = some (.iface 84 (.pointer (some ⟨B2, 0, none⟩))) := by subst hhw3; go_simp
      have gw3 : Gr W w3 := Gr.trans (by have gg := gw2; have gs := gg.size; go_grown) hw3
      clear hhw3 hw3 gw2 zw2_0 cw2_0_0 cw2_0_1 zw2_1 cw2_1_0 cw2_1_1 cw2_1_2 cw2_1_3 cw2_1_4 cw2_1_5
      try simp only [Act.put, List.setIfInBounds_toArray, List.set_cons_zero, List.set_cons_succ]
      repeat (first | (refine Od.wpO_skip (by simp only [List.getElem?_toArray, List.getElem?_cons_succ, List.getElem?_cons_zero] <;> rfl) rfl ?_; simp only [Act.put, List.setIfInBounds_toArray, List.set_cons_zero, List.set_cons_succ]) | (refine Od.wpO_pure (by simp only [List.getElem?_toArray, List.getElem?_cons_succ, List.getElem?_cons_zero] <;> rfl) rfl ?_; apply Exists.intro; refine ⟨?_, ?_⟩; (· intro wx gx; obtain ⟨mx, rfl⟩ := spread_of_gr gx; clear gx; all_goals (apply Od.pAt_of_quiet; intro K hK; go_big_quiet_op; first | exact hK _ rfl | (apply Exists.intro; refine ⟨fun _ => ?_, ?_⟩; (· fail); exact hK _ rfl))); try simp only [Act.put, List.setIfInBounds_toArray, List.set_cons_zero, List.set_cons_succ]))
      refine Od.wpO_call (by simp only [List.getElem?_toArray, List.getElem?_cons_succ, List.getElem?_cons_zero] <;> rfl) rfl ?_
      intro QS hQS
      go_wp2_with fail
      go_at_call 39
      (with_reducible refine ((H4.out _ _ _ _ false gw3 cw3_2_0 cw3_2_1 nf_nil (nf_f _) (by simp))).mono ?_)
      rintro e w4 ⟨rfl, hw4⟩
      go_wp2_with fail
      apply Exists.intro
      refine ⟨?_, hw4, ?_⟩
      · simp only [Act.put, List.setIfInBounds_toArray, List.set_cons_zero, List.set_cons_succ]; rfl
      have cw4_0_0 := ci hw4 (W.heap.size) 0 k (by go_simp)
      have cw4_0_1 := cg hw4 (W.heap.size) 1 (.slice ad n cap) (by go_simp)
      have cw4_1_0 := ci hw4 (W.heap.size + 1) 0 kq (by go_simp)
      have cw4_1_1 := ci hw4 (W.heap.size + 1) 1 qlx (by go_simp)
      have cw4_1_2 := ci hw4 (W.heap.size + 1) 2 qly (by go_simp)
      have cw4_1_3 := ci hw4 (W.heap.size + 1) 3 qhx (by go_simp)
      have cw4_1_4 := ci hw4 (W.heap.size + 1) 4 qhy (by go_simp)
      have cw4_1_5 := cg hw4 (W.heap.size + 1) 5 (.slice bd m bcap) (by go_simp)
      have gw4 : Gr W w4 := Gr.trans (by have gg := gw3; have gs := gg.size; go_grown) hw4
      clear gw3 zw3_0 cw3_0_0 cw3_0_1 zw3_1 cw3_1_0 cw3_1_1 cw3_1_2 cw3_1_3 cw3_1_4 cw3_1_5 cw3_2_0 cw3_2_1
      clear hw4
      try simp only [Act.put, List.setIfInBounds_toArray, List.set_cons_zero, List.set_cons_succ]
      repeat (first | (refine Od.wpO_skip (by simp only [List.getElem?_toArray, List.getElem?_cons_succ, List.getElem?_cons_zero] <;> rfl) rfl ?_; simp only [Act.put, List.setIfInBounds_toArray, List.set_cons_zero, List.set_cons_succ]) | (refine Od.wpO_pure (by simp only [List.getElem?_toArray, List.getElem?_cons_succ, List.getElem?_cons_zero] <;> rfl) rfl ?_; apply Exists.intro; refine ⟨?_, ?_⟩; (· intro wx gx; obtain ⟨mx, rfl⟩ := spread_of_gr gx; clear gx; all_goals (apply Od.pAt_of_quiet; intro K hK; go_big_quiet_op; first | exact hK _ rfl | (apply Exists.intro; refine ⟨fun _ => ?_, ?_⟩; (· fail); exact hK _ rfl))); try simp only [Act.put, List.setIfInBounds_toArray, List.set_cons_zero, List.set_cons_succ]))
      refine Od.wpO_nil (hKQ _ _ ?_)
      clear hKQ KQ
      go_wp2_with fail
      go_ret
      exact ⟨rfl, gw4⟩
  · rw [decide_eq_false hc, Bool.false_and, Bool.false_and]
    by_cases hd : d = 0
    · skip
      have C1 : ∀ w, Gr W w → Calls Tryz.prog 34 #[.agg #[.int .i64 k, .slice ad n cap]] w fun e w' => ∃ B, e = .returned (.iface 84 (.pointer (some ⟨B, 0, none⟩))) ∧ Gr w w' := fun w g => (B1 w g).mono (by
        rintro e w' ⟨x, rfl, ⟨hn, hx⟩, g'⟩
        rcases hn with rfl | ⟨B, rfl⟩
        · exact absurd (hx.1 rfl) hc
        · exact ⟨B, rfl, g'⟩)
      have C2 : ∀ w, Gr W w → Calls Tryz.prog 40 #[qryV kq qlx qly qhx qhy (.slice bd m bcap)] w fun e w' => e = .returned .nilIface ∧ Gr w w' := fun w g => (B2 w g).mono (by
        rintro e w' ⟨x, rfl, ⟨-, hx⟩, g'⟩
        obtain rfl := hx.2 hd
        exact ⟨rfl, g'⟩)
      have H1 := Lib.hid C1
      have H2 := Lib.hid C2
      have H4 := Lib.hid B4
      clear C1 C2 B4
      clear A3 B1 B2
      go_enter Tryz.func13, Tryz.ntmps13
      go_wp2_with fail
      try simp only [List.append]
      refine Od.wp_region_ord [(0, false), (2, false), (1, true), (3, true), (4, true), (5, true), (6, false), (7, false), (8, false), (9, true), (10, false), (11, false)] (by kernel_rfl) (by kernel_rfl) ?_
      intro w0 hw0 KQ hKQ
      have cw0_0_0 := ci hw0 (W.heap.size) 0 k (by go_simp)
      have cw0_0_1 := cg hw0 (W.heap.size) 1 (.slice ad n cap) (by go_simp)
      have cw0_1_0 := ci hw0 (W.heap.size + 1) 0 kq (by go_simp)
      have cw0_1_1 := ci hw0 (W.heap.size + 1) 1 qlx (by go_simp)
      have cw0_1_2 := ci hw0 (W.heap.size + 1) 2 qly (by go_simp)
      have cw0_1_3 := ci hw0 (W.heap.size + 1) 3 qhx (by go_simp)
      have cw0_1_4 := ci hw0 (W.heap.size + 1) 4 qhy (by go_simp)
      have cw0_1_5 := cg hw0 (W.heap.size + 1) 5 (.slice bd m bcap) (by go_simp)
      have gw0 : Gr W w0 := Gr.trans (by go_grown) hw0
      skip
      clear hw0
      repeat (first | (refine Od.wpO_skip (by simp only [List.getElem?_toArray, List.getElem?_cons_succ, List.getElem?_cons_zero] <;> rfl) rfl ?_; simp only [Act.put, List.setIfInBounds_toArray, List.set_cons_zero, List.set_cons_succ]) | (refine Od.wpO_pure (by simp only [List.getElem?_toArray, List.getElem?_cons_succ, List.getElem?_cons_zero] <;> rfl) rfl ?_; apply Exists.intro; refine ⟨?_, ?_⟩; (· intro wx gx; obtain ⟨mx, rfl⟩ := spread_of_gr gx; clear gx; all_goals (apply Od.pAt_of_quiet; intro K hK; go_big_quiet_op; first | exact hK _ rfl | (apply Exists.intro; refine ⟨fun _ => ?_, ?_⟩; (· fail); exact hK _ rfl))); try simp only [Act.put, List.setIfInBounds_toArray, List.set_cons_zero, List.set_cons_succ]))
      refine Od.wpO_call (by simp only [List.getElem?_toArray, List.getElem?_cons_succ, List.getElem?_cons_zero] <;> rfl) rfl ?_
      intro QS hQS
      go_wp2_with fail
      go_at_call 34
      (with_reducible refine ((H1.out _ gw0)).mono ?_)
      rintro e w1 ⟨B1, rfl, hw1⟩
      go_wp2_with fail
      apply Exists.intro
      refine ⟨?_, hw1, ?_⟩
      · simp only [Act.put, List.setIfInBounds_toArray, List.set_cons_zero, List.set_cons_succ]; rfl
      have cw1_0_0 := ci hw1 (W.heap.size) 0 k (by go_simp)
      have cw1_0_1 := cg hw1 (W.heap.size) 1 (.slice ad n cap) (by go_simp)
      have cw1_1_0 := ci hw1 (W.heap.size + 1) 0 kq (by go_simp)
      have cw1_1_1 := ci hw1 (W.heap.size + 1) 1 qlx (by go_simp)
      have cw1_1_2 := ci hw1 (W.heap.size + 1) 2 qly (by go_simp)
      have cw1_1_3 := ci hw1 (W.heap.size + 1) 3 qhx (by go_simp)
      have cw1_1_4 := ci hw1 (W.heap.size + 1) 4 qhy (by go_simp)
      have cw1_1_5 := cg hw1 (W.heap.size + 1) 5 (.slice bd m bcap) (by go_simp)
      have gw1 : Gr W w1 := Gr.trans (by have gg := gw0; have gs := gg.size; go_grown) hw1
      clear gw0 cw0_0_0 cw0_0_1 cw0_1_0 cw0_1_1 cw0_1_2 cw0_1_3 cw0_1_4 cw0_1_5
      clear hw1
      try simp only [Act.put, List.setIfInBounds_toArray, List.set_cons_zero, List.set_cons_succ]
      repeat (first | (refine Od.wpO_skip (by simp only [List.getElem?_toArray, List.getElem?_cons_succ, List.getElem?_cons_zero] <;> rfl) rfl ?_; simp only [Act.put, List.setIfInBounds_toArray, List.set_cons_zero, List.set_cons_succ]) | (refine Od.wpO_pure (by simp only [List.getElem?_toArray, List.getElem?_cons_succ, List.getElem?_cons_zero] <;> rfl) rfl ?_; apply Exists.intro; refine ⟨?_, ?_⟩; (· intro wx gx; obtain ⟨mx, rfl⟩ := spread_of_gr gx; clear gx; all_goals (apply Od.pAt_of_quiet; intro K hK; go_big_quiet_op; first | exact hK _ rfl | (apply Exists.intro; refine ⟨fun _ => ?_, ?_⟩; (· fail); exact hK _ rfl))); try simp only [Act.put, List.setIfInBounds_toArray, List.set_cons_zero, List.set_cons_succ]))
      refine Od.wpO_call (by simp only [List.getElem?_toArray, List.getElem?_cons_succ, List.getElem?_cons_zero] <;> rfl) rfl ?_
      intro QS hQS
      go_wp2_with fail
      go_at_call 40
      (with_reducible refine ((H2.out _ gw1)).mono ?_)
      rintro e w2 ⟨rfl, hw2⟩
      go_wp2_with fail
      apply Exists.intro
      refine ⟨?_, hw2, ?_⟩
      · simp only [Act.put, List.setIfInBounds_toArray, List.set_cons_zero, List.set_cons_succ]; rfl
      have cw2_0_0 := ci hw2 (W.heap.size) 0 k (by go_simp)
      have cw2_0_1 := cg hw2 (W.heap.size) 1 (.slice ad n cap) (by go_simp)
      have zw2_0 := zb cw2_0_0
      have cw2_1_0 := ci hw2 (W.heap.size + 1) 0 kq (by go_simp)
      have cw2_1_1 := ci hw2 (W.heap.size + 1) 1 qlx (by go_simp)
      have cw2_1_2 := ci hw2 (W.heap.size + 1) 2 qly (by go_simp)
      have cw2_1_3 := ci hw2 (W.heap.size + 1) 3 qhx (by go_simp)
      have cw2_1_4 := ci hw2 (W.heap.size + 1) 4 qhy (by go_simp)
      have cw2_1_5 := cg hw2 (W.heap.size + 1) 5 (.slice bd m bcap) (by go_simp)
      have zw2_1 := zb cw2_1_0
      have gw2 : Gr W w2 := Gr.trans (by have gg := gw1; have gs := gg.size; go_grown) hw2
      clear gw1 cw1_0_0 cw1_0_1 cw1_1_0 cw1_1_1 cw1_1_2 cw1_1_3 cw1_1_4 cw1_1_5
      clear hw2
      try simp only [Act.put, List.setIfInBounds_toArray, List.set_cons_zero, List.set_cons_succ]
      repeat (first | (refine Od.wpO_skip (by simp only [List.getElem?_toArray, List.getElem?_cons_succ, List.getElem?_cons_zero] <;> rfl) rfl ?_; simp only [Act.put, List.setIfInBounds_toArray, List.set_cons_zero, List.set_cons_succ]) | (refine Od.wpO_pure (by simp only [List.getElem?_toArray, List.getElem?_cons_succ, List.getElem?_cons_zero] <;> rfl) rfl ?_; apply Exists.intro; refine ⟨?_, ?_⟩; (· intro wx gx; obtain ⟨mx, rfl⟩ := spread_of_gr gx; clear gx; all_goals (apply Od.pAt_of_quiet; intro K hK; go_big_quiet_op; first | exact hK _ rfl | (apply Exists.intro; refine ⟨fun _ => ?_, ?_⟩; (· fail); exact hK _ rfl))); try simp only [Act.put, List.setIfInBounds_toArray, List.set_cons_zero, List.set_cons_succ]))
      refine Od.wpO_call (by simp only [List.getElem?_toArray, List.getElem?_cons_succ, List.getElem?_cons_zero] <;> rfl) rfl ?_
      intro QS hQS
      go_wp2_with fail
      first | (apply Exists.intro; refine ⟨?_, (by go_grown), ?_⟩; (· simp only [Act.put, List.setIfInBounds_toArray, List.set_cons_zero, List.set_cons_succ]; rfl)) | (refine ⟨(by go_grown), ?_⟩)
      generalize hhw3 : (w2.alloc (.cells #[.iface 84 (.pointer (some ⟨B1, 0, none⟩)), .nilIface] 34)) = w3
      have hw3 : Gr w2 w3 := by subst hhw3; go_grown
      have cw3_0_0 : w3.cell? ⟨W.heap.size, 0, none⟩ = some (.int .i64 k) := by subst hhw3; go_simp
      have cw3_0_1 : w3.cell? ⟨W.heap.size, 1, none⟩ = some (.slice ad n cap) := by subst hhw3; go_simp
      have zw3_0 := zb cw3_0_0
      have cw3_1_0 : w3.cell? ⟨W.heap.size + 1, 0, none⟩ = some (.int .i64 kq) := by subst hhw3; go_simp
      have cw3_1_1 : w3.cell? ⟨W.heap.size + 1, 1, none⟩ = some (.int .i64 qlx) := by subst hhw3; go_simp
      have cw3_1_2 : w3.cell? ⟨W.heap.size + 1, 2, none⟩ = some (.int .i64 qly) := by subst hhw3; go_simp
      have cw3_1_3 : w3.cell? ⟨W.heap.size + 1, 3, none⟩ = some (.int .i64 qhx) := by subst hhw3; go_simp
      have cw3_1_4 : w3.cell? ⟨W.heap.size + 1, 4, none⟩ = some (.int .i64 qhy) := by subst hhw3; go_simp
      have cw3_1_5 : w3.cell? ⟨W.heap.size + 1, 5, none⟩ = some (.slice bd m bcap) := by subst hhw3; go_simp
      have zw3_1 := zb cw3_1_0
      have cw3_2_0 : w3.cell? ⟨w2.heap.size, 0, none⟩ = some (.iface 84 (.pointer (some ⟨B1, 0, none⟩))) := by subst hhw3; go_simp
      have cw3_2_1 : w3.cell? ⟨w2.heap.size, 1, none⟩ = some (.nilIface) := by subst hhw3; go_simp
      have gw3 : Gr W w3 := Gr.trans (by have gg := gw2; have gs := gg.size; go_grown) hw3
      clear hhw3 hw3 gw2 zw2_0 cw2_0_0 cw2_0_1 zw2_1 cw2_1_0 cw2_1_1 cw2_1_2 cw2_1_3 cw2_1_4 cw2_1_5
      try simp only [Act.put, List.setIfInBounds_toArray, List.set_cons_zero, List.set_cons_succ]
      repeat (first | (refine Od.wpO_skip (by simp only [List.getElem?_toArray, List.getElem?_cons_succ, List.getElem?_cons_zero] <;> rfl) rfl ?_; simp only [Act.put, List.setIfInBounds_toArray, List.set_cons_zero, List.set_cons_succ]) | (refine Od.wpO_pure (by simp only [List.getElem?_toArray, List.getElem?_cons_succ, List.getElem?_cons_zero] <;> rfl) rfl ?_; apply Exists.intro; refine ⟨?_, ?_⟩; (· intro wx gx; obtain ⟨mx, rfl⟩ := spread_of_gr gx; clear gx; all_goals (apply Od.pAt_of_quiet; intro K hK; go_big_quiet_op; first | exact hK _ rfl | (apply Exists.intro; refine ⟨fun _ => ?_, ?_⟩; (· fail); exact hK _ rfl))); try simp only [Act.put, List.setIfInBounds_toArray, List.set_cons_zero, List.set_cons_succ]))
      refine Od.wpO_call (by simp only [List.getElem?_toArray, List.getElem?_cons_succ, List.getElem?_cons_zero] <;> rfl) rfl ?_
      intro QS hQS
      go_wp2_with fail
      go_at_call 39
      (with_reducible refine ((H4.out _ _ _ _ false gw3 cw3_2_0 cw3_2_1 (nf_f _) nf_nil (by simp))).mono ?_)
      rintro e w4 ⟨rfl, hw4⟩
      go_wp2_with fail
      apply Exists.intro
      refine ⟨?_, hw4, ?_⟩
      · simp only [Act.put, List.setIfInBounds_toArray, List.set_cons_zero, List.set_cons_succ]; rfl
      have cw4_0_0 := ci hw4 (W.heap.size) 0 k (by go_simp)
      have cw4_0_1 := cg hw4 (W.heap.size) 1 (.slice ad n cap) (by go_simp)
      have cw4_1_0 := ci hw4 (W.heap.size + 1) 0 kq (by go_simp)
      have cw4_1_1 := ci hw4 (W.heap.size + 1) 1 qlx (by go_simp)
      have cw4_1_2 := ci hw4 (W.heap.size + 1) 2 qly (by go_simp)
      have cw4_1_3 := ci hw4 (W.heap.size + 1) 3 qhx (by go_simp)
      have cw4_1_4 := ci hw4 (W.heap.size + 1) 4 qhy (by go_simp)
      have cw4_1_5 := cg hw4 (W.heap.size + 1) 5 (.slice bd m bcap) (by go_simp)
      have gw4 : Gr W w4 := Gr.trans (by have gg := gw3; have gs := gg.size; go_grown) hw4
      clear gw3 zw3_0 cw3_0_0 cw3_0_1 zw3_1 cw3_1_0 cw3_1_1 cw3_1_2 cw3_1_3 cw3_1_4 cw3_1_5 cw3_2_0 cw3_2_1
      clear hw4
      try simp only [Act.put, List.setIfInBounds_toArray, List.set_cons_zero, List.set_cons_succ]
      repeat (first | (refine Od.wpO_skip (by simp only [List.getElem?_toArray, List.getElem?_cons_succ, List.getElem?_cons_zero] <;> rfl) rfl ?_; simp only [Act.put, List.setIfInBounds_toArray, List.set_cons_zero, List.set_cons_succ]) | (refine Od.wpO_pure (by simp only [List.getElem?_toArray, List.getElem?_cons_succ, List.getElem?_cons_zero] <;> rfl) rfl ?_; apply Exists.intro; refine ⟨?_, ?_⟩; (· intro wx gx; obtain ⟨mx, rfl⟩ := spread_of_gr gx; clear gx; all_goals (apply Od.pAt_of_quiet; intro K hK; go_big_quiet_op; first | exact hK _ rfl | (apply Exists.intro; refine ⟨fun _ => ?_, ?_⟩; (· fail); exact hK _ rfl))); try simp only [Act.put, List.setIfInBounds_toArray, List.set_cons_zero, List.set_cons_succ]))
      refine Od.wpO_nil (hKQ _ _ ?_)
      clear hKQ KQ
      go_wp2_with fail
      go_ret
      exact ⟨rfl, gw4⟩
    · skip
      have C1 : ∀ w, Gr W w → Calls Tryz.prog 34 #[.agg #[.int .i64 k, .slice ad n cap]] w fun e w' => ∃ B, e = .returned (.iface 84 (.pointer (some ⟨B, 0, none⟩))) ∧ Gr w w' := fun w g => (B1 w g).mono (by
        rintro e w' ⟨x, rfl, ⟨hn, hx⟩, g'⟩
        rcases hn with rfl | ⟨B, rfl⟩
        · exact absurd (hx.1 rfl) hc
        · exact ⟨B, rfl, g'⟩)
      have C2 : ∀ w, Gr W w → Calls Tryz.prog 40 #[qryV kq qlx qly qhx qhy (.slice bd m bcap)] w fun e w' => ∃ B, e = .returned (.iface 84 (.pointer (some ⟨B, 0, none⟩))) ∧ Gr w w' := fun w g => (B2 w g).mono (by
        rintro e w' ⟨x, rfl, ⟨hn, hx⟩, g'⟩
        rcases hn with rfl | ⟨B, rfl⟩
        · exact absurd (hx.1 rfl) hd
        · exact ⟨B, rfl, g'⟩)
      have H1 := Lib.hid C1
      have H2 := Lib.hid C2
      have H4 := Lib.hid B4
      clear C1 C2 B4
      clear A3 B1 B2
      go_enter Tryz.func13, Tryz.ntmps13
      go_wp2_with fail
      try simp only [List.append]
      refine Od.wp_region_ord [(0, false), (2, false), (1, true), (3, true), (4, true), (5, true), (6, false), (7, false), (8, false), (9, true), (10, false), (11, false)] (by kernel_rfl) (by kernel_rfl) ?_
      intro w0 hw0 KQ hKQ
      have cw0_0_0 := ci hw0 (W.heap.size) 0 k (by go_simp)
      have cw0_0_1 := cg hw0 (W.heap.size) 1 (.slice ad n cap) (by go_simp)
      have cw0_1_0 := ci hw0 (W.heap.size + 1) 0 kq (by go_simp)
      have cw0_1_1 := ci hw0 (W.heap.size + 1) 1 qlx (by go_simp)
      have cw0_1_2 := ci hw0 (W.heap.size + 1) 2 qly (by go_simp)
      have cw0_1_3 := ci hw0 (W.heap.size + 1) 3 qhx (by go_simp)
      have cw0_1_4 := ci hw0 (W.heap.size + 1) 4 qhy (by go_simp)
      have cw0_1_5 := cg hw0 (W.heap.size + 1) 5 (.slice bd m bcap) (by go_simp)
      have gw0 : Gr W w0 := Gr.trans (by go_grown) hw0
      skip
      clear hw0
      repeat (first | (refine Od.wpO_skip (by simp only [List.getElem?_toArray, List.getElem?_cons_succ, List.getElem?_cons_zero] <;> rfl) rfl ?_; simp only [Act.put, List.setIfInBounds_toArray, List.set_cons_zero, List.set_cons_succ]) | (refine Od.wpO_pure (by simp only [List.getElem?_toArray, List.getElem?_cons_succ, List.getElem?_cons_zero] <;> rfl) rfl ?_; apply Exists.intro; refine ⟨?_, ?_⟩; (· intro wx gx; obtain ⟨mx, rfl⟩ := spread_of_gr gx; clear gx; all_goals (apply Od.pAt_of_quiet; intro K hK; go_big_quiet_op; first | exact hK _ rfl | (apply Exists.intro; refine ⟨fun _ => ?_, ?_⟩; (· fail); exact hK _ rfl))); try simp only [Act.put, List.setIfInBounds_toArray, List.set_cons_zero, List.set_cons_succ]))
      refine Od.wpO_call (by simp only [List.getElem?_toArray, List.getElem?_cons_succ, List.getElem?_cons_zero] <;> rfl) rfl ?_
      intro QS hQS
      go_wp2_with fail
      go_at_call 34
      (with_reducible refine ((H1.out _ gw0)).mono ?_)
      rintro e w1 ⟨B1, rfl, hw1⟩
      go_wp2_with fail
      apply Exists.intro
      refine ⟨?_, hw1, ?_⟩
      · simp only [Act.put, List.setIfInBounds_toArray, List.set_cons_zero, List.set_cons_succ]; rfl
      have cw1_0_0 := ci hw1 (W.heap.size) 0 k (by go_simp)
      have cw1_0_1 := cg hw1 (W.heap.size) 1 (.slice ad n cap) (by go_simp)
      have cw1_1_0 := ci hw1 (W.heap.size + 1) 0 kq (by go_simp)
      have cw1_1_1 := ci hw1 (W.heap.size + 1) 1 qlx (by go_simp)
      have cw1_1_2 := ci hw1 (W.heap.size + 1) 2 qly (by go_simp)
      have cw1_1_3 := ci hw1 (W.heap.size + 1) 3 qhx (by go_simp)
      have cw1_1_4 := ci hw1 (W.heap.size + 1) 4 qhy (by go_simp)
      have cw1_1_5 := cg hw1 (W.heap.size + 1) 5 (.slice bd m bcap) (by go_simp)
      have gw1 : Gr W w1 := Gr.trans (by have gg := gw0; have gs := gg.size; go_grown) hw1
      clear gw0 cw0_0_0 cw0_0_1 cw0_1_0 cw0_1_1 cw0_1_2 cw0_1_3 cw0_1_4 cw0_1_5
      clear hw1
      try simp only [Act.put, List.setIfInBounds_toArray, List.set_cons_zero, List.set_cons_succ]
      repeat (first | (refine Od.wpO_skip (by simp only [List.getElem?_toArray, List.getElem?_cons_succ, List.getElem?_cons_zero] <;> rfl) rfl ?_; simp only [Act.put, List.setIfInBounds_toArray, List.set_cons_zero, List.set_cons_succ]) | (refine Od.wpO_pure (by simp only [List.getElem?_toArray, List.getElem?_cons_succ, List.getElem?_cons_zero] <;> rfl) rfl ?_; apply Exists.intro; refine ⟨?_, ?_⟩; (· intro wx gx; obtain ⟨mx, rfl⟩ := spread_of_gr gx; clear gx; all_goals (apply Od.pAt_of_quiet; intro K hK; go_big_quiet_op; first | exact hK _ rfl | (apply Exists.intro; refine ⟨fun _ => ?_, ?_⟩; (· fail); exact hK _ rfl))); try simp only [Act.put, List.setIfInBounds_toArray, List.set_cons_zero, List.set_cons_succ]))
      refine Od.wpO_call (by simp only [List.getElem?_toArray, List.getElem?_cons_succ, List.getElem?_cons_zero] <;> rfl) rfl ?_
      intro QS hQS
      go_wp2_with fail
      go_at_call 40
      (with_reducible refine ((H2.out _ gw1)).mono ?_)
      rintro e w2 ⟨B2, rfl, hw2⟩
      go_wp2_with fail
      apply Exists.intro
      refine ⟨?_, hw2, ?_⟩
      · simp only [Act.put, List.setIfInBounds_toArray, List.set_cons_zero, List.set_cons_succ]; rfl
      have cw2_0_0 := ci hw2 (W.heap.size) 0 k (by go_simp)
      have cw2_0_1 := cg hw2 (W.heap.size) 1 (.slice ad n cap) (by go_simp)
      have zw2_0 := zb cw2_0_0
      have cw2_1_0 := ci hw2 (W.heap.size + 1) 0 kq (by go_simp)
      have cw2_1_1 := ci hw2 (W.heap.size + 1) 1 qlx (by go_simp)
      have cw2_1_2 := ci hw2 (W.heap.size + 1) 2 qly (by go_simp)
      have cw2_1_3 := ci hw2 (W.heap.size + 1) 3 qhx (by go_simp)
      have cw2_1_4 := ci hw2 (W.heap.size + 1) 4 qhy (by go_simp)
      have cw2_1_5 := cg hw2 (W.heap.size + 1) 5 (.slice bd m bcap) (by go_simp)
      have zw2_1 := zb cw2_1_0
      have gw2 : Gr W w2 := Gr.trans (by have gg := gw1; have gs := gg.size; go_grown) hw2
      clear gw1 cw1_0_0 cw1_0_1 cw1_1_0 cw1_1_1 cw1_1_2 cw1_1_3 cw1_1_4 cw1_1_5
      clear hw2
      try simp only [Act.put, List.setIfInBounds_toArray, List.set_cons_zero, List.set_cons_succ]
      repeat (first | (refine Od.wpO_skip (by simp only [List.getElem?_toArray, List.getElem?_cons_succ, List.getElem?_cons_zero] <;> rfl) rfl ?_; simp only [Act.put, List.setIfInBounds_toArray, List.set_cons_zero, List.set_cons_succ]) | (refine Od.wpO_pure (by simp only [List.getElem?_toArray, List.getElem?_cons_succ, List.getElem?_cons_zero] <;> rfl) rfl ?_; apply Exists.intro; refine ⟨?_, ?_⟩; (· intro wx gx; obtain ⟨mx, rfl⟩ := spread_of_gr gx; clear gx; all_goals (apply Od.pAt_of_quiet; intro K hK; go_big_quiet_op; first | exact hK _ rfl | (apply Exists.intro; refine ⟨fun _ => ?_, ?_⟩; (· fail); exact hK _ rfl))); try simp only [Act.put, List.setIfInBounds_toArray, List.set_cons_zero, List.set_cons_succ]))
      refine Od.wpO_call (by simp only [List.getElem?_toArray, List.getElem?_cons_succ, List.getElem?_cons_zero] <;> rfl) rfl ?_
      intro QS hQS
      go_wp2_with fail
      first | (apply Exists.intro; refine ⟨?_, (by go_grown), ?_⟩; (· simp only [Act.put, List.setIfInBounds_toArray, List.set_cons_zero, List.set_cons_succ]; rfl)) | (refine ⟨(by go_grown), ?_⟩)
      generalize hhw3 : (w2.alloc (.cells #[.iface 84 (.pointer (some ⟨B1, 0, none⟩)), .iface 84 (.pointer (some ⟨B2, 0, none⟩))] 34)) = w3
      have hw3 : Gr w2 w3 := by subst hhw3; go_grown
      have cw3_0_0 : w3.cell? ⟨W.heap.size, 0, none⟩ = some (.int .i64 k) := by subst hhw3; go_simp
      have cw3_0_1 : w3.cell? ⟨W.heap.size, 1, none⟩ = some (.slice ad n cap) := by subst hhw3; go_simp
      have zw3_0 := zb cw3_0_0
      have cw3_1_0 : w3.cell? ⟨W.heap.size + 1, 0, none⟩ = some (.int .i64 kq) := by subst hhw3; go_simp
      have cw3_1_1 : w3.cell? ⟨W.heap.size + 1, 1, none⟩ = some (.int .i64 qlx) := by subst hhw3; go_simp
      have cw3_1_2 : w3.cell? ⟨W.heap.size + 1, 2, none⟩ = some (.int .i64 qly) := by subst hhw3; go_simp
      have cw3_1_3 : w3.cell? ⟨W.heap.size + 1, 3, none⟩ = some (.int .i64 qhx) := by subst hhw3; go_simp
      have cw3_1_4 : w3.cell? ⟨W.heap.size + 1, 4, none⟩ = some (.int .i64 qhy) := by subst hhw3; go_simp
      have cw3_1_5 : w3.cell? ⟨W.heap.size + 1, 5, none⟩ = some (.slice bd m bcap) := by subst hhw3; go_simp
      have zw3_1 := zb cw3_1_0
      have cw3_2_0 : w3.cell? ⟨w2.heap.size, 0, none⟩ = some (.iface 84 (.pointer (some ⟨B1, 0, none⟩))) := by subst hhw3; go_simp
      have cw3_2_1 : w3.cell? ⟨w2.heap.size, 1, none⟩ = some (.iface 84 (.pointer (some ⟨B2, 0, none⟩))) := by subst hhw3; go_simp
      have gw3 : Gr W w3 := Gr.trans (by have gg := gw2; have gs := gg.size; go_grown) hw3
      clear hhw3 hw3 gw2 zw2_0 cw2_0_0 cw2_0_1 zw2_1 cw2_1_0 cw2_1_1 cw2_1_2 cw2_1_3 cw2_1_4 cw2_1_5
      try simp only [Act.put, List.setIfInBounds_toArray, List.set_cons_zero, List.set_cons_succ]
      repeat (first | (refine Od.wpO_skip (by simp only [List.getElem?_toArray, List.getElem?_cons_succ, List.getElem?_cons_zero] <;> rfl) rfl ?_; simp only [Act.put, List.setIfInBounds_toArray, List.set_cons_zero, List.set_cons_succ]) | (refine Od.wpO_pure (by simp only [List.getElem?_toArray, List.getElem?_cons_succ, List.getElem?_cons_zero] <;> rfl) rfl ?_; apply Exists.intro; refine ⟨?_, ?_⟩; (· intro wx gx; obtain ⟨mx, rfl⟩ := spread_of_gr gx; clear gx; all_goals (apply Od.pAt_of_quiet; intro K hK; go_big_quiet_op; first | exact hK _ rfl | (apply Exists.intro; refine ⟨fun _ => ?_, ?_⟩; (· fail); exact hK _ rfl))); try simp only [Act.put, List.setIfInBounds_toArray, List.set_cons_zero, List.set_cons_succ]))
      refine Od.wpO_call (by simp only [List.getElem?_toArray, List.getElem?_cons_succ, List.getElem?_cons_zero] <;> rfl) rfl ?_
      intro QS hQS
      go_wp2_with fail
      go_at_call 39
      (with_reducible refine ((H4.out _ _ _ _ false gw3 cw3_2_0 cw3_2_1 (nf_f _) (nf_f _) (by simp))).mono ?_)
      rintro e w4 ⟨rfl, hw4⟩
      go_wp2_with fail
      apply Exists.intro
      refine ⟨?_, hw4, ?_⟩
      · simp only [Act.put, List.setIfInBounds_toArray, List.set_cons_zero, List.set_cons_succ]; rfl
      have cw4_0_0 := ci hw4 (W.heap.size) 0 k (by go_simp)
      have cw4_0_1 := cg hw4 (W.heap.size) 1 (.slice ad n cap) (by go_simp)
      have cw4_1_0 := ci hw4 (W.heap.size + 1) 0 kq (by go_simp)
      have cw4_1_1 := ci hw4 (W.heap.size + 1) 1 qlx (by go_simp)
      have cw4_1_2 := ci hw4 (W.heap.size + 1) 2 qly (by go_simp)
      have cw4_1_3 := ci hw4 (W.heap.size + 1) 3 qhx (by go_simp)
      have cw4_1_4 := ci hw4 (W.heap.size + 1) 4 qhy (by go_simp)
      have cw4_1_5 := cg hw4 (W.heap.size + 1) 5 (.slice bd m bcap) (by go_simp)
      have gw4 : Gr W w4 := Gr.trans (by have gg := gw3; have gs := gg.size; go_grown) hw4
      clear gw3 zw3_0 cw3_0_0 cw3_0_1 zw3_1 cw3_1_0 cw3_1_1 cw3_1_2 cw3_1_3 cw3_1_4 cw3_1_5 cw3_2_0 cw3_2_1
      clear hw4
      try simp only [Act.put, List.setIfInBounds_toArray, List.set_cons_zero, List.set_cons_succ]
      repeat (first | (refine Od.wpO_skip (by simp only [List.getElem?_toArray, List.getElem?_cons_succ, List.getElem?_cons_zero] <;> rfl) rfl ?_; simp only [Act.put, List.setIfInBounds_toArray, List.set_cons_zero, List.set_cons_succ]) | (refine Od.wpO_pure (by simp only [List.getElem?_toArray, List.getElem?_cons_succ, List.getElem?_cons_zero] <;> rfl) rfl ?_; apply Exists.intro; refine ⟨?_, ?_⟩; (· intro wx gx; obtain ⟨mx, rfl⟩ := spread_of_gr gx; clear gx; all_goals (apply Od.pAt_of_quiet; intro K hK; go_big_quiet_op; first | exact hK _ rfl | (apply Exists.intro; refine ⟨fun _ => ?_, ?_⟩; (· fail); exact hK _ rfl))); try simp only [Act.put, List.setIfInBounds_toArray, List.set_cons_zero, List.set_cons_succ]))
      refine Od.wpO_nil (hKQ _ _ ?_)
      clear hKQ KQ
      go_wp2_with fail
      go_ret
      exact ⟨rfl, gw4⟩
end
end Go.Proofs.YtfobmlgpjhghdaaGreatDoor
namespace Go.Proofs.YtfobmlgpjhghdaaGreatDoor
set_option linter.unusedVariables false
set_option linter.unusedSimpArgs false
open Go.ChangeShapes Go.WideShapes Go.ChangeAt Go.RowKit
theorem boxN_0 {lx ly hx hy : Int} : boxN lx ly hx hy = 0 ↔ boxB lx ly hx hy = true := by
  unfold boxN boxB
  cases nearB lx ly <;> cases nearB hx hy <;> cases decide (lx ≤ hx) <;> cases decide (ly ≤ hy) <;> simp
section
variable {k : Int} {v : Value} {lx ly hx hy px py : Int}
set_option maxHeartbeats 2000000 in
set_option maxRecDepth 100000 in
theorem c_FarB (W : World) (h : FrTo W k v lx ly hx hy) (hb : boxB lx ly hx hy = true) (hp : nearB px py = true) :
    Calls Tryz.prog 46 #[.agg #[.int .i64 k, v], .agg #[.int .i64 px, .int .i64 py]] W fun e w' => e = .returned (.agg #[.int .u64 0, .int .u64 (distZ lx ly hx hy px py), .int .u64 1]) ∧ Gr W w' := by
  have A1 := fun w => c_Dist lx ly hx hy px py w ⟨hb, hp⟩
  generalize distZ lx ly hx hy px py = z at A1 ⊢
  obtain ⟨hk, ⟨ad, n, cap, rfl⟩, A2⟩ := h
  have k4 : (k != 4) = true := by simp; omega
  have H1 := Lib.hid A1
  have H2 := Lib.hid A2
  clear A1 A2
  clear hk hb hp
  go_enter Tryz.func46, Tryz.ntmps46
  go_wp2_with fail
  generalize hhw0 : ((W.alloc (.cells #[.int .i64 k, .slice ad n cap] 24)).alloc (.cells #[.int .i64 px, .int .i64 py] 26)).alloc (.cells #[.int .u64 0, .int .u64 0, .int .u64 0] 42) = w0
  have cw0_0_0 : w0.cell? ⟨W.heap.size, 0, none⟩ = some (.int .i64 k) := by subst hhw0; go_simp
  have cw0_0_1 : w0.cell? ⟨W.heap.size, 1, none⟩ = some (.slice ad n cap) := by subst hhw0; go_simp
  have zw0_0 := zb cw0_0_0
  have cw0_1_0 : w0.cell? ⟨W.heap.size + 1, 0, none⟩ = some (.int .i64 px) := by subst hhw0; go_simp
  have cw0_1_1 : w0.cell? ⟨W.heap.size + 1, 1, none⟩ = some (.int .i64 py) := by subst hhw0; go_simp
  have zw0_1 := zb cw0_1_0
  have cw0_2_0 : w0.cell? ⟨W.heap.size + 1 + 1, 0, none⟩ = some (.int .u64 0) := by subst hhw0; go_simp
  have fw0_2_0 : w0.frozen? ⟨W.heap.size + 1 + 1, 0, none⟩ = false := by subst hhw0; go_simp
  have cw0_2_1 : w0.cell? ⟨W.heap.size + 1 + 1, 1, none⟩ = some (.int .u64 0) := by subst hhw0; go_simp
  have fw0_2_1 : w0.frozen? ⟨W.heap.size + 1 + 1, 1, none⟩ = false := by subst hhw0; go_simp
  have cw0_2_2 : w0.cell? ⟨W.heap.size + 1 + 1, 2, none⟩ = some (.int .u64 0) := by subst hhw0; go_simp
  have fw0_2_2 : w0.frozen? ⟨W.heap.size + 1 + 1, 2, none⟩ = false := by subst hhw0; go_simp
  have zw0_2 := zb cw0_2_0
  have gw0 : Gr W w0 := by subst hhw0; go_grown
  clear hhw0
  go_wp2_with fail
  refine Hd.wp_region_tail 4 (by kernel_rfl) (by kernel_rfl) ?_
  intro KQ hKQ
  repeat (first | (refine Hd.wpG_skip (by decide) rfl ?_; simp only [Act.put, List.setIfInBounds_toArray, List.set_cons_zero, List.set_cons_succ]) | (refine Hd.wpG_want (by decide) rfl ?_; apply Exists.intro; refine ⟨?_, ?_⟩; (· intro wx gx; (obtain ⟨mx, rfl⟩ := gx); all_goals (apply Hd.gAt_of_quiet; intro K hK; go_big_quiet_op; first | exact hK _ rfl | (apply Exists.intro; refine ⟨fun _ => ?_, ?_⟩; (· (first | (go_at_call 36; first | ((with_reducible refine ((H2.out _ (Gr.trans (Gr.trans gw0 (gr_spread _ _)) (gr_spread _ _)))).mono ?_); rintro e w' ⟨rfl, hg⟩; exact ⟨rfl, spread_gr hg⟩)) | (go_at_call 73; first | ((with_reducible refine ((H1.out _)).mono ?_); rintro e w' ⟨rfl, hg⟩; exact ⟨rfl, spread_gr hg⟩)))); exact hK _ rfl))); try simp only [Act.put, List.setIfInBounds_toArray, List.set_cons_zero, List.set_cons_succ]))
  refine Hd.wpG_nil (hKQ _ ?_)
  clear hKQ KQ
  intro w1 hhw1
  have hw1 := Hd.gr_of_spread hhw1
  have cw1_2_0 := cu hw1 (W.heap.size + 1 + 1) 0 0 (by go_simp)
  have fw1_2_0 := fq hw1 (W.heap.size + 1 + 1) 0 (.int .u64 0) (by go_simp) (by go_simp)
  have cw1_2_1 := cu hw1 (W.heap.size + 1 + 1) 1 0 (by go_simp)
  have fw1_2_1 := fq hw1 (W.heap.size + 1 + 1) 1 (.int .u64 0) (by go_simp) (by go_simp)
  have cw1_2_2 := cu hw1 (W.heap.size + 1 + 1) 2 0 (by go_simp)
  have fw1_2_2 := fq hw1 (W.heap.size + 1 + 1) 2 (.int .u64 0) (by go_simp) (by go_simp)
  have gw1 : Gr W w1 := Gr.trans (by have gg := gw0; have gs := gg.size; go_grown) hw1
  clear hw1 hhw1 gw0 zw0_0 cw0_0_0 cw0_0_1 zw0_1 cw0_1_0 cw0_1_1 zw0_2 cw0_2_0 fw0_2_0 cw0_2_1 fw0_2_1 cw0_2_2 fw0_2_2
  go_wp2_with fail
  refine bodyPost_ret (v := .agg #[.int .u64 0, .int .u64 z, .int .u64 1]) (by simp [results, Tryz.results46, go_sem, *]) rfl ⟨rfl, by go_grown⟩
end
def BL (W : World) (k : Int) (v : Value) (lx ly hx hy : Int) : Prop := FrTo W k v lx ly hx hy ∧ ∃ n X Y, Pts W v n X Y ∧ objC k n X Y = boxN lx ly hx hy
theorem bl_gr {a b : World} {k : Int} {v : Value} {lx ly hx hy : Int} (h : BL a k v lx ly hx hy) (g : Gr a b) : BL b k v lx ly hx hy := by
  obtain ⟨h1, n, X, Y, h2, h3⟩ := h
  exact ⟨frTo_gr h1 g, n, X, Y, pts_gr h2 g, h3⟩
def maV (lx ly hx hy kq qlx qly qhx qhy : Int) (m : Nat) (P Q : Nat → Int) : Bool := decide (boxN lx ly hx hy = 0) && decide (qC kq qlx qly qhx qhy m P Q = 0) && msV lx ly hx hy kq qlx qly qhx qhy m P Q
theorem c_MatchO {k lx ly hx hy : Int} {v : Value} {m : Nat} {P Q : Nat → Int} {u : Value} (kq qlx qly qhx qhy : Int) (W : World) (hE : ErrT W) (h : BL W k v lx ly hx hy) (hu : Pts W u m P Q) :
    Calls Tryz.prog 13 #[.agg #[.int .i64 k, v], qryV kq qlx qly qhx qhy u] W fun e w' => e = .returned (.bool (maV lx ly hx hy kq qlx qly qhx qhy m P Q)) ∧ Gr W w' := by
  obtain ⟨hF, n, X, Y, hp, hc⟩ := h
  have A1 : ∀ w, Gr W w → Calls Tryz.prog 34 #[.agg #[.int .i64 k, v]] w fun e w' => ∃ x, e = .returned x ∧ WErr objectS w' x k (boxN lx ly hx hy) ∧ Gr w w' := fun w g => by have C := c_relCheck k w (pts_gr hp g); rw [hc] at C; exact C
  have A2 : ∀ w, Gr W w → Calls Tryz.prog 40 #[qryV kq qlx qly qhx qhy u] w fun e w' => ∃ x, e = .returned x ∧ WErr queryS w' x kq (qC kq qlx qly qhx qhy m P Q) ∧ Gr w w' := fun w g => c_CheckQuery kq qlx qly qhx qhy w (pts_gr hu g)
  have A3 : qC kq qlx qly qhx qhy m P Q = 0 → ∀ w, Gr W w → Calls Tryz.prog 41 #[.agg #[.int .i64 k, v], qryV kq qlx qly qhx qhy u] w fun e w' => e = .returned (.bool (msV lx ly hx hy kq qlx qly qhx qhy m P Q)) ∧ Gr w w' := fun hd w g => c_MatchesB kq qlx qly qhx qhy w (frTo_gr hF g) (pts_gr hu g) (fun h4 => by unfold qC at hd; rw [if_neg (by omega), if_neg (by omega), if_pos h4] at hd; exact hd)
  obtain ⟨ad, cap, _, _, rfl, -⟩ := hp
  obtain ⟨bd, bcap, _, _, rfl, -⟩ := hu
  exact match_core kq qlx qly qhx qhy ad bd n cap m bcap _ _ _ W hE A1 A2 (fun _ hd => A3 hd)
end Go.Proofs.YtfobmlgpjhghdaaGreatDoor
namespace Go.Proofs.YtfobmlgpjhghdaaGreatDoor
set_option linter.unusedVariables false
set_option linter.unusedSimpArgs false
open Go.ChangeShapes Go.WideShapes Go.ChangeAt Go.RowKit
set_option maxHeartbeats 4000000 in
set_option maxRecDepth 100000 in
theorem c_rings_no {n m : Nat} {X Y P Q : Nat → Int} {v u : Value} (W : World) (h : Pts W v n X Y) (hu : Pts W u m P Q) (hn : n ≤ 64) (hm9 : m ≤ 64) (hm : arM n X Y (mnN P m) (mnN Q m) (mxN P m) (mxN Q m) = false) :
    Calls Tryz.prog 53 #[v, u] W fun e w' => e = .returned (.bool false) ∧ Gr W w' := by
  have A1 := fun w' (g : Gr W w') => c_AroundN w' (pts_gr h g) (by omega)
  have A2 := fun w' (g : Gr W w') => c_AroundN w' (pts_gr hu g) (by omega)
  have A3 := fun w' => c_Meets (mnN X n) (mnN Y n) (mxN X n) (mxN Y n) (mnN P m) (mnN Q m) (mxN P m) (mxN Q m) w'
  unfold arM at hm
  rw [hm] at A3
  generalize mnN X n = m1 at A1 A3
  generalize mnN Y n = m2 at A1 A3
  generalize mxN X n = m3 at A1 A3
  generalize mxN Y n = m4 at A1 A3
  generalize mnN P m = k1 at A2 A3
  generalize mnN Q m = k2 at A2 A3
  generalize mxN P m = k3 at A2 A3
  generalize mxN Q m = k4 at A2 A3
  obtain ⟨ad, cap, B, off, rfl, -⟩ := h
  obtain ⟨bd, bcap, C, oc, rfl, -⟩ := hu
  have H1 := Lib.hid A1
  have H2 := Lib.hid A2
  have H3 := Lib.hid A3
  clear A1 A2 A3
  clear hm
  go_enter Tryz.func53, Tryz.ntmps53
  go_wp2_with fail
  go_at_call 62
  refine ((H2.out _ (by go_grown))).mono ?_
  rintro e w1 ⟨rfl, hw1⟩
  have cw1_1_0 := cg hw1 (W.heap.size + 1) 0 (.bool false) (by go_simp)
  have fw1_1_0 := fq hw1 (W.heap.size + 1) 0 (.bool false) (by go_simp) (by go_simp)
  have zw1_1 := zb cw1_1_0
  have gw1 : Gr W w1 := Gr.trans (by go_grown) hw1
  clear hw1
  go_wp2_with fail
  go_wp2_with fail
  refine wp_region_spread (by kernel_rfl) (by kernel_rfl) ?_
  try simp only [List.append]
  repeat (first | go_big_quiet_skip | (go_big_quiet_want; go_big_quiet_op; (first | go_big_quiet_on | (apply Exists.intro; refine ⟨fun _ => ?_, ?_⟩; (· (first | (go_at_call 62; first | ((with_reducible refine ((H1.out _ (Gr.trans (by have gg := gw1; have gs := gg.size; go_grown) (gr_spread _ _)))).mono ?_); rintro e w' ⟨rfl, hg⟩; exact ⟨rfl, spread_gr hg⟩)) | (go_at_call 87; first | ((with_reducible refine ((H3.out _)).mono ?_); rintro e w' ⟨rfl, hg⟩; exact ⟨rfl, spread_gr hg⟩)))); go_big_quiet_on))))
  refine wpQuiet_nil ?_
  intro w2 hhw2
  have hw2 := Hd.gr_of_spread hhw2
  have cw2_1_0 := cg hw2 (W.heap.size + 1) 0 (.bool false) (by go_simp)
  have fw2_1_0 := fq hw2 (W.heap.size + 1) 0 (.bool false) (by go_simp) (by go_simp)
  have gw2 : Gr W w2 := Gr.trans (by have gg := gw1; have gs := gg.size; go_grown) hw2
  clear hw2 hhw2 gw1 zw1_1 cw1_1_0 fw1_1_0
  go_wp2_with fail
  refine bodyPost_ret (v := .bool false) (by simp [results, Tryz.results53, go_sem, *]) rfl ⟨rfl, by go_grown⟩
def rgV (n : Nat) (X Y : Nat → Int) (m : Nat) (P Q : Nat → Int) : Bool :=
  arM n X Y (mnN P m) (mnN Q m) (mxN P m) (mxN Q m) && (rmW n X Y m P Q (mnN P m) (mnN Q m) (mxN P m) (mxN Q m) (List.range n) || ((nearB (P 0) (Q 0) && Rg.hasN n X Y (P 0) (Q 0)) || (nearB (X 0) (Y 0) && Rg.hasN m P Q (X 0) (Y 0))))
theorem c_ringsA {n m : Nat} {X Y P Q : Nat → Int} {v u : Value} (W : World) (h : Pts W v n X Y) (hu : Pts W u m P Q) (h0 : (Rg.ringC n X Y).1 = 0) (h9 : (Rg.ringC m P Q).1 = 0) : Calls Tryz.prog 53 #[v, u] W fun e w' => e = .returned (.bool (rgV n X Y m P Q)) ∧ Gr W w' := by
  unfold rgV
  cases hm : arM n X Y (mnN P m) (mnN Q m) (mxN P m) (mxN Q m)
  · exact c_rings_no W h hu (by have := (Rg.ringC_ok h0).1; omega) (by have := (Rg.ringC_ok h9).1; omega) hm
  · rw [Bool.true_and]; exact c_rings W h hu h0 h9 rfl rfl rfl rfl hm
section
variable {n : Nat} {X Y : Nat → Int} {v : Value}
set_option maxHeartbeats 2000000 in
set_option maxRecDepth 100000 in
theorem c_frame_4 (W : World) (h : Pts W v n X Y) (hn : n ≤ 1000000) : Calls Tryz.prog 36 #[.agg #[.int .i64 4, v]] W fun e w' => e = .returned (.agg #[.int .i64 (mnN X n), .int .i64 (mnN Y n), .int .i64 (mxN X n), .int .i64 (mxN Y n)]) ∧ Gr W w' := by
  have A1 := fun w (g : Gr W w) => c_AroundN w (pts_gr h g) hn
  generalize mnN X n = m1 at A1 ⊢
  generalize mnN Y n = m2 at A1 ⊢
  generalize mxN X n = m3 at A1 ⊢
  generalize mxN Y n = m4 at A1 ⊢
  obtain ⟨ad, cap, B, off, rfl, -⟩ := h
  have H1 := Lib.hid A1
  clear A1
  go_enter Tryz.func36, Tryz.ntmps36
  go_wp2_with fail
  go_at_call 62
  refine ((H1.out _ (by go_grown))).mono ?_
  rintro e w1 ⟨rfl, hw1⟩
  have cw1_1_0 := ci hw1 (W.heap.size + 1) 0 0 (by go_simp)
  have fw1_1_0 := fq hw1 (W.heap.size + 1) 0 (.int .i64 0) (by go_simp) (by go_simp)
  have cw1_1_1 := ci hw1 (W.heap.size + 1) 1 0 (by go_simp)
  have fw1_1_1 := fq hw1 (W.heap.size + 1) 1 (.int .i64 0) (by go_simp) (by go_simp)
  have cw1_1_2 := ci hw1 (W.heap.size + 1) 2 0 (by go_simp)
  have fw1_1_2 := fq hw1 (W.heap.size + 1) 2 (.int .i64 0) (by go_simp) (by go_simp)
  have cw1_1_3 := ci hw1 (W.heap.size + 1) 3 0 (by go_simp)
  have fw1_1_3 := fq hw1 (W.heap.size + 1) 3 (.int .i64 0) (by go_simp) (by go_simp)
  have gw1 : Gr W w1 := Gr.trans (by go_grown) hw1
  clear hw1
  go_wp2_with fail
  refine bodyPost_ret (v := .agg #[.int .i64 m1, .int .i64 m2, .int .i64 m3, .int .i64 m4]) (by simp [results, Tryz.results36, go_sem, *]) rfl ⟨rfl, by go_grown⟩
set_option maxRecDepth 100000 in
theorem c_meetsBoxA (lx ly hx hy : Int) (W : World) (h : Pts W v n X Y) (h0 : (Rg.ringC n X Y).1 = 0) :
    Calls Tryz.prog 68 #[.agg #[.int .i64 4, v], .agg #[.int .i64 lx, .int .i64 ly, .int .i64 hx, .int .i64 hy]] W fun e w' => e = .returned (.bool (rmV n X Y lx ly hx hy)) ∧ Gr W w' := by
  have A1 := fun w (g : Gr W w) => c_rmbA lx ly hx hy w (pts_gr h g) h0
  generalize rmV n X Y lx ly hx hy = z at A1 ⊢
  obtain ⟨ad, cap, B, off, rfl, _⟩ := h
  have H1 := Lib.hid A1
  clear A1
  go_enter Tryz.func68, Tryz.ntmps68
  go_wp2_with fail
  go_at_call 104
  refine ((H1.out _ (by go_grown))).mono ?_
  rintro e w1 ⟨rfl, hw1⟩
  have gw1 : Gr W w1 := Gr.trans (by go_grown) hw1
  clear hw1
  go_wp2_with fail
  go_ret
  exact ⟨rfl, gw1⟩
set_option maxRecDepth 100000 in
theorem c_meetsRingA {m : Nat} {P Q : Nat → Int} {u : Value} (W : World) (h : Pts W v n X Y) (h0 : (Rg.ringC n X Y).1 = 0) (hu : Pts W u m P Q) (h9 : (Rg.ringC m P Q).1 = 0) :
    Calls Tryz.prog 69 #[.agg #[.int .i64 4, v], u] W fun e w' => e = .returned (.bool (rgV n X Y m P Q)) ∧ Gr W w' := by
  have A1 := fun w (g : Gr W w) => c_ringsA w (pts_gr h g) (pts_gr hu g) h0 h9
  generalize rgV n X Y m P Q = z at A1 ⊢
  obtain ⟨ad, cap, B, off, rfl, _⟩ := h
  obtain ⟨bd, bcap, C, oc, rfl, _⟩ := hu
  have H1 := Lib.hid A1
  clear A1
  go_enter Tryz.func69, Tryz.ntmps69
  go_wp2_with fail
  go_at_call 53
  refine ((H1.out _ (by go_grown))).mono ?_
  rintro e w1 ⟨rfl, hw1⟩
  have gw1 : Gr W w1 := Gr.trans (by go_grown) hw1
  clear hw1
  go_wp2_with fail
  go_ret
  exact ⟨rfl, gw1⟩
def mpV (n : Nat) (X Y : Nat → Int) (kq qlx qly qhx qhy : Int) (m : Nat) (P Q : Nat → Int) : Bool :=
  if kq = 2 then inV (mnN X n) (mnN Y n) (mxN X n) (mxN Y n) qlx qly qhx qhy else if kq = 3 then rmV n X Y qlx qly qlx qly else if kq = 4 then rgV n X Y m P Q else rmV n X Y qlx qly qhx qhy
set_option maxHeartbeats 4000000 in
set_option maxRecDepth 100000 in
theorem c_MatchesP {m : Nat} {P Q : Nat → Int} {u : Value} (kq qlx qly qhx qhy : Int) (W : World) (h : Pts W v n X Y) (h9 : (Rg.ringC n X Y).1 = 0) (hu : Pts W u m P Q) (h0 : kq = 4 → (Rg.ringC m P Q).1 = 0) :
    Calls Tryz.prog 41 #[.agg #[.int .i64 4, v], qryV kq qlx qly qhx qhy u] W fun e w' => e = .returned (.bool (mpV n X Y kq qlx qly qhx qhy m P Q)) ∧ Gr W w' := by
  unfold mpV
  by_cases k2 : kq = 2
  · rw [if_pos k2]
    subst k2
    have A1 := fun w => c_Inside (mnN X n) (mnN Y n) (mxN X n) (mxN Y n) qlx qly qhx qhy w
    have A2 := fun w (g : Gr W w) => c_frame_4 w (pts_gr h g) (by have := (Rg.ringC_ok h9).1; omega)
    unfold inV
    generalize (boxB (mnN X n) (mnN Y n) (mxN X n) (mxN Y n) && boxB qlx qly qhx qhy && inB qlx qly qhx qhy (mnN X n) (mnN Y n) && inB qlx qly qhx qhy (mxN X n) (mxN Y n)) = z at A1 ⊢
    generalize mnN X n = m1 at A1 A2
    generalize mnN Y n = m2 at A1 A2
    generalize mxN X n = m3 at A1 A2
    generalize mxN Y n = m4 at A1 A2
    obtain ⟨ad, cap, _, _, rfl, -⟩ := h
    obtain ⟨bd, bcap, _, _, rfl, -⟩ := hu
    have H1 := Lib.hid A1
    have H2 := Lib.hid A2
    clear A1 A2
    clear h0 h9
    go_enter Tryz.func41, Tryz.ntmps41
    go_wp2_with fail
    go_wp2_with fail
    refine wp_region_spread (by kernel_rfl) (by kernel_rfl) ?_
    try simp only [List.append]
    repeat (first | go_big_quiet_skip | (go_big_quiet_want; go_big_quiet_op; (first | go_big_quiet_on | (apply Exists.intro; refine ⟨fun _ => ?_, ?_⟩; (· (first | (go_at_call 36; first | ((with_reducible refine ((H2.out _ (Gr.trans (by go_grown) (gr_spread _ _)))).mono ?_); rintro e w' ⟨rfl, hg⟩; exact ⟨rfl, spread_gr hg⟩)) | (go_at_call 67; first | ((with_reducible refine ((H1.out _)).mono ?_); rintro e w' ⟨rfl, hg⟩; exact ⟨rfl, spread_gr hg⟩)))); go_big_quiet_on))))
    refine wpQuiet_nil ?_
    intro w1 hhw1
    have hw1 := Hd.gr_of_spread hhw1
    have gw1 : Gr W w1 := Gr.trans (by go_grown) hw1
    clear hw1 hhw1
    go_wp2_with fail
    go_ret
    exact ⟨rfl, by have gg := gw1; have gs := gg.size; go_grown⟩
  rw [if_neg k2]
  have b2 : (kq == 2) = false := by simp; omega
  by_cases k3 : kq = 3
  · rw [if_pos k3]
    subst k3
    have A1 := fun w (g : Gr W w) => c_meetsBoxA qlx qly qlx qly w (pts_gr h g) h9
    generalize rmV n X Y qlx qly qlx qly = z at A1 ⊢
    obtain ⟨ad, cap, _, _, rfl, -⟩ := h
    obtain ⟨bd, bcap, _, _, rfl, -⟩ := hu
    have H1 := Lib.hid A1
    clear A1
    clear h0 h9
    go_enter Tryz.func41, Tryz.ntmps41
    go_wp2_with fail
    go_at_call 68
    refine ((H1.out _ (by go_grown))).mono ?_
    rintro e w1 ⟨rfl, hw1⟩
    have gw1 : Gr W w1 := Gr.trans (by go_grown) hw1
    clear hw1
    go_wp2_with fail
    go_ret
    exact ⟨rfl, gw1⟩
  rw [if_neg k3]
  have b3 : (kq == 3) = false := by simp; omega
  by_cases k4 : kq = 4
  · rw [if_pos k4]
    have A1 := fun w (g : Gr W w) => c_meetsRingA w (pts_gr h g) h9 (pts_gr hu g) (h0 k4)
    subst k4
    generalize rgV n X Y m P Q = z at A1 ⊢
    obtain ⟨ad, cap, _, _, rfl, -⟩ := h
    obtain ⟨bd, bcap, _, _, rfl, -⟩ := hu
    have H1 := Lib.hid A1
    clear A1
    clear h0 h9
    go_enter Tryz.func41, Tryz.ntmps41
    go_wp2_with fail
    go_at_call 69
    refine ((H1.out _ (by go_grown))).mono ?_
    rintro e w1 ⟨rfl, hw1⟩
    have gw1 : Gr W w1 := Gr.trans (by go_grown) hw1
    clear hw1
    go_wp2_with fail
    go_ret
    exact ⟨rfl, gw1⟩
  rw [if_neg k4]
  have b4 : (kq == 4) = false := by simp; omega
  have A1 := fun w (g : Gr W w) => c_meetsBoxA qlx qly qhx qhy w (pts_gr h g) h9
  generalize rmV n X Y qlx qly qhx qhy = z at A1 ⊢
  obtain ⟨ad, cap, _, _, rfl, -⟩ := h
  obtain ⟨bd, bcap, _, _, rfl, -⟩ := hu
  have H1 := Lib.hid A1
  clear A1
  clear h0 h9
  go_enter Tryz.func41, Tryz.ntmps41
  go_wp2_with fail
  go_at_call 68
  refine ((H1.out _ (by go_grown))).mono ?_
  rintro e w1 ⟨rfl, hw1⟩
  have gw1 : Gr W w1 := Gr.trans (by go_grown) hw1
  clear hw1
  go_wp2_with fail
  go_ret
  exact ⟨rfl, gw1⟩
end
theorem c_MatchP {n : Nat} {X Y : Nat → Int} {v : Value} {m : Nat} {P Q : Nat → Int} {u : Value} (kq qlx qly qhx qhy : Int) (W : World) (hE : ErrT W) (h : Pts W v n X Y) (hu : Pts W u m P Q) :
    Calls Tryz.prog 13 #[.agg #[.int .i64 4, v], qryV kq qlx qly qhx qhy u] W fun e w' => e = .returned (.bool (decide ((Rg.ringC n X Y).1 = 0) && decide (qC kq qlx qly qhx qhy m P Q = 0) && mpV n X Y kq qlx qly qhx qhy m P Q)) ∧ Gr W w' := by
  have A1 : ∀ w, Gr W w → Calls Tryz.prog 34 #[.agg #[.int .i64 4, v]] w fun e w' => ∃ x, e = .returned x ∧ WErr objectS w' x 4 (Rg.ringC n X Y).1 ∧ Gr w w' := fun w g => by have C := c_relCheck 4 w (pts_gr h g); rw [objC_4] at C; exact C
  have A2 : ∀ w, Gr W w → Calls Tryz.prog 40 #[qryV kq qlx qly qhx qhy u] w fun e w' => ∃ x, e = .returned x ∧ WErr queryS w' x kq (qC kq qlx qly qhx qhy m P Q) ∧ Gr w w' := fun w g => c_CheckQuery kq qlx qly qhx qhy w (pts_gr hu g)
  have A3 : (Rg.ringC n X Y).1 = 0 → qC kq qlx qly qhx qhy m P Q = 0 → ∀ w, Gr W w → Calls Tryz.prog 41 #[.agg #[.int .i64 4, v], qryV kq qlx qly qhx qhy u] w fun e w' => e = .returned (.bool (mpV n X Y kq qlx qly qhx qhy m P Q)) ∧ Gr w w' := fun hc hd w g => c_MatchesP kq qlx qly qhx qhy w (pts_gr h g) hc (pts_gr hu g) (fun h4 => by unfold qC at hd; rw [if_neg (by omega), if_neg (by omega), if_pos h4] at hd; exact hd)
  obtain ⟨ad, cap, _, _, rfl, -⟩ := h
  obtain ⟨bd, bcap, _, _, rfl, -⟩ := hu
  exact match_core kq qlx qly qhx qhy ad bd n cap m bcap _ _ _ W hE A1 A2 A3
end Go.Proofs.YtfobmlgpjhghdaaGreatDoor
namespace Go.Proofs.YtfobmlgpjhghdaaGreatDoor
set_option linter.unusedVariables false
open Go.ChangeShapes Go.WideShapes Go.ChangeAt Go.RowKit
def cmpD (va da vb db : Nat) : Int := if da = 0 then (if db = 0 then 0 else 1) else (if db = 0 then -1 else cmpN (va * db) (vb * da))
set_option maxHeartbeats 1000000 in
set_option maxRecDepth 100000 in
theorem c_rtCompare (ah al ad bh bl bd : Nat) (h1 : Wd ah) (h2 : Wd al) (h3 : Wd ad) (h4 : Wd bh) (h5 : Wd bl) (h6 : Wd bd) (W : World) :
    Calls Tryz.prog 79 #[.agg #[.int .u64 ah, .int .u64 al, .int .u64 ad], .agg #[.int .u64 bh, .int .u64 bl, .int .u64 bd]] W fun e w' => e = .returned (.int .i64 (cmpD (val ah al) ad (val bh bl) bd)) ∧ Gr W w' := by
  obtain ⟨k, hk⟩ : ∃ k, k = cmpD (val ah al) ad (val bh bl) bd := ⟨_, rfl⟩
  obtain ⟨s1, e1⟩ : ∃ s, s = decide (ad ≠ 0) := ⟨_, rfl⟩
  obtain ⟨s2, e2⟩ : ∃ s, s = decide (bd ≠ 0) := ⟨_, rfl⟩
  have A1 := c_Sound ah al ad
  have A2 := c_Sound bh bl bd
  have A3 := c_CompareProducts ah al bd bh bl ad h1 h2 h6 h4 h5 h3
  rw [← hk]
  rw [← e1] at A1
  rw [← e2] at A2
  unfold cmpD at hk
  have H1 := Lib.hid A1
  have H2 := Lib.hid A2
  clear A1 A2
  by_cases d1 : ad = 0
  · obtain rfl : s1 = false := by rw [e1]; simp [d1]
    rw [if_pos d1] at hk
    by_cases d2 : bd = 0
    · obtain rfl : s2 = false := by rw [e2]; simp [d2]
      rw [if_pos d2] at hk
      subst hk
      clear e1 e2 A3 d1 d2
      go_enter Tryz.func79, Tryz.ntmps79
      go_wp2_with fail
      go_at_call 78
      refine ((H1.out _)).mono ?_
      rintro e w1 ⟨rfl, hw1⟩
      have cw1_0_0 := cu hw1 (W.heap.size) 0 ah (by go_simp)
      have cw1_0_1 := cu hw1 (W.heap.size) 1 al (by go_simp)
      have cw1_0_2 := cu hw1 (W.heap.size) 2 ad (by go_simp)
      have cw1_1_0 := cu hw1 (W.heap.size + 1) 0 bh (by go_simp)
      have cw1_1_1 := cu hw1 (W.heap.size + 1) 1 bl (by go_simp)
      have cw1_1_2 := cu hw1 (W.heap.size + 1) 2 bd (by go_simp)
      have gw1 : Gr W w1 := Gr.trans (by go_grown) hw1
      clear hw1
      go_wp2_with fail
      go_at_call 78
      refine ((H1.out _)).mono ?_
      rintro e w2 ⟨rfl, hw2⟩
      have cw2_0_0 := cu hw2 (W.heap.size) 0 ah (by go_simp)
      have cw2_0_1 := cu hw2 (W.heap.size) 1 al (by go_simp)
      have cw2_0_2 := cu hw2 (W.heap.size) 2 ad (by go_simp)
      have cw2_1_0 := cu hw2 (W.heap.size + 1) 0 bh (by go_simp)
      have cw2_1_1 := cu hw2 (W.heap.size + 1) 1 bl (by go_simp)
      have cw2_1_2 := cu hw2 (W.heap.size + 1) 2 bd (by go_simp)
      have gw2 : Gr W w2 := Gr.trans (by have gg := gw1; have gs := gg.size; go_grown) hw2
      clear hw2 gw1 cw1_0_0 cw1_0_1 cw1_0_2 cw1_1_0 cw1_1_1 cw1_1_2
      go_wp2_with fail
      go_at_call 78
      refine ((H2.out _)).mono ?_
      rintro e w3 ⟨rfl, hw3⟩
      have gw3 : Gr W w3 := Gr.trans (by have gg := gw2; have gs := gg.size; go_grown) hw3
      clear hw3 gw2 cw2_0_0 cw2_0_1 cw2_0_2 cw2_1_0 cw2_1_1 cw2_1_2
      go_wp2_with fail
      go_ret
      exact ⟨rfl, by go_grown⟩
    · obtain rfl : s2 = true := by rw [e2]; simp [d2]
      rw [if_neg d2] at hk
      subst hk
      clear e1 e2 A3 d1 d2
      go_enter Tryz.func79, Tryz.ntmps79
      go_wp2_with fail
      go_at_call 78
      refine ((H1.out _)).mono ?_
      rintro e w1 ⟨rfl, hw1⟩
      have cw1_0_0 := cu hw1 (W.heap.size) 0 ah (by go_simp)
      have cw1_0_1 := cu hw1 (W.heap.size) 1 al (by go_simp)
      have cw1_0_2 := cu hw1 (W.heap.size) 2 ad (by go_simp)
      have cw1_1_0 := cu hw1 (W.heap.size + 1) 0 bh (by go_simp)
      have cw1_1_1 := cu hw1 (W.heap.size + 1) 1 bl (by go_simp)
      have cw1_1_2 := cu hw1 (W.heap.size + 1) 2 bd (by go_simp)
      have gw1 : Gr W w1 := Gr.trans (by go_grown) hw1
      clear hw1
      go_wp2_with fail
      go_at_call 78
      refine ((H1.out _)).mono ?_
      rintro e w2 ⟨rfl, hw2⟩
      have cw2_0_0 := cu hw2 (W.heap.size) 0 ah (by go_simp)
      have cw2_0_1 := cu hw2 (W.heap.size) 1 al (by go_simp)
      have cw2_0_2 := cu hw2 (W.heap.size) 2 ad (by go_simp)
      have cw2_1_0 := cu hw2 (W.heap.size + 1) 0 bh (by go_simp)
      have cw2_1_1 := cu hw2 (W.heap.size + 1) 1 bl (by go_simp)
      have cw2_1_2 := cu hw2 (W.heap.size + 1) 2 bd (by go_simp)
      have gw2 : Gr W w2 := Gr.trans (by have gg := gw1; have gs := gg.size; go_grown) hw2
      clear hw2 gw1 cw1_0_0 cw1_0_1 cw1_0_2 cw1_1_0 cw1_1_1 cw1_1_2
      go_wp2_with fail
      go_at_call 78
      refine ((H2.out _)).mono ?_
      rintro e w3 ⟨rfl, hw3⟩
      have gw3 : Gr W w3 := Gr.trans (by have gg := gw2; have gs := gg.size; go_grown) hw3
      clear hw3 gw2 cw2_0_0 cw2_0_1 cw2_0_2 cw2_1_0 cw2_1_1 cw2_1_2
      go_wp2_with fail
      go_ret
      exact ⟨rfl, by go_grown⟩
  · obtain rfl : s1 = true := by rw [e1]; simp [d1]
    rw [if_neg d1] at hk
    by_cases d2 : bd = 0
    · obtain rfl : s2 = false := by rw [e2]; simp [d2]
      rw [if_pos d2] at hk
      subst hk
      clear e1 e2 A3 d1 d2
      go_enter Tryz.func79, Tryz.ntmps79
      go_wp2_with fail
      go_at_call 78
      refine ((H1.out _)).mono ?_
      rintro e w1 ⟨rfl, hw1⟩
      have cw1_0_0 := cu hw1 (W.heap.size) 0 ah (by go_simp)
      have cw1_0_1 := cu hw1 (W.heap.size) 1 al (by go_simp)
      have cw1_0_2 := cu hw1 (W.heap.size) 2 ad (by go_simp)
      have cw1_1_0 := cu hw1 (W.heap.size + 1) 0 bh (by go_simp)
      have cw1_1_1 := cu hw1 (W.heap.size + 1) 1 bl (by go_simp)
      have cw1_1_2 := cu hw1 (W.heap.size + 1) 2 bd (by go_simp)
      have gw1 : Gr W w1 := Gr.trans (by go_grown) hw1
      clear hw1
      go_wp2_with fail
      go_at_call 78
      refine ((H2.out _)).mono ?_
      rintro e w2 ⟨rfl, hw2⟩
      have cw2_0_0 := cu hw2 (W.heap.size) 0 ah (by go_simp)
      have cw2_0_1 := cu hw2 (W.heap.size) 1 al (by go_simp)
      have cw2_0_2 := cu hw2 (W.heap.size) 2 ad (by go_simp)
      have cw2_1_0 := cu hw2 (W.heap.size + 1) 0 bh (by go_simp)
      have cw2_1_1 := cu hw2 (W.heap.size + 1) 1 bl (by go_simp)
      have cw2_1_2 := cu hw2 (W.heap.size + 1) 2 bd (by go_simp)
      have gw2 : Gr W w2 := Gr.trans (by have gg := gw1; have gs := gg.size; go_grown) hw2
      clear hw2 gw1 cw1_0_0 cw1_0_1 cw1_0_2 cw1_1_0 cw1_1_1 cw1_1_2
      go_wp2_with fail
      go_at_call 78
      refine ((H1.out _)).mono ?_
      rintro e w3 ⟨rfl, hw3⟩
      have gw3 : Gr W w3 := Gr.trans (by have gg := gw2; have gs := gg.size; go_grown) hw3
      clear hw3 gw2 cw2_0_0 cw2_0_1 cw2_0_2 cw2_1_0 cw2_1_1 cw2_1_2
      go_wp2_with fail
      go_ret
      exact ⟨rfl, by go_grown⟩
    · obtain rfl : s2 = true := by rw [e2]; simp [d2]
      rw [if_neg d2] at hk
      rw [← hk] at A3
      have H3 := Lib.hid A3
      clear e1 e2 A3 d1 d2 hk
      go_enter Tryz.func79, Tryz.ntmps79
      go_wp2_with fail
      go_at_call 78
      refine ((H1.out _)).mono ?_
      rintro e w1 ⟨rfl, hw1⟩
      have cw1_0_0 := cu hw1 (W.heap.size) 0 ah (by go_simp)
      have cw1_0_1 := cu hw1 (W.heap.size) 1 al (by go_simp)
      have cw1_0_2 := cu hw1 (W.heap.size) 2 ad (by go_simp)
      have cw1_1_0 := cu hw1 (W.heap.size + 1) 0 bh (by go_simp)
      have cw1_1_1 := cu hw1 (W.heap.size + 1) 1 bl (by go_simp)
      have cw1_1_2 := cu hw1 (W.heap.size + 1) 2 bd (by go_simp)
      have gw1 : Gr W w1 := Gr.trans (by go_grown) hw1
      clear hw1
      go_wp2_with fail
      go_at_call 78
      refine ((H2.out _)).mono ?_
      rintro e w2 ⟨rfl, hw2⟩
      have cw2_0_0 := cu hw2 (W.heap.size) 0 ah (by go_simp)
      have cw2_0_1 := cu hw2 (W.heap.size) 1 al (by go_simp)
      have cw2_0_2 := cu hw2 (W.heap.size) 2 ad (by go_simp)
      have cw2_1_0 := cu hw2 (W.heap.size + 1) 0 bh (by go_simp)
      have cw2_1_1 := cu hw2 (W.heap.size + 1) 1 bl (by go_simp)
      have cw2_1_2 := cu hw2 (W.heap.size + 1) 2 bd (by go_simp)
      have gw2 : Gr W w2 := Gr.trans (by have gg := gw1; have gs := gg.size; go_grown) hw2
      clear hw2 gw1 cw1_0_0 cw1_0_1 cw1_0_2 cw1_1_0 cw1_1_1 cw1_1_2
      go_wp2_with fail
      go_wp2_with fail
      refine Hd.wp_region_tail 9 (by kernel_rfl) (by kernel_rfl) ?_
      intro KQ hKQ
      repeat (first | (refine Hd.wpG_skip (by decide) rfl ?_; simp only [Act.put, List.setIfInBounds_toArray, List.set_cons_zero, List.set_cons_succ]) | (refine Hd.wpG_want (by decide) rfl ?_; apply Exists.intro; refine ⟨?_, ?_⟩; (· intro wx gx; (obtain ⟨mx, rfl⟩ := gx); all_goals (apply Hd.gAt_of_quiet; intro K hK; go_big_quiet_op; first | exact hK _ rfl | (apply Exists.intro; refine ⟨fun _ => ?_, ?_⟩; (· (first | (go_at_call 121; first | ((with_reducible refine ((c_numerator _ _ _ _)).mono ?_); rintro e w' ⟨rfl, hg⟩; exact ⟨rfl, spread_gr hg⟩)) | (go_at_call 120; first | ((with_reducible refine ((H3.out _)).mono ?_); rintro e w' ⟨rfl, hg⟩; exact ⟨rfl, spread_gr hg⟩)))); exact hK _ rfl))); try simp only [Act.put, List.setIfInBounds_toArray, List.set_cons_zero, List.set_cons_succ]))
      refine Hd.wpG_nil (hKQ _ ?_)
      clear hKQ KQ
      intro w3 hhw3
      have hw3 := Hd.gr_of_spread hhw3
      have gw3 : Gr W w3 := Gr.trans (by have gg := gw2; have gs := gg.size; go_grown) hw3
      clear hw3 hhw3 gw2 cw2_0_0 cw2_0_1 cw2_0_2 cw2_1_0 cw2_1_1 cw2_1_2
      go_wp2_with fail
      go_ret
      exact ⟨rfl, by go_grown⟩
end Go.Proofs.YtfobmlgpjhghdaaGreatDoor
namespace Go.Proofs.YtfobmlgpjhghdaaGreatDoor
set_option linter.unusedVariables false
set_option linter.unusedSimpArgs false
open Go.ChangeShapes Go.WideShapes Go.ChangeAt Go.RowKit Go.Shelf
attribute [local go_sem] Oper.semAt_some
def dV (s : Nat × Nat) : Value := .agg #[.int .u64 (s.1 / 18446744073709551616 : Nat), .int .u64 (s.1 % 18446744073709551616 : Nat), .int .u64 s.2]
def Bx3 (W : World) (B : Nat) (s : Nat × Nat) : Prop := W.heap[B]? = some (.cells #[.int .u64 (s.1 / 18446744073709551616 : Nat), .int .u64 (s.1 % 18446744073709551616 : Nat), .int .u64 s.2] 42 (0, 0))
theorem Bx3.lt {W : World} {B : Nat} {s : Nat × Nat} (h : Bx3 W B s) : B < W.heap.size := (Array.getElem?_eq_some_iff.1 h).1
theorem Bx3.cells {W : World} {B : Nat} {s : Nat × Nat} (h : Bx3 W B s) : W.cell? ⟨B, 0, none⟩ = some (.int .u64 (s.1 / 18446744073709551616 : Nat)) ∧ W.cell? ⟨B, 1, none⟩ = some (.int .u64 (s.1 % 18446744073709551616 : Nat)) ∧ W.cell? ⟨B, 2, none⟩ = some (.int .u64 s.2) := by
  refine ⟨?_, ?_, ?_⟩ <;> simp [World.cell?, show W.heap[B]? = _ from h]
theorem Bx3.frozen {W : World} {B : Nat} {s : Nat × Nat} (h : Bx3 W B s) : W.frozen? ⟨B, 0, none⟩ = false ∧ W.frozen? ⟨B, 1, none⟩ = false ∧ W.frozen? ⟨B, 2, none⟩ = false :=
  by
  refine ⟨?_, ?_, ?_⟩ <;> simp [World.frozen?, show W.heap[B]? = _ from h]
theorem Bx3.kept {W W' : World} {row : Option Nat} {B : Nat} {s : Nat × Nat} (h : Bx3 W B s) (hg : W.grownBy W' row) (hne : some B ≠ row) : Bx3 W' B s := (hg.block B h.lt hne).trans h
theorem Bx3.alloc {W : World} {B : Nat} {s : Nat × Nat} (h : Bx3 W B s) (o : Obj) : Bx3 (W.alloc o) B s := h.kept (World.grownBy_alloc W o none) (by simp)
theorem Bx3.new (W : World) (s : Nat × Nat) : Bx3 (W.alloc (.cells #[.int .u64 (s.1 / 18446744073709551616 : Nat), .int .u64 (s.1 % 18446744073709551616 : Nat), .int .u64 s.2] 42)) W.heap.size s := World.alloc_heap_new W _
theorem bx3_notcells {W W' : World} {row : Option Nat} {B : Nat} {s : Nat × Nat} (h : Bx3 W B s) (hg : W.grownBy W' row) (hr : ∀ r, row = some r → ∃ o : Obj, W.heap[r]? = some o ∧ o.isCells = false) : Bx3 W' B s := by
  refine h.kept hg fun e => ?_
  obtain ⟨o, h1, h2⟩ := hr B e.symm
  rw [show W.heap[B]? = _ from h] at h1
  cases h1
  cases h2
theorem bx3_own {β : Type} (B : Nat) (f : β → Nat × Nat) : Own (fun (x : β) W => Bx3 W B (f x)) := fun s X Y row hs hg hrow => bx3_notcells hs hg hrow
theorem hp_set {w : World} {b i : Nat} {zs : Array Value} {T : TypeId} {v : Value} (h : w.heap[b]? = some (.cells zs T (0, 0))) : (w.setCell ⟨b, i, none⟩ v).heap[b]? = some (.cells (zs.setIfInBounds i v) T (0, 0)) := by
  simp only [World.setCell, Array.getElem?_modify, h, Option.map]
  simp
abbrev set3 (W : World) (B : Nat) (s : Nat × Nat) : World := ((W.setCell ⟨B, 0, none⟩ (.int .u64 (s.1 / 18446744073709551616 : Nat))).setCell ⟨B, 1, none⟩ (.int .u64 (s.1 % 18446744073709551616 : Nat))).setCell ⟨B, 2, none⟩ (.int .u64 s.2)
theorem Bx3.set {W : World} {B : Nat} {s : Nat × Nat} (h : Bx3 W B s) (s' : Nat × Nat) : Bx3 (set3 W B s') B s' := by
  have h1 := hp_set (i := 0) (v := .int .u64 (s'.1 / 18446744073709551616 : Nat)) h
  have h2 := hp_set (i := 1) (v := .int .u64 (s'.1 % 18446744073709551616 : Nat)) h1
  have h3 := hp_set (i := 2) (v := .int .u64 s'.2) h2
  exact h3
theorem set3_heap (W : World) (B : Nat) (s : Nat × Nat) (C : Nat) (h : C ≠ B) : (set3 W B s).heap[C]? = W.heap[C]? :=
  ((Below.heap_setCell _ _ _ _ (by simpa using h)).trans (Below.heap_setCell _ _ _ _ (by simpa using h))).trans (Below.heap_setCell _ _ _ _ (by simpa using h))
theorem set3_size (W : World) (B : Nat) (s : Nat × Nat) : (set3 W B s).heap.size = W.heap.size := by simp
theorem set3_keeps (W : World) (B : Nat) (s : Nat × Nat) : KeepsOthers W (set3 W B s) := ((KeepsOthers.setCell _ _ _).trans (KeepsOthers.setCell _ _ _)).trans (KeepsOthers.setCell _ _ _)
theorem below_set3 {k : Nat} {w W : World} (h : Below k w W) {B : Nat} (hB : k ≤ B) (s : Nat × Nat) : Below k w (set3 W B s) := ((h.setCell (p := ⟨B, 0, none⟩) hB _).setCell (p := ⟨B, 1, none⟩) hB _).setCell (p := ⟨B, 2, none⟩) hB _
def faS (s d : Nat × Nat) : Nat × Nat := if s.2 = 0 ∨ cmpD d.1 d.2 s.1 s.2 < 0 then d else s
def sdG (ax ay bx by' px py : Int) : Nat × Nat := if (nearB ax ay && nearB bx by' && nearB px py) = true then (sdN ax ay bx by' px py, sdD ax ay bx by' px py) else (0, 0)
def faD (n : Nat) (X Y : Nat → Int) (px py : Int) (k : Nat) : Nat × Nat := sdG (X k) (Y k) (X (Rg.nx1 n k)) (Y (Rg.nx1 n k)) px py
def faW (n : Nat) (X Y : Nat → Int) (px py : Int) (pre : List Nat) : Nat × Nat := pre.foldl (fun s k => faS s (faD n X Y px py k)) (0, 0)
theorem faW_snoc (n : Nat) (X Y : Nat → Int) (px py : Int) (pre : List Nat) (k : Nat) : faW n X Y px py (pre ++ [k]) = faS (faW n X Y px py pre) (faD n X Y px py k) := by
  unfold faW; rw [List.foldl_append]; rfl
theorem sd_bnd {ax ay bx by' px py : Int} (h : (nearB ax ay && nearB bx by' && nearB px py) = true) : sdN ax ay bx by' px py < 340282366920938463463374607431768211456 ∧ sdD ax ay bx by' px py < 18446744073709551616 ∧ 0 < sdD ax ay bx by' px py := by
  have hn : (nearB ax ay = true ∧ nearB bx by' = true) ∧ nearB px py = true := by simpa using h
  have b0 := sqZ_bound hn.1.1 hn.1.2
  have b1 := sqZ_bound hn.1.1 hn.2
  have b2 := sqZ_bound hn.1.2 hn.2
  obtain ⟨-, cb⟩ := cr_bound h
  have cc : (cr ax ay bx by' px py).natAbs * (cr ax ay bx by' px py).natAbs ≤ 9223372019674906632 * 9223372019674906632 := Nat.mul_le_mul (by omega) (by omega)
  unfold sdN sdD
  by_cases h1 : alZ ax ay bx by' px py ≤ 0
  · rw [if_pos h1, if_pos h1]; omega
  · rw [if_neg h1, if_neg h1]
    by_cases h2 : sqZ ax ay bx by' ≤ alZ ax ay bx by' px py
    · rw [if_pos h2, if_pos h2]; omega
    · rw [if_neg h2, if_neg h2]
      have hd : 0 < (sqZ ax ay bx by').toNat := by omega
      have e1 : lowN ((cr ax ay bx by' px py).natAbs * (cr ax ay bx by' px py).natAbs) (sqZ ax ay bx by').toNat ≤ (cr ax ay bx by' px py).natAbs * (cr ax ay bx by' px py).natAbs := Nat.div_le_self _ _
      have e2 : lowD ((cr ax ay bx by' px py).natAbs * (cr ax ay bx by' px py).natAbs) (sqZ ax ay bx by').toNat ≤ (sqZ ax ay bx by').toNat := Nat.div_le_self _ _
      have e3 := (mid_parts ((cr ax ay bx by' px py).natAbs * (cr ax ay bx by' px py).natAbs) _ hd).2.2.2
      omega
def Fit3 (s : Nat × Nat) : Prop := s.1 < 340282366920938463463374607431768211456 ∧ s.2 < 18446744073709551616
theorem sdG_fit (ax ay bx by' px py : Int) : Fit3 (sdG ax ay bx by' px py) := by
  unfold sdG
  split
  · rename_i h; exact ⟨(sd_bnd h).1, (sd_bnd h).2.1⟩
  · exact ⟨by decide, by decide⟩
theorem c_sdG (ax ay bx by' px py : Int) (W : World) : Calls Tryz.prog 77 #[.agg #[.int .i64 ax, .int .i64 ay], .agg #[.int .i64 bx, .int .i64 by'], .agg #[.int .i64 px, .int .i64 py]] W fun e w' => e = .returned (dV (sdG ax ay bx by' px py)) ∧ Gr W w' := by
  unfold sdG
  by_cases h : (nearB ax ay && nearB bx by' && nearB px py) = true
  · rw [if_pos h]; exact c_gDist ax ay bx by' px py h W
  · rw [if_neg h]; exact c_gDist_no ax ay bx by' px py (by simpa using h) W
theorem c_cmpP (s d : Nat × Nat) (h : Fit3 s) (k : Fit3 d) (w : World) : Calls Tryz.prog 79 #[dV d, dV s] w fun e w' => e = .returned (.int .i64 (cmpD d.1 d.2 s.1 s.2)) ∧ Gr w w' := by
  have hs := val_split s.1 h.1
  have hd := val_split d.1 k.1
  have C := c_rtCompare (d.1 / 18446744073709551616) (d.1 % 18446744073709551616) d.2 (s.1 / 18446744073709551616) (s.1 % 18446744073709551616) s.2 hd.2.1 hd.2.2 k.2 hs.2.1 hs.2.2 h.2 w
  rw [hs.1, hd.1] at C
  exact C
set_option maxHeartbeats 1000000 in
set_option maxRecDepth 100000 in
theorem c_Of0 (w : World) : Calls Tryz.prog 75 #[.int .i64 0] w fun e w' => e = .returned (.agg #[.int .u64 0, .int .u64 0, .int .u64 1]) ∧ Gr w w' := by
  have A1 := c_Square 0 (by omega)
  have H1 := Lib.hid A1
  clear A1
  go_enter Tryz.func75, Tryz.ntmps75
  go_wp2_with fail
  go_at_call 113
  refine ((H1.out _)).mono ?_
  rintro e w1 ⟨rfl, hw1⟩
  have cw1_0_0 := cu hw1 (w.heap.size) 0 0 (by go_simp)
  have fw1_0_0 := fq hw1 (w.heap.size) 0 (.int .u64 0) (by go_simp) (by go_simp)
  have cw1_0_1 := cu hw1 (w.heap.size) 1 0 (by go_simp)
  have fw1_0_1 := fq hw1 (w.heap.size) 1 (.int .u64 0) (by go_simp) (by go_simp)
  have cw1_0_2 := cu hw1 (w.heap.size) 2 0 (by go_simp)
  have fw1_0_2 := fq hw1 (w.heap.size) 2 (.int .u64 0) (by go_simp) (by go_simp)
  have gw1 : Gr w w1 := Gr.trans (by go_grown) hw1
  clear hw1
  go_wp2_with fail
  go_at_call 112
  refine ((c_over _ _ _ _)).mono ?_
  rintro e w2 ⟨rfl, hw2⟩
  have cw2_0_0 := cu hw2 (w.heap.size) 0 0 (by go_simp)
  have fw2_0_0 := fq hw2 (w.heap.size) 0 (.int .u64 0) (by go_simp) (by go_simp)
  have cw2_0_1 := cu hw2 (w.heap.size) 1 0 (by go_simp)
  have fw2_0_1 := fq hw2 (w.heap.size) 1 (.int .u64 0) (by go_simp) (by go_simp)
  have cw2_0_2 := cu hw2 (w.heap.size) 2 0 (by go_simp)
  have fw2_0_2 := fq hw2 (w.heap.size) 2 (.int .u64 0) (by go_simp) (by go_simp)
  have gw2 : Gr w w2 := Gr.trans (by have gg := gw1; have gs := gg.size; go_grown) hw2
  clear hw2 gw1 cw1_0_0 fw1_0_0 cw1_0_1 fw1_0_1 cw1_0_2 fw1_0_2
  go_wp2_with fail
  refine bodyPost_ret (v := .agg #[.int .u64 0, .int .u64 0, .int .u64 1]) (by simp [results, Tryz.results75, go_sem, *]) rfl ⟨rfl, by go_grown⟩
theorem far_results {fn : Func} (h : fn.results = #[.cell 4 42]) {tmps : Array Value} {w : World} {b : Nat} {x y z : Value} (hp : tmps.getD 4 undef = .pointer (some ⟨b, 0, none⟩)) (c0 : w.cell? ⟨b, 0, none⟩ = some x) (c1 : w.cell? ⟨b, 1, none⟩ = some y) (c2 : w.cell? ⟨b, 2, none⟩ = some z) :
    (results fn tmps).run Tryz.prog w = .ok (.agg #[x, y, z]) w := by
  have hp' : tmps[4]?.getD undef = .pointer (some ⟨b, 0, none⟩) := by simpa using hp
  simp [results, h, hp', go_sem, *]
section
variable {n : Nat} {X Y : Nat → Int} {v : Value} {px py : Int}
set_option maxHeartbeats 2000000 in
set_option maxRecDepth 100000 in
theorem c_Far_in (W : World) (h : Pts W v n X Y) (h0 : (Rg.ringC n X Y).1 = 0) (hp : nearB px py = true) (hh : Rg.hasN n X Y px py = true) :
    Calls Tryz.prog 46 #[.agg #[.int .i64 4, v], .agg #[.int .i64 px, .int .i64 py]] W fun e w' => e = .returned (.agg #[.int .u64 0, .int .u64 0, .int .u64 1]) ∧ Gr W w' := by
  have A1 := fun w' (g : Gr W w') => c_hs W h h0 px py w' g
  rw [hp, hh, Bool.and_self] at A1
  obtain ⟨ad, cap, _, _, rfl, -⟩ := h
  have H1 := Lib.hid A1
  clear A1
  clear h0 hp hh
  go_enter Tryz.func46, Tryz.ntmps46
  go_wp2_with fail
  go_at_call 74
  refine ((H1.out _ (by go_grown))).mono ?_
  rintro e w1 ⟨rfl, hw1⟩
  have cw1_2_0 := cu hw1 (W.heap.size + 1 + 1) 0 0 (by go_simp)
  have fw1_2_0 := fq hw1 (W.heap.size + 1 + 1) 0 (.int .u64 0) (by go_simp) (by go_simp)
  have cw1_2_1 := cu hw1 (W.heap.size + 1 + 1) 1 0 (by go_simp)
  have fw1_2_1 := fq hw1 (W.heap.size + 1 + 1) 1 (.int .u64 0) (by go_simp) (by go_simp)
  have cw1_2_2 := cu hw1 (W.heap.size + 1 + 1) 2 0 (by go_simp)
  have fw1_2_2 := fq hw1 (W.heap.size + 1 + 1) 2 (.int .u64 0) (by go_simp) (by go_simp)
  have gw1 : Gr W w1 := Gr.trans (by go_grown) hw1
  clear hw1
  go_wp2_with fail
  go_at_call 75
  refine ((c_Of0 _)).mono ?_
  rintro e w2 ⟨rfl, hw2⟩
  have cw2_2_0 := cu hw2 (W.heap.size + 1 + 1) 0 0 (by go_simp)
  have fw2_2_0 := fq hw2 (W.heap.size + 1 + 1) 0 (.int .u64 0) (by go_simp) (by go_simp)
  have cw2_2_1 := cu hw2 (W.heap.size + 1 + 1) 1 0 (by go_simp)
  have fw2_2_1 := fq hw2 (W.heap.size + 1 + 1) 1 (.int .u64 0) (by go_simp) (by go_simp)
  have cw2_2_2 := cu hw2 (W.heap.size + 1 + 1) 2 0 (by go_simp)
  have fw2_2_2 := fq hw2 (W.heap.size + 1 + 1) 2 (.int .u64 0) (by go_simp) (by go_simp)
  have gw2 : Gr W w2 := Gr.trans (by have gg := gw1; have gs := gg.size; go_grown) hw2
  clear hw2 gw1 cw1_2_0 fw1_2_0 cw1_2_1 fw1_2_1 cw1_2_2 fw1_2_2
  go_wp2_with fail
  refine bodyPost_ret (v := .agg #[.int .u64 0, .int .u64 0, .int .u64 1]) (by simp [results, Tryz.results46, go_sem, *]) rfl ⟨rfl, by go_grown⟩
set_option maxHeartbeats 8000000 in
set_option maxRecDepth 100000 in
theorem c_Far_out (w : World) (h : Pts w v n X Y) (h0 : (Rg.ringC n X Y).1 = 0) (hp : nearB px py = true) (hh : Rg.hasN n X Y px py = false) :
    Calls Tryz.prog 46 #[.agg #[.int .i64 4, v], .agg #[.int .i64 px, .int .i64 py]] w fun e w' => e = .returned (dV (faW n X Y px py (List.range n))) ∧ Gr w w' := by
  have A1 := fun w' (g : Gr w w') => c_hs w h h0 px py w' g
  rw [hp, hh, Bool.and_false] at A1
  obtain ⟨r1, r2, -, -⟩ := Rg.ringC_ok h0
  have h1 : 1 ≤ n := by omega
  have hn : n ≤ 1000 := by omega
  have n0 : 0 < n := by omega
  obtain ⟨ad, cap, B, off, rfl, q1, q2, q3, q4⟩ := h
  obtain rfl := q3 (by omega)
  have hB : B < w.heap.size := World.block_lt_of_cell? _ _ (q4 0 (by omega)).1
  have HC := Lib.hid q4
  have hmx : Tryz.prog.follows .mixedOrders = true := by kernel_rfl
  have H1 := Lib.hid A1
  clear A1
  clear q3 q4 h0 hp hh r1 r2
  refine (callsIn_wide (n := 10)).1 ?_
  refine callsIn_of_wp_marks Tryz.func46 rfl trivial ?_ rfl
  simp only [Tryz.ntmps46, List.size_toArray, List.length_cons, List.length_nil, Nat.reduceAdd, Nat.reduceSub, Array.replicate_succ, Array.replicate_zero, List.push_toArray, List.append_toArray, List.nil_append, List.cons_append]
  gi_wp2_with (first
    | (refine ⟨trivial, ?_⟩; gi_at_call 74; refine (callsIn_wide.2 (H1.out _ (by go_grown))).mono ?_; rintro e w1 ⟨rfl, g1⟩; (have g1s := g1.size; simp only [World.size_alloc] at g1s); (have hne1 : w.heap.size ≠ w1.heap.size := by omega); (have hne2 : w1.heap.size ≠ w.heap.size := by omega); have z1 : w1.cell? ⟨w.heap.size, 1, none⟩ = some (.slice (some ⟨B, off, none⟩) n cap)   := cell_gr g1 (by go_simp); have z2 : (w1.alloc (.cells #[.int .u64 0, .int .u64 0, .int .u64 0] 42)).cell? ⟨w.heap.size, 1, none⟩ = some (.slice (some ⟨B, off, none⟩) n cap) := cell_gr (by go_grown) z1)
    | (refine ⟨trivial, ?_⟩; gi_at_call 76; refine (callsIn_wide.2 (c_Edges _ _ _ _)).mono ?_; rintro e w' ⟨rfl, rfl⟩))
  clear z2
  have bP : Box2 w1 (w.heap.size + 1) px py := by
    have h := (Box2.new (w.alloc (.cells #[.int .i64 4, .slice (some ⟨B, off, none⟩) n cap] 24)) px py).alloc (.cells #[.int .u64 0, .int .u64 0, .int .u64 0] 42)
    rw [World.size_alloc] at h
    exact h.kept (gr_grown g1) (by simp)
  have bR : Bx3 w1 (w.heap.size + 1 + 1) (0, 0) := by
    have h := Bx3.new ((w.alloc (.cells #[.int .i64 4, .slice (some ⟨B, off, none⟩) n cap] 24)).alloc (.cells #[.int .i64 px, .int .i64 py] 26)) (0, 0)
    simp only [World.size_alloc] at h
    exact Bx3.kept h (gr_grown g1) (by simp)
  have bO : Bx3 ((w1.alloc (.cells #[.int .u64 0, .int .u64 0, .int .u64 0] 42)).alloc (.cells #[.slice (some ⟨B, off, none⟩) n cap] 22)) w1.heap.size (0, 0) := (Bx3.new w1 (0, 0)).alloc (.cells #[.slice (some ⟨B, off, none⟩) n cap] 22)
  have bE := Boxed.new (w1.alloc (.cells #[.int .u64 0, .int .u64 0, .int .u64 0] 42)) 22 (.slice (some ⟨B, off, none⟩) n cap)
  have bP0 := (bP.alloc (.cells #[.int .u64 0, .int .u64 0, .int .u64 0] 42)).alloc (.cells #[.slice (some ⟨B, off, none⟩) n cap] 22)
  have bR0 := (bR.alloc (.cells #[.int .u64 0, .int .u64 0, .int .u64 0] 42)).alloc (.cells #[.slice (some ⟨B, off, none⟩) n cap] 22)
  have gw1 : Gr w w1 := Gr.trans (by go_grown) g1
  have hG0 : Gr w ((w1.alloc (.cells #[.int .u64 0, .int .u64 0, .int .u64 0] 42)).alloc (.cells #[.slice (some ⟨B, off, none⟩) n cap] 22)) := Gr.trans gw1 (by go_grown)
  have hsz : ((w1.alloc (.cells #[.int .u64 0, .int .u64 0, .int .u64 0] 42)).alloc (.cells #[.slice (some ⟨B, off, none⟩) n cap] 22)).heap.size = w1.heap.size + 2 := by simp
  simp only [World.size_alloc] at bE
  obtain ⟨W0, hW0⟩ : ∃ W0, (w1.alloc (.cells #[.int .u64 0, .int .u64 0, .int .u64 0] 42)).alloc (.cells #[.slice (some ⟨B, off, none⟩) n cap] 22) = W0 := ⟨_, rfl⟩
  rw [hW0] at bO bE bP0 bR0 hG0 hsz ⊢
  obtain ⟨q, hq⟩ : ∃ q, w1.heap.size = q := ⟨_, rfl⟩
  rw [hq] at bO bE hsz g1s ⊢
  clear hW0 bP bR gw1 g1 H1 hq z1 hne1 hne2
  refine wpIn_rangeFunc_ownH rfl (by decide) (gf := 114) (lb := #[.pointer (some ⟨q + 1, 0, none⟩)]) rfl trivial (enters_of Tryz.func114 (by kernel_rfl) rfl)
    (edges_stops (10 - 1) (by decide) (q + 1) B off n cap X Y hn h1 W0 bE.cell q1 q2 (fun k hk => ⟨cell_gr hG0 (HC.out k hk).1, cell_gr hG0 (HC.out k hk).2⟩)) KK.trans (kk_put (by omega) (by omega)) (Below.refl _ _) (fun _ => rfl)
    (fun pre W => (Bx3 W q (faW n X Y px py pre) ∧ Bx3 W (w.heap.size + 1 + 1) (0, 0)) ∧ ((Box2 W (w.heap.size + 1) px py ∧ Fit3 (faW n X Y px py pre)) ∧ (q + 2 ≤ W.heap.size ∧ Below w.heap.size w W)))
    (fun c pre W => False)
    (OwnFrom.and (OwnFrom.and (Own.from (bx3_own _ _) _) (Own.from (bx3_own _ _) _)) (OwnFrom.and (OwnFrom.and (Own.from (box2_own _ _ _) _) (ownFrom_pure _ _)) (OwnFrom.and (fun _ P Q row hs hg hr => Nat.le_trans hs hg.size) (ownFrom_below (Nat.le_refl _) (by omega)))))
    (fun _ _ _ _ _ hs _ _ => hs)
    ⟨⟨bO, bR0⟩, ⟨bP0, by unfold faW Fit3; simp⟩, by omega, hG0⟩
    (fun x a' W => ∃ Ba Bb, q + 2 ≤ Ba ∧ q + 2 ≤ Bb ∧ Box2 W Ba (X x) (Y x) ∧ Box2 W Bb (X (Rg.nx1 n x)) (Y (Rg.nx1 n x)) ∧ a' = { tmps := #[.agg #[.int .i64 4, .slice (some ⟨B, off, none⟩) n cap], .agg #[.int .i64 px, .int .i64 py], .pointer (some ⟨w.heap.size, 0, none⟩), .pointer (some ⟨w.heap.size + 1, 0, none⟩), .pointer (some ⟨w.heap.size + 1 + 1, 0, none⟩), .pointer (some ⟨q, 0, none⟩), .pointer (some ⟨Ba, 0, none⟩), .pointer (some ⟨Bb, 0, none⟩), undef, .pointer (some ⟨w.heap.size, 0, none⟩), .int .i64 4, .bool false, undef, undef, undef, undef, .pointer (some ⟨w.heap.size, 1, none⟩), .slice (some ⟨B, off, none⟩) n cap, .agg #[.int .i64 px, .int .i64 py], .bool false, undef, .agg #[.int .u64 0, .int .u64 0, .int .u64 0], .pointer (some ⟨w.heap.size, 1, none⟩), .slice (some ⟨B, off, none⟩) n cap, .func (.func 114) #[] #[.pointer (some ⟨q + 1, 0, none⟩)], .agg #[.int .i64 (X x), .int .i64 (Y x)], .agg #[.int .i64 (X (Rg.nx1 n x)), .int .i64 (Y (Rg.nx1 n x))], undef, undef, undef, undef, undef, undef, undef, undef, undef, undef, undef, undef, undef, undef, undef], defers := [] })
    (fun x a' _ P Q row hs hg hr => by obtain ⟨Ba, Bb, i1, i2, i3, i4, i5⟩ := hs; exact ⟨Ba, Bb, i1, i2, box2_notcells i3 hg (fun r e => (hr r e).2), box2_notcells i4 hg (fun r e => (hr r e).2), i5⟩)
    ?assign ?body ?done ?stop
  case assign =>
    rintro l pre x W K ⟨⟨bO1, bR1⟩, ⟨bP1, hon⟩, hs3, hB1⟩ hK
    gi_wp2
    have gA : Gr W ((W.alloc (.cells #[.int .i64 (X x), .int .i64 (Y x)] 26)).alloc (.cells #[.int .i64 (X (Rg.nx1 n x)), .int .i64 (Y (Rg.nx1 n x))] 26)) := by go_grown
    exact hK _ _ ((gr_keeps gA).from _) ((KK.refl _ _ _).gr gA (by omega) (by omega)) ⟨⟨(bO1.alloc _).alloc _, (bR1.alloc _).alloc _⟩, ⟨(bP1.alloc _).alloc _, hon⟩, Nat.le_trans hs3 gA.size, Gr.trans hB1 gA⟩
      ⟨W.heap.size, W.heap.size + 1, hs3, by omega, (Box2.new W (X x) (Y x)).alloc _, (by have := Box2.new (W.alloc (.cells #[.int .i64 (X x), .int .i64 (Y x)] 26)) (X (Rg.nx1 n x)) (Y (Rg.nx1 n x)); rwa [World.size_alloc] at this), rfl⟩
  case body =>
    rintro l pre x a' W hl ⟨r, hr⟩ ⟨⟨bO1, bR1⟩, ⟨bP1, hon⟩, hs3, hB1⟩ ⟨Ba, Bb, hBa, hBb, bA, bB, rfl⟩ hlt
    obtain ⟨a0, a1⟩ := bA.cells
    obtain ⟨b0, b1⟩ := bB.cells
    obtain ⟨p0, p1⟩ := bP1.cells
    obtain ⟨s0, s1, s2⟩ := bO1.cells
    obtain ⟨f0, f1, f2⟩ := bO1.frozen
    have hsn := faW_snoc n X Y px py pre x
    unfold faD at hsn
    have hfd := sdG_fit (X x) (Y x) (X (Rg.nx1 n x)) (Y (Rg.nx1 n x)) px py
    have CD := c_sdG (X x) (Y x) (X (Rg.nx1 n x)) (Y (Rg.nx1 n x)) px py
    generalize sdG (X x) (Y x) (X (Rg.nx1 n x)) (Y (Rg.nx1 n x)) px py = d at CD hsn hfd
    generalize faW n X Y px py pre = s at bO1 hon s0 s1 s2 hsn
    generalize X x = xa at a0 CD
    generalize Y x = ya at a1 CD
    generalize X (Rg.nx1 n x) = xb at b0 CD
    generalize Y (Rg.nx1 n x) = yb at b1 CD
    have CC := c_cmpP s d hon hfd
    have CS := fun w => c_Sound (s.1 / 18446744073709551616 : Nat) (s.1 % 18446744073709551616 : Nat) s.2 w
    have hst : faS s d = if s.2 = 0 ∨ cmpD d.1 d.2 s.1 s.2 < 0 then d else s := rfl
    rw [hst] at hsn
    generalize cmpD d.1 d.2 s.1 s.2 = cz at CC hsn
    have HB := Lib.hid (And.intro bO1 (And.intro bR1 bP1))
    have HF := Lib.hid (And.intro hon hfd)
    have fin : ∀ w3, Gr W w3 → ∀ s', s' = faW n X Y px py (pre ++ [x]) → Fit3 s' → ∀ w4, w4 = set3 w3 q s' → (KeepsFrom W0.heap.size W w4 ∧ KK B (q + 1) W w4 ∧ ((Bx3 w4 q (faW n X Y px py (pre ++ [x])) ∧ Bx3 w4 (w.heap.size + 1 + 1) (0, 0)) ∧ ((Box2 w4 (w.heap.size + 1) px py ∧ Fit3 (faW n X Y px py (pre ++ [x]))) ∧ (q + 2 ≤ w4.heap.size ∧ Below w.heap.size w w4)))) := fun w3 g s' e f w4 e4 => by
      subst e4
      rw [← e]
      have gs := g.size
      obtain ⟨bO1, bR1, bP1⟩ := HB.out
      refine ⟨((gr_keeps g).trans (set3_keeps _ _ _)).from _, ((KK.refl B (q + 1) W).gr g (by omega) (by omega)).trans ⟨by rw [set3_size]; exact Nat.le_refl _, set3_heap _ _ _ _ (by omega), set3_heap _ _ _ _ (by omega)⟩, ⟨⟨(bO1.kept (gr_grown g) (by simp)).set s', ?_⟩, ⟨?_, f⟩, by rw [set3_size]; omega, below_set3 (Gr.trans hB1 g) (by omega) _⟩⟩
      · exact (set3_heap _ _ _ _ (by omega)).trans (bR1.kept (gr_grown g) (by simp))
      · exact (set3_heap _ _ _ _ (by omega)).trans (bP1.kept (gr_grown g) (by simp))
    have fin2 : ∀ w3, Gr W w3 → s = faW n X Y px py (pre ++ [x]) → (KeepsFrom W0.heap.size W w3 ∧ KK B (q + 1) W w3 ∧ ((Bx3 w3 q (faW n X Y px py (pre ++ [x])) ∧ Bx3 w3 (w.heap.size + 1 + 1) (0, 0)) ∧ ((Box2 w3 (w.heap.size + 1) px py ∧ Fit3 (faW n X Y px py (pre ++ [x]))) ∧ (q + 2 ≤ w3.heap.size ∧ Below w.heap.size w w3)))) := fun w3 g e => by
      rw [← e]
      have gs := g.size
      obtain ⟨bO1, bR1, bP1⟩ := HB.out
      exact ⟨(gr_keeps g).from _, (KK.refl B (q + 1) W).gr g (by omega) (by omega), ⟨⟨bO1.kept (gr_grown g) (by simp), bR1.kept (gr_grown g) (by simp)⟩, ⟨bP1.kept (gr_grown g) (by simp), HF.out.1⟩, by omega, Gr.trans hB1 g⟩⟩
    obtain ⟨⟨sn, sd⟩, rfl⟩ : ∃ t, t = s := ⟨_, rfl⟩
    obtain ⟨⟨dn, dd⟩, rfl⟩ : ∃ t, t = d := ⟨_, rfl⟩
    have hFIN := Lib.hid fin
    have hFIN2 := Lib.hid fin2
    have HSN := Lib.hid hsn
    clear fin fin2 hst bO1 bR1 bP1 bA bB hfd hon
    unfold dV at CD CC
    dsimp only at CD CC CS s0 s1 s2
    obtain ⟨sh, esh⟩ : ∃ z : Nat, sn / 18446744073709551616 = z := ⟨_, rfl⟩
    obtain ⟨sl, esl⟩ : ∃ z : Nat, sn % 18446744073709551616 = z := ⟨_, rfl⟩
    obtain ⟨dh, edh⟩ : ∃ z : Nat, dn / 18446744073709551616 = z := ⟨_, rfl⟩
    obtain ⟨dl, edl⟩ : ∃ z : Nat, dn % 18446744073709551616 = z := ⟨_, rfl⟩
    rw [esh] at s0 CS CC
    rw [esl] at s1 CS CC
    rw [edh, edl] at CD CC
    have HCD := Lib.hid CD
    have HCS := Lib.hid CS
    have HCC := Lib.hid CC
    clear CD CS CC hsn
    by_cases hz : sd = 0
    · subst hz
      have esn : (decide ((0 : Nat) ≠ 0)) = false := by decide
      rw [esn] at HCS
      gi_wp2_with (first
        | (refine ⟨trivial, ?_⟩; gi_at_call 77; (refine (CallsIn.inRound l (callsIn_wide.2 (HCD.out _))).mono ?_); rintro e w2 ⟨rfl, g2⟩; (have gA : Gr w2 (w2.alloc (.cells #[.int .u64 dh, .int .u64 dl, .int .u64 dd] 42)) := by go_grown); (have t0 := cell_gr (Gr.trans g2 gA) s0); (have t1 := cell_gr (Gr.trans g2 gA) s1); (have t2 := cell_gr (Gr.trans g2 gA) s2); clear gA)
        | (refine ⟨trivial, ?_⟩; gi_at_call 78; (refine (CallsIn.inRound l (callsIn_wide.2 (HCS.out _))).mono ?_); rintro e w3 ⟨rfl, x3⟩; (have g3 : Gr W w3 := Gr.trans g2 (Gr.trans (by go_grown) x3)); (have d0 : w3.cell? ⟨w2.heap.size, 0, none⟩ = some (.int .u64 dh) := cell_gr x3 (by go_simp)); (have d1 : w3.cell? ⟨w2.heap.size, 1, none⟩ = some (.int .u64 dl) := cell_gr x3 (by go_simp)); (have d2 : w3.cell? ⟨w2.heap.size, 2, none⟩ = some (.int .u64 dd) := cell_gr x3 (by go_simp)); (have t0 := cell_gr g3 s0); (have t1 := cell_gr g3 s1); (have t2 := cell_gr g3 s2); (have k0 := frozen_gr g3 s0 f0); (have k1 := frozen_gr g3 s1 f1); (have k2 := frozen_gr g3 s2 f2))
        | (refine ⟨trivial, ?_⟩))
      have hsn : faW n X Y px py (pre ++ [x]) = (dn, dd) := by rw [HSN.out]; simp
      refine hFIN.out w3 g3 (dn, dd) hsn.symm HF.out.2 _ ?_
      subst edh edl; rfl
    · have esn : (decide (sd ≠ 0)) = true := decide_eq_true hz
      rw [esn] at HCS
      by_cases hc : cz < 0
      · gi_wp2_with (first
          | (refine ⟨trivial, ?_⟩; gi_at_call 77; (refine (CallsIn.inRound l (callsIn_wide.2 (HCD.out _))).mono ?_); rintro e w2 ⟨rfl, g2⟩; (have gA : Gr w2 (w2.alloc (.cells #[.int .u64 dh, .int .u64 dl, .int .u64 dd] 42)) := by go_grown); (have t0 := cell_gr (Gr.trans g2 gA) s0); (have t1 := cell_gr (Gr.trans g2 gA) s1); (have t2 := cell_gr (Gr.trans g2 gA) s2); clear gA)
          | (refine ⟨trivial, ?_⟩; gi_at_call 78; (refine (CallsIn.inRound l (callsIn_wide.2 (HCS.out _))).mono ?_); rintro e w3 ⟨rfl, x3⟩; (have g3 : Gr W w3 := Gr.trans g2 (Gr.trans (by go_grown) x3)); (have d0 : w3.cell? ⟨w2.heap.size, 0, none⟩ = some (.int .u64 dh) := cell_gr x3 (by go_simp)); (have d1 : w3.cell? ⟨w2.heap.size, 1, none⟩ = some (.int .u64 dl) := cell_gr x3 (by go_simp)); (have d2 : w3.cell? ⟨w2.heap.size, 2, none⟩ = some (.int .u64 dd) := cell_gr x3 (by go_simp)); (have t0 := cell_gr g3 s0); (have t1 := cell_gr g3 s1); (have t2 := cell_gr g3 s2); (have k0 := frozen_gr g3 s0 f0); (have k1 := frozen_gr g3 s1 f1); (have k2 := frozen_gr g3 s2 f2))
          | (refine ⟨trivial, ?_⟩; gi_at_call 79; (refine (CallsIn.inRound l (callsIn_wide.2 (HCC.out _))).mono ?_); rintro e w4 ⟨rfl, x4⟩; (have g4 : Gr W w4 := Gr.trans g3 (Gr.trans (by go_grown) x4)); (have u0 := cell_gr x4 d0); (have u1 := cell_gr x4 d1); (have u2 := cell_gr x4 d2); (have v0 := cell_gr g4 s0); (have v1 := cell_gr g4 s1); (have v2 := cell_gr g4 s2); (have m0 := frozen_gr g4 s0 f0); (have m1 := frozen_gr g4 s1 f1); (have m2 := frozen_gr g4 s2 f2))
          | (refine ⟨trivial, ?_⟩))
        have hsn : faW n X Y px py (pre ++ [x]) = (dn, dd) := by rw [HSN.out]; exact if_pos (Or.inr hc)
        refine hFIN.out w4 g4 (dn, dd) hsn.symm HF.out.2 _ ?_
        subst edh edl; rfl
      · gi_wp2_with (first
          | (refine ⟨trivial, ?_⟩; gi_at_call 77; (refine (CallsIn.inRound l (callsIn_wide.2 (HCD.out _))).mono ?_); rintro e w2 ⟨rfl, g2⟩; (have gA : Gr w2 (w2.alloc (.cells #[.int .u64 dh, .int .u64 dl, .int .u64 dd] 42)) := by go_grown); (have t0 := cell_gr (Gr.trans g2 gA) s0); (have t1 := cell_gr (Gr.trans g2 gA) s1); (have t2 := cell_gr (Gr.trans g2 gA) s2); clear gA)
          | (refine ⟨trivial, ?_⟩; gi_at_call 78; (refine (CallsIn.inRound l (callsIn_wide.2 (HCS.out _))).mono ?_); rintro e w3 ⟨rfl, x3⟩; (have g3 : Gr W w3 := Gr.trans g2 (Gr.trans (by go_grown) x3)); (have d0 : w3.cell? ⟨w2.heap.size, 0, none⟩ = some (.int .u64 dh) := cell_gr x3 (by go_simp)); (have d1 : w3.cell? ⟨w2.heap.size, 1, none⟩ = some (.int .u64 dl) := cell_gr x3 (by go_simp)); (have d2 : w3.cell? ⟨w2.heap.size, 2, none⟩ = some (.int .u64 dd) := cell_gr x3 (by go_simp)); (have t0 := cell_gr g3 s0); (have t1 := cell_gr g3 s1); (have t2 := cell_gr g3 s2); (have k0 := frozen_gr g3 s0 f0); (have k1 := frozen_gr g3 s1 f1); (have k2 := frozen_gr g3 s2 f2))
          | (refine ⟨trivial, ?_⟩; gi_at_call 79; (refine (CallsIn.inRound l (callsIn_wide.2 (HCC.out _))).mono ?_); rintro e w4 ⟨rfl, x4⟩; (have g4 : Gr W w4 := Gr.trans g3 (Gr.trans (by go_grown) x4)); (have u0 := cell_gr x4 d0); (have u1 := cell_gr x4 d1); (have u2 := cell_gr x4 d2); (have v0 := cell_gr g4 s0); (have v1 := cell_gr g4 s1); (have v2 := cell_gr g4 s2); (have m0 := frozen_gr g4 s0 f0); (have m1 := frozen_gr g4 s1 f1); (have m2 := frozen_gr g4 s2 f2))
          | (refine ⟨trivial, ?_⟩))
        have hsn : faW n X Y px py (pre ++ [x]) = (sn, sd) := by rw [HSN.out]; exact if_neg (fun h => h.elim hz (by omega))
        exact hFIN2.out w4 g4 hsn.symm
  case done =>
    rintro D ys W' hD rfl ⟨⟨bO1, bR1⟩, ⟨bP1, hon⟩, hs3, hB1⟩ hK
    obtain ⟨c0, c1, c2⟩ := bO1.cells
    obtain ⟨e0, e1, e2⟩ := bR1.cells
    obtain ⟨f0, f1, f2⟩ := bR1.frozen
    generalize hS : faW n X Y px py (List.range n) = S at c0 c1 c2 hon bO1
    obtain ⟨sh, esh⟩ : ∃ z : Nat, S.1 / 18446744073709551616 = z := ⟨_, rfl⟩
    obtain ⟨sl, esl⟩ : ∃ z : Nat, S.1 % 18446744073709551616 = z := ⟨_, rfl⟩
    obtain ⟨sd, esd⟩ : ∃ z : Nat, S.2 = z := ⟨_, rfl⟩
    rw [esh] at c0
    rw [esl] at c1
    rw [esd] at c2
    have HBR := Lib.hid bR1
    clear bO1 bR1 bP1
    gi_wp2
    have hw : set3 W' (w.heap.size + 1 + 1) S = ((W'.setCell ⟨w.heap.size + 1 + 1, 0, none⟩ (.int .u64 sh)).setCell ⟨w.heap.size + 1 + 1, 1, none⟩ (.int .u64 sl)).setCell ⟨w.heap.size + 1 + 1, 2, none⟩ (.int .u64 sd) := by
      subst esh esl esd; rfl
    rw [← hw]
    have hK2 : (set3 W' (w.heap.size + 1 + 1) S).heap[D]? = some (.deferred (some [])) := (set3_keeps _ _ _).same D _ hK rfl
    obtain ⟨g0, g1, g2⟩ := (HBR.out.set S).cells
    have hc0 := cell_kept g0 (grownBy_putObj' _ D (.deferred none)) (fun r e => by cases e; exact ⟨_, hK2, rfl⟩)
    have hc1 := cell_kept g1 (grownBy_putObj' _ D (.deferred none)) (fun r e => by cases e; exact ⟨_, hK2, rfl⟩)
    have hc2 := cell_kept g2 (grownBy_putObj' _ D (.deferred none)) (fun r e => by cases e; exact ⟨_, hK2, rfl⟩)
    refine ⟨by simp, .inl ⟨_, _, rfl, run_takeDeferred hK2, ?_⟩⟩
    subst hS
    exact ⟨_, far_results rfl rfl hc0 hc1 hc2, rfl, (below_set3 hB1 (by omega) _).trans (belowK_b (w := w) (Nat.le_refl _) _ D _ _ (by omega) hK2 rfl rfl)⟩
  case stop =>
    rintro D c pre W hD _ hF hK
    exact hF.elim
def faP (n : Nat) (X Y : Nat → Int) (px py : Int) : Nat × Nat := if Rg.hasN n X Y px py then (0, 1) else faW n X Y px py (List.range n)
theorem c_FarA (w : World) (h : Pts w v n X Y) (h0 : (Rg.ringC n X Y).1 = 0) (hp : nearB px py = true) :
    Calls Tryz.prog 46 #[.agg #[.int .i64 4, v], .agg #[.int .i64 px, .int .i64 py]] w fun e w' => e = .returned (dV (faP n X Y px py)) ∧ Gr w w' := by
  unfold faP
  cases hh : Rg.hasN n X Y px py
  · rw [if_neg (by decide)]; exact c_Far_out w h h0 hp hh
  · rw [if_pos rfl]; exact c_Far_in w h h0 hp hh
end
end Go.Proofs.YtfobmlgpjhghdaaGreatDoor
namespace Go.Proofs.YtfobmlgpjhghdaaGreatDoor
set_option linter.unusedVariables false
set_option linter.unusedSimpArgs false
open Go.ChangeShapes Go.WideShapes Go.ChangeAt Go.RowKit
section
variable {x y : Int}
theorem mv_minZ (a b : Int) : minZ (a + x) (b + x) = minZ a b + x := by unfold minZ; split <;> split <;> omega
theorem mv_maxZ (a b : Int) : maxZ (a + x) (b + x) = maxZ a b + x := by unfold maxZ; split <;> split <;> omega
theorem mv_mnN (F : Nat → Int) : ∀ n, 1 ≤ n → mnN (fun k => F k + x) n = mnN F n + x := by
  intro n
  induction n with
  | zero => intro h; omega
  | succ n ih =>
    intro _
    by_cases h : n = 0
    · rw [mnN_0 _ h, mnN_0 _ h]
    · rw [mnN_s _ h, mnN_s _ h, ih (by omega), mv_minZ]
theorem mv_mxN (F : Nat → Int) : ∀ n, 1 ≤ n → mxN (fun k => F k + x) n = mxN F n + x := by
  intro n
  induction n with
  | zero => intro h; omega
  | succ n ih =>
    intro _
    by_cases h : n = 0
    · rw [mxN_0 _ h, mxN_0 _ h]
    · rw [mxN_s _ h, mxN_s _ h, ih (by omega), mv_maxZ]
theorem mv_inB (lx ly hx hy px py : Int) : inB (lx + x) (ly + y) (hx + x) (hy + y) (px + x) (py + y) = inB lx ly hx hy px py := by
  unfold inB; simp only [Int.add_le_add_iff_right]
theorem mv_inV {lx ly hx hy mx my nx ny : Int} (h1 : boxB lx ly hx hy = true) (h2 : boxB (lx + x) (ly + y) (hx + x) (hy + y) = true) (h3 : boxB mx my nx ny = true) (h4 : boxB (mx + x) (my + y) (nx + x) (ny + y) = true) :
    inV (lx + x) (ly + y) (hx + x) (hy + y) (mx + x) (my + y) (nx + x) (ny + y) = inV lx ly hx hy mx my nx ny := by
  unfold inV; rw [h1, h2, h3, h4, mv_inB, mv_inB]
theorem mv_meV {lx ly hx hy mx my nx ny : Int} (h1 : boxB lx ly hx hy = true) (h2 : boxB (lx + x) (ly + y) (hx + x) (hy + y) = true) (h3 : boxB mx my nx ny = true) (h4 : boxB (mx + x) (my + y) (nx + x) (ny + y) = true) :
    meV (lx + x) (ly + y) (hx + x) (hy + y) (mx + x) (my + y) (nx + x) (ny + y) = meV lx ly hx hy mx my nx ny := by
  unfold meV; rw [h1, h2, h3, h4]; simp only [Int.add_le_add_iff_right]
theorem mv_ovB (lx ly hx hy ax ay bx by' : Int) : ovB (lx + x) (ly + y) (hx + x) (hy + y) (ax + x) (ay + y) (bx + x) (by' + y) = ovB lx ly hx hy ax ay bx by' := by
  unfold ovB; simp only [mv_minZ, mv_maxZ, Int.add_le_add_iff_right]
theorem mv_mbF (lx ly hx hy ax ay bx by' : Int) : mbF (ax + x) (ay + y) (bx + x) (by' + y) (lx + x) (ly + y) (hx + x) (hy + y) = mbF ax ay bx by' lx ly hx hy := by
  unfold mbF diF; rw [mv_ovB, mv_inB, mv_inB, Rg.mv_me, Rg.mv_me]
theorem box_pt {px py : Int} (h : nearB px py = true) : boxB px py px py = true := boxB_iff.2 ⟨⟨h, h⟩, Int.le_refl _, Int.le_refl _⟩
theorem box_lo {lx ly hx hy : Int} (h : boxB lx ly hx hy = true) : nearB lx ly = true := (boxB_iff.1 h).1.1
theorem nx_lt {n k : Nat} (hk : k < n) : Rg.nx1 n k < n := by unfold Rg.nx1; split <;> omega
theorem any_congr {f g : Nat → Bool} : ∀ {l : List Nat}, (∀ k ∈ l, f k = g k) → l.any f = l.any g := by
  intro l
  induction l with
  | nil => intro _; rfl
  | cons a l ih => intro h; rw [List.any_cons, List.any_cons, h a (List.mem_cons_self ..), ih (fun k hk => h k (List.mem_cons_of_mem _ hk))]
section
variable {n : Nat} {X Y : Nat → Int} (h1 : ∀ k, k < n → nearB (X k) (Y k) = true) (h2 : ∀ k, k < n → nearB (X k + x) (Y k + y) = true)
include h1 h2
theorem mv_mbW {lx ly hx hy : Int} (hb : boxB lx ly hx hy = true) (hb' : boxB (lx + x) (ly + y) (hx + x) (hy + y) = true) : mbW n (fun k => X k + x) (fun k => Y k + y) (lx + x) (ly + y) (hx + x) (hy + y) (List.range n) = mbW n X Y lx ly hx hy (List.range n) := by
  unfold mbW
  refine any_congr fun k hk => ?_
  have hk := List.mem_range.1 hk
  unfold mbG
  rw [h1 k hk, h1 _ (nx_lt hk), h2 k hk, h2 _ (nx_lt hk), hb, hb', mv_mbF]
theorem mv_rmV {lx ly hx hy : Int} (hn : 1 ≤ n) (hr : boxB (mnN X n) (mnN Y n) (mxN X n) (mxN Y n) = true) (hr' : boxB (mnN X n + x) (mnN Y n + y) (mxN X n + x) (mxN Y n + y) = true) (hb : boxB lx ly hx hy = true) (hb' : boxB (lx + x) (ly + y) (hx + x) (hy + y) = true) : rmV n (fun k => X k + x) (fun k => Y k + y) (lx + x) (ly + y) (hx + x) (hy + y) = rmV n X Y lx ly hx hy := by
  unfold rmV arM rmbV
  rw [mv_mnN X n hn, mv_mnN Y n hn, mv_mxN X n hn, mv_mxN Y n hn, hb, hb', hr, hr', mv_mbW h1 h2 hb hb', box_lo hb, box_lo hb', Rg.mv_has h1 h2 (box_lo hb) (box_lo hb')]
  simp only [Int.add_le_add_iff_right]
theorem mv_emW {px py qx qy : Int} (hp : nearB px py = true) (hp' : nearB (px + x) (py + y) = true) (hq : nearB qx qy = true) (hq' : nearB (qx + x) (qy + y) = true) : emW n (fun k => X k + x) (fun k => Y k + y) (px + x) (py + y) (qx + x) (qy + y) (List.range n) = emW n X Y px py qx qy (List.range n) := by
  unfold emW
  refine any_congr fun k hk => ?_
  have hk := List.mem_range.1 hk
  unfold meG all4
  rw [h1 k hk, h1 _ (nx_lt hk), h2 k hk, h2 _ (nx_lt hk), hp, hp', hq, hq', Rg.mv_me]
theorem mv_sdG {px py : Int} (hp : nearB px py = true) (hp' : nearB (px + x) (py + y) = true) {k : Nat} (hk : k < n) : faD n (fun k => X k + x) (fun k => Y k + y) (px + x) (py + y) k = faD n X Y px py k := by
  unfold faD sdG
  rw [h1 k hk, h1 _ (nx_lt hk), h2 k hk, h2 _ (nx_lt hk), hp, hp']
  have e1 : ∀ ax ay bx by' : Int, sqZ (ax + x) (ay + y) (bx + x) (by' + y) = sqZ ax ay bx by' := fun ax ay bx by' => by unfold sqZ; grind
  have e2 : ∀ ax ay bx by' px py : Int, alZ (ax + x) (ay + y) (bx + x) (by' + y) (px + x) (py + y) = alZ ax ay bx by' px py := fun ax ay bx by' px py => by unfold alZ; grind
  unfold sdN sdD
  simp only [e1, e2, Rg.mv_cr]
theorem mv_faW {px py : Int} (hp : nearB px py = true) (hp' : nearB (px + x) (py + y) = true) : ∀ m, m ≤ n → faW n (fun k => X k + x) (fun k => Y k + y) (px + x) (py + y) (List.range m) = faW n X Y px py (List.range m) := by
  intro m
  induction m with
  | zero => intro _; rfl
  | succ m ih => intro hm; rw [List.range_succ, faW_snoc, faW_snoc, ih (by omega), mv_sdG h1 h2 hp hp' (by omega)]
theorem mv_faP {px py : Int} (hp : nearB px py = true) (hp' : nearB (px + x) (py + y) = true) : faP n (fun k => X k + x) (fun k => Y k + y) (px + x) (py + y) = faP n X Y px py := by
  unfold faP
  rw [Rg.mv_has h1 h2 hp hp', mv_faW h1 h2 hp hp' n (Nat.le_refl _)]
theorem mv_rgV {m : Nat} {P Q : Nat → Int} (k1 : ∀ k, k < m → nearB (P k) (Q k) = true) (k2 : ∀ k, k < m → nearB (P k + x) (Q k + y) = true) (hn : 1 ≤ n) (hm : 1 ≤ m)
    (hr : boxB (mnN X n) (mnN Y n) (mxN X n) (mxN Y n) = true) (hr' : boxB (mnN X n + x) (mnN Y n + y) (mxN X n + x) (mxN Y n + y) = true) (hb : boxB (mnN P m) (mnN Q m) (mxN P m) (mxN Q m) = true) (hb' : boxB (mnN P m + x) (mnN Q m + y) (mxN P m + x) (mxN Q m + y) = true) :
    rgV n (fun k => X k + x) (fun k => Y k + y) m (fun k => P k + x) (fun k => Q k + y) = rgV n X Y m P Q := by
  have e : rmW n (fun k => X k + x) (fun k => Y k + y) m (fun k => P k + x) (fun k => Q k + y) (mnN P m + x) (mnN Q m + y) (mxN P m + x) (mxN Q m + y) (List.range n) = rmW n X Y m P Q (mnN P m) (mnN Q m) (mxN P m) (mxN Q m) (List.range n) := by
    unfold rmW
    refine any_congr fun k hk => ?_
    have hk := List.mem_range.1 hk
    unfold rmE mbG
    rw [h1 k hk, h1 _ (nx_lt hk), h2 k hk, h2 _ (nx_lt hk), hb, hb', mv_mbF, mv_emW k1 k2 (h1 k hk) (h2 k hk) (h1 _ (nx_lt hk)) (h2 _ (nx_lt hk))]
  unfold rgV arM
  rw [mv_mnN X n hn, mv_mnN Y n hn, mv_mxN X n hn, mv_mxN Y n hn, mv_mnN P m hm, mv_mnN Q m hm, mv_mxN P m hm, mv_mxN Q m hm, hb, hb', hr, hr', e, h1 0 hn, h2 0 hn, k1 0 hm, k2 0 hm, Rg.mv_has h1 h2 (k1 0 hm) (k2 0 hm), Rg.mv_has k1 k2 (h1 0 hn) (h2 0 hn)]
  simp only [Int.add_le_add_iff_right]
end
theorem mv_distZ (lx ly hx hy px py : Int) : distZ (lx + x) (ly + y) (hx + x) (hy + y) (px + x) (py + y) = distZ lx ly hx hy px py := by
  have e : ∀ a b c d : Int, beyZ (a + d) (b + d) (c + d) = beyZ a b c := fun a b c d => by unfold beyZ; split <;> split <;> (try split) <;> omega
  unfold distZ; rw [e, e]
end
theorem near_box {n : Nat} {X Y : Nat → Int} (h : ∀ k, k < n → nearB (X k) (Y k) = true) (hn : 1 ≤ n) : boxB (mnN X n) (mnN Y n) (mxN X n) (mxN Y n) = true := by
  have key : ∀ m, 1 ≤ m → m ≤ n → ((-1073741823 ≤ mnN X m ∧ mnN X m ≤ mxN X m) ∧ mxN X m ≤ 1073741823) ∧ ((-1073741823 ≤ mnN Y m ∧ mnN Y m ≤ mxN Y m) ∧ mxN Y m ≤ 1073741823) := by
    intro m
    induction m with
    | zero => intro h; omega
    | succ m ih =>
      intro _ hm
      have b := Rg.nearB_iff'.1 (h m (by omega))
      by_cases h0 : m = 0
      · rw [mnN_0 _ h0, mnN_0 _ h0, mxN_0 _ h0, mxN_0 _ h0]; omega
      · have i := ih (by omega) (by omega)
        rw [mnN_s _ h0, mnN_s _ h0, mxN_s _ h0, mxN_s _ h0]
        unfold minZ maxZ
        refine ⟨⟨⟨?_, ?_⟩, ?_⟩, ⟨⟨?_, ?_⟩, ?_⟩⟩ <;> (repeat split) <;> omega
  have k := key n hn (Nat.le_refl _)
  exact boxB_iff.2 ⟨⟨Rg.nearB_iff'.2 (by omega), Rg.nearB_iff'.2 (by omega)⟩, by omega, by omega⟩
end Go.Proofs.YtfobmlgpjhghdaaGreatDoor
namespace Go.Proofs.YtfobmlgpjhghdaaGreatDoor
set_option linter.unusedVariables false
set_option linter.unusedSimpArgs false
open Go.ChangeShapes Go.WideShapes Go.ChangeAt Go.RowKit
def oLy (k : Int) (Y : Nat → Int) : Int := if k = 2 then 0 else Y 0
def oHx (k : Int) (X Y : Nat → Int) : Int := if k = 3 then X 1 else if k = 2 then Y 0 else X 0
def oHy (k : Int) (Y : Nat → Int) : Int := if k = 3 then Y 1 else if k = 2 then 0 else Y 0
def maA (k : Int) (n : Nat) (X Y : Nat → Int) (kq qlx qly qhx qhy : Int) (m : Nat) (P Q : Nat → Int) : Bool := if k = 4 then mpV n X Y kq qlx qly qhx qhy m P Q else msV (X 0) (oLy k Y) (oHx k X Y) (oHy k Y) kq qlx qly qhx qhy m P Q
def diA (k : Int) (n : Nat) (X Y : Nat → Int) (px py : Int) : Nat × Nat := if k = 4 then faP n X Y px py else ((distZ (X 0) (oLy k Y) (oHx k X Y) (oHy k Y) px py).toNat, 1)
theorem obj_box {k : Int} {n : Nat} {X Y : Nat → Int} (h : objC k n X Y = 0) (h4 : k ≠ 4) : (k = 1 ∧ n = 1 ∨ k = 2 ∧ n = 1 ∨ k = 3 ∧ n = 2) ∧ objC k n X Y = boxN (X 0) (oLy k Y) (oHx k X Y) (oHy k Y) ∧ boxN (X 0) (oLy k Y) (oHx k X Y) (oHy k Y) = 0 := by
  have e : objC k n X Y = 0 := h
  unfold objC at e
  rw [if_neg h4] at e
  by_cases k3 : k = 3
  · subst k3
    rw [if_pos rfl] at e
    by_cases hn : n = 2
    · subst hn
      rw [if_pos rfl] at e
      exact ⟨Or.inr (Or.inr ⟨rfl, rfl⟩), by rw [objC_3, if_pos rfl]; rfl, e⟩
    · rw [if_neg hn] at e; cases e
  rw [if_neg k3] at e
  by_cases k1 : k = 1
  · subst k1
    rw [if_pos rfl] at e
    by_cases hn : n = 1
    · subst hn
      rw [if_pos rfl] at e
      exact ⟨Or.inl ⟨rfl, rfl⟩, by rw [objC_1, if_pos rfl]; rfl, e⟩
    · rw [if_neg hn] at e; cases e
  rw [if_neg k1] at e
  by_cases k2 : k = 2
  · subst k2
    rw [if_pos rfl] at e
    by_cases hn : n = 1
    · subst hn
      rw [if_pos rfl] at e
      exact ⟨Or.inr (Or.inl ⟨rfl, rfl⟩), by rw [objC_2, if_pos rfl]; rfl, e⟩
    · rw [if_neg hn] at e; cases e
  rw [if_neg k2] at e
  cases e
theorem bl_of {W : World} {k : Int} {n : Nat} {X Y : Nat → Int} {v : Value} (hp : Pts W v n X Y) (h : objC k n X Y = 0) (h4 : k ≠ 4) : BL W k v (X 0) (oLy k Y) (oHx k X Y) (oHy k Y) := by
  obtain ⟨hk, he, -⟩ := obj_box h h4
  have hp0 := hp
  obtain ⟨ad, cap, B, off, rfl, q1, q2, q3, q4⟩ := hp
  rcases hk with ⟨rfl, rfl⟩ | ⟨rfl, rfl⟩ | ⟨rfl, rfl⟩
  · obtain rfl := q3 (by omega)
    obtain ⟨c0, c1⟩ := q4 0 (by omega)
    rw [Nat.zero_mul, Nat.add_zero] at c0 c1
    exact ⟨⟨Or.inl rfl, ⟨_, _, _, rfl⟩, fun w' g => c_frame_1 (X 0) (Y 0) B off cap w' (cell_gr g c0) (cell_gr g c1) (World.block_lt_of_cell? _ _ (cell_gr g c0))⟩, 1, X, Y, hp0, he⟩
  · obtain rfl := q3 (by omega)
    obtain ⟨c0, c1⟩ := q4 0 (by omega)
    rw [Nat.zero_mul, Nat.add_zero] at c0 c1
    exact ⟨⟨Or.inr (Or.inl rfl), ⟨_, _, _, rfl⟩, fun w' g => c_frame_2 (X 0) (Y 0) B off cap w' (cell_gr g c0) (cell_gr g c1) (World.block_lt_of_cell? _ _ (cell_gr g c0))⟩, 1, X, Y, hp0, he⟩
  · obtain rfl := q3 (by omega)
    obtain ⟨c0, c1⟩ := q4 0 (by omega)
    obtain ⟨c2, c3⟩ := q4 1 (by omega)
    rw [Nat.zero_mul, Nat.add_zero] at c0 c1
    rw [Nat.one_mul] at c2 c3
    exact ⟨⟨Or.inr (Or.inr rfl), ⟨_, _, _, rfl⟩, fun w' g => c_frame_3 (X 0) (Y 0) (X 1) (Y 1) B off cap w' (cell_gr g c0) (cell_gr g c1) (cell_gr g c2) (cell_gr g c3) (World.block_lt_of_cell? _ _ (cell_gr g c0))⟩, 2, X, Y, hp0, he⟩
theorem c_MatchAny {k : Int} {n : Nat} {X Y : Nat → Int} {v : Value} {m : Nat} {P Q : Nat → Int} {u : Value} (kq qlx qly qhx qhy : Int) (W : World) (hE : ErrT W) (h : Pts W v n X Y) (hc : objC k n X Y = 0) (hu : Pts W u m P Q) (hq : qC kq qlx qly qhx qhy m P Q = 0) :
    Calls Tryz.prog 13 #[.agg #[.int .i64 k, v], qryV kq qlx qly qhx qhy u] W fun e w' => e = .returned (.bool (maA k n X Y kq qlx qly qhx qhy m P Q)) ∧ Gr W w' := by
  unfold maA
  by_cases h4 : k = 4
  · subst h4
    rw [if_pos rfl]
    have C := c_MatchP kq qlx qly qhx qhy W hE h hu
    rw [objC_4] at hc
    rw [hc, hq] at C
    simpa using C
  · rw [if_neg h4]
    obtain ⟨-, -, e⟩ := obj_box hc h4
    have C := c_MatchO kq qlx qly qhx qhy W hE (bl_of h hc h4) hu
    unfold maV at C
    rw [e, hq] at C
    simpa using C
set_option maxHeartbeats 4000000 in
set_option maxRecDepth 100000 in
theorem dist_ok {k : Int} {n : Nat} {X Y : Nat → Int} {v : Value} (px py : Int) (dh dl dd : Nat) (W : World) (hE : ErrT W) (h : Pts W v n X Y) (hc : objC k n X Y = 0) (hp : nearB px py = true)
    (C3 : ∀ w, Gr W w → Calls Tryz.prog 46 #[.agg #[.int .i64 k, v], .agg #[.int .i64 px, .int .i64 py]] w fun e w' => e = .returned (.agg #[.int .u64 dh, .int .u64 dl, .int .u64 dd]) ∧ Gr w w') :
    Calls Tryz.prog 15 #[.agg #[.int .i64 k, v], .agg #[.int .i64 px, .int .i64 py]] W fun e w' => e = .returned (.agg #[.int .u64 dh, .int .u64 dl, .int .u64 dd]) ∧ Gr W w' := by
  have B2 := c_CheckPoint px py
  rw [hp, if_pos rfl] at B2
  have B4 : ∀ (w : World) (D : Nat) (x : Value) (q : Bool), Gr W w → w.cell? ⟨D, 0, none⟩ = some x → NF x → (q = true ↔ x = .nilIface) → Calls Tryz.prog 39 #[.slice (some ⟨D, 0, none⟩) 1 1] w fun e w' => e = .returned (.bool q) ∧ Gr w w' := fun w D x q g h0 n0 hq =>
    c_allowed (D := D) (n := 1) (cap := 1) (e := fun _ => x) w (errT_gr hE g) (by omega) (fun k hk => by match k, hk with | 0, _ => exact h0) (fun k hk => n0) (World.block_lt_of_cell? _ _ h0) (Nat.le_refl _) q (by
      rw [hq]
      exact ⟨fun a k _ => a, fun h => h 0 (by omega)⟩)
  have C1 : ∀ w, Gr W w → Calls Tryz.prog 34 #[.agg #[.int .i64 k, v]] w fun e w' => e = .returned .nilIface ∧ Gr w w' := fun w g => (c_relCheck k w (pts_gr h g)).mono (by
    rintro e w' ⟨x, rfl, hx, g'⟩
    rw [hc] at hx
    obtain rfl := (werr_nf hx).2.2 rfl
    exact ⟨rfl, g'⟩)
  obtain ⟨ad, cap, _, _, rfl, -⟩ := h
  have H1 := Lib.hid C1
  have H2 := Lib.hid B2
  have H3 := Lib.hid C3
  have H4 := Lib.hid B4
  clear C1 B2 C3 B4
  clear hp hc hE
  go_enter Tryz.func15, Tryz.ntmps15
  go_wp2_with fail
  go_at_call 34
  refine ((H1.out _ (by go_grown))).mono ?_
  rintro e w1 ⟨rfl, hw1⟩
  have cw1_0_0 := ci hw1 (W.heap.size) 0 k (by go_simp)
  have cw1_0_1 := cg hw1 (W.heap.size) 1 (.slice ad n cap) (by go_simp)
  have zw1_0 := zb cw1_0_0
  have cw1_1_0 := ci hw1 (W.heap.size + 1) 0 px (by go_simp)
  have cw1_1_1 := ci hw1 (W.heap.size + 1) 1 py (by go_simp)
  have zw1_1 := zb cw1_1_0
  have cw1_2_0 := cu hw1 (W.heap.size + 1 + 1) 0 0 (by go_simp)
  have fw1_2_0 := fq hw1 (W.heap.size + 1 + 1) 0 (.int .u64 0) (by go_simp) (by go_simp)
  have cw1_2_1 := cu hw1 (W.heap.size + 1 + 1) 1 0 (by go_simp)
  have fw1_2_1 := fq hw1 (W.heap.size + 1 + 1) 1 (.int .u64 0) (by go_simp) (by go_simp)
  have cw1_2_2 := cu hw1 (W.heap.size + 1 + 1) 2 0 (by go_simp)
  have fw1_2_2 := fq hw1 (W.heap.size + 1 + 1) 2 (.int .u64 0) (by go_simp) (by go_simp)
  have zw1_2 := zb cw1_2_0
  have gw1 : Gr W w1 := Gr.trans (by go_grown) hw1
  clear hw1
  go_wp2_with fail
  go_at_call 39
  refine ((H4.out _ _ _ true (by have gg := gw1; have gs := gg.size; go_grown) (by go_simp) nf_nil (by simp))).mono ?_
  rintro e w2 ⟨rfl, hw2⟩
  have cw2_0_0 := ci hw2 (W.heap.size) 0 k (by go_simp)
  have cw2_0_1 := cg hw2 (W.heap.size) 1 (.slice ad n cap) (by go_simp)
  have cw2_1_0 := ci hw2 (W.heap.size + 1) 0 px (by go_simp)
  have cw2_1_1 := ci hw2 (W.heap.size + 1) 1 py (by go_simp)
  have cw2_2_0 := cu hw2 (W.heap.size + 1 + 1) 0 0 (by go_simp)
  have fw2_2_0 := fq hw2 (W.heap.size + 1 + 1) 0 (.int .u64 0) (by go_simp) (by go_simp)
  have cw2_2_1 := cu hw2 (W.heap.size + 1 + 1) 1 0 (by go_simp)
  have fw2_2_1 := fq hw2 (W.heap.size + 1 + 1) 1 (.int .u64 0) (by go_simp) (by go_simp)
  have cw2_2_2 := cu hw2 (W.heap.size + 1 + 1) 2 0 (by go_simp)
  have fw2_2_2 := fq hw2 (W.heap.size + 1 + 1) 2 (.int .u64 0) (by go_simp) (by go_simp)
  have gw2 : Gr W w2 := Gr.trans (by have gg := gw1; have gs := gg.size; go_grown) hw2
  clear hw2 gw1 zw1_0 cw1_0_0 cw1_0_1 zw1_1 cw1_1_0 cw1_1_1 zw1_2 cw1_2_0 fw1_2_0 cw1_2_1 fw1_2_1 cw1_2_2 fw1_2_2
  go_wp2_with fail
  go_at_call 45
  refine ((H2.out _)).mono ?_
  rintro e w3 ⟨rfl, hw3⟩
  have cw3_0_0 := ci hw3 (W.heap.size) 0 k (by go_simp)
  have cw3_0_1 := cg hw3 (W.heap.size) 1 (.slice ad n cap) (by go_simp)
  have cw3_1_0 := ci hw3 (W.heap.size + 1) 0 px (by go_simp)
  have cw3_1_1 := ci hw3 (W.heap.size + 1) 1 py (by go_simp)
  have cw3_2_0 := cu hw3 (W.heap.size + 1 + 1) 0 0 (by go_simp)
  have fw3_2_0 := fq hw3 (W.heap.size + 1 + 1) 0 (.int .u64 0) (by go_simp) (by go_simp)
  have cw3_2_1 := cu hw3 (W.heap.size + 1 + 1) 1 0 (by go_simp)
  have fw3_2_1 := fq hw3 (W.heap.size + 1 + 1) 1 (.int .u64 0) (by go_simp) (by go_simp)
  have cw3_2_2 := cu hw3 (W.heap.size + 1 + 1) 2 0 (by go_simp)
  have fw3_2_2 := fq hw3 (W.heap.size + 1 + 1) 2 (.int .u64 0) (by go_simp) (by go_simp)
  have gw3 : Gr W w3 := Gr.trans (by have gg := gw2; have gs := gg.size; go_grown) hw3
  clear hw3 gw2 cw2_0_0 cw2_0_1 cw2_1_0 cw2_1_1 cw2_2_0 fw2_2_0 cw2_2_1 fw2_2_1 cw2_2_2 fw2_2_2
  go_wp2_with fail
  go_at_call 46
  refine ((H3.out _ (by have gg := gw3; have gs := gg.size; go_grown))).mono ?_
  rintro e w4 ⟨rfl, hw4⟩
  have cw4_2_0 := cu hw4 (W.heap.size + 1 + 1) 0 0 (by go_simp)
  have fw4_2_0 := fq hw4 (W.heap.size + 1 + 1) 0 (.int .u64 0) (by go_simp) (by go_simp)
  have cw4_2_1 := cu hw4 (W.heap.size + 1 + 1) 1 0 (by go_simp)
  have fw4_2_1 := fq hw4 (W.heap.size + 1 + 1) 1 (.int .u64 0) (by go_simp) (by go_simp)
  have cw4_2_2 := cu hw4 (W.heap.size + 1 + 1) 2 0 (by go_simp)
  have fw4_2_2 := fq hw4 (W.heap.size + 1 + 1) 2 (.int .u64 0) (by go_simp) (by go_simp)
  have gw4 : Gr W w4 := Gr.trans (by have gg := gw3; have gs := gg.size; go_grown) hw4
  clear hw4 gw3 cw3_0_0 cw3_0_1 cw3_1_0 cw3_1_1 cw3_2_0 fw3_2_0 cw3_2_1 fw3_2_1 cw3_2_2 fw3_2_2
  go_wp2_with fail
  refine bodyPost_ret (v := .agg #[.int .u64 dh, .int .u64 dl, .int .u64 dd]) (by simp [results, Tryz.results15, go_sem, *]) rfl ⟨rfl, by go_grown⟩
theorem distZ_lt {lx ly hx hy px py : Int} (hb : boxB lx ly hx hy = true) (hp : nearB px py = true) : 0 ≤ distZ lx ly hx hy px py ∧ distZ lx ly hx hy px py < 18446744073709551616 := by
  obtain ⟨⟨a, b⟩, c, d⟩ := boxB_iff.1 hb
  have a := Rg.nearB_iff'.1 a
  have b := Rg.nearB_iff'.1 b
  have p := Rg.nearB_iff'.1 hp
  have e : ∀ lo hi v : Int, lo ≤ hi → -1073741823 ≤ lo → hi ≤ 1073741823 → -1073741823 ≤ v → v ≤ 1073741823 → 0 ≤ beyZ lo hi v * beyZ lo hi v ∧ beyZ lo hi v * beyZ lo hi v ≤ 2147483646 * 2147483646 := fun lo hi v h1 h2 h3 h4 h5 => by
    have hb : 0 ≤ beyZ lo hi v ∧ beyZ lo hi v ≤ 2147483646 := by unfold beyZ; split <;> (try split) <;> omega
    exact ⟨Int.mul_nonneg hb.1 hb.1, Int.mul_le_mul hb.2 hb.2 hb.1 (by omega)⟩
  have e1 := e lx hx px c (by omega) (by omega) (by omega) (by omega)
  have e2 := e ly hy py d (by omega) (by omega) (by omega) (by omega)
  unfold distZ
  omega
theorem c_DistAny {k : Int} {n : Nat} {X Y : Nat → Int} {v : Value} (px py : Int) (W : World) (hE : ErrT W) (h : Pts W v n X Y) (hc : objC k n X Y = 0) (hp : nearB px py = true) :
    Calls Tryz.prog 15 #[.agg #[.int .i64 k, v], .agg #[.int .i64 px, .int .i64 py]] W fun e w' => e = .returned (dV (diA k n X Y px py)) ∧ Gr W w' := by
  refine dist_ok px py _ _ _ W hE h hc hp fun w g => ?_
  unfold diA
  by_cases h4 : k = 4
  · subst h4
    rw [if_pos rfl]
    rw [objC_4] at hc
    exact c_FarA w (pts_gr h g) hc hp
  · rw [if_neg h4]
    obtain ⟨-, -, e⟩ := obj_box hc h4
    have hb := boxN_0.1 e
    obtain ⟨d0, d1⟩ := distZ_lt hb hp
    have C := c_FarB w (bl_gr (bl_of h hc h4) g).1 hb hp
    generalize distZ (X 0) (oLy k Y) (oHx k X Y) (oHy k Y) px py = z at C d0 d1 ⊢
    obtain ⟨m, rfl⟩ := Int.eq_ofNat_of_zero_le d0
    have e1 : m / 18446744073709551616 = 0 := by omega
    have e2 : m % 18446744073709551616 = m := by omega
    show Calls _ _ _ _ _
    simp only [Int.toNat_natCast, e1, e2]
    exact C
end Go.Proofs.YtfobmlgpjhghdaaGreatDoor
namespace Go.Proofs.YtfobmlgpjhghdaaGreatDoor
set_option linter.unusedVariables false
set_option linter.unusedSimpArgs false
open Go.ChangeShapes Go.WideShapes Go.ChangeAt Go.RowKit
theorem qC_cases {kq a b c d : Int} {m : Nat} {P Q : Nat → Int} (h : qC kq a b c d m P Q = 0) : (kq = 1 ∧ boxB a b c d = true) ∨ (kq = 2 ∧ boxB a b c d = true) ∨ (kq = 3 ∧ nearB a b = true) ∨ (kq = 4 ∧ (Rg.ringC m P Q).1 = 0) := by
  unfold qC at h
  by_cases h1 : kq = 1 ∨ kq = 2
  · rw [if_pos h1] at h
    have hb := boxN_0.1 h
    rcases h1 with h1 | h1
    · exact Or.inl ⟨h1, hb⟩
    · exact Or.inr (Or.inl ⟨h1, hb⟩)
  rw [if_neg h1] at h
  by_cases h3 : kq = 3
  · rw [if_pos h3] at h
    by_cases hn : nearB a b = true
    · exact Or.inr (Or.inr (Or.inl ⟨h3, hn⟩))
    · rw [if_neg hn] at h; cases h
  rw [if_neg h3] at h
  by_cases h4 : kq = 4
  · rw [if_pos h4] at h; exact Or.inr (Or.inr (Or.inr ⟨h4, h⟩))
  rw [if_neg h4] at h
  cases h
section
variable {x y : Int}
theorem mv_oBox {k : Int} {X Y : Nat → Int} (hk : k ≠ 2) : oLy k (fun i => Y i + y) = oLy k Y + y ∧ oHx k (fun i => X i + x) (fun i => Y i + y) = oHx k X Y + x ∧ oHy k (fun i => Y i + y) = oHy k Y + y := by
  unfold oLy oHx oHy
  simp only [if_neg hk]
  by_cases k3 : k = 3
  · simp [k3]
  · simp [k3]
theorem mv_maA {k : Int} {n : Nat} {X Y : Nat → Int} {kq a b c d a' b' c' d' : Int} {m : Nat} {P Q P' Q' : Nat → Int} (hk : k ≠ 2) (hc : objC k n X Y = 0) (hc' : objC k n (fun i => X i + x) (fun i => Y i + y) = 0) (hq : qC kq a b c d m P Q = 0) (hq' : qC kq a' b' c' d' m P' Q' = 0)
    (r1 : kq = 1 ∨ kq = 2 → a' = a + x ∧ b' = b + y ∧ c' = c + x ∧ d' = d + y) (r3 : kq = 3 → a' = a + x ∧ b' = b + y) (r4 : kq = 4 → P' = (fun i => P i + x) ∧ Q' = (fun i => Q i + y)) :
    maA k n (fun i => X i + x) (fun i => Y i + y) kq a' b' c' d' m P' Q' = maA k n X Y kq a b c d m P Q := by
  unfold maA
  by_cases h4 : k = 4
  · rw [if_pos h4, if_pos h4]
    subst h4
    rw [objC_4] at hc hc'
    obtain ⟨s1, h1, -, -⟩ := Rg.ringC_ok hc
    obtain ⟨-, h2, -, -⟩ := Rg.ringC_ok hc'
    have hn : 1 ≤ n := by omega
    have hr := near_box h1 hn
    have hr' := near_box h2 hn
    rw [mv_mnN X n hn, mv_mnN Y n hn, mv_mxN X n hn, mv_mxN Y n hn] at hr'
    unfold mpV
    rcases qC_cases hq with ⟨rfl, hb⟩ | ⟨rfl, hb⟩ | ⟨rfl, hb⟩ | ⟨rfl, hb⟩ <;> rcases qC_cases hq' with ⟨e, hb'⟩ | ⟨e, hb'⟩ | ⟨e, hb'⟩ | ⟨e, hb'⟩ <;> (first | (exfalso; revert e; decide) | skip)
    · obtain ⟨rfl, rfl, rfl, rfl⟩ := r1 (Or.inl rfl)
      rw [if_neg (by decide), if_neg (by decide), if_neg (by decide), if_neg (by decide), if_neg (by decide), if_neg (by decide)]
      exact mv_rmV h1 h2 hn hr hr' hb hb'
    · obtain ⟨rfl, rfl, rfl, rfl⟩ := r1 (Or.inr rfl)
      rw [if_pos rfl, if_pos rfl, mv_mnN X n hn, mv_mnN Y n hn, mv_mxN X n hn, mv_mxN Y n hn]
      exact mv_inV hr hr' hb hb'
    · obtain ⟨rfl, rfl⟩ := r3 rfl
      rw [if_neg (by decide), if_pos rfl, if_neg (by decide), if_pos rfl]
      exact mv_rmV h1 h2 hn hr hr' (box_pt hb) (box_pt hb')
    · obtain ⟨rfl, rfl⟩ := r4 rfl
      obtain ⟨s2, k1, -, -⟩ := Rg.ringC_ok hb
      obtain ⟨-, k2, -, -⟩ := Rg.ringC_ok hb'
      have hm : 1 ≤ m := by omega
      have hs := near_box k1 hm
      have hs' := near_box k2 hm
      rw [mv_mnN P m hm, mv_mnN Q m hm, mv_mxN P m hm, mv_mxN Q m hm] at hs'
      rw [if_neg (by decide), if_neg (by decide), if_pos rfl, if_neg (by decide), if_neg (by decide), if_pos rfl]
      exact mv_rgV h1 h2 k1 k2 hn hm hr hr' hs hs'
  · rw [if_neg h4, if_neg h4]
    obtain ⟨-, -, e0⟩ := obj_box hc h4
    obtain ⟨-, -, e1⟩ := obj_box hc' h4
    have hr := boxN_0.1 e0
    have hr' := boxN_0.1 e1
    obtain ⟨o1, o2, o3⟩ := mv_oBox (x := x) (y := y) (X := X) (Y := Y) hk
    rw [o1, o2, o3] at hr' ⊢
    unfold msV
    rcases qC_cases hq with ⟨rfl, hb⟩ | ⟨rfl, hb⟩ | ⟨rfl, hb⟩ | ⟨rfl, hb⟩ <;> rcases qC_cases hq' with ⟨e, hb'⟩ | ⟨e, hb'⟩ | ⟨e, hb'⟩ | ⟨e, hb'⟩ <;> (first | (exfalso; revert e; decide) | skip)
    · obtain ⟨rfl, rfl, rfl, rfl⟩ := r1 (Or.inl rfl)
      rw [if_neg (by decide), if_neg (by decide), if_neg (by decide), if_neg (by decide), if_neg (by decide), if_neg (by decide)]
      exact mv_meV hr hr' hb hb'
    · obtain ⟨rfl, rfl, rfl, rfl⟩ := r1 (Or.inr rfl)
      rw [if_pos rfl, if_pos rfl]
      exact mv_inV hr hr' hb hb'
    · obtain ⟨rfl, rfl⟩ := r3 rfl
      rw [if_neg (by decide), if_pos rfl, if_neg (by decide), if_pos rfl]
      exact mv_meV hr hr' (box_pt hb) (box_pt hb')
    · obtain ⟨rfl, rfl⟩ := r4 rfl
      obtain ⟨s2, k1, -, -⟩ := Rg.ringC_ok hb
      obtain ⟨-, k2, -, -⟩ := Rg.ringC_ok hb'
      have hm : 1 ≤ m := by omega
      have hs := near_box k1 hm
      have hs' := near_box k2 hm
      rw [mv_mnN P m hm, mv_mnN Q m hm, mv_mxN P m hm, mv_mxN Q m hm] at hs'
      rw [if_neg (by decide), if_neg (by decide), if_pos rfl, if_neg (by decide), if_neg (by decide), if_pos rfl]
      exact mv_rmV k1 k2 hm hs hs' hr hr'
theorem mv_diA {k : Int} {n : Nat} {X Y : Nat → Int} {px py : Int} (hk : k ≠ 2) (hc : objC k n X Y = 0) (hc' : objC k n (fun i => X i + x) (fun i => Y i + y) = 0) (hp : nearB px py = true) (hp' : nearB (px + x) (py + y) = true) :
    diA k n (fun i => X i + x) (fun i => Y i + y) (px + x) (py + y) = diA k n X Y px py := by
  unfold diA
  by_cases h4 : k = 4
  · rw [if_pos h4, if_pos h4]
    subst h4
    rw [objC_4] at hc hc'
    exact mv_faP (Rg.ringC_ok hc).2.1 (Rg.ringC_ok hc').2.1 hp hp'
  · rw [if_neg h4, if_neg h4]
    obtain ⟨o1, o2, o3⟩ := mv_oBox (x := x) (y := y) (X := X) (Y := Y) hk
    rw [o1, o2, o3, mv_distZ]
end
end Go.Proofs.YtfobmlgpjhghdaaGreatDoor
namespace Go.Proofs.YtfobmlgpjhghdaaGreatDoor
set_option linter.unusedVariables false
set_option linter.unusedSimpArgs false
open Go.ChangeShapes Go.WideShapes Go.ChangeAt Go.RowKit
theorem addr_addO (b off n : Nat) : (⟨b, off, none⟩ : Addr).add n = ⟨b, off + n, none⟩ := by
  unfold Addr.add; split <;> simp_all
section
variable {H : Type} {enc : TypeId × Value → H} {P : Program} {w : World} {base : Nat} {sp : Nat → Bool} {held : Bool} {r : Reach} {b0 : Nat}
theorem spot_cell {a : Addr} {v : Value} (h : w.cell? a = some v) : a.spot = none := by
  unfold World.cell? at h
  split at h
  · split at h
    · cases h
    · rename_i hs; simpa using hs
  · cases h
theorem cells2s {a : Addr} {x0 x1 : Value} (h : w.cells? base a 2 = some [x0, x1]) : w.cell? (a.add 0) = some x0 ∧ w.cell? (a.add 1) = some x1 := by
  unfold World.cells? at h
  split at h
  · rw [show List.range 2 = [0, 1] from rfl] at h
    simp only [List.mapM_cons, List.mapM_nil] at h
    obtain ⟨y0, h0, h⟩ := Option.bind_eq_some_iff.1 h
    obtain ⟨t0, h, e0⟩ := Option.bind_eq_some_iff.1 h
    obtain ⟨y1, h1, h⟩ := Option.bind_eq_some_iff.1 h
    obtain ⟨t1, h, e1⟩ := Option.bind_eq_some_iff.1 h
    cases h
    cases e1
    cases e0
    exact ⟨h0, h1⟩
  · cases h
theorem trod_ptsC {t p u : TypeId} {G0 G1 : Field} {x : Value} {fuel : Nat} {y : DataW H × List MemPlace} (ht : P.underlying t = some (.slice p)) (hp : P.underlying p = some (.struct #[G0, G1])) (hu : P.underlying u = some (.int .i64))
    (hG0 : G0.type = u ∧ G0.offset = 0) (hG1 : G1.type = u ∧ G1.offset = 1) (cp : P.cellsOf p = 2) (cu : P.cellsOf u = 1)
    (hd : DataW.trod enc P w base sp held fuel t [x] = some y) : ∃ (n : Nat) (X Y : Nat → Int), Pts w x n X Y := by
  rcases Deep.open_slice ht hd with ⟨h, -⟩ | ⟨a, n, cap, m, q, D, Pl, hv, -, hl, hcap, hm, -, hel⟩
  · simp only [List.cons.injEq, and_true] at h
    subst h
    exact ⟨0, fun _ => 0, fun _ => 0, none, 0, 0, 0, rfl, Nat.le_refl _, by decide, fun h => absurd h (by omega), fun k h => absurd h (by omega)⟩
  · simp only [List.cons.injEq, and_true] at hv
    subst hv
    have hlm : n ≤ m := by rw [hm]; split <;> omega
    have hcap' : cap ≤ 9223372036854775807 := by unfold maxLen at hcap; omega
    obtain ⟨b, off, s⟩ := a
    have key : ∀ k, k < n → ∃ z : Int × Int, w.cell? (((⟨b, off, s⟩ : Addr).add (k * 2)).add 0) = some (.int .i64 z.1) ∧ w.cell? (((⟨b, off, s⟩ : Addr).add (k * 2)).add 1) = some (.int .i64 z.2) := fun k hk => by
      obtain ⟨cs', hc, htr⟩ := hel k (by omega)
      rw [cp] at hc
      obtain ⟨y0, y1, j, -, hlen, t0, t1⟩ := trod_struct2 hp htr
      rw [cp] at hlen
      match cs', hlen with
      | [x0, x1], _ =>
        rw [hG0.1, hG0.2, cu] at t0
        rw [hG1.1, hG1.2, cu] at t1
        obtain ⟨z0, q0, -, -⟩ := DataW.trod_int hu t0
        obtain ⟨z1, q1, -, -⟩ := DataW.trod_int hu t1
        simp at q0 q1
        subst q0 q1
        exact ⟨(z0, z1), cells2s hc⟩
    by_cases h0 : n = 0
    · subst h0
      exact ⟨0, fun _ => 0, fun _ => 0, some ⟨b, off, s⟩, cap, b, off, rfl, Nat.zero_le _, hcap', fun h => absurd h (by omega), fun k h => absurd h (by omega)⟩
    · have hs : s = none := by
        obtain ⟨z, hz, -⟩ := key 0 (by omega)
        have := spot_cell hz
        unfold Addr.add at this
        (repeat' split at this) <;> simp_all
      subst hs
      have key2 : ∀ k, k < n → ∃ z : Int × Int, w.cell? ⟨b, off + k * 2, none⟩ = some (.int .i64 z.1) ∧ w.cell? ⟨b, off + k * 2 + 1, none⟩ = some (.int .i64 z.2) := fun k hk => by
        obtain ⟨z, h0, h1⟩ := key k hk
        rw [addr_addO, addr_addO] at h0 h1
        exact ⟨z, h0, h1⟩
      refine ⟨n, fun k => if h : k < n then (key2 k h).choose.1 else 0, fun k => if h : k < n then (key2 k h).choose.2 else 0, some ⟨b, off, none⟩, cap, b, off, rfl, hl, hcap', fun _ => rfl, fun k hk => ?_⟩
      simp only [dif_pos hk]
      exact (key2 k hk).choose_spec
theorem open_obj {t s p u : TypeId} {F0 F1 G0 G1 : Field} {v : Value} {d : DataW H} {ps : List MemPlace} (hs : P.underlying t = some (.struct #[F0, F1])) (hF0 : F0.type = u) (hF1 : F1.type = s) (hone : Go.Deep.oneCellFields P #[F0, F1] = true) (hC : P.cellsOf t = 2)
    (ht : P.underlying s = some (.slice p)) (hp : P.underlying p = some (.struct #[G0, G1])) (hu : P.underlying u = some (.int .i64))
    (hG0 : G0.type = u ∧ G0.offset = 0) (hG1 : G1.type = u ∧ G1.offset = 1) (cp : P.cellsOf p = 2) (cu : P.cellsOf u = 1)
    (hval : Value.okWide P w r b0 t v) (hd : DataW.Trod enc P w base sp held t v d ps) : ∃ (k : Int) (x : Value) (n : Nat) (X Y : Nat → Int), v = .agg #[.int .i64 k, x] ∧ (-9223372036854775808 ≤ k ∧ k ≤ 9223372036854775807) ∧ Pts w x n X Y := by
  obtain ⟨v0, v1, y0, y1, j, rfl, -, -, h0, h1⟩ := Joins.open_agg2 hs hone hC hval hd
  rw [hF0] at h0
  rw [hF1] at h1
  obtain ⟨z0, q0, -, wf⟩ := DataW.trod_int hu h0
  simp at q0
  subst q0
  obtain ⟨n, X, Y, hP⟩ := trod_ptsC ht hp hu hG0 hG1 cp cu h1
  exact ⟨z0, v1, n, X, Y, rfl, bounds_i64 wf, hP⟩
theorem open_query {t tb s p u : TypeId} {F0 F1 F2 B0 B1 G0 G1 : Field} {v : Value} {d : DataW H} {ps : List MemPlace} (hs : P.underlying t = some (.struct #[F0, F1, F2])) (hsb : P.underlying tb = some (.struct #[B0, B1]))
    (hF0 : F0.type = u ∧ F0.offset = 0) (hF1 : F1.type = tb ∧ F1.offset = 1) (hF2 : F2.type = s ∧ F2.offset = 5) (hB0 : B0.type = p ∧ B0.offset = 0) (hB1 : B1.type = p ∧ B1.offset = 2)
    (ct : P.cellsOf t = 6) (cb : P.cellsOf tb = 4) (cs' : P.cellsOf s = 1)
    (ht : P.underlying s = some (.slice p)) (hp : P.underlying p = some (.struct #[G0, G1])) (hu : P.underlying u = some (.int .i64))
    (hG0 : G0.type = u ∧ G0.offset = 0) (hG1 : G1.type = u ∧ G1.offset = 1) (cp : P.cellsOf p = 2) (cu : P.cellsOf u = 1)
    (hval : Value.okWide P w r b0 t v) (hd : DataW.Trod enc P w base sp held t v d ps) : ∃ (k lx ly hx hy : Int) (x : Value) (n : Nat) (X Y : Nat → Int), v = .agg #[.int .i64 k, .int .i64 lx, .int .i64 ly, .int .i64 hx, .int .i64 hy, x] ∧ Pts w x n X Y := by
  obtain ⟨cs, rfl, hsz⟩ := okWide_struct hs hval
  obtain ⟨fuel, hf⟩ := hd
  obtain ⟨y0, y1, y2, j, -, hlen, t0, t1, t2⟩ := Deep.trod_struct3 hs hf
  rw [ct] at hlen
  replace hlen : cs.toList.length = 6 := hlen
  obtain ⟨l, rfl⟩ : ∃ l : List Value, cs = l.toArray := ⟨cs.toList, by simp⟩
  match l, hlen with
  | [a, b, c, e, f, g], _ =>
    rw [hF0.1, hF0.2, cu] at t0
    rw [hF1.1, hF1.2, cb] at t1
    rw [hF2.1, hF2.2, cs'] at t2
    obtain ⟨z0, q0, -, -⟩ := DataW.trod_int hu t0
    simp [Value.cells] at q0
    obtain ⟨y3, y4, j2, -, -, t3, t4⟩ := trod_struct2 hsb t1
    rw [hB0.1, hB0.2, cp] at t3
    rw [hB1.1, hB1.2, cp] at t4
    obtain ⟨y5, y6, j3, -, -, t5, t6⟩ := trod_struct2 hp t3
    rw [hG0.1, hG0.2, cu] at t5
    rw [hG1.1, hG1.2, cu] at t6
    obtain ⟨y7, y8, j4, -, -, t7, t8⟩ := trod_struct2 hp t4
    rw [hG0.1, hG0.2, cu] at t7
    rw [hG1.1, hG1.2, cu] at t8
    obtain ⟨z1, q1, -, -⟩ := DataW.trod_int hu t5
    obtain ⟨z2, q2, -, -⟩ := DataW.trod_int hu t6
    obtain ⟨z3, q3, -, -⟩ := DataW.trod_int hu t7
    obtain ⟨z4, q4, -, -⟩ := DataW.trod_int hu t8
    simp [Value.cells] at q1 q2 q3 q4
    subst q0 q1 q2 q3 q4
    have t9 : DataW.trod enc P w base sp held j s [g] = some y2 := by simpa [Value.cells] using t2
    obtain ⟨n, X, Y, hP⟩ := trod_ptsC ht hp hu hG0 hG1 cp cu t9
    exact ⟨z0, z1, z2, z3, z4, g, n, X, Y, rfl, hP⟩
end
end Go.Proofs.YtfobmlgpjhghdaaGreatDoor
namespace Go.Proofs.YtfobmlgpjhghdaaGreatDoor
set_option linter.unusedVariables false
open Go.ChangeShapes Go.WideShapes Go.ChangeAt Go.RowKit
def Grown (w w' : World) (v v' : Value) : Prop := w.grownBy w' v.ownBlock ∧ ∀ k, v'.ownBlock = some k → v.ownBlock = some k ∨ w.heap.size ≤ k
theorem row_form {w : World} {base n size : Nat} {e : TypeId} {v : Value} {xs : List Value} (h : w.ownsRow base e size v n xs) (h0 : 0 < n) : ∃ g cap, v = .slice (some ⟨g, 0, none⟩) n cap ∧ base ≤ g ∧ g < w.heap.size ∧ n ≤ cap ∧ (cap : Int) ≤ 9223372036854775807 := by
  rcases h.2 with ⟨-, h0'⟩ | ⟨g, cap, cur, rfl, hb, hg, hn, hc, hs, ht⟩
  · omega
  · exact ⟨g, cap, rfl, hb, (Array.getElem?_eq_some_iff.1 hg).1, hn, by unfold maxLen at hc; omega⟩
section
variable {P : Program} (w : World)
theorem append_place (base : Nat) (t ty e : TypeId) (i : TypeInfo) (z : Value) (size bytes : Nat) (ht : P.underlying t = some (.slice e)) (hi : P.info? e = some i) (hz : i.zero = some z)
    (hsize : i.size = size) (hby : i.bytes = bytes) (v : Value) (n : Nat) (xs : List Value) (hown : w.ownsRow base e size v n xs)
    (a : Addr) (m c : Nat) (news : List Value) (hl : news.length = m * size) (hnews : ∀ j u, news[j]? = some u → w.cell? (a.add j) = some u) (h1 : ∀ u ∈ news, u.oneCell' = true)
    (h63 : n + m ≤ maxLen) (hbytes : (n + m) * bytes ≤ 140737488355328) {v' : Value} {w' : World} (hr : (Builtin.append_ #[t, t] ty #[v, .slice (some a) m c]).run P w = .ok v' w') :
    ∀ k, v'.ownBlock = some k → v.ownBlock = some k ∨ w.heap.size ≤ k := by
  subst hsize hby
  have hsmall : n + m ≤ 9223372036854775807 := by simp only [maxLen] at h63; omega
  rcases hown.2 with ⟨rfl, rfl⟩ | ⟨g, cap, cur, rfl, hbg, hg, hnc, hcm, hcs, htake⟩
  · by_cases hm : m = 0
    · subst hm
      have hn : news = [] := List.eq_nil_of_length_eq_zero (by simpa using hl)
      subst hn
      have e0 : (Builtin.append_ #[t, t] ty #[.slice none 0 0, .slice (some a) 0 c]).run P w = .ok (.slice none 0 0) w := by
        simp [Builtin.append_, run_underlying ht, sizeOf, typeInfo, hi, Builtin.lenOf, Builtin.firstCells, loadCells, loadCellsFrom]
      rw [e0] at hr
      cases hr
      intro k hk
      cases hk
    · rw [run_append_nil (P := P) w t ty e i z ht hi hz a m c news hl hnews (by omega) (by omega) (by have hb := hbytes; simp only [Nat.zero_add] at hb; omega)] at hr
      cases hr
      intro k hk
      simp [Value.ownBlock] at hk
      omega
  · by_cases hroom : n + m ≤ cap
    · have hfit : n * i.size + news.length ≤ cur.size := by rw [hl, hcs, ← Nat.add_mul]; exact Nat.mul_le_mul_right _ hroom
      rw [run_append_room (P := P) w t ty e i ht hi g n cap cur hg a m c news hl hnews h1 hroom hfit] at hr
      cases hr
      intro k hk
      exact Or.inl hk
    · rw [run_append_grow (P := P) w t ty e i z ht hi hz ⟨g, 0, none⟩ n cap xs hown.1 (hown.cells (g := g) rfl) a m c news hl hnews (by omega) (by omega) (growslice_fits (by omega) hbytes)] at hr
      cases hr
      intro k hk
      simp [Value.ownBlock] at hk
      omega
theorem wpList_append_own2 {ops : Array Oper} {rest : List Oper} {o : Oper} {a : Act} {Q : Exit → Act → World → Prop} (hgd : o.guard = none) (s x : Operand) (t : TypeId)
    (ho : o.op = .call { callee := .builtin .append, args := #[s, x], argTypes := #[t, t] })
    (base : Nat) (e : TypeId) (i : TypeInfo) (z : Value) (size bytes : Nat) (ht : P.underlying t = some (.slice e)) (hi : P.info? e = some i) (hz : i.zero = some z)
    (hsize : i.size = size) (hby : i.bytes = bytes) (hzs : z.cells.size = size) (hsz : 0 < size)
    (v : Value) (n : Nat) (xs : List Value) (hs : a.eval s = v) (hown : w.ownsRow base e size v n xs)
    (ad : Addr) (m c : Nat) (news : List Value) (hx : a.eval x = .slice (some ad) m c) (hl : news.length = m * size) (hnews : ∀ j u, news[j]? = some u → w.cell? (ad.add j) = some u) (h1 : ∀ u ∈ news, u.oneCell' = true)
    (h63 : n + m ≤ maxLen) (hbytes : (n + m) * bytes ≤ 140737488355328) (hbase : base ≤ w.heap.size)
    (h : ∀ v' w', w'.ownsRow base e size v' (n + m) (xs ++ news) → Grown w w' v v' → wpList P ops Q rest (a.put o.dst v') w') : wpList P ops Q (o :: rest) a w := by
  refine wpList_plain hgd fun K hK => ?_
  obtain ⟨v', w', hr, h2, h3, h4⟩ := run_append_own (P := P) w base t o.type e i z size bytes ht hi hz hsize hby hzs hsz v n xs hown ad m c news hl hnews h1 h63 hbytes hbase
  have h5 := append_place (P := P) w base t o.type e i z size bytes ht hi hz hsize hby v n xs hown ad m c news hl hnews h1 h63 hbytes hr
  unfold Oper.wp execOp
  simp only [ho, resolve, invoke, builtin, Sem.run_bind, Sem.run_pure, Result.andThen_ok, List.map_toArray, List.map_cons, List.map_nil, hs, hx, hr]
  exact hK _ _ (h v' w' h2 ⟨h3, h5⟩)
end
theorem rowOwn_gr {a b : World} {base e size n : Nat} {v : Value} {xs : List Value} (h : a.ownsRow base e size v n xs) (g : Gr a b) : b.ownsRow base e size v n xs :=
  h.kept (row := none) ⟨g.os, g.tape, g.output, g.size, fun k hk _ => g.block k hk⟩ (by
    rcases hh : v.ownBlock with _ | k
    · exact Or.inl rfl
    · exact Or.inr (by simp))
end Go.Proofs.YtfobmlgpjhghdaaGreatDoor
namespace Go.Proofs.YtfobmlgpjhghdaaGreatDoor
set_option linter.unusedVariables false
open Go.ChangeShapes Go.WideShapes Go.ChangeAt Go.RowKit
end Go.Proofs.YtfobmlgpjhghdaaGreatDoor
namespace Go.Proofs.YtfobmlgpjhghdaaGreatDoor
set_option linter.unusedVariables false
open Go.ChangeShapes Go.WideShapes Go.ChangeAt Go.RowKit
def rowP (X Y : Nat → Int) : Nat → List Value
  | 0 => []
  | n + 1 => rowP X Y n ++ [.int .i64 (X n), .int .i64 (Y n)]
theorem rowP_len (X Y : Nat → Int) : ∀ n, (rowP X Y n).length = n * 2
  | 0 => rfl
  | n + 1 => by simp only [rowP, List.length_append, rowP_len X Y n, List.length_cons, List.length_nil]; omega
theorem rowP_at (X Y : Nat → Int) : ∀ n k, k < n → (rowP X Y n)[k * 2]? = some (.int .i64 (X k)) ∧ (rowP X Y n)[k * 2 + 1]? = some (.int .i64 (Y k))
  | 0, k, h => absurd h (by omega)
  | n + 1, k, h => by
    have hl := rowP_len X Y n
    simp only [rowP]
    by_cases hk : k < n
    · rw [List.getElem?_append_left (by omega), List.getElem?_append_left (by omega)]
      exact rowP_at X Y n k hk
    · obtain rfl : k = n := by omega
      rw [List.getElem?_append_right (by omega), List.getElem?_append_right (by omega), hl, Nat.sub_self, show k * 2 + 1 - k * 2 = 1 by omega]
      exact ⟨rfl, rfl⟩
theorem own_pts {w : World} {base n : Nat} {e : TypeId} {v : Value} {X Y : Nat → Int} (h : w.ownsRow base e 2 v n (rowP X Y n)) : Pts w v n X Y := by
  rcases h.2 with ⟨rfl, h0⟩ | ⟨g, cap, cur, rfl, hb, hg, hn, hc, hs, ht⟩
  · obtain rfl : n = 0 := h0
    exact ⟨none, 0, 0, 0, rfl, Nat.le_refl _, by decide, fun h => absurd h (by omega), fun k h => absurd h (by omega)⟩
  · refine ⟨some ⟨g, 0, none⟩, cap, g, 0, rfl, hn, by unfold maxLen at hc; omega, fun _ => rfl, fun k hk => ?_⟩
    rw [Nat.zero_add]
    exact ⟨by rw [h.cellAt (k * 2) (by omega)]; exact (rowP_at X Y n k hk).1, by rw [h.cellAt (k * 2 + 1) (by omega)]; exact (rowP_at X Y n k hk).2⟩
end Go.Proofs.YtfobmlgpjhghdaaGreatDoor
namespace Go.Proofs.YtfobmlgpjhghdaaGreatDoor.Oe
set_option linter.unusedVariables false
set_option linter.unusedSimpArgs false
set_option linter.unusedSectionVars false
open Go.ChangeShapes Go.WideShapes Go.ChangeAt Go.RowKit
class Rl (R : World → World → Prop) : Prop where
  refl : ∀ w, R w w
  trans : ∀ {a b c : World}, R a b → R b c → R a c
  drew : ∀ w : World, R w { w with drawn := w.drawn + 1 }
variable {P : Program} {ops : Array Oper} {md : Region.Mode} {R : World → World → Prop} [Rl R]
def pAt (P : Program) (o : Oper) (a : Act) (w : World) (v : Value) : Prop := o.wp P a w (fun a' w' => a' = a.put o.dst v ∧ w' = w) (fun _ _ _ => False)
def sAt (R : World → World → Prop) (P : Program) (o : Oper) (a : Act) (w : World) (S : Value → World → Prop) : Prop := o.wp P a w (fun a' w' => ∃ v, a' = a.put o.dst v ∧ R w w' ∧ S v w') (fun _ _ _ => False)
theorem pAt_put {o : Oper} {a : Act} {w : World} {v x : Value} {d : Option Tmp} (hs : ∀ cs b, o.op ≠ .select cs b) (hl : ∀ t, d = some t → t ∉ o.looksAt ops) (hne : ∀ t, d = some t → o.dst ≠ some t)
    (h : pAt P o a w v) : pAt P o (a.put d x) w v := by
  unfold pAt Oper.wp at *
  rw [execOp_put (ops := ops) o hs a d x hl]
  refine Hd.upon_map (fun u w' hu => ⟨?_, hu.2⟩) (fun dd w' hu => (Hd.no_defer hu.1).elim) h
  rw [Act.put_comm a x u hne, Act.put_comm a x v hne, hu.1]
def opS (R : World → World → Prop) (P : Program) (ops : Array Oper) (i : Nat) (K : Act → World → Prop) (a : Act) (w : World) : Prop :=
  match ops[i]? with
  | none => K a w
  | some o => if Region.wanted o (yielded ops a.tmps) = true then o.wp P a w (fun a' w' => R w w' ∧ (∃ u, a' = a.put o.dst u) ∧ K a' w') (fun _ _ _ => False) else K (a.put o.dst undef) w
theorem opS_mono {i : Nat} {a : Act} {w : World} {K K' : Act → World → Prop} (h : ∀ oi u w', ops[i]? = some oi → R w w' → K (a.put oi.dst u) w' → K' (a.put oi.dst u) w') (h0 : ops[i]? = none → K a w → K' a w) (hh : opS R P ops i K a w) : opS R P ops i K' a w := by
  unfold opS at *
  split
  · rename_i ho; simp only [ho] at hh; exact h0 ho hh
  · rename_i o ho
    simp only [ho] at hh
    split
    · rename_i hw
      rw [if_pos hw] at hh
      unfold Oper.wp at *
      refine Hd.upon_map (fun u w' hu => ⟨hu.1, hu.2.1, h o u w' ho hu.1 hu.2.2⟩) (fun d w' hu => ?_) hh
      obtain ⟨_, ⟨u, hu⟩, _⟩ := hu
      exact (Hd.no_defer hu).elim
    · rename_i hw
      rw [if_neg hw] at hh
      exact h o _ w ho (Rl.refl _) hh
theorem wpOp_of_opS {i : Nat} {a : Act} {w : World} {K K' : Act → World → Prop} {Q' : Exit → Act → World → Prop} (h : ∀ a w, K a w → K' a w) (hh : opS R P ops i K a w) : wpOp P ops Q' i K' a w := by
  unfold opS at hh
  unfold wpOp
  split
  · rename_i ho; simp only [ho] at hh; exact h _ _ hh
  · rename_i o ho
    simp only [ho] at hh
    split
    · rename_i hw
      rw [if_pos hw] at hh
      refine .inl ?_
      unfold Oper.wp at *
      refine Hd.upon_map (fun u w' hu => h _ _ hu.2.2) (fun d w' hu => ?_) hh
      obtain ⟨_, ⟨u, hu⟩, _⟩ := hu
      exact (Hd.no_defer hu).elim
    · rename_i hw
      rw [if_neg hw] at hh
      exact h _ _ hh
def YP (R : World → World → Prop) (P : Program) (ops : Array Oper) (o : Oper) (v : Value) (a : Act) (w : World) : Prop :=
  (Region.wanted o (yielded ops a.tmps) = true ∧ ∀ w', R w w' → pAt P o a w' v) ∨ (Region.wanted o (yielded ops a.tmps) = false ∧ v = undef)
theorem YP.opS {i : Nat} {o : Oper} {v : Value} {a : Act} {w : World} (hi : ops[i]? = some o) (hy : YP R P ops o v a w) {K : Act → World → Prop} (h : K (a.put o.dst v) w) : opS R P ops i K a w := by
  unfold Oe.opS
  simp only [hi]
  rcases hy with ⟨hw, hv⟩ | ⟨hw, rfl⟩
  · rw [if_pos hw]
    have hb := hv w (Rl.refl _)
    unfold pAt Oper.wp at hb
    unfold Oper.wp
    refine Hd.upon_map (fun u w' hu => ?_) (fun d w' hu => (Hd.no_defer hu.1).elim) hb
    obtain ⟨h1, rfl⟩ := hu
    exact ⟨Rl.refl _, ⟨u, rfl⟩, by rw [h1]; exact h⟩
  · rw [if_neg (by rw [hw]; decide)]
    exact h
theorem opS_put {j : Nat} {oi oj : Oper} {v : Value} (hj : ops[j]? = some oj) (hap : oi.apart ops oj = true)
    (hsi : ∀ cs b, oi.op ≠ .select cs b) (hsj : ∀ cs b, oj.op ≠ .select cs b) {K : Act → World → Prop} {a : Act} {w : World}
    (hy : YP R P ops oi v a w) (h : opS R P ops j K (a.put oi.dst v) w) :
    opS R P ops j (fun a' w' => YP R P ops oi v a' w' ∧ K (a'.put oi.dst v) w') a w := by
  obtain ⟨h1, h2, h3⟩ := Oper.apart_spec hap
  have keep : ∀ u w', R w w' → YP R P ops oi v (a.put oj.dst u) w' := fun u w' g => by
    rcases hy with ⟨hw, hv⟩ | ⟨hw, e⟩
    · exact .inl ⟨by rw [wanted_put oi a oj.dst u h3]; exact hw, fun x hx => pAt_put (ops := ops) hsi h3 (fun t ht hd => h2 t hd ht) (hv x (Rl.trans g hx))⟩
    · exact .inr ⟨by rw [wanted_put oi a oj.dst u h3]; exact hw, e⟩
  unfold opS at *
  simp only [hj] at *
  rw [wanted_put oj a oi.dst v h1] at h
  split
  · rename_i hw
    rw [if_pos hw] at h
    unfold Oper.wp at *
    rw [execOp_put (ops := ops) oj hsj a oi.dst v h1] at h
    refine Hd.upon_map (fun u w' hu => ⟨hu.1, ⟨u, rfl⟩, keep u w' hu.1, ?_⟩) (fun d w' hu => ?_) h
    · rw [← Act.put_comm a v u h2]; exact hu.2.2
    · obtain ⟨_, ⟨u, hu⟩, _⟩ := hu
      exact (Hd.no_defer (a := a.put oi.dst v) hu).elim
  · rename_i hw
    rw [if_neg hw] at h
    exact ⟨keep _ w (Rl.refl _), by rw [← Act.put_comm a v undef h2]; exact h⟩
def wpO (R : World → World → Prop) (P : Program) (ops : Array Oper) (Q : Act → World → Prop) : List (Nat × Bool) → Act → World → Prop
  | [], a, w => Q a w
  | (i, s) :: rest, a, w => ∃ o, ops[i]? = some o ∧
      if Region.wanted o (yielded ops a.tmps) = true then
        (if s then ∃ S : Value → World → Prop, sAt R P o a w S ∧ ∀ v w', R w w' → S v w' → wpO R P ops Q rest (a.put o.dst v) w'
         else ∃ v, (∀ w', R w w' → pAt P o a w' v) ∧ wpO R P ops Q rest (a.put o.dst v) w)
      else wpO R P ops Q rest (a.put o.dst undef) w
def anyT (R : World → World → Prop) (P : Program) (md : Region.Mode) (ops : Array Oper) (n : Nat) (L : Array Bool → Act → World → Prop) : Nat → Array Bool → Act → World → Prop
  | 0, listed, a, w => L listed a w
  | f + 1, listed, a, w => Region.ready md ops listed ≠ [] ∧ ∀ i ∈ Region.ready md ops listed, i < n ∧ opS R P ops i (anyT R P md ops n L f (listed.setIfInBounds i true)) a w
theorem wpAny_of_T {n g : Nat} {L : Array Bool → Act → World → Prop} {Q' : Exit → Act → World → Prop} (hL : ∀ listed a w, L listed a w → wpAny P md ops Q' g listed a w) :
    ∀ (f : Nat) (listed : Array Bool) (a : Act) (w : World), anyT R P md ops n L f listed a w → wpAny P md ops Q' (f + g) listed a w
  | 0, listed, a, w, h => by rw [Nat.zero_add]; exact hL _ _ _ h
  | f + 1, listed, a, w, h => by
    rw [show f + 1 + g = (f + g) + 1 by omega]
    exact ⟨fun h0 => absurd h0 h.1, fun i hi => wpOp_of_opS (fun a' w' h' => wpAny_of_T hL f _ a' w' h') (h.2 i hi).2⟩
theorem anyT_first {n : Nat} {L : Array Bool → Act → World → Prop} {i : Nat} {oi : Oper} {v : Value} (hi : ops[i]? = some oi) (hsel : ∀ (j : Nat) (o : Oper) cs b, ops[j]? = some o → o.op ≠ .select cs b)
    (hs : Region.sinkB md ops n = true) (hc : Region.chainB md ops n = true) (hn : n < ops.size) (hin : i < n)
    (hdone : ∀ listed a w, L listed a w → ∀ j ∈ Region.ready md ops listed, n ≤ j) :
    ∀ (f : Nat) (listed : Array Bool) (a : Act) (w : World), HeadInv md ops n listed →
      (∀ j oj, ops[j]? = some oj → j ≠ i → listed.getD j true = false → (∀ e ∈ oj.after, Region.binds md e = true → e.on ≠ i) → oi.apart ops oj = true) →
      i ∈ Region.ready md ops listed → YP R P ops oi v a w →
      anyT R P md ops n L f (listed.setIfInBounds i true) (a.put oi.dst v) w → anyT R P md ops n L (f + 1) listed a w := by
  intro f
  induction f with
  | zero =>
    intro listed a w inv _ hr hy H
    have hun := (mem_ready.1 hr).1
    refine ⟨fun h => (by rw [h] at hr; cases hr), fun j hj => ?_⟩
    have hjn : j < n := by
      rcases Nat.lt_or_ge j n with h | h
      · exact h
      · exact absurd hj (tail_waits hs hc hn inv _ i rfl hin hun j h)
    refine ⟨hjn, ?_⟩
    by_cases hji : j = i
    · subst hji; exact hy.opS hi H
    · have := hdone _ _ _ H j (ready_mono hj hji)
      omega
  | succ f ih =>
    intro listed a w inv hfree hr hy H
    have hun := (mem_ready.1 hr).1
    refine ⟨fun h => (by rw [h] at hr; cases hr), fun j hj => ?_⟩
    have hjn : j < n := by
      rcases Nat.lt_or_ge j n with h | h
      · exact h
      · exact absurd hj (tail_waits hs hc hn inv _ i rfl hin hun j h)
    refine ⟨hjn, ?_⟩
    by_cases hji : j = i
    · subst hji; exact hy.opS hi H
    · have h1 := (H.2 j (ready_mono hj hji)).2
      obtain ⟨hjun, oj, hoj, hall⟩ := mem_ready.1 hj
      have hnot : ∀ e ∈ oj.after, Region.binds md e = true → e.on ≠ i := fun e he hb heq => by
        have h1 := hall e he hb
        rw [heq, getD_both hun] at h1
        cases h1
      have h2 := opS_put hoj (hfree j oj hoj hji hjun hnot) (fun cs b => hsel i oi cs b hi) (fun cs b => hsel j oj cs b hoj) hy h1
      have hfree' : ∀ k ok, ops[k]? = some ok → k ≠ i → (listed.setIfInBounds j true).getD k true = false →
          (∀ e ∈ ok.after, Region.binds md e = true → e.on ≠ i) → oi.apart ops ok = true := fun k ok hk hki hun hno => by
        refine hfree k ok hk hki ?_ hno
        by_cases hjk : j = k
        · subst hjk; exact hjun
        · rw [getD_set_ne true hjk] at hun; exact hun
      refine opS_mono (fun oi' u w' _ g h3 => ih (listed.setIfInBounds j true) _ w' (inv.set hj hjn) hfree' (ready_mono hr (Ne.symm hji)) h3.1 ?_) (fun hn => by rw [hoj] at hn; cases hn) h2
      rw [Array.setIfInBounds_comm _ _ hji]
      exact h3.2
def ordT (md : Region.Mode) (ops : Array Oper) (n : Nat) : List (Nat × Bool) → Array Bool → Bool
  | [], listed => Region.seqB md ops (ops.size - n) n listed
  | (i, s) :: rest, listed => decide (i < n) && (if s then Region.ready md ops listed == [i] else (Region.ready md ops listed).contains i && Region.free md ops listed i) && ordT md ops n rest (listed.setIfInBounds i true)
theorem anyT_of_O {n : Nat} {K : Act → World → Prop} (hsel : Region.noSelect ops = true) (hs : Region.sinkB md ops n = true) (hc : Region.chainB md ops n = true) (hn : n < ops.size) : ∀ (l : List (Nat × Bool)) (listed : Array Bool) (a : Act) (w : World), HeadInv md ops n listed →
    ordT md ops n l listed = true → wpO R P ops K l a w → anyT R P md ops n (fun listed a w => Region.seqB md ops (ops.size - n) n listed = true ∧ K a w) l.length listed a w
  | [], listed, a, w, inv, hB, h => ⟨hB, h⟩
  | (i, s) :: rest, listed, a, w, inv, hB, h => by
    simp only [ordT, Bool.and_eq_true, decide_eq_true_eq] at hB
    obtain ⟨⟨hin, hB⟩, hB'⟩ := hB
    obtain ⟨o, hi, h⟩ := h
    have hmem : i ∈ Region.ready md ops listed := by
      cases s with
      | false => simp only [Bool.false_eq_true, if_false, Bool.and_eq_true] at hB; simpa using hB.1
      | true => simp only [if_true, beq_iff_eq] at hB; rw [hB]; exact List.mem_singleton.2 rfl
    have IH := fun a w => anyT_of_O (K := K) hsel hs hc hn rest (listed.setIfInBounds i true) a w (inv.set hmem hin) hB'
    have hdone : ∀ (listed : Array Bool) (a : Act) (w : World), Region.seqB md ops (ops.size - n) n listed = true ∧ K a w → ∀ j ∈ Region.ready md ops listed, n ≤ j := fun listed a w hh j hj => seqB_ready hh.1 j hj
    cases s with
    | false =>
      simp only [Bool.false_eq_true, if_false, Bool.and_eq_true] at hB h
      by_cases hw : Region.wanted o (yielded ops a.tmps) = true
      · rw [if_pos hw] at h
        obtain ⟨v, hv, h⟩ := h
        exact anyT_first hi (Region.noSelect_spec hsel) hs hc hn hin hdone _ listed a w inv (Region.free_spec hi hB.2) hmem (.inl ⟨hw, hv⟩) (IH _ _ h)
      · rw [if_neg hw] at h
        exact anyT_first hi (Region.noSelect_spec hsel) hs hc hn hin hdone _ listed a w inv (Region.free_spec hi hB.2) hmem (.inr ⟨by simpa using hw, rfl⟩) (IH _ _ h)
    | true =>
      simp only [if_true, beq_iff_eq] at hB h
      refine ⟨fun h0 => (by rw [hB] at h0; cases h0), fun j hj => ?_⟩
      rw [hB, List.mem_singleton] at hj
      subst hj
      refine ⟨hin, ?_⟩
      unfold opS
      simp only [hi]
      by_cases hw : Region.wanted o (yielded ops a.tmps) = true
      · rw [if_pos hw] at h ⊢
        obtain ⟨S, h1, h2⟩ := h
        unfold sAt Oper.wp at h1
        unfold Oper.wp
        refine Hd.upon_map (fun u w' hu => ?_) (fun d w' hu => ?_) h1
        · obtain ⟨v, e, g, hR⟩ := hu
          exact ⟨g, ⟨u, rfl⟩, by rw [e]; exact IH _ _ (h2 v w' g hR)⟩
        · obtain ⟨v, e, _⟩ := hu
          exact (Hd.no_defer e).elim
      · rw [if_neg hw] at h ⊢
        exact IH _ _ h
theorem wp_region_ordT {id : Nat} {Q : Exit → Act → World → Prop} {a : Act} {w : World} {l : List Oper} (n : Nat) (ord : List (Nat × Bool)) (hm : P.follows .mixedOrders = true)
    (hB : (Region.noSelect l.toArray && (decide (n < l.length) && (Region.sinkB .any l.toArray n && (Region.chainB .any l.toArray n && (ord.length == n && ordT .any l.toArray n ord (Array.replicate l.length false)))))) = true)
    (h : ∀ w0 : World, Gr w w0 → ∀ K : Act → World → Prop, (∀ a' w', wpList P l.toArray Q (l.drop n) a' w' → K a' w') → wpO R P l.toArray K ord a w0) : (Code.region id l.toArray true).wp P Q a w := by
  simp only [Bool.and_eq_true, beq_iff_eq, decide_eq_true_eq] at hB
  obtain ⟨hsel, hn, hs, hc, hl, hB⟩ := hB
  have hn' : n < l.toArray.size := by simpa using hn
  refine wp_region_any hm ?_
  have inv0 : HeadInv .any l.toArray n (Array.replicate l.length false) :=
    ⟨by simp, fun j oj _ hl => (by rw [getD_replicate_false] at hl; cases hl), fun t _ ht => getD_in (by simpa using ht) (getD_replicate_false _ _)⟩
  have H := anyT_of_O (md := .any) (P := P) (n := n) (K := fun a w => wpList P l.toArray Q (l.drop n) a w) hsel hs hc hn' ord (Array.replicate l.length false) a { w with drawn := w.drawn + 1 } inv0 hB (h _ (Below.refl _ _).drew _ (fun _ _ x => x))
  have H2 := wpAny_of_T (Q' := Q) (g := l.toArray.size - n) (fun listed a w hh => by
    have := wpAny_of_seq (md := .any) (Q' := Q) (l.drop n) n listed a w (fun j => by simp [List.getElem?_drop]) (by rw [List.length_drop]; simpa using hh.1) hh.2
    rwa [List.length_drop, show l.length - n = l.toArray.size - n by simp] at this) _ _ _ _ H
  rw [hl, show n + (l.toArray.size - n) = l.toArray.size by omega] at H2
  simpa using H2
theorem wpO_nil {K : Act → World → Prop} {a : Act} {w : World} (h : K a w) : wpO R P ops K [] a w := h
theorem wpO_pure {K : Act → World → Prop} {a : Act} {w : World} {i : Nat} {rest : List (Nat × Bool)} {o : Oper} (hi : ops[i]? = some o) (hw : Region.wanted o (yielded ops a.tmps) = true) (h : ∃ v, (∀ w', R w w' → pAt P o a w' v) ∧ wpO R P ops K rest (a.put o.dst v) w) : wpO R P ops K ((i, false) :: rest) a w := by
  refine ⟨o, hi, ?_⟩
  rw [if_pos hw]
  exact h
def exitN (K : Act → World → Prop) : Exit → Act → World → Prop
  | .normal, a, w => K a w
  | _, _, _ => False
theorem upon_exitN {o : Oper} {a : Act} {next next' : Act → World → Prop} {K : Act → World → Prop} {r : Result Next}
    (hv : ∀ u w', next (a.put o.dst u) w' → next' (a.put o.dst u) w')
    (hd : ∀ d w', next (({ a with defers := d :: a.defers } : Act).put o.dst undef) w' → next' (({ a with defers := d :: a.defers } : Act).put o.dst undef) w')
    (h : o.upon P a next (exitN K) r) : o.upon P a next' (fun _ _ _ => False) r := by
  cases r with
  | ok x w' =>
    cases x with
    | value u => exact hv _ _ h
    | skip => exact hv _ _ h
    | defer d => exact hd _ _ h
    | enter f args =>
      refine Calls.mono h fun e w'' hw => ?_
      cases e with
      | returned u => exact hv _ _ hw
      | panicked c => exact hw.elim
      | outgrown => exact hw.elim fun _ h => h.elim fun _ h => h.elim
    | row s args => exact Rows.mono h fun v w'' hw => hv _ _ hw
    | _ => exact h.elim
  | halt x w' =>
    cases x with
    | panic v => exact h.elim
    | _ => exact h.elim
theorem wpO_call {K : Act → World → Prop} {a : Act} {w : World} {i : Nat} {rest : List (Nat × Bool)} {o : Oper} (hi : ops[i]? = some o)
    (hw : Region.wanted o (yielded ops a.tmps) = true)
    (h : ∀ QE : Exit → Act → World → Prop, (∀ a' w', (∃ v, a' = a.put o.dst v ∧ R w w' ∧ wpO R P ops K rest a' w') → QE .normal a' w') → wpList P ops QE [o] a w) : wpO R P ops K ((i, true) :: rest) a w := by
  refine ⟨o, hi, ?_⟩
  rw [if_pos hw, if_pos rfl]
  refine ⟨fun v w' => wpO R P ops K rest (a.put o.dst v) w', ?_, fun v w' _ h => h⟩
  have h1 := h (exitN fun a' w' => ∃ v, a' = a.put o.dst v ∧ R w w' ∧ wpO R P ops K rest (a.put o.dst v) w') (fun a' w' hh => by
    obtain ⟨v, rfl, g, hh⟩ := hh
    exact ⟨v, rfl, g, hh⟩)
  unfold wpList at h1
  rw [if_pos hw] at h1
  rcases h1 with h1 | ⟨_, _, _, h1⟩
  · unfold sAt Oper.wp at *
    refine upon_exitN (fun u w' hu => hu) (fun d w' hu => ?_) h1
    obtain ⟨v, e, _⟩ := hu
    exact (Hd.no_defer e).elim
  · exact h1.elim
theorem pAt_of_quiet {o : Oper} {a : Act} {w1 : World} {v : Value} (h : ∀ K : Act → Prop, (∀ a', a' = a.put o.dst v → K a') → o.quiet P a (fun w' => w' = w1) K) : pAt P o a w1 v := by
  obtain ⟨u, hu, he⟩ := h (fun a' => a' = a.put o.dst v) (fun a' h => h)
  have h1 := hu w1 rfl
  unfold pAt Oper.wp
  unfold Oper.quietAt at h1
  revert h1
  generalize (execOp a.eval o).run P w1 = r
  intro h1
  cases r with
  | ok x w' =>
    cases x with
    | value x => obtain ⟨rfl, rfl⟩ := h1; exact ⟨he, rfl⟩
    | skip => obtain ⟨rfl, rfl⟩ := h1; exact ⟨he, rfl⟩
    | enter f args =>
      obtain ⟨rfl, h1⟩ := h1
      refine Calls.mono h1 fun e w'' hw => ?_
      obtain ⟨rfl, rfl⟩ := hw
      exact ⟨he, rfl⟩
    | _ => exact h1.elim
  | halt x w' => exact h1.elim
end Go.Proofs.YtfobmlgpjhghdaaGreatDoor.Oe
namespace Go.Proofs.YtfobmlgpjhghdaaGreatDoor
set_option linter.unusedVariables false
open Go.ChangeShapes Go.WideShapes Go.ChangeAt Go.RowKit
structure Kx (S : Nat → Prop) (w w' : World) : Prop where
  os : w'.os = w.os
  tape : w'.tape = w.tape
  output : w'.output = w.output
  size : w.heap.size ≤ w'.heap.size
  block : ∀ k, k < w.heap.size → ¬ S k → w'.heap[k]? = w.heap[k]?
theorem Kx.refl {S : Nat → Prop} (w : World) : Kx S w w := ⟨rfl, rfl, rfl, Nat.le_refl _, fun _ _ _ => rfl⟩
theorem Kx.trans {S : Nat → Prop} {a b c : World} (h : Kx S a b) (k : Kx S b c) : Kx S a c :=
  ⟨k.os.trans h.os, k.tape.trans h.tape, k.output.trans h.output, Nat.le_trans h.size k.size, fun i hi hs => (k.block i (Nat.lt_of_lt_of_le hi h.size) hs).trans (h.block i hi hs)⟩
theorem Kx.of_gr {S : Nat → Prop} {a b : World} (g : Gr a b) : Kx S a b := ⟨g.os, g.tape, g.output, g.size, fun k hk _ => g.block k hk⟩
theorem Kx.draw {S : Nat → Prop} (w : World) : Kx S w { w with drawn := w.drawn + 1 } := ⟨rfl, rfl, rfl, Nat.le_refl _, fun _ _ _ => rfl⟩
instance kxRl (S : Nat → Prop) : Oe.Rl (Kx S) := ⟨Kx.refl, Kx.trans, Kx.draw⟩
theorem Kx.gr {S : Nat → Prop} {w a b : World} (h : Kx S a b) (g : Gr w a) (hS : ∀ k, S k → w.heap.size ≤ k) : Gr w b :=
  ⟨h.os.trans g.os, h.tape.trans g.tape, h.output.trans g.output, Nat.le_trans g.size h.size, fun k hk => (h.block k (Nat.lt_of_lt_of_le hk g.size) (fun hs => by have := hS k hs; omega)).trans (g.block k hk)⟩
theorem cell_kx {S : Nat → Prop} {a b : World} {p : Addr} {v : Value} (g : Kx S a b) (hs : ¬ S p.block) (h : a.cell? p = some v) : b.cell? p = some v :=
  (World.cell?_of_block (w := a) (g.block p.block (World.block_lt_of_cell? a p h) hs)).trans h
theorem frozen_kx {S : Nat → Prop} {a b : World} {p : Addr} {v : Value} (g : Kx S a b) (hs : ¬ S p.block) (h : a.cell? p = some v) (hf : a.frozen? p = false) : b.frozen? p = false :=
  (World.frozen?_of_block (w := a) (g.block p.block (World.block_lt_of_cell? a p h) hs)).trans hf
end Go.Proofs.YtfobmlgpjhghdaaGreatDoor
namespace Go.Proofs.YtfobmlgpjhghdaaGreatDoor
set_option linter.unusedVariables false
set_option linter.unusedSimpArgs false
open Go.ChangeShapes Go.WideShapes Go.ChangeAt Go.RowKit
theorem kx_grown6 {S : Nat → Prop} {a b : World} {u v : Value} (h : Grown a b u v) (hS : ∀ k, u.ownBlock = some k → S k) : Kx S a b :=
  ⟨h.1.os, h.1.tape, h.1.output, h.1.size, fun k hk hs => h.1.block k hk (fun e => by
    cases hu : u.ownBlock with
    | none => rw [hu] at e; cases e
    | some j => rw [hu] at e; cases e; exact hs (hS _ hu))⟩
theorem news2_6 {w : World} {B : Nat} {a b : Value} (h0 : w.cell? ⟨B, 0, none⟩ = some a) (h1 : w.cell? ⟨B, 1, none⟩ = some b) : ∀ j u, [a, b][j]? = some u → w.cell? ((⟨B, 0, none⟩ : Addr).add j) = some u := by
  intro j u hj
  have e : (⟨B, 0, none⟩ : Addr).add j = ⟨B, j, none⟩ := by unfold Addr.add; split <;> simp_all
  rw [e]
  match j, hj with
  | 0, hj => simp at hj; subst hj; exact h0
  | 1, hj => simp at hj; subst hj; exact h1
  | j + 2, hj => simp at hj
theorem ones2_6 (a b : Int) : ∀ u ∈ [Value.int .i64 a, .int .i64 b], u.oneCell' = true := by
  intro u hu
  simp only [List.mem_cons, List.not_mem_nil, or_false] at hu
  rcases hu with rfl | rfl <;> rfl
theorem objC_near6 {k : Int} {n : Nat} {X Y : Nat → Int} (h : objC k n X Y = 0) : 1 ≤ k ∧ k ≤ 4 ∧ n ≤ 64 ∧ 1 ≤ n ∧ ∀ i, i < n → nearB (X i) (Y i) = true := by
  have hb : ∀ a b c d, boxN a b c d = 0 → nearB a b = true ∧ nearB c d = true := fun a b c d hh => by
    unfold boxN at hh
    split at hh
    · rename_i h1; simpa using h1
    · cases hh
  by_cases h4 : k = 4
  · subst h4
    rw [objC_4] at h
    obtain ⟨q1, q2, _, _⟩ := Rg.ringC_ok h
    exact ⟨by omega, by omega, by omega, by omega, q2⟩
  by_cases h3 : k = 3
  · subst h3
    rw [objC_3] at h
    by_cases hn : n = 2
    · rw [if_pos hn] at h
      obtain ⟨q1, q2⟩ := hb _ _ _ _ h
      refine ⟨by omega, by omega, by omega, by omega, fun i hi => ?_⟩
      rcases (by omega : i = 0 ∨ i = 1) with rfl | rfl
      · exact q1
      · exact q2
    · rw [if_neg hn] at h; cases h
  by_cases h1 : k = 1
  · subst h1
    rw [objC_1] at h
    by_cases hn : n = 1
    · rw [if_pos hn] at h
      refine ⟨by omega, by omega, by omega, by omega, fun i hi => ?_⟩
      obtain rfl : i = 0 := by omega
      exact (hb _ _ _ _ h).1
    · rw [if_neg hn] at h; cases h
  by_cases h2 : k = 2
  · subst h2
    rw [objC_2] at h
    by_cases hn : n = 1
    · rw [if_pos hn] at h
      refine ⟨by omega, by omega, by omega, by omega, fun i hi => ?_⟩
      obtain rfl : i = 0 := by omega
      have := hb _ _ _ _ h
      rw [nearB_iff, nearB_iff] at this
      rw [nearB_iff]
      omega
    · rw [if_neg hn] at h; cases h
  rw [objC_x h4 h3 h1 h2] at h
  cases h
def upZ (y a : Int) : Int := wrap64 (a + y)
theorem upZ_in {y a : Int} (h : -4611686018427387904 ≤ a ∧ a ≤ 4611686018427387904) (hy : -2147483648 ≤ y ∧ y ≤ 2147483648) : upZ y a = a + y := IntWalk.wrap64_in _ (by omega)
set_option maxHeartbeats 1000000 in
set_option maxRecDepth 100000 in
theorem c_up6 (ax ay y : Int) (D : Nat) (W : World) (h : W.cell? ⟨D, 0, none⟩ = some (.int .i64 y)) :
    Calls Tryz.prog 32 #[.agg #[.int .i64 ax, .int .i64 ay], .pointer (some ⟨D, 0, none⟩)] W fun e w' => e = .returned (.agg #[.int .i64 ax, .int .i64 (upZ y ay)]) ∧ Gr W w' := by
  have hD := World.block_lt_of_cell? _ _ h
  unfold upZ
  go_enter Tryz.func32, Tryz.ntmps32
  go_wp2_with fail
  refine bodyPost_ret (v := .agg #[.int .i64 ax, .int .i64 (wrap64 (ay + y))]) (by simp [results, Tryz.results32, go_sem, *]) rfl ⟨rfl, by go_grown⟩
set_option maxRecDepth 100000 in
theorem c_May6 (k : Int) {n : Nat} {X Y : Nat → Int} {v : Value} (W : World) (h : Pts W v n X Y) : Calls Tryz.prog 23 #[.agg #[.int .i64 k, v]] W fun e w' => e = .returned (.bool (decide (objC k n X Y = 0))) ∧ Gr W w' := by
  have A1 : ∀ w, Gr W w → Calls Tryz.prog 33 #[.agg #[.int .i64 k, v]] w fun e w' => e = .returned (.int .i64 (objC k n X Y : Nat)) ∧ Gr w w' := fun w g => c_rCheck k w (pts_gr h g)
  have hn : objC k n X Y = 0 → n ≤ 64 := fun e => (objC_near6 e).2.2.1
  generalize objC k n X Y = c at A1 hn ⊢
  obtain ⟨ad, cap, _, _, rfl, -⟩ := h
  by_cases h64 : n ≤ 64
  · have t1 : decide ((n : Int) ≤ (64 : Int)) = true := decide_eq_true (by omega)
    have t2 : decide (n ≤ 64) = true := decide_eq_true h64
    have H1 := Lib.hid A1
    clear A1
    by_cases hc : c = 0
    · subst hc
      rw [decide_eq_true rfl]
      clear hn h64
      go_enter Tryz.func23, Tryz.ntmps23
      go_wp2_with fail
      go_at_call 33
      refine ((H1.out _ (by go_grown))).mono ?_
      rintro e w1 ⟨rfl, hw1⟩
      have gw1 : Gr W w1 := Gr.trans (by go_grown) hw1
      clear hw1
      go_wp2_with fail
      go_ret
      exact ⟨rfl, gw1⟩
    · rw [decide_eq_false hc]
      have e1 : ((c : Int) == 0) = false := by simp; omega
      have e2 : (c == 0) = false := by simp; omega
      clear hn h64
      go_enter Tryz.func23, Tryz.ntmps23
      go_wp2_with fail
      go_at_call 33
      refine ((H1.out _ (by go_grown))).mono ?_
      rintro e w1 ⟨rfl, hw1⟩
      have gw1 : Gr W w1 := Gr.trans (by go_grown) hw1
      clear hw1
      go_wp2_with fail
      go_ret
      exact ⟨rfl, gw1⟩
  · have t1 : decide ((n : Int) ≤ (64 : Int)) = false := decide_eq_false (by omega)
    have t2 : decide (n ≤ 64) = false := decide_eq_false h64
    rw [decide_eq_false (fun e => h64 (hn e))]
    clear A1 hn h64
    go_enter Tryz.func23, Tryz.ntmps23
    go_wp2_with fail
    go_ret
    exact ⟨rfl, by go_grown⟩
end Go.Proofs.YtfobmlgpjhghdaaGreatDoor
namespace Go.Proofs.YtfobmlgpjhghdaaGreatDoor
set_option linter.unusedVariables false
set_option linter.unusedSimpArgs false
open Go.ChangeShapes Go.WideShapes Go.ChangeAt Go.RowKit
set_option maxHeartbeats 8000000 in
set_option maxRecDepth 100000 in
theorem moves_no (k kq lx ly hx hy px py y : Int) (ad bd : Option Addr) (n cap m bcap c : Nat) (b1 b3 : Bool) (W : World)
    (hc : b1 = false ∨ (b1 = true ∧ k = 2) ∨ (b1 = true ∧ k ≠ 2 ∧ c ≠ 0) ∨ (b1 = true ∧ k ≠ 2 ∧ c = 0 ∧ 64 < m) ∨ (b1 = true ∧ k ≠ 2 ∧ c = 0 ∧ m ≤ 64 ∧ b3 = false) ∨ (b1 = true ∧ k ≠ 2 ∧ c = 0 ∧ m ≤ 64 ∧ b3 = true ∧ y < -2147483648) ∨ (b1 = true ∧ k ≠ 2 ∧ c = 0 ∧ m ≤ 64 ∧ b3 = true ∧ 2147483648 < y))
    (A1 : ∀ w, Gr W w → Calls Tryz.prog 23 #[.agg #[.int .i64 k, .slice ad n cap]] w fun e w' => e = .returned (.bool b1) ∧ Gr w w')
    (A2 : ∀ w, Gr W w → Calls Tryz.prog 31 #[qryV kq lx ly hx hy (.slice bd m bcap)] w fun e w' => e = .returned (.int .i64 (c : Nat)) ∧ Gr w w')
    (A3 : ∀ w, Calls Tryz.prog 24 #[.agg #[.int .i64 px, .int .i64 py]] w fun e w' => e = .returned (.bool b3) ∧ Gr w w')
    (A4 : ∀ w, Gr W w → Calls Tryz.prog 9 #[] w fun e w' => e = .returned (.bool true) ∧ Gr w w') :
    Calls Tryz.prog 7 #[.agg #[.int .i64 k, .slice ad n cap], qryV kq lx ly hx hy (.slice bd m bcap), .agg #[.int .i64 px, .int .i64 py], .int .i64 y] W fun e w' => e = .returned (.bool true) ∧ Gr W w' := by
  have H1 := Lib.hid A1
  have H2 := Lib.hid A2
  have H3 := Lib.hid A3
  have H4 := Lib.hid A4
  clear A1 A2 A3 A4
  rcases hc with rfl | ⟨rfl, rfl⟩ | ⟨rfl, hk, hc⟩ | ⟨rfl, hk, rfl, hm⟩ | ⟨rfl, hk, rfl, hm, rfl⟩ | ⟨rfl, hk, rfl, hm, rfl, hyy⟩ | ⟨rfl, hk, rfl, hm, rfl, hyy⟩
  · go_enter Tryz.func7, Tryz.ntmps7
    go_wp2_with fail
    go_at_call 23
    refine ((H1.out _ (by go_grown))).mono ?_
    rintro e w1 ⟨rfl, hw1⟩
    have cw1_0_0 := ci hw1 (W.heap.size) 0 k (by go_simp)
    have cw1_1_0 := ci hw1 (W.heap.size + 1) 0 kq (by go_simp)
    have cw1_1_1 := ci hw1 (W.heap.size + 1) 1 lx (by go_simp)
    have cw1_1_2 := ci hw1 (W.heap.size + 1) 2 ly (by go_simp)
    have cw1_1_3 := ci hw1 (W.heap.size + 1) 3 hx (by go_simp)
    have cw1_1_4 := ci hw1 (W.heap.size + 1) 4 hy (by go_simp)
    have cw1_1_5 := cg hw1 (W.heap.size + 1) 5 (.slice bd m bcap) (by go_simp)
    have cw1_2_0 := ci hw1 (W.heap.size + 1 + 1) 0 px (by go_simp)
    have cw1_2_1 := ci hw1 (W.heap.size + 1 + 1) 1 py (by go_simp)
    have cw1_3_0 := ci hw1 (W.heap.size + 1 + 1 + 1) 0 y (by go_simp)
    have gw1 : Gr W w1 := Gr.trans (by go_grown) hw1
    clear hw1
    go_wp2_with fail
    go_at_call 9
    refine ((H4.out _ (by have gg := gw1; have gs := gg.size; go_grown))).mono ?_
    rintro e wa ⟨rfl, hwa⟩
    have gwa : Gr W wa := Gr.trans (by have gg := gw1; have gs := gg.size; go_grown) hwa
    clear hwa gw1 cw1_0_0 cw1_1_0 cw1_1_1 cw1_1_2 cw1_1_3 cw1_1_4 cw1_1_5 cw1_2_0 cw1_2_1 cw1_3_0
    go_wp2_with fail
    go_ret
    exact ⟨rfl, gwa⟩
  · go_enter Tryz.func7, Tryz.ntmps7
    go_wp2_with fail
    go_at_call 23
    refine ((H1.out _ (by go_grown))).mono ?_
    rintro e w1 ⟨rfl, hw1⟩
    have cw1_0_0 := ci hw1 (W.heap.size) 0 2 (by go_simp)
    have cw1_1_0 := ci hw1 (W.heap.size + 1) 0 kq (by go_simp)
    have cw1_1_1 := ci hw1 (W.heap.size + 1) 1 lx (by go_simp)
    have cw1_1_2 := ci hw1 (W.heap.size + 1) 2 ly (by go_simp)
    have cw1_1_3 := ci hw1 (W.heap.size + 1) 3 hx (by go_simp)
    have cw1_1_4 := ci hw1 (W.heap.size + 1) 4 hy (by go_simp)
    have cw1_1_5 := cg hw1 (W.heap.size + 1) 5 (.slice bd m bcap) (by go_simp)
    have cw1_2_0 := ci hw1 (W.heap.size + 1 + 1) 0 px (by go_simp)
    have cw1_2_1 := ci hw1 (W.heap.size + 1 + 1) 1 py (by go_simp)
    have cw1_3_0 := ci hw1 (W.heap.size + 1 + 1 + 1) 0 y (by go_simp)
    have gw1 : Gr W w1 := Gr.trans (by go_grown) hw1
    clear hw1
    go_wp2_with fail
    go_at_call 9
    refine ((H4.out _ (by have gg := gw1; have gs := gg.size; go_grown))).mono ?_
    rintro e wa ⟨rfl, hwa⟩
    have gwa : Gr W wa := Gr.trans (by have gg := gw1; have gs := gg.size; go_grown) hwa
    clear hwa gw1 cw1_0_0 cw1_1_0 cw1_1_1 cw1_1_2 cw1_1_3 cw1_1_4 cw1_1_5 cw1_2_0 cw1_2_1 cw1_3_0
    go_wp2_with fail
    go_ret
    exact ⟨rfl, gwa⟩
  · skip
    have e1 : (k == 2) = false := by simp; omega
    have e2 : decide (k = 2) = false := decide_eq_false hk
    have e5 : ((c : Int) != 0) = true := by simp; omega
    have e6 : (c != 0) = true := by simp; omega
    clear hk hc
    go_enter Tryz.func7, Tryz.ntmps7
    go_wp2_with fail
    go_at_call 23
    refine ((H1.out _ (by go_grown))).mono ?_
    rintro e w1 ⟨rfl, hw1⟩
    have cw1_0_0 := ci hw1 (W.heap.size) 0 k (by go_simp)
    have cw1_1_0 := ci hw1 (W.heap.size + 1) 0 kq (by go_simp)
    have cw1_1_1 := ci hw1 (W.heap.size + 1) 1 lx (by go_simp)
    have cw1_1_2 := ci hw1 (W.heap.size + 1) 2 ly (by go_simp)
    have cw1_1_3 := ci hw1 (W.heap.size + 1) 3 hx (by go_simp)
    have cw1_1_4 := ci hw1 (W.heap.size + 1) 4 hy (by go_simp)
    have cw1_1_5 := cg hw1 (W.heap.size + 1) 5 (.slice bd m bcap) (by go_simp)
    have cw1_2_0 := ci hw1 (W.heap.size + 1 + 1) 0 px (by go_simp)
    have cw1_2_1 := ci hw1 (W.heap.size + 1 + 1) 1 py (by go_simp)
    have cw1_3_0 := ci hw1 (W.heap.size + 1 + 1 + 1) 0 y (by go_simp)
    have gw1 : Gr W w1 := Gr.trans (by go_grown) hw1
    clear hw1
    go_wp2_with fail
    go_at_call 31
    refine ((H2.out _ (by have gg := gw1; have gs := gg.size; go_grown))).mono ?_
    rintro e w2 ⟨rfl, hw2⟩
    have cw2_1_5 := cg hw2 (W.heap.size + 1) 5 (.slice bd m bcap) (by go_simp)
    have cw2_2_0 := ci hw2 (W.heap.size + 1 + 1) 0 px (by go_simp)
    have cw2_2_1 := ci hw2 (W.heap.size + 1 + 1) 1 py (by go_simp)
    have cw2_3_0 := ci hw2 (W.heap.size + 1 + 1 + 1) 0 y (by go_simp)
    have gw2 : Gr W w2 := Gr.trans (by have gg := gw1; have gs := gg.size; go_grown) hw2
    clear hw2 gw1 cw1_0_0 cw1_1_0 cw1_1_1 cw1_1_2 cw1_1_3 cw1_1_4 cw1_1_5 cw1_2_0 cw1_2_1 cw1_3_0
    go_wp2_with fail
    go_at_call 9
    refine ((H4.out _ (by have gg := gw2; have gs := gg.size; go_grown))).mono ?_
    rintro e wa ⟨rfl, hwa⟩
    have gwa : Gr W wa := Gr.trans (by have gg := gw2; have gs := gg.size; go_grown) hwa
    clear hwa gw2 cw2_1_5 cw2_2_0 cw2_2_1 cw2_3_0
    go_wp2_with fail
    go_ret
    exact ⟨rfl, gwa⟩
  · skip
    have e1 : (k == 2) = false := by simp; omega
    have e2 : decide (k = 2) = false := decide_eq_false hk
    have e3 : decide ((64 : Int) < (m : Int)) = true := decide_eq_true (by omega)
    have e4 : decide (64 < m) = true := decide_eq_true (by omega)
    clear hk hm
    go_enter Tryz.func7, Tryz.ntmps7
    go_wp2_with fail
    go_at_call 23
    refine ((H1.out _ (by go_grown))).mono ?_
    rintro e w1 ⟨rfl, hw1⟩
    have cw1_0_0 := ci hw1 (W.heap.size) 0 k (by go_simp)
    have cw1_1_0 := ci hw1 (W.heap.size + 1) 0 kq (by go_simp)
    have cw1_1_1 := ci hw1 (W.heap.size + 1) 1 lx (by go_simp)
    have cw1_1_2 := ci hw1 (W.heap.size + 1) 2 ly (by go_simp)
    have cw1_1_3 := ci hw1 (W.heap.size + 1) 3 hx (by go_simp)
    have cw1_1_4 := ci hw1 (W.heap.size + 1) 4 hy (by go_simp)
    have cw1_1_5 := cg hw1 (W.heap.size + 1) 5 (.slice bd m bcap) (by go_simp)
    have cw1_2_0 := ci hw1 (W.heap.size + 1 + 1) 0 px (by go_simp)
    have cw1_2_1 := ci hw1 (W.heap.size + 1 + 1) 1 py (by go_simp)
    have cw1_3_0 := ci hw1 (W.heap.size + 1 + 1 + 1) 0 y (by go_simp)
    have gw1 : Gr W w1 := Gr.trans (by go_grown) hw1
    clear hw1
    go_wp2_with fail
    go_at_call 31
    refine ((H2.out _ (by have gg := gw1; have gs := gg.size; go_grown))).mono ?_
    rintro e w2 ⟨rfl, hw2⟩
    have cw2_1_5 := cg hw2 (W.heap.size + 1) 5 (.slice bd m bcap) (by go_simp)
    have cw2_2_0 := ci hw2 (W.heap.size + 1 + 1) 0 px (by go_simp)
    have cw2_2_1 := ci hw2 (W.heap.size + 1 + 1) 1 py (by go_simp)
    have cw2_3_0 := ci hw2 (W.heap.size + 1 + 1 + 1) 0 y (by go_simp)
    have gw2 : Gr W w2 := Gr.trans (by have gg := gw1; have gs := gg.size; go_grown) hw2
    clear hw2 gw1 cw1_0_0 cw1_1_0 cw1_1_1 cw1_1_2 cw1_1_3 cw1_1_4 cw1_1_5 cw1_2_0 cw1_2_1 cw1_3_0
    go_wp2_with fail
    go_at_call 9
    refine ((H4.out _ (by have gg := gw2; have gs := gg.size; go_grown))).mono ?_
    rintro e wa ⟨rfl, hwa⟩
    have gwa : Gr W wa := Gr.trans (by have gg := gw2; have gs := gg.size; go_grown) hwa
    clear hwa gw2 cw2_1_5 cw2_2_0 cw2_2_1 cw2_3_0
    go_wp2_with fail
    go_ret
    exact ⟨rfl, gwa⟩
  · skip
    have e1 : (k == 2) = false := by simp; omega
    have e2 : decide (k = 2) = false := decide_eq_false hk
    have e3 : decide ((64 : Int) < (m : Int)) = false := decide_eq_false (by omega)
    have e4 : decide (64 < m) = false := decide_eq_false (by omega)
    clear hk hm
    go_enter Tryz.func7, Tryz.ntmps7
    go_wp2_with fail
    go_at_call 23
    refine ((H1.out _ (by go_grown))).mono ?_
    rintro e w1 ⟨rfl, hw1⟩
    have cw1_0_0 := ci hw1 (W.heap.size) 0 k (by go_simp)
    have cw1_1_0 := ci hw1 (W.heap.size + 1) 0 kq (by go_simp)
    have cw1_1_1 := ci hw1 (W.heap.size + 1) 1 lx (by go_simp)
    have cw1_1_2 := ci hw1 (W.heap.size + 1) 2 ly (by go_simp)
    have cw1_1_3 := ci hw1 (W.heap.size + 1) 3 hx (by go_simp)
    have cw1_1_4 := ci hw1 (W.heap.size + 1) 4 hy (by go_simp)
    have cw1_1_5 := cg hw1 (W.heap.size + 1) 5 (.slice bd m bcap) (by go_simp)
    have cw1_2_0 := ci hw1 (W.heap.size + 1 + 1) 0 px (by go_simp)
    have cw1_2_1 := ci hw1 (W.heap.size + 1 + 1) 1 py (by go_simp)
    have cw1_3_0 := ci hw1 (W.heap.size + 1 + 1 + 1) 0 y (by go_simp)
    have gw1 : Gr W w1 := Gr.trans (by go_grown) hw1
    clear hw1
    go_wp2_with fail
    go_at_call 31
    refine ((H2.out _ (by have gg := gw1; have gs := gg.size; go_grown))).mono ?_
    rintro e w2 ⟨rfl, hw2⟩
    have cw2_1_5 := cg hw2 (W.heap.size + 1) 5 (.slice bd m bcap) (by go_simp)
    have cw2_2_0 := ci hw2 (W.heap.size + 1 + 1) 0 px (by go_simp)
    have cw2_2_1 := ci hw2 (W.heap.size + 1 + 1) 1 py (by go_simp)
    have cw2_3_0 := ci hw2 (W.heap.size + 1 + 1 + 1) 0 y (by go_simp)
    have gw2 : Gr W w2 := Gr.trans (by have gg := gw1; have gs := gg.size; go_grown) hw2
    clear hw2 gw1 cw1_0_0 cw1_1_0 cw1_1_1 cw1_1_2 cw1_1_3 cw1_1_4 cw1_1_5 cw1_2_0 cw1_2_1 cw1_3_0
    go_wp2_with fail
    go_at_call 24
    refine ((H3.out _)).mono ?_
    rintro e w3 ⟨rfl, hw3⟩
    have cw3_3_0 := ci hw3 (W.heap.size + 1 + 1 + 1) 0 y (by go_simp)
    have gw3 : Gr W w3 := Gr.trans (by have gg := gw2; have gs := gg.size; go_grown) hw3
    clear hw3 gw2 cw2_1_5 cw2_2_0 cw2_2_1 cw2_3_0
    go_wp2_with fail
    go_at_call 9
    refine ((H4.out _ (by have gg := gw3; have gs := gg.size; go_grown))).mono ?_
    rintro e wa ⟨rfl, hwa⟩
    have gwa : Gr W wa := Gr.trans (by have gg := gw3; have gs := gg.size; go_grown) hwa
    clear hwa gw3 cw3_3_0
    go_wp2_with fail
    go_ret
    exact ⟨rfl, gwa⟩
  · skip
    have e1 : (k == 2) = false := by simp; omega
    have e2 : decide (k = 2) = false := decide_eq_false hk
    have e3 : decide ((64 : Int) < (m : Int)) = false := decide_eq_false (by omega)
    have e4 : decide (64 < m) = false := decide_eq_false (by omega)
    have e7 : decide (y < -2147483648) = true := decide_eq_true hyy
    clear hk hm
    go_enter Tryz.func7, Tryz.ntmps7
    go_wp2_with fail
    go_at_call 23
    refine ((H1.out _ (by go_grown))).mono ?_
    rintro e w1 ⟨rfl, hw1⟩
    have cw1_0_0 := ci hw1 (W.heap.size) 0 k (by go_simp)
    have cw1_1_0 := ci hw1 (W.heap.size + 1) 0 kq (by go_simp)
    have cw1_1_1 := ci hw1 (W.heap.size + 1) 1 lx (by go_simp)
    have cw1_1_2 := ci hw1 (W.heap.size + 1) 2 ly (by go_simp)
    have cw1_1_3 := ci hw1 (W.heap.size + 1) 3 hx (by go_simp)
    have cw1_1_4 := ci hw1 (W.heap.size + 1) 4 hy (by go_simp)
    have cw1_1_5 := cg hw1 (W.heap.size + 1) 5 (.slice bd m bcap) (by go_simp)
    have cw1_2_0 := ci hw1 (W.heap.size + 1 + 1) 0 px (by go_simp)
    have cw1_2_1 := ci hw1 (W.heap.size + 1 + 1) 1 py (by go_simp)
    have cw1_3_0 := ci hw1 (W.heap.size + 1 + 1 + 1) 0 y (by go_simp)
    have gw1 : Gr W w1 := Gr.trans (by go_grown) hw1
    clear hw1
    go_wp2_with fail
    go_at_call 31
    refine ((H2.out _ (by have gg := gw1; have gs := gg.size; go_grown))).mono ?_
    rintro e w2 ⟨rfl, hw2⟩
    have cw2_1_5 := cg hw2 (W.heap.size + 1) 5 (.slice bd m bcap) (by go_simp)
    have cw2_2_0 := ci hw2 (W.heap.size + 1 + 1) 0 px (by go_simp)
    have cw2_2_1 := ci hw2 (W.heap.size + 1 + 1) 1 py (by go_simp)
    have cw2_3_0 := ci hw2 (W.heap.size + 1 + 1 + 1) 0 y (by go_simp)
    have gw2 : Gr W w2 := Gr.trans (by have gg := gw1; have gs := gg.size; go_grown) hw2
    clear hw2 gw1 cw1_0_0 cw1_1_0 cw1_1_1 cw1_1_2 cw1_1_3 cw1_1_4 cw1_1_5 cw1_2_0 cw1_2_1 cw1_3_0
    go_wp2_with fail
    go_at_call 24
    refine ((H3.out _)).mono ?_
    rintro e w3 ⟨rfl, hw3⟩
    have cw3_3_0 := ci hw3 (W.heap.size + 1 + 1 + 1) 0 y (by go_simp)
    have gw3 : Gr W w3 := Gr.trans (by have gg := gw2; have gs := gg.size; go_grown) hw3
    clear hw3 gw2 cw2_1_5 cw2_2_0 cw2_2_1 cw2_3_0
    go_wp2_with fail
    go_at_call 9
    refine ((H4.out _ (by have gg := gw3; have gs := gg.size; go_grown))).mono ?_
    rintro e wa ⟨rfl, hwa⟩
    have gwa : Gr W wa := Gr.trans (by have gg := gw3; have gs := gg.size; go_grown) hwa
    clear hwa gw3 cw3_3_0
    go_wp2_with fail
    go_ret
    exact ⟨rfl, gwa⟩
  · skip
    have e1 : (k == 2) = false := by simp; omega
    have e2 : decide (k = 2) = false := decide_eq_false hk
    have e3 : decide ((64 : Int) < (m : Int)) = false := decide_eq_false (by omega)
    have e4 : decide (64 < m) = false := decide_eq_false (by omega)
    have e7 : decide (y < -2147483648) = false := decide_eq_false (by omega)
    have e8 : decide ((2147483648 : Int) < y) = true := decide_eq_true hyy
    have e9 : ¬ y < -2147483648 := by omega
    clear hk hm
    go_enter Tryz.func7, Tryz.ntmps7
    go_wp2_with fail
    go_at_call 23
    refine ((H1.out _ (by go_grown))).mono ?_
    rintro e w1 ⟨rfl, hw1⟩
    have cw1_0_0 := ci hw1 (W.heap.size) 0 k (by go_simp)
    have cw1_1_0 := ci hw1 (W.heap.size + 1) 0 kq (by go_simp)
    have cw1_1_1 := ci hw1 (W.heap.size + 1) 1 lx (by go_simp)
    have cw1_1_2 := ci hw1 (W.heap.size + 1) 2 ly (by go_simp)
    have cw1_1_3 := ci hw1 (W.heap.size + 1) 3 hx (by go_simp)
    have cw1_1_4 := ci hw1 (W.heap.size + 1) 4 hy (by go_simp)
    have cw1_1_5 := cg hw1 (W.heap.size + 1) 5 (.slice bd m bcap) (by go_simp)
    have cw1_2_0 := ci hw1 (W.heap.size + 1 + 1) 0 px (by go_simp)
    have cw1_2_1 := ci hw1 (W.heap.size + 1 + 1) 1 py (by go_simp)
    have cw1_3_0 := ci hw1 (W.heap.size + 1 + 1 + 1) 0 y (by go_simp)
    have gw1 : Gr W w1 := Gr.trans (by go_grown) hw1
    clear hw1
    go_wp2_with fail
    go_at_call 31
    refine ((H2.out _ (by have gg := gw1; have gs := gg.size; go_grown))).mono ?_
    rintro e w2 ⟨rfl, hw2⟩
    have cw2_1_5 := cg hw2 (W.heap.size + 1) 5 (.slice bd m bcap) (by go_simp)
    have cw2_2_0 := ci hw2 (W.heap.size + 1 + 1) 0 px (by go_simp)
    have cw2_2_1 := ci hw2 (W.heap.size + 1 + 1) 1 py (by go_simp)
    have cw2_3_0 := ci hw2 (W.heap.size + 1 + 1 + 1) 0 y (by go_simp)
    have gw2 : Gr W w2 := Gr.trans (by have gg := gw1; have gs := gg.size; go_grown) hw2
    clear hw2 gw1 cw1_0_0 cw1_1_0 cw1_1_1 cw1_1_2 cw1_1_3 cw1_1_4 cw1_1_5 cw1_2_0 cw1_2_1 cw1_3_0
    go_wp2_with fail
    go_at_call 24
    refine ((H3.out _)).mono ?_
    rintro e w3 ⟨rfl, hw3⟩
    have cw3_3_0 := ci hw3 (W.heap.size + 1 + 1 + 1) 0 y (by go_simp)
    have gw3 : Gr W w3 := Gr.trans (by have gg := gw2; have gs := gg.size; go_grown) hw3
    clear hw3 gw2 cw2_1_5 cw2_2_0 cw2_2_1 cw2_3_0
    go_wp2_with fail
    go_at_call 9
    refine ((H4.out _ (by have gg := gw3; have gs := gg.size; go_grown))).mono ?_
    rintro e wa ⟨rfl, hwa⟩
    have gwa : Gr W wa := Gr.trans (by have gg := gw3; have gs := gg.size; go_grown) hwa
    clear hwa gw3 cw3_3_0
    go_wp2_with fail
    go_ret
    exact ⟨rfl, gwa⟩
end Go.Proofs.YtfobmlgpjhghdaaGreatDoor
namespace Go.Proofs.YtfobmlgpjhghdaaGreatDoor.Hm
set_option linter.unusedVariables false
set_option linter.unusedSimpArgs false
open Go.ChangeShapes Go.WideShapes Go.ChangeAt Go.RowKit Go.Proofs.YtfobmlgpjhghdaaGreatDoor.Hd
variable {P : Program} {ops : Array Oper} {md : Region.Mode} {n : Nat}
def mkB (ops : Array Oper) (n k1 : Nat) (d : Tmp) : Bool :=
  Region.lexTailB .any ops n && decide (k1 < n) &&
  (match ops[k1]? with | some o => o.dst == some d && o.guard.isNone | none => false) &&
  (List.range n).all fun j => j == k1 || match ops[j]? with | some o => !(o.looksAt ops).contains d && o.dst != some d | none => true
def RelK (k1 : Nat) (d : Tmp) (w0 : World) (zs : Array Value) (T : TypeId) (l : Array Bool) (a b : Act) (w : World) : Prop :=
  Gr w0 w ∧ ((l.getD k1 false = true ∧ ∃ B, b = a.put (some d) (.pointer (some ⟨B, 0, none⟩)) ∧ w0.heap.size ≤ B ∧ w.heap[B]? = some (.cells zs T)) ∨ (l.getD k1 false = false ∧ b = a))
theorem wp_region_mk {id : Nat} {Q : Exit → Act → World → Prop} {a : Act} {w : World} {l : List Oper} {o1 : Oper} (n k1 : Nat) (d : Tmp) (zs : Array Value) (T : TypeId) (hm : P.follows .mixedOrders = true) (hk1 : l.toArray[k1]? = some o1) (hB : mkB l.toArray n k1 d = true)
    (hal : ∀ b w', o1.wp P b w' (fun b' w'' => b' = b.put (some d) (.pointer (some ⟨w'.heap.size, 0, none⟩)) ∧ w'' = w'.alloc (.cells zs T)) (fun _ _ _ => False))
    (h' : ∀ K : Act → Prop, (∀ a', (∀ B w', Gr w w' → w.heap.size ≤ B → w'.heap[B]? = some (.cells zs T) → wpList P l.toArray Q (l.drop n) (a'.put (some d) (.pointer (some ⟨B, 0, none⟩))) w') → K a') →
      wpG P l.toArray (Gr w) (fun i => if i = n then (fun _ => False) else fun _ => True) (fun i => i == k1) K (l.take n) 0 a) : (Code.region id l.toArray true).wp P Q a w := by
  have h := h' (fun a' => ∀ B w', Gr w w' → w.heap.size ≤ B → w'.heap[B]? = some (.cells zs T) → wpList P l.toArray Q (l.drop n) (a'.put (some d) (.pointer (some ⟨B, 0, none⟩))) w') (fun a' x => x)
  simp only [mkB, Region.lexTailB, Bool.and_eq_true, decide_eq_true_eq, hk1, beq_iff_eq, Option.isNone_iff_eq_none] at hB
  obtain ⟨⟨⟨⟨⟨⟨⟨hsel, hn⟩, hs⟩, hc⟩, hlex⟩, h1n⟩, hd1, hg1'⟩, hap⟩ := hB
  have hn' : n < l.length := by simpa using hn
  have htl : (l.take n).length = n := by simp; omega
  have hdl : (l.drop n).length = l.toArray.size - n := by simp
  have inv0 : HeadInv .any l.toArray n (Array.replicate l.toArray.size false) :=
    ⟨by simp, fun j oj _ hl => (by rw [getD_replicate_false] at hl; cases hl), fun t _ ht => getD_in (by simpa using ht) (getD_replicate_false _ _)⟩
  have sp2 : ∀ i, ((i == k1) = true) → i = k1 := fun i hi => by simpa using hi
  have nsp : ∀ i, ¬ ((i == k1) = true) → i ≠ k1 := fun i hi => by simpa using hi
  have n12 : ¬ k1 = n := by omega
  have H := wpH_lex (md := .any) (g := l.toArray.size - n) (Pk := fun i => if i = n then (fun _ => False) else fun _ => True) (sp := fun i => i == k1) (fun k oi ok a v hk ho hap2 hD => by
    obtain rfl := sp2 k hk
    rw [if_neg n12]; trivial) (fun k ok oj a v hk ho hap2 hD => by
    obtain rfl := sp2 k hk
    rw [if_neg n12]; trivial) hsel hs hc hn (l.take n) 0 _ a (fun j hj => by
    have hj' : j < n := by rw [htl] at hj; exact hj
    simp [hj']) (by simpa using htl) inv0 (fun j => by rw [getD_replicate_false]; simp) (by simp) (by rw [htl]; exact hlex) h
  rw [htl] at H
  refine wp_region_any hm ?_
  have hw0 : Gr w { w with drawn := w.drawn + 1 } := (Below.refl _ _).drew
  have hap' : ∀ i o, l.toArray[i]? = some o → i < n → ¬ ((i == k1) = true) → (∀ t, some d = some t → t ∉ o.looksAt l.toArray) ∧ (∀ t, some d = some t → o.dst ≠ some t) := fun i o ho hin hnsp => by
    have := List.all_eq_true.1 hap i (List.mem_range.2 hin)
    have h1 := nsp i hnsp
    simp only [ho, Bool.or_eq_true, beq_iff_eq, h1, false_or, Bool.and_eq_true] at this
    simpa using this
  have := wpAny_of_H (Q' := Q) (g := l.toArray.size - n) (RelK k1 d w zs T) (fun _ _ _ _ h => h.1) ?_ ?_ ?_ (fun listed a' b' w' hL hR => by
    obtain ⟨hg, hr⟩ := hR
    have e1 := hL.1.2 k1
    rw [decide_eq_true (by omega)] at e1
    have hq : wpList P l.toArray Q (l.drop n) b' w' := by
      rcases hr with ⟨-, B, rfl, hB1, hB2⟩ | ⟨h1, -⟩
      · exact hL.2 B w' hg hB1 hB2
      · rw [e1] at h1; cases h1
    have := wpAny_of_seq (md := .any) (Q' := Q) (l.drop n) n listed b' w' (fun j => by simp [List.getElem?_drop]) (by rw [hdl]; exact hL.1.1) hq
    rwa [hdl] at this) n _ a a { w with drawn := w.drawn + 1 } (by simp) ⟨hw0, .inr ⟨getD_replicate_false _ _, rfl⟩⟩ H
  · rw [show n + (l.toArray.size - n) = l.toArray.size by omega] at this
    exact this
  · intro i o l' a b w1 w2 u hin hnsp ho hR hg
    have h1 := nsp i hnsp
    obtain ⟨hg1, hr⟩ := hR
    refine ⟨Gr.trans hg1 hg, ?_⟩
    rw [getD_set_ne false h1]
    rcases hr with ⟨h3, B, rfl, hB1, hB2⟩ | ⟨h3, rfl⟩
    · exact .inl ⟨h3, B, Act.put_comm a _ u (hap' i o ho hin hnsp).2, hB1, heap_gr hg hB2⟩
    · exact .inr ⟨h3, rfl⟩
  · intro i o l' a b w1 hin hnsp ho hR
    obtain ⟨hl', hn''⟩ := hap' i o ho hin hnsp
    obtain ⟨hg1, hr⟩ := hR
    rcases hr with ⟨h3, B, rfl, hB1, hB2⟩ | ⟨h3, rfl⟩
    · exact ⟨wanted_put o a (some d) _ hl', fun v hv => gAt_put (ops := l.toArray) (Region.noSelect_spec hsel i o · · ho) hl' hn'' hv⟩
    · exact ⟨rfl, fun v hv => hv⟩
  · intro i o l' a b w1 hin hsp ho hrd hsz hR hP
    obtain ⟨hun, o', ho', hall⟩ := mem_ready.1 hrd
    have hil : i < l.length := by simpa using (Array.getElem?_eq_some_iff.1 ho).1
    obtain ⟨hg1, hr⟩ := hR
    obtain rfl := sp2 i hsp
    rw [hk1] at ho
    cases ho
    have hf : l'.getD i false = false := getD_both hun
    obtain rfl : b = a := by
      rcases hr with ⟨h3, -⟩ | ⟨-, h5⟩
      · rw [hf] at h3; cases h3
      · exact h5
    refine ⟨by unfold Region.wanted; rw [hg1'], ?_⟩
    have ha := hal b w1
    unfold Oper.wp at ha ⊢
    refine upon_map (a := b) (b := b) (fun u w' hu => ?_) (fun dd w' hu => ?_) ha
    · rw [hu.1, hu.2]
      exact ⟨hg1.alloc hg1.size _, .inl ⟨by simp [hsz, hil], w1.heap.size, rfl, hg1.size, (MapKept.heap_alloc w1 _).1⟩⟩
    · exact (no_defer (hd1 ▸ hu.1)).elim
end Go.Proofs.YtfobmlgpjhghdaaGreatDoor.Hm
