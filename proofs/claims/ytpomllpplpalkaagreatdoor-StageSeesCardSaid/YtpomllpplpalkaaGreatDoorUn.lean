import Derived.Test.YtpomllpplpalkaaGreatDoorUc
import Derived.Test.YtpomllpplpalkaaGreatDoorUj
import Derived.Test.YtpomllpplpalkaaGreatDoorK
import Derived.Test.YtpomllpplpalkaaGreatDoorH
/- rel.allowed; rel.ringMeetsBox, whatever the boxes; rel.Match of an object that is no polygon -/
namespace Go.Proofs.YtpomllpplpalkaaGreatDoor
set_option linter.unusedVariables false
set_option linter.unusedSimpArgs false
open Go.ChangeShapes Go.WideShapes Go.ChangeAt Go.RowKit

set_option maxHeartbeats 4000000 in
set_option maxRecDepth 100000 in
theorem c_rmb_no {n : Nat} {X Y : Nat → Int} {v : Value} (lx ly hx hy : Int) (W : World) (h : Pts W v n X Y) (hn : n ≤ 64) (hm : arM n X Y lx ly hx hy = false) :
    Calls Tryz.prog 153 #[v, .agg #[.int .i64 lx, .int .i64 ly, .int .i64 hx, .int .i64 hy]] W fun e w' => e = .returned (.bool false) ∧ Gr W w' := by
  have A1 := fun w' (g : Gr W w') => c_AroundN w' (pts_gr h g) (by omega)
  have A2 := fun w' => c_Meets (mnN X n) (mnN Y n) (mxN X n) (mxN Y n) lx ly hx hy w'
  unfold arM at hm
  rw [hm] at A2
  generalize mnN X n = m1 at A1 A2
  generalize mnN Y n = m2 at A1 A2
  generalize mxN X n = m3 at A1 A2
  generalize mxN Y n = m4 at A1 A2
  obtain ⟨ad, cap, B, off, rfl, -⟩ := h
  have H1 := Lib.hid A1
  have H2 := Lib.hid A2
  clear A1 A2
  clear hm
  go_enter Tryz.func153, Tryz.ntmps153
  go_wp2_with fail
  go_wp2_with fail
  refine wp_region_spread (by kernel_rfl) (by kernel_rfl) ?_
  try simp only [List.append]
  repeat (first | go_big_quiet_skip | (go_big_quiet_want; go_big_quiet_op; (first | go_big_quiet_on | (apply Exists.intro; refine ⟨fun _ => ?_, ?_⟩; (· (first | (go_at_call 152; first | ((with_reducible refine ((H1.out _ (Gr.trans (by go_grown) (gr_spread _ _)))).mono ?_); rintro e w' ⟨rfl, hg⟩; exact ⟨rfl, spread_gr hg⟩)) | (go_at_call 154; first | ((with_reducible refine ((H2.out _)).mono ?_); rintro e w' ⟨rfl, hg⟩; exact ⟨rfl, spread_gr hg⟩)))); go_big_quiet_on))))
  refine wpQuiet_nil ?_
  intro w1 hhw1
  have hw1 := Hd.gr_of_spread hhw1
  have cw1_0_0 : w1.cell? ⟨W.heap.size, 0, none⟩ = some (.int .i64 lx) := cell_gr hw1 (by go_simp)
  have cw1_0_1 : w1.cell? ⟨W.heap.size, 1, none⟩ = some (.int .i64 ly) := cell_gr hw1 (by go_simp)
  have cw1_0_2 : w1.cell? ⟨W.heap.size, 2, none⟩ = some (.int .i64 hx) := cell_gr hw1 (by go_simp)
  have cw1_0_3 : w1.cell? ⟨W.heap.size, 3, none⟩ = some (.int .i64 hy) := cell_gr hw1 (by go_simp)
  have zw1_0 : W.heap.size < w1.heap.size := World.block_lt_of_cell? _ _ cw1_0_0
  have cw1_1_0 : w1.cell? ⟨W.heap.size + 1, 0, none⟩ = some (.bool false) := cell_gr hw1 (by go_simp)
  have fw1_1_0 : w1.frozen? ⟨W.heap.size + 1, 0, none⟩ = false := frozen_gr (v := .bool false) hw1 (by go_simp) (by go_simp)
  have zw1_1 : W.heap.size + 1 < w1.heap.size := World.block_lt_of_cell? _ _ cw1_1_0
  have gw1 : Gr W w1 := Gr.trans (by go_grown) hw1
  clear hw1 hhw1
  go_wp2_with fail
  go_wp2_with fail
  refine bodyPost_ret (v := .bool false) (by simp [results, Tryz.results153, go_sem, *]) rfl ⟨rfl, by go_grown⟩
end Go.Proofs.YtpomllpplpalkaaGreatDoor
/- rel.Match of an object that is no polygon -/
namespace Go.Proofs.YtpomllpplpalkaaGreatDoor
set_option linter.unusedVariables false
set_option linter.unusedSimpArgs false
open Go.ChangeShapes Go.WideShapes Go.ChangeAt Go.RowKit

def meV (lx ly hx hy mx my nx ny : Int) : Bool := boxB lx ly hx hy && boxB mx my nx ny && decide (lx ≤ nx) && decide (mx ≤ hx) && decide (ly ≤ ny) && decide (my ≤ hy)
def inV (lx ly hx hy mx my nx ny : Int) : Bool := boxB lx ly hx hy && boxB mx my nx ny && inB mx my nx ny lx ly && inB mx my nx ny hx hy
def rmV (n : Nat) (X Y : Nat → Int) (lx ly hx hy : Int) : Bool := arM n X Y lx ly hx hy && rmbV n X Y lx ly hx hy
theorem c_rmbA {n : Nat} {X Y : Nat → Int} {v : Value} (lx ly hx hy : Int) (W : World) (h : Pts W v n X Y) (h0 : (Rg.ringC n X Y).1 = 0) : Calls Tryz.prog 153 #[v, .agg #[.int .i64 lx, .int .i64 ly, .int .i64 hx, .int .i64 hy]] W fun e w' => e = .returned (.bool (rmV n X Y lx ly hx hy)) ∧ Gr W w' := by
  unfold rmV
  cases hm : arM n X Y lx ly hx hy
  · exact c_rmb_no lx ly hx hy W h (by have := (Rg.ringC_ok h0).1; omega) hm
  · rw [Bool.true_and]; exact c_rmb' W h h0 hm
def FrTo (W : World) (k : Int) (v : Value) (lx ly hx hy : Int) : Prop := (k = 1 ∨ k = 2 ∨ k = 3) ∧ (∃ ad n cap, v = .slice ad n cap) ∧ ∀ w, Gr W w → Calls Tryz.prog 110 #[.agg #[.int .i64 k, v]] w fun e w' => e = .returned (.agg #[.int .i64 lx, .int .i64 ly, .int .i64 hx, .int .i64 hy]) ∧ Gr w w'
theorem frTo_gr {a b : World} {k : Int} {v : Value} {lx ly hx hy : Int} (h : FrTo a k v lx ly hx hy) (g : Gr a b) : FrTo b k v lx ly hx hy := ⟨h.1, h.2.1, fun w g' => h.2.2 w (Gr.trans g g')⟩
section
variable {k : Int} {v : Value} {lx ly hx hy : Int}
set_option maxHeartbeats 2000000 in
set_option maxRecDepth 100000 in
theorem c_meetsBoxB (mx my nx ny : Int) (W : World) (h : FrTo W k v lx ly hx hy) : Calls Tryz.prog 111 #[.agg #[.int .i64 k, v], .agg #[.int .i64 mx, .int .i64 my, .int .i64 nx, .int .i64 ny]] W fun e w' => e = .returned (.bool (meV lx ly hx hy mx my nx ny)) ∧ Gr W w' := by
  have A1 := fun w => c_Meets lx ly hx hy mx my nx ny w
  unfold meV
  generalize (boxB lx ly hx hy && boxB mx my nx ny && decide (lx ≤ nx) && decide (mx ≤ hx) && decide (ly ≤ ny) && decide (my ≤ hy)) = z at A1 ⊢
  obtain ⟨hk, ⟨ad, n, cap, rfl⟩, A2⟩ := h
  have k4 : (k == 4) = false := by simp; omega
  have H1 := Lib.hid A1
  have H2 := Lib.hid A2
  clear A1 A2
  clear hk
  go_enter Tryz.func111, Tryz.ntmps111
  go_wp2_with fail
  go_wp2_with fail
  refine wp_region_spread (by kernel_rfl) (by kernel_rfl) ?_
  try simp only [List.append]
  repeat (first | go_big_quiet_skip | (go_big_quiet_want; go_big_quiet_op; (first | go_big_quiet_on | (apply Exists.intro; refine ⟨fun _ => ?_, ?_⟩; (· (first | (go_at_call 110; first | ((with_reducible refine ((H2.out _ (Gr.trans (by go_grown) (gr_spread _ _)))).mono ?_); rintro e w' ⟨rfl, hg⟩; exact ⟨rfl, spread_gr hg⟩)) | (go_at_call 154; first | ((with_reducible refine ((H1.out _)).mono ?_); rintro e w' ⟨rfl, hg⟩; exact ⟨rfl, spread_gr hg⟩)))); go_big_quiet_on))))
  refine wpQuiet_nil ?_
  intro w1 hhw1
  have hw1 := Hd.gr_of_spread hhw1
  have cw1_0_0 : w1.cell? ⟨W.heap.size, 0, none⟩ = some (.int .i64 k) := cell_gr hw1 (by go_simp)
  have cw1_0_1 : w1.cell? ⟨W.heap.size, 1, none⟩ = some (.slice ad n cap) := cell_gr hw1 (by go_simp)
  have zw1_0 : W.heap.size < w1.heap.size := World.block_lt_of_cell? _ _ cw1_0_0
  have cw1_1_0 : w1.cell? ⟨W.heap.size + 1, 0, none⟩ = some (.int .i64 mx) := cell_gr hw1 (by go_simp)
  have cw1_1_1 : w1.cell? ⟨W.heap.size + 1, 1, none⟩ = some (.int .i64 my) := cell_gr hw1 (by go_simp)
  have cw1_1_2 : w1.cell? ⟨W.heap.size + 1, 2, none⟩ = some (.int .i64 nx) := cell_gr hw1 (by go_simp)
  have cw1_1_3 : w1.cell? ⟨W.heap.size + 1, 3, none⟩ = some (.int .i64 ny) := cell_gr hw1 (by go_simp)
  have zw1_1 : W.heap.size + 1 < w1.heap.size := World.block_lt_of_cell? _ _ cw1_1_0
  have gw1 : Gr W w1 := Gr.trans (by go_grown) hw1
  clear hw1 hhw1
  go_wp2_with fail
  go_ret
  exact ⟨rfl, by have gg := gw1; have gs := gg.size; go_grown⟩
set_option maxHeartbeats 2000000 in
set_option maxRecDepth 100000 in
theorem c_meetsRingB {m : Nat} {P Q : Nat → Int} {u : Value} (W : World) (h : FrTo W k v lx ly hx hy) (hu : Pts W u m P Q) (h0 : (Rg.ringC m P Q).1 = 0) : Calls Tryz.prog 112 #[.agg #[.int .i64 k, v], u] W fun e w' => e = .returned (.bool (rmV m P Q lx ly hx hy)) ∧ Gr W w' := by
  have A1 := fun w (g : Gr W w) => c_rmbA lx ly hx hy w (pts_gr hu g) h0
  generalize rmV m P Q lx ly hx hy = z at A1 ⊢
  obtain ⟨hk, ⟨ad, n, cap, rfl⟩, A2⟩ := h
  obtain ⟨bd, bcap, _, _, rfl, -⟩ := hu
  have k4 : (k == 4) = false := by simp; omega
  have H1 := Lib.hid A1
  have H2 := Lib.hid A2
  clear A1 A2
  clear hk
  go_enter Tryz.func112, Tryz.ntmps112
  go_wp2_with fail
  go_at_call 110
  refine ((H2.out _ (by go_grown))).mono ?_
  rintro e w1 ⟨rfl, hw1⟩
  have cw1_0_0 : w1.cell? ⟨W.heap.size, 0, none⟩ = some (.int .i64 k) := cell_gr hw1 (by go_simp)
  have cw1_0_1 : w1.cell? ⟨W.heap.size, 1, none⟩ = some (.slice ad n cap) := cell_gr hw1 (by go_simp)
  have zw1_0 : W.heap.size < w1.heap.size := World.block_lt_of_cell? _ _ cw1_0_0
  have gw1 : Gr W w1 := Gr.trans (by go_grown) hw1
  clear hw1
  go_wp2_with fail
  go_at_call 153
  refine ((H1.out _ (by have gg := gw1; have gs := gg.size; go_grown))).mono ?_
  rintro e w2 ⟨rfl, hw2⟩
  have cw2_0_0 : w2.cell? ⟨W.heap.size, 0, none⟩ = some (.int .i64 k) := cell_gr hw2 (by go_simp)
  have cw2_0_1 : w2.cell? ⟨W.heap.size, 1, none⟩ = some (.slice ad n cap) := cell_gr hw2 (by go_simp)
  have zw2_0 : W.heap.size < w2.heap.size := World.block_lt_of_cell? _ _ cw2_0_0
  have gw2 : Gr W w2 := Gr.trans (by have gg := gw1; have gs := gg.size; go_grown) hw2
  clear hw2 gw1 zw1_0 cw1_0_0 cw1_0_1
  go_wp2_with fail
  go_ret
  exact ⟨rfl, gw2⟩
def msV (lx ly hx hy kq qlx qly qhx qhy : Int) (m : Nat) (P Q : Nat → Int) : Bool :=
  if kq = 2 then inV lx ly hx hy qlx qly qhx qhy else if kq = 3 then meV lx ly hx hy qlx qly qlx qly else if kq = 4 then rmV m P Q lx ly hx hy else meV lx ly hx hy qlx qly qhx qhy
set_option maxHeartbeats 4000000 in
set_option maxRecDepth 100000 in
theorem c_MatchesB {m : Nat} {P Q : Nat → Int} {u : Value} (kq qlx qly qhx qhy : Int) (W : World) (h : FrTo W k v lx ly hx hy) (hu : Pts W u m P Q) (h0 : kq = 4 → (Rg.ringC m P Q).1 = 0) :
    Calls Tryz.prog 74 #[.agg #[.int .i64 k, v], qryV kq qlx qly qhx qhy u] W fun e w' => e = .returned (.bool (msV lx ly hx hy kq qlx qly qhx qhy m P Q)) ∧ Gr W w' := by
  unfold msV
  by_cases k2 : kq = 2
  · rw [if_pos k2]
    subst k2
    have A1 := fun w => c_Inside lx ly hx hy qlx qly qhx qhy w
    unfold inV
    generalize (boxB lx ly hx hy && boxB qlx qly qhx qhy && inB qlx qly qhx qhy lx ly && inB qlx qly qhx qhy hx hy) = z at A1 ⊢
    obtain ⟨hk, ⟨ad, n, cap, rfl⟩, A2⟩ := h
    obtain ⟨bd, bcap, _, _, rfl, -⟩ := hu
    have H1 := Lib.hid A1
    have H2 := Lib.hid A2
    clear A1 A2
    clear hk h0
    go_enter Tryz.func74, Tryz.ntmps74
    go_wp2_with fail
    go_wp2_with fail
    refine wp_region_spread (by kernel_rfl) (by kernel_rfl) ?_
    try simp only [List.append]
    repeat (first | go_big_quiet_skip | (go_big_quiet_want; go_big_quiet_op; (first | go_big_quiet_on | (apply Exists.intro; refine ⟨fun _ => ?_, ?_⟩; (· (first | (go_at_call 110; first | ((with_reducible refine ((H2.out _ (Gr.trans (by go_grown) (gr_spread _ _)))).mono ?_); rintro e w' ⟨rfl, hg⟩; exact ⟨rfl, spread_gr hg⟩)) | (go_at_call 109; first | ((with_reducible refine ((H1.out _)).mono ?_); rintro e w' ⟨rfl, hg⟩; exact ⟨rfl, spread_gr hg⟩)))); go_big_quiet_on))))
    refine wpQuiet_nil ?_
    intro w1 hhw1
    have hw1 := Hd.gr_of_spread hhw1
    have cw1_0_0 : w1.cell? ⟨W.heap.size, 0, none⟩ = some (.int .i64 k) := cell_gr hw1 (by go_simp)
    have cw1_0_1 : w1.cell? ⟨W.heap.size, 1, none⟩ = some (.slice ad n cap) := cell_gr hw1 (by go_simp)
    have zw1_0 : W.heap.size < w1.heap.size := World.block_lt_of_cell? _ _ cw1_0_0
    have cw1_1_0 : w1.cell? ⟨W.heap.size + 1, 0, none⟩ = some (.int .i64 2) := cell_gr hw1 (by go_simp)
    have cw1_1_1 : w1.cell? ⟨W.heap.size + 1, 1, none⟩ = some (.int .i64 qlx) := cell_gr hw1 (by go_simp)
    have cw1_1_2 : w1.cell? ⟨W.heap.size + 1, 2, none⟩ = some (.int .i64 qly) := cell_gr hw1 (by go_simp)
    have cw1_1_3 : w1.cell? ⟨W.heap.size + 1, 3, none⟩ = some (.int .i64 qhx) := cell_gr hw1 (by go_simp)
    have cw1_1_4 : w1.cell? ⟨W.heap.size + 1, 4, none⟩ = some (.int .i64 qhy) := cell_gr hw1 (by go_simp)
    have cw1_1_5 : w1.cell? ⟨W.heap.size + 1, 5, none⟩ = some (.slice bd m bcap) := cell_gr hw1 (by go_simp)
    have zw1_1 : W.heap.size + 1 < w1.heap.size := World.block_lt_of_cell? _ _ cw1_1_0
    have gw1 : Gr W w1 := Gr.trans (by go_grown) hw1
    clear hw1 hhw1
    go_wp2_with fail
    go_ret
    exact ⟨rfl, by have gg := gw1; have gs := gg.size; go_grown⟩
  rw [if_neg k2]
  have b2 : (kq == 2) = false := by simp; omega
  by_cases k3 : kq = 3
  · rw [if_pos k3]
    subst k3
    have A1 := fun w (g : Gr W w) => c_meetsBoxB qlx qly qlx qly w (frTo_gr h g)
    generalize meV lx ly hx hy qlx qly qlx qly = z at A1 ⊢
    obtain ⟨hk, ⟨ad, n, cap, rfl⟩, A2⟩ := h
    obtain ⟨bd, bcap, _, _, rfl, -⟩ := hu
    have H1 := Lib.hid A1
    have H2 := Lib.hid A2
    clear A1 A2
    clear hk h0
    go_enter Tryz.func74, Tryz.ntmps74
    go_wp2_with fail
    go_at_call 111
    refine ((H1.out _ (by go_grown))).mono ?_
    rintro e w1 ⟨rfl, hw1⟩
    have gw1 : Gr W w1 := Gr.trans (by go_grown) hw1
    clear hw1
    go_wp2_with fail
    go_ret
    exact ⟨rfl, gw1⟩
  rw [if_neg k3]
  have b3 : (kq == 3) = false := by simp; omega
  by_cases k4 : kq = 4
  · rw [if_pos k4]
    have A1 := fun w (g : Gr W w) => c_meetsRingB w (frTo_gr h g) (pts_gr hu g) (h0 k4)
    subst k4
    generalize rmV m P Q lx ly hx hy = z at A1 ⊢
    obtain ⟨hk, ⟨ad, n, cap, rfl⟩, A2⟩ := h
    obtain ⟨bd, bcap, _, _, rfl, -⟩ := hu
    have H1 := Lib.hid A1
    have H2 := Lib.hid A2
    clear A1 A2
    clear hk h0
    go_enter Tryz.func74, Tryz.ntmps74
    go_wp2_with fail
    go_at_call 112
    refine ((H1.out _ (by go_grown))).mono ?_
    rintro e w1 ⟨rfl, hw1⟩
    have gw1 : Gr W w1 := Gr.trans (by go_grown) hw1
    clear hw1
    go_wp2_with fail
    go_ret
    exact ⟨rfl, gw1⟩
  rw [if_neg k4]
  have b4 : (kq == 4) = false := by simp; omega
  have A1 := fun w (g : Gr W w) => c_meetsBoxB qlx qly qhx qhy w (frTo_gr h g)
  generalize meV lx ly hx hy qlx qly qhx qhy = z at A1 ⊢
  obtain ⟨hk, ⟨ad, n, cap, rfl⟩, A2⟩ := h
  obtain ⟨bd, bcap, _, _, rfl, -⟩ := hu
  have H1 := Lib.hid A1
  have H2 := Lib.hid A2
  clear A1 A2
  clear hk h0
  go_enter Tryz.func74, Tryz.ntmps74
  go_wp2_with fail
  go_at_call 111
  refine ((H1.out _ (by go_grown))).mono ?_
  rintro e w1 ⟨rfl, hw1⟩
  have gw1 : Gr W w1 := Gr.trans (by go_grown) hw1
  clear hw1
  go_wp2_with fail
  go_ret
  exact ⟨rfl, gw1⟩
end
end Go.Proofs.YtpomllpplpalkaaGreatDoor
/- rel.Far, Dist of an object that is no polygon; such objects; RelKinds -/
namespace Go.Proofs.YtpomllpplpalkaaGreatDoor
set_option linter.unusedVariables false
set_option linter.unusedSimpArgs false
open Go.ChangeShapes Go.WideShapes Go.ChangeAt Go.RowKit

def BL (W : World) (k : Int) (v : Value) (lx ly hx hy : Int) : Prop := FrTo W k v lx ly hx hy ∧ ∃ n X Y, Pts W v n X Y ∧ objC k n X Y = boxN lx ly hx hy
end Go.Proofs.YtpomllpplpalkaaGreatDoor
/- rel.Matches, Match of a polygon, of any object -/
namespace Go.Proofs.YtpomllpplpalkaaGreatDoor
set_option linter.unusedVariables false
set_option linter.unusedSimpArgs false
open Go.ChangeShapes Go.WideShapes Go.ChangeAt Go.RowKit

set_option maxHeartbeats 4000000 in
set_option maxRecDepth 100000 in
theorem c_rings_no {n m : Nat} {X Y P Q : Nat → Int} {v u : Value} (W : World) (h : Pts W v n X Y) (hu : Pts W u m P Q) (hn : n ≤ 64) (hm9 : m ≤ 64) (hm : arM n X Y (mnN P m) (mnN Q m) (mxN P m) (mxN Q m) = false) :
    Calls Tryz.prog 155 #[v, u] W fun e w' => e = .returned (.bool false) ∧ Gr W w' := by
  have A1 := fun w' (g : Gr W w') => c_AroundN w' (pts_gr h g) (by omega)
  have A2 := fun w' (g : Gr W w') => c_AroundN w' (pts_gr hu g) (by omega)
  have A3 := fun w' => c_Meets (mnN X n) (mnN Y n) (mxN X n) (mxN Y n) (mnN P m) (mnN Q m) (mxN P m) (mxN Q m) w'
  unfold arM at hm
  rw [hm] at A3
  generalize mnN X n = m1 at A1 A3
  generalize mnN Y n = m2 at A1 A3
  generalize mxN X n = m3 at A1 A3
  generalize mxN Y n = m4 at A1 A3
  generalize mnN P m = k1 at A2 A3
  generalize mnN Q m = k2 at A2 A3
  generalize mxN P m = k3 at A2 A3
  generalize mxN Q m = k4 at A2 A3
  obtain ⟨ad, cap, B, off, rfl, -⟩ := h
  obtain ⟨bd, bcap, C, oc, rfl, -⟩ := hu
  have H1 := Lib.hid A1
  have H2 := Lib.hid A2
  have H3 := Lib.hid A3
  clear A1 A2 A3
  clear hm
  go_enter Tryz.func155, Tryz.ntmps155
  go_wp2_with fail
  go_at_call 152
  refine ((H2.out _ (by go_grown))).mono ?_
  rintro e w1 ⟨rfl, hw1⟩
  have cw1_0_0 : w1.cell? ⟨W.heap.size, 0, none⟩ = some (.slice bd m bcap) := cell_gr hw1 (by go_simp)
  have zw1_0 : W.heap.size < w1.heap.size := World.block_lt_of_cell? _ _ cw1_0_0
  have cw1_1_0 : w1.cell? ⟨W.heap.size + 1, 0, none⟩ = some (.bool false) := cell_gr hw1 (by go_simp)
  have fw1_1_0 : w1.frozen? ⟨W.heap.size + 1, 0, none⟩ = false := frozen_gr (v := .bool false) hw1 (by go_simp) (by go_simp)
  have zw1_1 : W.heap.size + 1 < w1.heap.size := World.block_lt_of_cell? _ _ cw1_1_0
  have gw1 : Gr W w1 := Gr.trans (by go_grown) hw1
  clear hw1
  go_wp2_with fail
  go_wp2_with fail
  refine wp_region_spread (by kernel_rfl) (by kernel_rfl) ?_
  try simp only [List.append]
  repeat (first | go_big_quiet_skip | (go_big_quiet_want; go_big_quiet_op; (first | go_big_quiet_on | (apply Exists.intro; refine ⟨fun _ => ?_, ?_⟩; (· (first | (go_at_call 152; first | ((with_reducible refine ((H1.out _ (Gr.trans (by have gg := gw1; have gs := gg.size; go_grown) (gr_spread _ _)))).mono ?_); rintro e w' ⟨rfl, hg⟩; exact ⟨rfl, spread_gr hg⟩)) | (go_at_call 154; first | ((with_reducible refine ((H3.out _)).mono ?_); rintro e w' ⟨rfl, hg⟩; exact ⟨rfl, spread_gr hg⟩)))); go_big_quiet_on))))
  refine wpQuiet_nil ?_
  intro w2 hhw2
  have hw2 := Hd.gr_of_spread hhw2
  have cw2_0_0 : w2.cell? ⟨W.heap.size, 0, none⟩ = some (.slice bd m bcap) := cell_gr hw2 (by go_simp)
  have zw2_0 : W.heap.size < w2.heap.size := World.block_lt_of_cell? _ _ cw2_0_0
  have cw2_1_0 : w2.cell? ⟨W.heap.size + 1, 0, none⟩ = some (.bool false) := cell_gr hw2 (by go_simp)
  have fw2_1_0 : w2.frozen? ⟨W.heap.size + 1, 0, none⟩ = false := frozen_gr (v := .bool false) hw2 (by go_simp) (by go_simp)
  have zw2_1 : W.heap.size + 1 < w2.heap.size := World.block_lt_of_cell? _ _ cw2_1_0
  have cw2_2_0 : w2.cell? ⟨w1.heap.size, 0, none⟩ = some (.int .i64 k1) := cell_gr hw2 (by go_simp)
  have cw2_2_1 : w2.cell? ⟨w1.heap.size, 1, none⟩ = some (.int .i64 k2) := cell_gr hw2 (by go_simp)
  have cw2_2_2 : w2.cell? ⟨w1.heap.size, 2, none⟩ = some (.int .i64 k3) := cell_gr hw2 (by go_simp)
  have cw2_2_3 : w2.cell? ⟨w1.heap.size, 3, none⟩ = some (.int .i64 k4) := cell_gr hw2 (by go_simp)
  have zw2_2 : w1.heap.size < w2.heap.size := World.block_lt_of_cell? _ _ cw2_2_0
  have gw2 : Gr W w2 := Gr.trans (by have gg := gw1; have gs := gg.size; go_grown) hw2
  clear hw2 hhw2 gw1 zw1_0 cw1_0_0 zw1_1 cw1_1_0 fw1_1_0
  go_wp2_with fail
  refine bodyPost_ret (v := .bool false) (by simp [results, Tryz.results155, go_sem, *]) rfl ⟨rfl, by go_grown⟩
def rgV (n : Nat) (X Y : Nat → Int) (m : Nat) (P Q : Nat → Int) : Bool :=
  arM n X Y (mnN P m) (mnN Q m) (mxN P m) (mxN Q m) && (rmW n X Y m P Q (mnN P m) (mnN Q m) (mxN P m) (mxN Q m) (List.range n) || ((nearB (P 0) (Q 0) && Rg.hasN n X Y (P 0) (Q 0)) || (nearB (X 0) (Y 0) && Rg.hasN m P Q (X 0) (Y 0))))
theorem c_ringsA {n m : Nat} {X Y P Q : Nat → Int} {v u : Value} (W : World) (h : Pts W v n X Y) (hu : Pts W u m P Q) (h0 : (Rg.ringC n X Y).1 = 0) (h9 : (Rg.ringC m P Q).1 = 0) : Calls Tryz.prog 155 #[v, u] W fun e w' => e = .returned (.bool (rgV n X Y m P Q)) ∧ Gr W w' := by
  unfold rgV
  cases hm : arM n X Y (mnN P m) (mnN Q m) (mxN P m) (mxN Q m)
  · exact c_rings_no W h hu (by have := (Rg.ringC_ok h0).1; omega) (by have := (Rg.ringC_ok h9).1; omega) hm
  · rw [Bool.true_and]; exact c_rings W h hu h0 h9 rfl rfl rfl rfl hm
section
variable {n : Nat} {X Y : Nat → Int} {v : Value}
set_option maxHeartbeats 2000000 in
set_option maxRecDepth 100000 in
theorem c_frame_4 (W : World) (h : Pts W v n X Y) (hn : n ≤ 1000000) : Calls Tryz.prog 110 #[.agg #[.int .i64 4, v]] W fun e w' => e = .returned (.agg #[.int .i64 (mnN X n), .int .i64 (mnN Y n), .int .i64 (mxN X n), .int .i64 (mxN Y n)]) ∧ Gr W w' := by
  have A1 := fun w (g : Gr W w) => c_AroundN w (pts_gr h g) hn
  generalize mnN X n = m1 at A1 ⊢
  generalize mnN Y n = m2 at A1 ⊢
  generalize mxN X n = m3 at A1 ⊢
  generalize mxN Y n = m4 at A1 ⊢
  obtain ⟨ad, cap, B, off, rfl, -⟩ := h
  have H1 := Lib.hid A1
  clear A1
  go_enter Tryz.func110, Tryz.ntmps110
  go_wp2_with fail
  go_at_call 152
  refine ((H1.out _ (by go_grown))).mono ?_
  rintro e w1 ⟨rfl, hw1⟩
  have cw1_0_0 : w1.cell? ⟨W.heap.size, 0, none⟩ = some (.int .i64 4) := cell_gr hw1 (by go_simp)
  have cw1_0_1 : w1.cell? ⟨W.heap.size, 1, none⟩ = some (.slice ad n cap) := cell_gr hw1 (by go_simp)
  have zw1_0 : W.heap.size < w1.heap.size := World.block_lt_of_cell? _ _ cw1_0_0
  have cw1_1_0 : w1.cell? ⟨W.heap.size + 1, 0, none⟩ = some (.int .i64 0) := cell_gr hw1 (by go_simp)
  have fw1_1_0 : w1.frozen? ⟨W.heap.size + 1, 0, none⟩ = false := frozen_gr (v := .int .i64 0) hw1 (by go_simp) (by go_simp)
  have cw1_1_1 : w1.cell? ⟨W.heap.size + 1, 1, none⟩ = some (.int .i64 0) := cell_gr hw1 (by go_simp)
  have fw1_1_1 : w1.frozen? ⟨W.heap.size + 1, 1, none⟩ = false := frozen_gr (v := .int .i64 0) hw1 (by go_simp) (by go_simp)
  have cw1_1_2 : w1.cell? ⟨W.heap.size + 1, 2, none⟩ = some (.int .i64 0) := cell_gr hw1 (by go_simp)
  have fw1_1_2 : w1.frozen? ⟨W.heap.size + 1, 2, none⟩ = false := frozen_gr (v := .int .i64 0) hw1 (by go_simp) (by go_simp)
  have cw1_1_3 : w1.cell? ⟨W.heap.size + 1, 3, none⟩ = some (.int .i64 0) := cell_gr hw1 (by go_simp)
  have fw1_1_3 : w1.frozen? ⟨W.heap.size + 1, 3, none⟩ = false := frozen_gr (v := .int .i64 0) hw1 (by go_simp) (by go_simp)
  have zw1_1 : W.heap.size + 1 < w1.heap.size := World.block_lt_of_cell? _ _ cw1_1_0
  have gw1 : Gr W w1 := Gr.trans (by go_grown) hw1
  clear hw1
  go_wp2_with fail
  refine bodyPost_ret (v := .agg #[.int .i64 m1, .int .i64 m2, .int .i64 m3, .int .i64 m4]) (by simp [results, Tryz.results110, go_sem, *]) rfl ⟨rfl, by go_grown⟩
set_option maxRecDepth 100000 in
theorem c_meetsBoxA (lx ly hx hy : Int) (W : World) (h : Pts W v n X Y) (h0 : (Rg.ringC n X Y).1 = 0) :
    Calls Tryz.prog 111 #[.agg #[.int .i64 4, v], .agg #[.int .i64 lx, .int .i64 ly, .int .i64 hx, .int .i64 hy]] W fun e w' => e = .returned (.bool (rmV n X Y lx ly hx hy)) ∧ Gr W w' := by
  have A1 := fun w (g : Gr W w) => c_rmbA lx ly hx hy w (pts_gr h g) h0
  generalize rmV n X Y lx ly hx hy = z at A1 ⊢
  obtain ⟨ad, cap, B, off, rfl, _⟩ := h
  have H1 := Lib.hid A1
  clear A1
  go_enter Tryz.func111, Tryz.ntmps111
  go_wp2_with fail
  go_at_call 153
  refine ((H1.out _ (by go_grown))).mono ?_
  rintro e w1 ⟨rfl, hw1⟩
  have gw1 : Gr W w1 := Gr.trans (by go_grown) hw1
  clear hw1
  go_wp2_with fail
  go_ret
  exact ⟨rfl, gw1⟩
set_option maxRecDepth 100000 in
theorem c_meetsRingA {m : Nat} {P Q : Nat → Int} {u : Value} (W : World) (h : Pts W v n X Y) (h0 : (Rg.ringC n X Y).1 = 0) (hu : Pts W u m P Q) (h9 : (Rg.ringC m P Q).1 = 0) :
    Calls Tryz.prog 112 #[.agg #[.int .i64 4, v], u] W fun e w' => e = .returned (.bool (rgV n X Y m P Q)) ∧ Gr W w' := by
  have A1 := fun w (g : Gr W w) => c_ringsA w (pts_gr h g) (pts_gr hu g) h0 h9
  generalize rgV n X Y m P Q = z at A1 ⊢
  obtain ⟨ad, cap, B, off, rfl, _⟩ := h
  obtain ⟨bd, bcap, C, oc, rfl, _⟩ := hu
  have H1 := Lib.hid A1
  clear A1
  go_enter Tryz.func112, Tryz.ntmps112
  go_wp2_with fail
  go_at_call 155
  refine ((H1.out _ (by go_grown))).mono ?_
  rintro e w1 ⟨rfl, hw1⟩
  have gw1 : Gr W w1 := Gr.trans (by go_grown) hw1
  clear hw1
  go_wp2_with fail
  go_ret
  exact ⟨rfl, gw1⟩
def mpV (n : Nat) (X Y : Nat → Int) (kq qlx qly qhx qhy : Int) (m : Nat) (P Q : Nat → Int) : Bool :=
  if kq = 2 then inV (mnN X n) (mnN Y n) (mxN X n) (mxN Y n) qlx qly qhx qhy else if kq = 3 then rmV n X Y qlx qly qlx qly else if kq = 4 then rgV n X Y m P Q else rmV n X Y qlx qly qhx qhy
set_option maxHeartbeats 4000000 in
set_option maxRecDepth 100000 in
theorem c_MatchesP {m : Nat} {P Q : Nat → Int} {u : Value} (kq qlx qly qhx qhy : Int) (W : World) (h : Pts W v n X Y) (h9 : (Rg.ringC n X Y).1 = 0) (hu : Pts W u m P Q) (h0 : kq = 4 → (Rg.ringC m P Q).1 = 0) :
    Calls Tryz.prog 74 #[.agg #[.int .i64 4, v], qryV kq qlx qly qhx qhy u] W fun e w' => e = .returned (.bool (mpV n X Y kq qlx qly qhx qhy m P Q)) ∧ Gr W w' := by
  unfold mpV
  by_cases k2 : kq = 2
  · rw [if_pos k2]
    subst k2
    have A1 := fun w => c_Inside (mnN X n) (mnN Y n) (mxN X n) (mxN Y n) qlx qly qhx qhy w
    have A2 := fun w (g : Gr W w) => c_frame_4 w (pts_gr h g) (by have := (Rg.ringC_ok h9).1; omega)
    unfold inV
    generalize (boxB (mnN X n) (mnN Y n) (mxN X n) (mxN Y n) && boxB qlx qly qhx qhy && inB qlx qly qhx qhy (mnN X n) (mnN Y n) && inB qlx qly qhx qhy (mxN X n) (mxN Y n)) = z at A1 ⊢
    generalize mnN X n = m1 at A1 A2
    generalize mnN Y n = m2 at A1 A2
    generalize mxN X n = m3 at A1 A2
    generalize mxN Y n = m4 at A1 A2
    obtain ⟨ad, cap, _, _, rfl, -⟩ := h
    obtain ⟨bd, bcap, _, _, rfl, -⟩ := hu
    have H1 := Lib.hid A1
    have H2 := Lib.hid A2
    clear A1 A2
    clear h0 h9
    go_enter Tryz.func74, Tryz.ntmps74
    go_wp2_with fail
    go_wp2_with fail
    refine wp_region_spread (by kernel_rfl) (by kernel_rfl) ?_
    try simp only [List.append]
    repeat (first | go_big_quiet_skip | (go_big_quiet_want; go_big_quiet_op; (first | go_big_quiet_on | (apply Exists.intro; refine ⟨fun _ => ?_, ?_⟩; (· (first | (go_at_call 110; first | ((with_reducible refine ((H2.out _ (Gr.trans (by go_grown) (gr_spread _ _)))).mono ?_); rintro e w' ⟨rfl, hg⟩; exact ⟨rfl, spread_gr hg⟩)) | (go_at_call 109; first | ((with_reducible refine ((H1.out _)).mono ?_); rintro e w' ⟨rfl, hg⟩; exact ⟨rfl, spread_gr hg⟩)))); go_big_quiet_on))))
    refine wpQuiet_nil ?_
    intro w1 hhw1
    have hw1 := Hd.gr_of_spread hhw1
    have cw1_0_0 : w1.cell? ⟨W.heap.size, 0, none⟩ = some (.int .i64 4) := cell_gr hw1 (by go_simp)
    have cw1_0_1 : w1.cell? ⟨W.heap.size, 1, none⟩ = some (.slice ad n cap) := cell_gr hw1 (by go_simp)
    have zw1_0 : W.heap.size < w1.heap.size := World.block_lt_of_cell? _ _ cw1_0_0
    have cw1_1_0 : w1.cell? ⟨W.heap.size + 1, 0, none⟩ = some (.int .i64 2) := cell_gr hw1 (by go_simp)
    have fw1_1_0 : w1.frozen? ⟨W.heap.size + 1, 0, none⟩ = false := frozen_gr (v := .int .i64 2) hw1 (by go_simp) (by go_simp)
    have cw1_1_1 : w1.cell? ⟨W.heap.size + 1, 1, none⟩ = some (.int .i64 qlx) := cell_gr hw1 (by go_simp)
    have fw1_1_1 : w1.frozen? ⟨W.heap.size + 1, 1, none⟩ = false := frozen_gr (v := .int .i64 qlx) hw1 (by go_simp) (by go_simp)
    have cw1_1_2 : w1.cell? ⟨W.heap.size + 1, 2, none⟩ = some (.int .i64 qly) := cell_gr hw1 (by go_simp)
    have fw1_1_2 : w1.frozen? ⟨W.heap.size + 1, 2, none⟩ = false := frozen_gr (v := .int .i64 qly) hw1 (by go_simp) (by go_simp)
    have cw1_1_3 : w1.cell? ⟨W.heap.size + 1, 3, none⟩ = some (.int .i64 qhx) := cell_gr hw1 (by go_simp)
    have fw1_1_3 : w1.frozen? ⟨W.heap.size + 1, 3, none⟩ = false := frozen_gr (v := .int .i64 qhx) hw1 (by go_simp) (by go_simp)
    have cw1_1_4 : w1.cell? ⟨W.heap.size + 1, 4, none⟩ = some (.int .i64 qhy) := cell_gr hw1 (by go_simp)
    have fw1_1_4 : w1.frozen? ⟨W.heap.size + 1, 4, none⟩ = false := frozen_gr (v := .int .i64 qhy) hw1 (by go_simp) (by go_simp)
    have cw1_1_5 : w1.cell? ⟨W.heap.size + 1, 5, none⟩ = some (.slice bd m bcap) := cell_gr hw1 (by go_simp)
    have fw1_1_5 : w1.frozen? ⟨W.heap.size + 1, 5, none⟩ = false := frozen_gr (v := .slice bd m bcap) hw1 (by go_simp) (by go_simp)
    have zw1_1 : W.heap.size + 1 < w1.heap.size := World.block_lt_of_cell? _ _ cw1_1_0
    have gw1 : Gr W w1 := Gr.trans (by go_grown) hw1
    clear hw1 hhw1
    go_wp2_with fail
    go_ret
    exact ⟨rfl, by have gg := gw1; have gs := gg.size; go_grown⟩
  rw [if_neg k2]
  have b2 : (kq == 2) = false := by simp; omega
  by_cases k3 : kq = 3
  · rw [if_pos k3]
    subst k3
    have A1 := fun w (g : Gr W w) => c_meetsBoxA qlx qly qlx qly w (pts_gr h g) h9
    generalize rmV n X Y qlx qly qlx qly = z at A1 ⊢
    obtain ⟨ad, cap, _, _, rfl, -⟩ := h
    obtain ⟨bd, bcap, _, _, rfl, -⟩ := hu
    have H1 := Lib.hid A1
    clear A1
    clear h0 h9
    go_enter Tryz.func74, Tryz.ntmps74
    go_wp2_with fail
    go_at_call 111
    refine ((H1.out _ (by go_grown))).mono ?_
    rintro e w1 ⟨rfl, hw1⟩
    have gw1 : Gr W w1 := Gr.trans (by go_grown) hw1
    clear hw1
    go_wp2_with fail
    go_ret
    exact ⟨rfl, gw1⟩
  rw [if_neg k3]
  have b3 : (kq == 3) = false := by simp; omega
  by_cases k4 : kq = 4
  · rw [if_pos k4]
    have A1 := fun w (g : Gr W w) => c_meetsRingA w (pts_gr h g) h9 (pts_gr hu g) (h0 k4)
    subst k4
    generalize rgV n X Y m P Q = z at A1 ⊢
    obtain ⟨ad, cap, _, _, rfl, -⟩ := h
    obtain ⟨bd, bcap, _, _, rfl, -⟩ := hu
    have H1 := Lib.hid A1
    clear A1
    clear h0 h9
    go_enter Tryz.func74, Tryz.ntmps74
    go_wp2_with fail
    go_at_call 112
    refine ((H1.out _ (by go_grown))).mono ?_
    rintro e w1 ⟨rfl, hw1⟩
    have gw1 : Gr W w1 := Gr.trans (by go_grown) hw1
    clear hw1
    go_wp2_with fail
    go_ret
    exact ⟨rfl, gw1⟩
  rw [if_neg k4]
  have b4 : (kq == 4) = false := by simp; omega
  have A1 := fun w (g : Gr W w) => c_meetsBoxA qlx qly qhx qhy w (pts_gr h g) h9
  generalize rmV n X Y qlx qly qhx qhy = z at A1 ⊢
  obtain ⟨ad, cap, _, _, rfl, -⟩ := h
  obtain ⟨bd, bcap, _, _, rfl, -⟩ := hu
  have H1 := Lib.hid A1
  clear A1
  clear h0 h9
  go_enter Tryz.func74, Tryz.ntmps74
  go_wp2_with fail
  go_at_call 111
  refine ((H1.out _ (by go_grown))).mono ?_
  rintro e w1 ⟨rfl, hw1⟩
  have gw1 : Gr W w1 := Gr.trans (by go_grown) hw1
  clear hw1
  go_wp2_with fail
  go_ret
  exact ⟨rfl, gw1⟩
end
end Go.Proofs.YtpomllpplpalkaaGreatDoor
/- Match and Dist of any object that may be -/
namespace Go.Proofs.YtpomllpplpalkaaGreatDoor
set_option linter.unusedVariables false
set_option linter.unusedSimpArgs false
open Go.ChangeShapes Go.WideShapes Go.ChangeAt Go.RowKit

def oLy (k : Int) (Y : Nat → Int) : Int := if k = 2 then 0 else Y 0
def oHx (k : Int) (X Y : Nat → Int) : Int := if k = 3 then X 1 else if k = 2 then Y 0 else X 0
def oHy (k : Int) (Y : Nat → Int) : Int := if k = 3 then Y 1 else if k = 2 then 0 else Y 0
def maA (k : Int) (n : Nat) (X Y : Nat → Int) (kq qlx qly qhx qhy : Int) (m : Nat) (P Q : Nat → Int) : Bool := if k = 4 then mpV n X Y kq qlx qly qhx qhy m P Q else msV (X 0) (oLy k Y) (oHx k X Y) (oHy k Y) kq qlx qly qhx qhy m P Q
theorem obj_box {k : Int} {n : Nat} {X Y : Nat → Int} (h : objC k n X Y = 0) (h4 : k ≠ 4) : (k = 1 ∧ n = 1 ∨ k = 2 ∧ n = 1 ∨ k = 3 ∧ n = 2) ∧ objC k n X Y = boxN (X 0) (oLy k Y) (oHx k X Y) (oHy k Y) ∧ boxN (X 0) (oLy k Y) (oHx k X Y) (oHy k Y) = 0 := by
  have e : objC k n X Y = 0 := h
  unfold objC at e
  rw [if_neg h4] at e
  by_cases k3 : k = 3
  · subst k3
    rw [if_pos rfl] at e
    by_cases hn : n = 2
    · subst hn
      rw [if_pos rfl] at e
      exact ⟨Or.inr (Or.inr ⟨rfl, rfl⟩), by rw [objC_3, if_pos rfl]; rfl, e⟩
    · rw [if_neg hn] at e; cases e
  rw [if_neg k3] at e
  by_cases k1 : k = 1
  · subst k1
    rw [if_pos rfl] at e
    by_cases hn : n = 1
    · subst hn
      rw [if_pos rfl] at e
      exact ⟨Or.inl ⟨rfl, rfl⟩, by rw [objC_1, if_pos rfl]; rfl, e⟩
    · rw [if_neg hn] at e; cases e
  rw [if_neg k1] at e
  by_cases k2 : k = 2
  · subst k2
    rw [if_pos rfl] at e
    by_cases hn : n = 1
    · subst hn
      rw [if_pos rfl] at e
      exact ⟨Or.inr (Or.inl ⟨rfl, rfl⟩), by rw [objC_2, if_pos rfl]; rfl, e⟩
    · rw [if_neg hn] at e; cases e
  rw [if_neg k2] at e
  cases e
theorem bl_of {W : World} {k : Int} {n : Nat} {X Y : Nat → Int} {v : Value} (hp : Pts W v n X Y) (h : objC k n X Y = 0) (h4 : k ≠ 4) : BL W k v (X 0) (oLy k Y) (oHx k X Y) (oHy k Y) := by
  obtain ⟨hk, he, -⟩ := obj_box h h4
  have hp0 := hp
  obtain ⟨ad, cap, B, off, rfl, q1, q2, q3, q4⟩ := hp
  rcases hk with ⟨rfl, rfl⟩ | ⟨rfl, rfl⟩ | ⟨rfl, rfl⟩
  · obtain rfl := q3 (by omega)
    obtain ⟨c0, c1⟩ := q4 0 (by omega)
    rw [Nat.zero_mul, Nat.add_zero] at c0 c1
    exact ⟨⟨Or.inl rfl, ⟨_, _, _, rfl⟩, fun w' g => c_frame_1 (X 0) (Y 0) B off cap w' (cell_gr g c0) (cell_gr g c1) (World.block_lt_of_cell? _ _ (cell_gr g c0))⟩, 1, X, Y, hp0, he⟩
  · obtain rfl := q3 (by omega)
    obtain ⟨c0, c1⟩ := q4 0 (by omega)
    rw [Nat.zero_mul, Nat.add_zero] at c0 c1
    exact ⟨⟨Or.inr (Or.inl rfl), ⟨_, _, _, rfl⟩, fun w' g => c_frame_2 (X 0) (Y 0) B off cap w' (cell_gr g c0) (cell_gr g c1) (World.block_lt_of_cell? _ _ (cell_gr g c0))⟩, 1, X, Y, hp0, he⟩
  · obtain rfl := q3 (by omega)
    obtain ⟨c0, c1⟩ := q4 0 (by omega)
    obtain ⟨c2, c3⟩ := q4 1 (by omega)
    rw [Nat.zero_mul, Nat.add_zero] at c0 c1
    rw [Nat.one_mul] at c2 c3
    exact ⟨⟨Or.inr (Or.inr rfl), ⟨_, _, _, rfl⟩, fun w' g => c_frame_3 (X 0) (Y 0) (X 1) (Y 1) B off cap w' (cell_gr g c0) (cell_gr g c1) (cell_gr g c2) (cell_gr g c3) (World.block_lt_of_cell? _ _ (cell_gr g c0))⟩, 2, X, Y, hp0, he⟩
end Go.Proofs.YtpomllpplpalkaaGreatDoor
