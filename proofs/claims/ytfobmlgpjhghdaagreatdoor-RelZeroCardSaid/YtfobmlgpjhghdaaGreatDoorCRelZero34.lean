/- What RelZero leans on: Uk Ul Um Un -/
import Derived.Test.YtfobmlgpjhghdaaGreatDoorCRelZero32
import Derived.Test.YtfobmlgpjhghdaaGreatDoorCRelZero33
import Derived.Test.YtfobmlgpjhghdaaGreatDoorCRelZero6
namespace Go.Proofs.YtfobmlgpjhghdaaGreatDoor
set_option linter.unusedVariables false
set_option linter.unusedSimpArgs false
open Go.ChangeShapes Go.WideShapes Go.ChangeAt Go.RowKit
set_option maxHeartbeats 4000000 in
set_option maxRecDepth 100000 in
theorem c_rings_no {n m : Nat} {X Y P Q : Nat → Int} {v u : Value} (W : World) (h : Pts W v n X Y) (hu : Pts W u m P Q) (hn : n ≤ 64) (hm9 : m ≤ 64) (hm : arM n X Y (mnN P m) (mnN Q m) (mxN P m) (mxN Q m) = false) :
    Calls Tryz.prog 53 #[v, u] W fun e w' => e = .returned (.bool false) ∧ Gr W w' := by
  have A1 := fun w' (g : Gr W w') => c_AroundN w' (pts_gr h g) (by omega)
  have A2 := fun w' (g : Gr W w') => c_AroundN w' (pts_gr hu g) (by omega)
  have A3 := fun w' => c_Meets (mnN X n) (mnN Y n) (mxN X n) (mxN Y n) (mnN P m) (mnN Q m) (mxN P m) (mxN Q m) w'
  unfold arM at hm
  rw [hm] at A3
  generalize mnN X n = m1 at A1 A3
  generalize mnN Y n = m2 at A1 A3
  generalize mxN X n = m3 at A1 A3
  generalize mxN Y n = m4 at A1 A3
  generalize mnN P m = k1 at A2 A3
  generalize mnN Q m = k2 at A2 A3
  generalize mxN P m = k3 at A2 A3
  generalize mxN Q m = k4 at A2 A3
  obtain ⟨ad, cap, B, off, rfl, -⟩ := h
  obtain ⟨bd, bcap, C, oc, rfl, -⟩ := hu
  have H1 := Lib.hid A1
  have H2 := Lib.hid A2
  have H3 := Lib.hid A3
  clear A1 A2 A3
  clear hm
  go_enter Tryz.func53, Tryz.ntmps53
  go_wp2_with fail
  go_at_call 62
  refine ((H2.out _ (by go_grown))).mono ?_
  rintro e w1 ⟨rfl, hw1⟩
  have cw1_1_0 := cg hw1 (W.heap.size + 1) 0 (.bool false) (by go_simp)
  have fw1_1_0 := fq hw1 (W.heap.size + 1) 0 (.bool false) (by go_simp) (by go_simp)
  have zw1_1 := zb cw1_1_0
  have gw1 : Gr W w1 := Gr.trans (by go_grown) hw1
  clear hw1
  go_wp2_with fail
  go_wp2_with fail
  refine wp_region_spread (by kernel_rfl) (by kernel_rfl) ?_
  try simp only [List.append]
  repeat (first | go_big_quiet_skip | (go_big_quiet_want; go_big_quiet_op; (first | go_big_quiet_on | (apply Exists.intro; refine ⟨fun _ => ?_, ?_⟩; (· (first | (go_at_call 62; first | ((with_reducible refine ((H1.out _ (Gr.trans (by have gg := gw1; have gs := gg.size; go_grown) (gr_spread _ _)))).mono ?_); rintro e w' ⟨rfl, hg⟩; exact ⟨rfl, spread_gr hg⟩)) | (go_at_call 87; first | ((with_reducible refine ((H3.out _)).mono ?_); rintro e w' ⟨rfl, hg⟩; exact ⟨rfl, spread_gr hg⟩)))); go_big_quiet_on))))
  refine wpQuiet_nil ?_
  intro w2 hhw2
  have hw2 := Hd.gr_of_spread hhw2
  have cw2_1_0 := cg hw2 (W.heap.size + 1) 0 (.bool false) (by go_simp)
  have fw2_1_0 := fq hw2 (W.heap.size + 1) 0 (.bool false) (by go_simp) (by go_simp)
  have gw2 : Gr W w2 := Gr.trans (by have gg := gw1; have gs := gg.size; go_grown) hw2
  clear hw2 hhw2 gw1 zw1_1 cw1_1_0 fw1_1_0
  go_wp2_with fail
  refine bodyPost_ret (v := .bool false) (by simp [results, Tryz.results53, go_sem, *]) rfl ⟨rfl, by go_grown⟩
def rgV (n : Nat) (X Y : Nat → Int) (m : Nat) (P Q : Nat → Int) : Bool :=
  arM n X Y (mnN P m) (mnN Q m) (mxN P m) (mxN Q m) && (rmW n X Y m P Q (mnN P m) (mnN Q m) (mxN P m) (mxN Q m) (List.range n) || ((nearB (P 0) (Q 0) && Rg.hasN n X Y (P 0) (Q 0)) || (nearB (X 0) (Y 0) && Rg.hasN m P Q (X 0) (Y 0))))
theorem c_ringsA {n m : Nat} {X Y P Q : Nat → Int} {v u : Value} (W : World) (h : Pts W v n X Y) (hu : Pts W u m P Q) (h0 : (Rg.ringC n X Y).1 = 0) (h9 : (Rg.ringC m P Q).1 = 0) : Calls Tryz.prog 53 #[v, u] W fun e w' => e = .returned (.bool (rgV n X Y m P Q)) ∧ Gr W w' := by
  unfold rgV
  cases hm : arM n X Y (mnN P m) (mnN Q m) (mxN P m) (mxN Q m)
  · exact c_rings_no W h hu (by have := (Rg.ringC_ok h0).1; omega) (by have := (Rg.ringC_ok h9).1; omega) hm
  · rw [Bool.true_and]; exact c_rings W h hu h0 h9 rfl rfl rfl rfl hm
section
variable {n : Nat} {X Y : Nat → Int} {v : Value}
set_option maxHeartbeats 2000000 in
set_option maxRecDepth 100000 in
theorem c_frame_4 (W : World) (h : Pts W v n X Y) (hn : n ≤ 1000000) : Calls Tryz.prog 36 #[.agg #[.int .i64 4, v]] W fun e w' => e = .returned (.agg #[.int .i64 (mnN X n), .int .i64 (mnN Y n), .int .i64 (mxN X n), .int .i64 (mxN Y n)]) ∧ Gr W w' := by
  have A1 := fun w (g : Gr W w) => c_AroundN w (pts_gr h g) hn
  generalize mnN X n = m1 at A1 ⊢
  generalize mnN Y n = m2 at A1 ⊢
  generalize mxN X n = m3 at A1 ⊢
  generalize mxN Y n = m4 at A1 ⊢
  obtain ⟨ad, cap, B, off, rfl, -⟩ := h
  have H1 := Lib.hid A1
  clear A1
  go_enter Tryz.func36, Tryz.ntmps36
  go_wp2_with fail
  go_at_call 62
  refine ((H1.out _ (by go_grown))).mono ?_
  rintro e w1 ⟨rfl, hw1⟩
  have cw1_1_0 := ci hw1 (W.heap.size + 1) 0 0 (by go_simp)
  have fw1_1_0 := fq hw1 (W.heap.size + 1) 0 (.int .i64 0) (by go_simp) (by go_simp)
  have cw1_1_1 := ci hw1 (W.heap.size + 1) 1 0 (by go_simp)
  have fw1_1_1 := fq hw1 (W.heap.size + 1) 1 (.int .i64 0) (by go_simp) (by go_simp)
  have cw1_1_2 := ci hw1 (W.heap.size + 1) 2 0 (by go_simp)
  have fw1_1_2 := fq hw1 (W.heap.size + 1) 2 (.int .i64 0) (by go_simp) (by go_simp)
  have cw1_1_3 := ci hw1 (W.heap.size + 1) 3 0 (by go_simp)
  have fw1_1_3 := fq hw1 (W.heap.size + 1) 3 (.int .i64 0) (by go_simp) (by go_simp)
  have gw1 : Gr W w1 := Gr.trans (by go_grown) hw1
  clear hw1
  go_wp2_with fail
  refine bodyPost_ret (v := .agg #[.int .i64 m1, .int .i64 m2, .int .i64 m3, .int .i64 m4]) (by simp [results, Tryz.results36, go_sem, *]) rfl ⟨rfl, by go_grown⟩
set_option maxRecDepth 100000 in
theorem c_meetsBoxA (lx ly hx hy : Int) (W : World) (h : Pts W v n X Y) (h0 : (Rg.ringC n X Y).1 = 0) :
    Calls Tryz.prog 68 #[.agg #[.int .i64 4, v], .agg #[.int .i64 lx, .int .i64 ly, .int .i64 hx, .int .i64 hy]] W fun e w' => e = .returned (.bool (rmV n X Y lx ly hx hy)) ∧ Gr W w' := by
  have A1 := fun w (g : Gr W w) => c_rmbA lx ly hx hy w (pts_gr h g) h0
  generalize rmV n X Y lx ly hx hy = z at A1 ⊢
  obtain ⟨ad, cap, B, off, rfl, _⟩ := h
  have H1 := Lib.hid A1
  clear A1
  go_enter Tryz.func68, Tryz.ntmps68
  go_wp2_with fail
  go_at_call 104
  refine ((H1.out _ (by go_grown))).mono ?_
  rintro e w1 ⟨rfl, hw1⟩
  have gw1 : Gr W w1 := Gr.trans (by go_grown) hw1
  clear hw1
  go_wp2_with fail
  go_ret
  exact ⟨rfl, gw1⟩
set_option maxRecDepth 100000 in
theorem c_meetsRingA {m : Nat} {P Q : Nat → Int} {u : Value} (W : World) (h : Pts W v n X Y) (h0 : (Rg.ringC n X Y).1 = 0) (hu : Pts W u m P Q) (h9 : (Rg.ringC m P Q).1 = 0) :
    Calls Tryz.prog 69 #[.agg #[.int .i64 4, v], u] W fun e w' => e = .returned (.bool (rgV n X Y m P Q)) ∧ Gr W w' := by
  have A1 := fun w (g : Gr W w) => c_ringsA w (pts_gr h g) (pts_gr hu g) h0 h9
  generalize rgV n X Y m P Q = z at A1 ⊢
  obtain ⟨ad, cap, B, off, rfl, _⟩ := h
  obtain ⟨bd, bcap, C, oc, rfl, _⟩ := hu
  have H1 := Lib.hid A1
  clear A1
  go_enter Tryz.func69, Tryz.ntmps69
  go_wp2_with fail
  go_at_call 53
  refine ((H1.out _ (by go_grown))).mono ?_
  rintro e w1 ⟨rfl, hw1⟩
  have gw1 : Gr W w1 := Gr.trans (by go_grown) hw1
  clear hw1
  go_wp2_with fail
  go_ret
  exact ⟨rfl, gw1⟩
def mpV (n : Nat) (X Y : Nat → Int) (kq qlx qly qhx qhy : Int) (m : Nat) (P Q : Nat → Int) : Bool :=
  if kq = 2 then inV (mnN X n) (mnN Y n) (mxN X n) (mxN Y n) qlx qly qhx qhy else if kq = 3 then rmV n X Y qlx qly qlx qly else if kq = 4 then rgV n X Y m P Q else rmV n X Y qlx qly qhx qhy
set_option maxHeartbeats 4000000 in
set_option maxRecDepth 100000 in
theorem c_MatchesP {m : Nat} {P Q : Nat → Int} {u : Value} (kq qlx qly qhx qhy : Int) (W : World) (h : Pts W v n X Y) (h9 : (Rg.ringC n X Y).1 = 0) (hu : Pts W u m P Q) (h0 : kq = 4 → (Rg.ringC m P Q).1 = 0) :
    Calls Tryz.prog 41 #[.agg #[.int .i64 4, v], qryV kq qlx qly qhx qhy u] W fun e w' => e = .returned (.bool (mpV n X Y kq qlx qly qhx qhy m P Q)) ∧ Gr W w' := by
  unfold mpV
  by_cases k2 : kq = 2
  · rw [if_pos k2]
    subst k2
    have A1 := fun w => c_Inside (mnN X n) (mnN Y n) (mxN X n) (mxN Y n) qlx qly qhx qhy w
    have A2 := fun w (g : Gr W w) => c_frame_4 w (pts_gr h g) (by have := (Rg.ringC_ok h9).1; omega)
    unfold inV
    generalize (boxB (mnN X n) (mnN Y n) (mxN X n) (mxN Y n) && boxB qlx qly qhx qhy && inB qlx qly qhx qhy (mnN X n) (mnN Y n) && inB qlx qly qhx qhy (mxN X n) (mxN Y n)) = z at A1 ⊢
    generalize mnN X n = m1 at A1 A2
    generalize mnN Y n = m2 at A1 A2
    generalize mxN X n = m3 at A1 A2
    generalize mxN Y n = m4 at A1 A2
    obtain ⟨ad, cap, _, _, rfl, -⟩ := h
    obtain ⟨bd, bcap, _, _, rfl, -⟩ := hu
    have H1 := Lib.hid A1
    have H2 := Lib.hid A2
    clear A1 A2
    clear h0 h9
    go_enter Tryz.func41, Tryz.ntmps41
    go_wp2_with fail
    go_wp2_with fail
    refine wp_region_spread (by kernel_rfl) (by kernel_rfl) ?_
    try simp only [List.append]
    repeat (first | go_big_quiet_skip | (go_big_quiet_want; go_big_quiet_op; (first | go_big_quiet_on | (apply Exists.intro; refine ⟨fun _ => ?_, ?_⟩; (· (first | (go_at_call 36; first | ((with_reducible refine ((H2.out _ (Gr.trans (by go_grown) (gr_spread _ _)))).mono ?_); rintro e w' ⟨rfl, hg⟩; exact ⟨rfl, spread_gr hg⟩)) | (go_at_call 67; first | ((with_reducible refine ((H1.out _)).mono ?_); rintro e w' ⟨rfl, hg⟩; exact ⟨rfl, spread_gr hg⟩)))); go_big_quiet_on))))
    refine wpQuiet_nil ?_
    intro w1 hhw1
    have hw1 := Hd.gr_of_spread hhw1
    have gw1 : Gr W w1 := Gr.trans (by go_grown) hw1
    clear hw1 hhw1
    go_wp2_with fail
    go_ret
    exact ⟨rfl, by have gg := gw1; have gs := gg.size; go_grown⟩
  rw [if_neg k2]
  have b2 : (kq == 2) = false := by simp; omega
  by_cases k3 : kq = 3
  · rw [if_pos k3]
    subst k3
    have A1 := fun w (g : Gr W w) => c_meetsBoxA qlx qly qlx qly w (pts_gr h g) h9
    generalize rmV n X Y qlx qly qlx qly = z at A1 ⊢
    obtain ⟨ad, cap, _, _, rfl, -⟩ := h
    obtain ⟨bd, bcap, _, _, rfl, -⟩ := hu
    have H1 := Lib.hid A1
    clear A1
    clear h0 h9
    go_enter Tryz.func41, Tryz.ntmps41
    go_wp2_with fail
    go_at_call 68
    refine ((H1.out _ (by go_grown))).mono ?_
    rintro e w1 ⟨rfl, hw1⟩
    have gw1 : Gr W w1 := Gr.trans (by go_grown) hw1
    clear hw1
    go_wp2_with fail
    go_ret
    exact ⟨rfl, gw1⟩
  rw [if_neg k3]
  have b3 : (kq == 3) = false := by simp; omega
  by_cases k4 : kq = 4
  · rw [if_pos k4]
    have A1 := fun w (g : Gr W w) => c_meetsRingA w (pts_gr h g) h9 (pts_gr hu g) (h0 k4)
    subst k4
    generalize rgV n X Y m P Q = z at A1 ⊢
    obtain ⟨ad, cap, _, _, rfl, -⟩ := h
    obtain ⟨bd, bcap, _, _, rfl, -⟩ := hu
    have H1 := Lib.hid A1
    clear A1
    clear h0 h9
    go_enter Tryz.func41, Tryz.ntmps41
    go_wp2_with fail
    go_at_call 69
    refine ((H1.out _ (by go_grown))).mono ?_
    rintro e w1 ⟨rfl, hw1⟩
    have gw1 : Gr W w1 := Gr.trans (by go_grown) hw1
    clear hw1
    go_wp2_with fail
    go_ret
    exact ⟨rfl, gw1⟩
  rw [if_neg k4]
  have b4 : (kq == 4) = false := by simp; omega
  have A1 := fun w (g : Gr W w) => c_meetsBoxA qlx qly qhx qhy w (pts_gr h g) h9
  generalize rmV n X Y qlx qly qhx qhy = z at A1 ⊢
  obtain ⟨ad, cap, _, _, rfl, -⟩ := h
  obtain ⟨bd, bcap, _, _, rfl, -⟩ := hu
  have H1 := Lib.hid A1
  clear A1
  clear h0 h9
  go_enter Tryz.func41, Tryz.ntmps41
  go_wp2_with fail
  go_at_call 68
  refine ((H1.out _ (by go_grown))).mono ?_
  rintro e w1 ⟨rfl, hw1⟩
  have gw1 : Gr W w1 := Gr.trans (by go_grown) hw1
  clear hw1
  go_wp2_with fail
  go_ret
  exact ⟨rfl, gw1⟩
end
theorem c_MatchP {n : Nat} {X Y : Nat → Int} {v : Value} {m : Nat} {P Q : Nat → Int} {u : Value} (kq qlx qly qhx qhy : Int) (W : World) (hE : ErrT W) (h : Pts W v n X Y) (hu : Pts W u m P Q) :
    Calls Tryz.prog 13 #[.agg #[.int .i64 4, v], qryV kq qlx qly qhx qhy u] W fun e w' => e = .returned (.bool (decide ((Rg.ringC n X Y).1 = 0) && decide (qC kq qlx qly qhx qhy m P Q = 0) && mpV n X Y kq qlx qly qhx qhy m P Q)) ∧ Gr W w' := by
  have A1 : ∀ w, Gr W w → Calls Tryz.prog 34 #[.agg #[.int .i64 4, v]] w fun e w' => ∃ x, e = .returned x ∧ WErr objectS w' x 4 (Rg.ringC n X Y).1 ∧ Gr w w' := fun w g => by have C := c_relCheck 4 w (pts_gr h g); rw [objC_4] at C; exact C
  have A2 : ∀ w, Gr W w → Calls Tryz.prog 40 #[qryV kq qlx qly qhx qhy u] w fun e w' => ∃ x, e = .returned x ∧ WErr queryS w' x kq (qC kq qlx qly qhx qhy m P Q) ∧ Gr w w' := fun w g => c_CheckQuery kq qlx qly qhx qhy w (pts_gr hu g)
  have A3 : (Rg.ringC n X Y).1 = 0 → qC kq qlx qly qhx qhy m P Q = 0 → ∀ w, Gr W w → Calls Tryz.prog 41 #[.agg #[.int .i64 4, v], qryV kq qlx qly qhx qhy u] w fun e w' => e = .returned (.bool (mpV n X Y kq qlx qly qhx qhy m P Q)) ∧ Gr w w' := fun hc hd w g => c_MatchesP kq qlx qly qhx qhy w (pts_gr h g) hc (pts_gr hu g) (fun h4 => by unfold qC at hd; rw [if_neg (by omega), if_neg (by omega), if_pos h4] at hd; exact hd)
  obtain ⟨ad, cap, _, _, rfl, -⟩ := h
  obtain ⟨bd, bcap, _, _, rfl, -⟩ := hu
  exact match_core kq qlx qly qhx qhy ad bd n cap m bcap _ _ _ W hE A1 A2 A3
end Go.Proofs.YtfobmlgpjhghdaaGreatDoor
namespace Go.Proofs.YtfobmlgpjhghdaaGreatDoor
set_option linter.unusedVariables false
set_option linter.unusedSimpArgs false
open Go.ChangeShapes Go.WideShapes Go.ChangeAt Go.RowKit Go.Shelf
attribute [local go_sem] Oper.semAt_some
def dV (s : Nat × Nat) : Value := .agg #[.int .u64 (s.1 / 18446744073709551616 : Nat), .int .u64 (s.1 % 18446744073709551616 : Nat), .int .u64 s.2]
def Bx3 (W : World) (B : Nat) (s : Nat × Nat) : Prop := W.heap[B]? = some (.cells #[.int .u64 (s.1 / 18446744073709551616 : Nat), .int .u64 (s.1 % 18446744073709551616 : Nat), .int .u64 s.2] 42 (0, 0))
theorem Bx3.lt {W : World} {B : Nat} {s : Nat × Nat} (h : Bx3 W B s) : B < W.heap.size := (Array.getElem?_eq_some_iff.1 h).1
theorem Bx3.cells {W : World} {B : Nat} {s : Nat × Nat} (h : Bx3 W B s) : W.cell? ⟨B, 0, none⟩ = some (.int .u64 (s.1 / 18446744073709551616 : Nat)) ∧ W.cell? ⟨B, 1, none⟩ = some (.int .u64 (s.1 % 18446744073709551616 : Nat)) ∧ W.cell? ⟨B, 2, none⟩ = some (.int .u64 s.2) := by
  refine ⟨?_, ?_, ?_⟩ <;> simp [World.cell?, show W.heap[B]? = _ from h]
theorem Bx3.frozen {W : World} {B : Nat} {s : Nat × Nat} (h : Bx3 W B s) : W.frozen? ⟨B, 0, none⟩ = false ∧ W.frozen? ⟨B, 1, none⟩ = false ∧ W.frozen? ⟨B, 2, none⟩ = false :=
  by
  refine ⟨?_, ?_, ?_⟩ <;> simp [World.frozen?, show W.heap[B]? = _ from h]
theorem Bx3.kept {W W' : World} {row : Option Nat} {B : Nat} {s : Nat × Nat} (h : Bx3 W B s) (hg : W.grownBy W' row) (hne : some B ≠ row) : Bx3 W' B s := (hg.block B h.lt hne).trans h
theorem Bx3.alloc {W : World} {B : Nat} {s : Nat × Nat} (h : Bx3 W B s) (o : Obj) : Bx3 (W.alloc o) B s := h.kept (World.grownBy_alloc W o none) (by simp)
theorem Bx3.new (W : World) (s : Nat × Nat) : Bx3 (W.alloc (.cells #[.int .u64 (s.1 / 18446744073709551616 : Nat), .int .u64 (s.1 % 18446744073709551616 : Nat), .int .u64 s.2] 42)) W.heap.size s := World.alloc_heap_new W _
theorem bx3_notcells {W W' : World} {row : Option Nat} {B : Nat} {s : Nat × Nat} (h : Bx3 W B s) (hg : W.grownBy W' row) (hr : ∀ r, row = some r → ∃ o : Obj, W.heap[r]? = some o ∧ o.isCells = false) : Bx3 W' B s := by
  refine h.kept hg fun e => ?_
  obtain ⟨o, h1, h2⟩ := hr B e.symm
  rw [show W.heap[B]? = _ from h] at h1
  cases h1
  cases h2
theorem bx3_own {β : Type} (B : Nat) (f : β → Nat × Nat) : Own (fun (x : β) W => Bx3 W B (f x)) := fun s X Y row hs hg hrow => bx3_notcells hs hg hrow
theorem hp_set {w : World} {b i : Nat} {zs : Array Value} {T : TypeId} {v : Value} (h : w.heap[b]? = some (.cells zs T (0, 0))) : (w.setCell ⟨b, i, none⟩ v).heap[b]? = some (.cells (zs.setIfInBounds i v) T (0, 0)) := by
  simp only [World.setCell, Array.getElem?_modify, h, Option.map]
  simp
abbrev set3 (W : World) (B : Nat) (s : Nat × Nat) : World := ((W.setCell ⟨B, 0, none⟩ (.int .u64 (s.1 / 18446744073709551616 : Nat))).setCell ⟨B, 1, none⟩ (.int .u64 (s.1 % 18446744073709551616 : Nat))).setCell ⟨B, 2, none⟩ (.int .u64 s.2)
theorem Bx3.set {W : World} {B : Nat} {s : Nat × Nat} (h : Bx3 W B s) (s' : Nat × Nat) : Bx3 (set3 W B s') B s' := by
  have h1 := hp_set (i := 0) (v := .int .u64 (s'.1 / 18446744073709551616 : Nat)) h
  have h2 := hp_set (i := 1) (v := .int .u64 (s'.1 % 18446744073709551616 : Nat)) h1
  have h3 := hp_set (i := 2) (v := .int .u64 s'.2) h2
  exact h3
theorem set3_heap (W : World) (B : Nat) (s : Nat × Nat) (C : Nat) (h : C ≠ B) : (set3 W B s).heap[C]? = W.heap[C]? :=
  ((Below.heap_setCell _ _ _ _ (by simpa using h)).trans (Below.heap_setCell _ _ _ _ (by simpa using h))).trans (Below.heap_setCell _ _ _ _ (by simpa using h))
theorem set3_size (W : World) (B : Nat) (s : Nat × Nat) : (set3 W B s).heap.size = W.heap.size := by simp
theorem set3_keeps (W : World) (B : Nat) (s : Nat × Nat) : KeepsOthers W (set3 W B s) := ((KeepsOthers.setCell _ _ _).trans (KeepsOthers.setCell _ _ _)).trans (KeepsOthers.setCell _ _ _)
theorem below_set3 {k : Nat} {w W : World} (h : Below k w W) {B : Nat} (hB : k ≤ B) (s : Nat × Nat) : Below k w (set3 W B s) := ((h.setCell (p := ⟨B, 0, none⟩) hB _).setCell (p := ⟨B, 1, none⟩) hB _).setCell (p := ⟨B, 2, none⟩) hB _
def faS (s d : Nat × Nat) : Nat × Nat := if s.2 = 0 ∨ cmpD d.1 d.2 s.1 s.2 < 0 then d else s
def sdG (ax ay bx by' px py : Int) : Nat × Nat := if (nearB ax ay && nearB bx by' && nearB px py) = true then (sdN ax ay bx by' px py, sdD ax ay bx by' px py) else (0, 0)
def faD (n : Nat) (X Y : Nat → Int) (px py : Int) (k : Nat) : Nat × Nat := sdG (X k) (Y k) (X (Rg.nx1 n k)) (Y (Rg.nx1 n k)) px py
def faW (n : Nat) (X Y : Nat → Int) (px py : Int) (pre : List Nat) : Nat × Nat := pre.foldl (fun s k => faS s (faD n X Y px py k)) (0, 0)
theorem faW_snoc (n : Nat) (X Y : Nat → Int) (px py : Int) (pre : List Nat) (k : Nat) : faW n X Y px py (pre ++ [k]) = faS (faW n X Y px py pre) (faD n X Y px py k) := by
  unfold faW; rw [List.foldl_append]; rfl
theorem sd_bnd {ax ay bx by' px py : Int} (h : (nearB ax ay && nearB bx by' && nearB px py) = true) : sdN ax ay bx by' px py < 340282366920938463463374607431768211456 ∧ sdD ax ay bx by' px py < 18446744073709551616 ∧ 0 < sdD ax ay bx by' px py := by
  have hn : (nearB ax ay = true ∧ nearB bx by' = true) ∧ nearB px py = true := by simpa using h
  have b0 := sqZ_bound hn.1.1 hn.1.2
  have b1 := sqZ_bound hn.1.1 hn.2
  have b2 := sqZ_bound hn.1.2 hn.2
  obtain ⟨-, cb⟩ := cr_bound h
  have cc : (cr ax ay bx by' px py).natAbs * (cr ax ay bx by' px py).natAbs ≤ 9223372019674906632 * 9223372019674906632 := Nat.mul_le_mul (by omega) (by omega)
  unfold sdN sdD
  by_cases h1 : alZ ax ay bx by' px py ≤ 0
  · rw [if_pos h1, if_pos h1]; omega
  · rw [if_neg h1, if_neg h1]
    by_cases h2 : sqZ ax ay bx by' ≤ alZ ax ay bx by' px py
    · rw [if_pos h2, if_pos h2]; omega
    · rw [if_neg h2, if_neg h2]
      have hd : 0 < (sqZ ax ay bx by').toNat := by omega
      have e1 : lowN ((cr ax ay bx by' px py).natAbs * (cr ax ay bx by' px py).natAbs) (sqZ ax ay bx by').toNat ≤ (cr ax ay bx by' px py).natAbs * (cr ax ay bx by' px py).natAbs := Nat.div_le_self _ _
      have e2 : lowD ((cr ax ay bx by' px py).natAbs * (cr ax ay bx by' px py).natAbs) (sqZ ax ay bx by').toNat ≤ (sqZ ax ay bx by').toNat := Nat.div_le_self _ _
      have e3 := (mid_parts ((cr ax ay bx by' px py).natAbs * (cr ax ay bx by' px py).natAbs) _ hd).2.2.2
      omega
def Fit3 (s : Nat × Nat) : Prop := s.1 < 340282366920938463463374607431768211456 ∧ s.2 < 18446744073709551616
theorem faS_fit {s d : Nat × Nat} (h : Fit3 s) (k : Fit3 d) : Fit3 (faS s d) := by unfold faS; split <;> assumption
theorem sdG_fit (ax ay bx by' px py : Int) : Fit3 (sdG ax ay bx by' px py) := by
  unfold sdG
  split
  · rename_i h; exact ⟨(sd_bnd h).1, (sd_bnd h).2.1⟩
  · exact ⟨by decide, by decide⟩
theorem c_sdG (ax ay bx by' px py : Int) (W : World) : Calls Tryz.prog 77 #[.agg #[.int .i64 ax, .int .i64 ay], .agg #[.int .i64 bx, .int .i64 by'], .agg #[.int .i64 px, .int .i64 py]] W fun e w' => e = .returned (dV (sdG ax ay bx by' px py)) ∧ Gr W w' := by
  unfold sdG
  by_cases h : (nearB ax ay && nearB bx by' && nearB px py) = true
  · rw [if_pos h]; exact c_gDist ax ay bx by' px py h W
  · rw [if_neg h]; exact c_gDist_no ax ay bx by' px py (by simpa using h) W
theorem c_cmpP (s d : Nat × Nat) (h : Fit3 s) (k : Fit3 d) (w : World) : Calls Tryz.prog 79 #[dV d, dV s] w fun e w' => e = .returned (.int .i64 (cmpD d.1 d.2 s.1 s.2)) ∧ Gr w w' := by
  have hs := val_split s.1 h.1
  have hd := val_split d.1 k.1
  have C := c_rtCompare (d.1 / 18446744073709551616) (d.1 % 18446744073709551616) d.2 (s.1 / 18446744073709551616) (s.1 % 18446744073709551616) s.2 hd.2.1 hd.2.2 k.2 hs.2.1 hs.2.2 h.2 w
  rw [hs.1, hd.1] at C
  exact C
set_option maxHeartbeats 1000000 in
set_option maxRecDepth 100000 in
theorem c_Of0 (w : World) : Calls Tryz.prog 75 #[.int .i64 0] w fun e w' => e = .returned (.agg #[.int .u64 0, .int .u64 0, .int .u64 1]) ∧ Gr w w' := by
  have A1 := c_Square 0 (by omega)
  have H1 := Lib.hid A1
  clear A1
  go_enter Tryz.func75, Tryz.ntmps75
  go_wp2_with fail
  go_at_call 113
  refine ((H1.out _)).mono ?_
  rintro e w1 ⟨rfl, hw1⟩
  have cw1_0_0 := cu hw1 (w.heap.size) 0 0 (by go_simp)
  have fw1_0_0 := fq hw1 (w.heap.size) 0 (.int .u64 0) (by go_simp) (by go_simp)
  have cw1_0_1 := cu hw1 (w.heap.size) 1 0 (by go_simp)
  have fw1_0_1 := fq hw1 (w.heap.size) 1 (.int .u64 0) (by go_simp) (by go_simp)
  have cw1_0_2 := cu hw1 (w.heap.size) 2 0 (by go_simp)
  have fw1_0_2 := fq hw1 (w.heap.size) 2 (.int .u64 0) (by go_simp) (by go_simp)
  have gw1 : Gr w w1 := Gr.trans (by go_grown) hw1
  clear hw1
  go_wp2_with fail
  go_at_call 112
  refine ((c_over _ _ _ _)).mono ?_
  rintro e w2 ⟨rfl, hw2⟩
  have cw2_0_0 := cu hw2 (w.heap.size) 0 0 (by go_simp)
  have fw2_0_0 := fq hw2 (w.heap.size) 0 (.int .u64 0) (by go_simp) (by go_simp)
  have cw2_0_1 := cu hw2 (w.heap.size) 1 0 (by go_simp)
  have fw2_0_1 := fq hw2 (w.heap.size) 1 (.int .u64 0) (by go_simp) (by go_simp)
  have cw2_0_2 := cu hw2 (w.heap.size) 2 0 (by go_simp)
  have fw2_0_2 := fq hw2 (w.heap.size) 2 (.int .u64 0) (by go_simp) (by go_simp)
  have gw2 : Gr w w2 := Gr.trans (by have gg := gw1; have gs := gg.size; go_grown) hw2
  clear hw2 gw1 cw1_0_0 fw1_0_0 cw1_0_1 fw1_0_1 cw1_0_2 fw1_0_2
  go_wp2_with fail
  refine bodyPost_ret (v := .agg #[.int .u64 0, .int .u64 0, .int .u64 1]) (by simp [results, Tryz.results75, go_sem, *]) rfl ⟨rfl, by go_grown⟩
theorem far_results {fn : Func} (h : fn.results = #[.cell 4 42]) {tmps : Array Value} {w : World} {b : Nat} {x y z : Value} (hp : tmps.getD 4 undef = .pointer (some ⟨b, 0, none⟩)) (c0 : w.cell? ⟨b, 0, none⟩ = some x) (c1 : w.cell? ⟨b, 1, none⟩ = some y) (c2 : w.cell? ⟨b, 2, none⟩ = some z) :
    (results fn tmps).run Tryz.prog w = .ok (.agg #[x, y, z]) w := by
  have hp' : tmps[4]?.getD undef = .pointer (some ⟨b, 0, none⟩) := by simpa using hp
  simp [results, h, hp', go_sem, *]
section
variable {n : Nat} {X Y : Nat → Int} {v : Value} {px py : Int}
set_option maxHeartbeats 2000000 in
set_option maxRecDepth 100000 in
theorem c_Far_in (W : World) (h : Pts W v n X Y) (h0 : (Rg.ringC n X Y).1 = 0) (hp : nearB px py = true) (hh : Rg.hasN n X Y px py = true) :
    Calls Tryz.prog 46 #[.agg #[.int .i64 4, v], .agg #[.int .i64 px, .int .i64 py]] W fun e w' => e = .returned (.agg #[.int .u64 0, .int .u64 0, .int .u64 1]) ∧ Gr W w' := by
  have A1 := fun w' (g : Gr W w') => c_hs W h h0 px py w' g
  rw [hp, hh, Bool.and_self] at A1
  obtain ⟨ad, cap, _, _, rfl, -⟩ := h
  have H1 := Lib.hid A1
  clear A1
  clear h0 hp hh
  go_enter Tryz.func46, Tryz.ntmps46
  go_wp2_with fail
  go_at_call 74
  refine ((H1.out _ (by go_grown))).mono ?_
  rintro e w1 ⟨rfl, hw1⟩
  have cw1_2_0 := cu hw1 (W.heap.size + 1 + 1) 0 0 (by go_simp)
  have fw1_2_0 := fq hw1 (W.heap.size + 1 + 1) 0 (.int .u64 0) (by go_simp) (by go_simp)
  have cw1_2_1 := cu hw1 (W.heap.size + 1 + 1) 1 0 (by go_simp)
  have fw1_2_1 := fq hw1 (W.heap.size + 1 + 1) 1 (.int .u64 0) (by go_simp) (by go_simp)
  have cw1_2_2 := cu hw1 (W.heap.size + 1 + 1) 2 0 (by go_simp)
  have fw1_2_2 := fq hw1 (W.heap.size + 1 + 1) 2 (.int .u64 0) (by go_simp) (by go_simp)
  have gw1 : Gr W w1 := Gr.trans (by go_grown) hw1
  clear hw1
  go_wp2_with fail
  go_at_call 75
  refine ((c_Of0 _)).mono ?_
  rintro e w2 ⟨rfl, hw2⟩
  have cw2_2_0 := cu hw2 (W.heap.size + 1 + 1) 0 0 (by go_simp)
  have fw2_2_0 := fq hw2 (W.heap.size + 1 + 1) 0 (.int .u64 0) (by go_simp) (by go_simp)
  have cw2_2_1 := cu hw2 (W.heap.size + 1 + 1) 1 0 (by go_simp)
  have fw2_2_1 := fq hw2 (W.heap.size + 1 + 1) 1 (.int .u64 0) (by go_simp) (by go_simp)
  have cw2_2_2 := cu hw2 (W.heap.size + 1 + 1) 2 0 (by go_simp)
  have fw2_2_2 := fq hw2 (W.heap.size + 1 + 1) 2 (.int .u64 0) (by go_simp) (by go_simp)
  have gw2 : Gr W w2 := Gr.trans (by have gg := gw1; have gs := gg.size; go_grown) hw2
  clear hw2 gw1 cw1_2_0 fw1_2_0 cw1_2_1 fw1_2_1 cw1_2_2 fw1_2_2
  go_wp2_with fail
  refine bodyPost_ret (v := .agg #[.int .u64 0, .int .u64 0, .int .u64 1]) (by simp [results, Tryz.results46, go_sem, *]) rfl ⟨rfl, by go_grown⟩
set_option maxHeartbeats 8000000 in
set_option maxRecDepth 100000 in
theorem c_Far_out (w : World) (h : Pts w v n X Y) (h0 : (Rg.ringC n X Y).1 = 0) (hp : nearB px py = true) (hh : Rg.hasN n X Y px py = false) :
    Calls Tryz.prog 46 #[.agg #[.int .i64 4, v], .agg #[.int .i64 px, .int .i64 py]] w fun e w' => e = .returned (dV (faW n X Y px py (List.range n))) ∧ Gr w w' := by
  have A1 := fun w' (g : Gr w w') => c_hs w h h0 px py w' g
  rw [hp, hh, Bool.and_false] at A1
  obtain ⟨r1, r2, -, -⟩ := Rg.ringC_ok h0
  have h1 : 1 ≤ n := by omega
  have hn : n ≤ 1000 := by omega
  have n0 : 0 < n := by omega
  obtain ⟨ad, cap, B, off, rfl, q1, q2, q3, q4⟩ := h
  obtain rfl := q3 (by omega)
  have hB : B < w.heap.size := World.block_lt_of_cell? _ _ (q4 0 (by omega)).1
  have HC := Lib.hid q4
  have hmx : Tryz.prog.follows .mixedOrders = true := by kernel_rfl
  have H1 := Lib.hid A1
  clear A1
  clear q3 q4 h0 hp hh r1 r2
  refine (callsIn_wide (n := 10)).1 ?_
  refine callsIn_of_wp_marks Tryz.func46 rfl trivial ?_ rfl
  simp only [Tryz.ntmps46, List.size_toArray, List.length_cons, List.length_nil, Nat.reduceAdd, Nat.reduceSub, Array.replicate_succ, Array.replicate_zero, List.push_toArray, List.append_toArray, List.nil_append, List.cons_append]
  gi_wp2_with (first
    | (refine ⟨trivial, ?_⟩; gi_at_call 74; refine (callsIn_wide.2 (H1.out _ (by go_grown))).mono ?_; rintro e w1 ⟨rfl, g1⟩; (have g1s := g1.size; simp only [World.size_alloc] at g1s); (have hne1 : w.heap.size ≠ w1.heap.size := by omega); (have hne2 : w1.heap.size ≠ w.heap.size := by omega); have z1 : w1.cell? ⟨w.heap.size, 1, none⟩ = some (.slice (some ⟨B, off, none⟩) n cap)   := cell_gr g1 (by go_simp); have z2 : (w1.alloc (.cells #[.int .u64 0, .int .u64 0, .int .u64 0] 42)).cell? ⟨w.heap.size, 1, none⟩ = some (.slice (some ⟨B, off, none⟩) n cap) := cell_gr (by go_grown) z1)
    | (refine ⟨trivial, ?_⟩; gi_at_call 76; refine (callsIn_wide.2 (c_Edges _ _ _ _)).mono ?_; rintro e w' ⟨rfl, rfl⟩))
  clear z2
  have bP : Box2 w1 (w.heap.size + 1) px py := by
    have h := (Box2.new (w.alloc (.cells #[.int .i64 4, .slice (some ⟨B, off, none⟩) n cap] 24)) px py).alloc (.cells #[.int .u64 0, .int .u64 0, .int .u64 0] 42)
    rw [World.size_alloc] at h
    exact h.kept (gr_grown g1) (by simp)
  have bR : Bx3 w1 (w.heap.size + 1 + 1) (0, 0) := by
    have h := Bx3.new ((w.alloc (.cells #[.int .i64 4, .slice (some ⟨B, off, none⟩) n cap] 24)).alloc (.cells #[.int .i64 px, .int .i64 py] 26)) (0, 0)
    simp only [World.size_alloc] at h
    exact Bx3.kept h (gr_grown g1) (by simp)
  have bO : Bx3 ((w1.alloc (.cells #[.int .u64 0, .int .u64 0, .int .u64 0] 42)).alloc (.cells #[.slice (some ⟨B, off, none⟩) n cap] 22)) w1.heap.size (0, 0) := (Bx3.new w1 (0, 0)).alloc (.cells #[.slice (some ⟨B, off, none⟩) n cap] 22)
  have bE := Boxed.new (w1.alloc (.cells #[.int .u64 0, .int .u64 0, .int .u64 0] 42)) 22 (.slice (some ⟨B, off, none⟩) n cap)
  have bP0 := (bP.alloc (.cells #[.int .u64 0, .int .u64 0, .int .u64 0] 42)).alloc (.cells #[.slice (some ⟨B, off, none⟩) n cap] 22)
  have bR0 := (bR.alloc (.cells #[.int .u64 0, .int .u64 0, .int .u64 0] 42)).alloc (.cells #[.slice (some ⟨B, off, none⟩) n cap] 22)
  have gw1 : Gr w w1 := Gr.trans (by go_grown) g1
  have hG0 : Gr w ((w1.alloc (.cells #[.int .u64 0, .int .u64 0, .int .u64 0] 42)).alloc (.cells #[.slice (some ⟨B, off, none⟩) n cap] 22)) := Gr.trans gw1 (by go_grown)
  have hsz : ((w1.alloc (.cells #[.int .u64 0, .int .u64 0, .int .u64 0] 42)).alloc (.cells #[.slice (some ⟨B, off, none⟩) n cap] 22)).heap.size = w1.heap.size + 2 := by simp
  simp only [World.size_alloc] at bE
  obtain ⟨W0, hW0⟩ : ∃ W0, (w1.alloc (.cells #[.int .u64 0, .int .u64 0, .int .u64 0] 42)).alloc (.cells #[.slice (some ⟨B, off, none⟩) n cap] 22) = W0 := ⟨_, rfl⟩
  rw [hW0] at bO bE bP0 bR0 hG0 hsz ⊢
  obtain ⟨q, hq⟩ : ∃ q, w1.heap.size = q := ⟨_, rfl⟩
  rw [hq] at bO bE hsz g1s ⊢
  clear hW0 bP bR gw1 g1 H1 hq z1 hne1 hne2
  refine wpIn_rangeFunc_ownH rfl (by decide) (gf := 114) (lb := #[.pointer (some ⟨q + 1, 0, none⟩)]) rfl trivial (enters_of Tryz.func114 (by kernel_rfl) rfl)
    (edges_stops (10 - 1) (by decide) (q + 1) B off n cap X Y hn h1 W0 bE.cell q1 q2 (fun k hk => ⟨cell_gr hG0 (HC.out k hk).1, cell_gr hG0 (HC.out k hk).2⟩)) KK.trans (kk_put (by omega) (by omega)) (Below.refl _ _) (fun _ => rfl)
    (fun pre W => (Bx3 W q (faW n X Y px py pre) ∧ Bx3 W (w.heap.size + 1 + 1) (0, 0)) ∧ ((Box2 W (w.heap.size + 1) px py ∧ Fit3 (faW n X Y px py pre)) ∧ (q + 2 ≤ W.heap.size ∧ Below w.heap.size w W)))
    (fun c pre W => False)
    (OwnFrom.and (OwnFrom.and (Own.from (bx3_own _ _) _) (Own.from (bx3_own _ _) _)) (OwnFrom.and (OwnFrom.and (Own.from (box2_own _ _ _) _) (ownFrom_pure _ _)) (OwnFrom.and (fun _ P Q row hs hg hr => Nat.le_trans hs hg.size) (ownFrom_below (Nat.le_refl _) (by omega)))))
    (fun _ _ _ _ _ hs _ _ => hs)
    ⟨⟨bO, bR0⟩, ⟨bP0, by unfold faW Fit3; simp⟩, by omega, hG0⟩
    (fun x a' W => ∃ Ba Bb, q + 2 ≤ Ba ∧ q + 2 ≤ Bb ∧ Box2 W Ba (X x) (Y x) ∧ Box2 W Bb (X (Rg.nx1 n x)) (Y (Rg.nx1 n x)) ∧ a' = { tmps := #[.agg #[.int .i64 4, .slice (some ⟨B, off, none⟩) n cap], .agg #[.int .i64 px, .int .i64 py], .pointer (some ⟨w.heap.size, 0, none⟩), .pointer (some ⟨w.heap.size + 1, 0, none⟩), .pointer (some ⟨w.heap.size + 1 + 1, 0, none⟩), .pointer (some ⟨q, 0, none⟩), .pointer (some ⟨Ba, 0, none⟩), .pointer (some ⟨Bb, 0, none⟩), undef, .pointer (some ⟨w.heap.size, 0, none⟩), .int .i64 4, .bool false, undef, undef, undef, undef, .pointer (some ⟨w.heap.size, 1, none⟩), .slice (some ⟨B, off, none⟩) n cap, .agg #[.int .i64 px, .int .i64 py], .bool false, undef, .agg #[.int .u64 0, .int .u64 0, .int .u64 0], .pointer (some ⟨w.heap.size, 1, none⟩), .slice (some ⟨B, off, none⟩) n cap, .func (.func 114) #[] #[.pointer (some ⟨q + 1, 0, none⟩)], .agg #[.int .i64 (X x), .int .i64 (Y x)], .agg #[.int .i64 (X (Rg.nx1 n x)), .int .i64 (Y (Rg.nx1 n x))], undef, undef, undef, undef, undef, undef, undef, undef, undef, undef, undef, undef, undef, undef, undef], defers := [] })
    (fun x a' _ P Q row hs hg hr => by obtain ⟨Ba, Bb, i1, i2, i3, i4, i5⟩ := hs; exact ⟨Ba, Bb, i1, i2, box2_notcells i3 hg (fun r e => (hr r e).2), box2_notcells i4 hg (fun r e => (hr r e).2), i5⟩)
    ?assign ?body ?done ?stop
  case assign =>
    rintro l pre x W K ⟨⟨bO1, bR1⟩, ⟨bP1, hon⟩, hs3, hB1⟩ hK
    gi_wp2
    have gA : Gr W ((W.alloc (.cells #[.int .i64 (X x), .int .i64 (Y x)] 26)).alloc (.cells #[.int .i64 (X (Rg.nx1 n x)), .int .i64 (Y (Rg.nx1 n x))] 26)) := by go_grown
    exact hK _ _ ((gr_keeps gA).from _) ((KK.refl _ _ _).gr gA (by omega) (by omega)) ⟨⟨(bO1.alloc _).alloc _, (bR1.alloc _).alloc _⟩, ⟨(bP1.alloc _).alloc _, hon⟩, Nat.le_trans hs3 gA.size, Gr.trans hB1 gA⟩
      ⟨W.heap.size, W.heap.size + 1, hs3, by omega, (Box2.new W (X x) (Y x)).alloc _, (by have := Box2.new (W.alloc (.cells #[.int .i64 (X x), .int .i64 (Y x)] 26)) (X (Rg.nx1 n x)) (Y (Rg.nx1 n x)); rwa [World.size_alloc] at this), rfl⟩
  case body =>
    rintro l pre x a' W hl ⟨r, hr⟩ ⟨⟨bO1, bR1⟩, ⟨bP1, hon⟩, hs3, hB1⟩ ⟨Ba, Bb, hBa, hBb, bA, bB, rfl⟩ hlt
    obtain ⟨a0, a1⟩ := bA.cells
    obtain ⟨b0, b1⟩ := bB.cells
    obtain ⟨p0, p1⟩ := bP1.cells
    obtain ⟨s0, s1, s2⟩ := bO1.cells
    obtain ⟨f0, f1, f2⟩ := bO1.frozen
    have hsn := faW_snoc n X Y px py pre x
    unfold faD at hsn
    have hfd := sdG_fit (X x) (Y x) (X (Rg.nx1 n x)) (Y (Rg.nx1 n x)) px py
    have CD := c_sdG (X x) (Y x) (X (Rg.nx1 n x)) (Y (Rg.nx1 n x)) px py
    generalize sdG (X x) (Y x) (X (Rg.nx1 n x)) (Y (Rg.nx1 n x)) px py = d at CD hsn hfd
    generalize faW n X Y px py pre = s at bO1 hon s0 s1 s2 hsn
    generalize X x = xa at a0 CD
    generalize Y x = ya at a1 CD
    generalize X (Rg.nx1 n x) = xb at b0 CD
    generalize Y (Rg.nx1 n x) = yb at b1 CD
    have CC := c_cmpP s d hon hfd
    have CS := fun w => c_Sound (s.1 / 18446744073709551616 : Nat) (s.1 % 18446744073709551616 : Nat) s.2 w
    have hst : faS s d = if s.2 = 0 ∨ cmpD d.1 d.2 s.1 s.2 < 0 then d else s := rfl
    rw [hst] at hsn
    generalize cmpD d.1 d.2 s.1 s.2 = cz at CC hsn
    have HB := Lib.hid (And.intro bO1 (And.intro bR1 bP1))
    have HF := Lib.hid (And.intro hon hfd)
    have fin : ∀ w3, Gr W w3 → ∀ s', s' = faW n X Y px py (pre ++ [x]) → Fit3 s' → ∀ w4, w4 = set3 w3 q s' → (KeepsFrom W0.heap.size W w4 ∧ KK B (q + 1) W w4 ∧ ((Bx3 w4 q (faW n X Y px py (pre ++ [x])) ∧ Bx3 w4 (w.heap.size + 1 + 1) (0, 0)) ∧ ((Box2 w4 (w.heap.size + 1) px py ∧ Fit3 (faW n X Y px py (pre ++ [x]))) ∧ (q + 2 ≤ w4.heap.size ∧ Below w.heap.size w w4)))) := fun w3 g s' e f w4 e4 => by
      subst e4
      rw [← e]
      have gs := g.size
      obtain ⟨bO1, bR1, bP1⟩ := HB.out
      refine ⟨((gr_keeps g).trans (set3_keeps _ _ _)).from _, ((KK.refl B (q + 1) W).gr g (by omega) (by omega)).trans ⟨by rw [set3_size]; exact Nat.le_refl _, set3_heap _ _ _ _ (by omega), set3_heap _ _ _ _ (by omega)⟩, ⟨⟨(bO1.kept (gr_grown g) (by simp)).set s', ?_⟩, ⟨?_, f⟩, by rw [set3_size]; omega, below_set3 (Gr.trans hB1 g) (by omega) _⟩⟩
      · exact (set3_heap _ _ _ _ (by omega)).trans (bR1.kept (gr_grown g) (by simp))
      · exact (set3_heap _ _ _ _ (by omega)).trans (bP1.kept (gr_grown g) (by simp))
    have fin2 : ∀ w3, Gr W w3 → s = faW n X Y px py (pre ++ [x]) → (KeepsFrom W0.heap.size W w3 ∧ KK B (q + 1) W w3 ∧ ((Bx3 w3 q (faW n X Y px py (pre ++ [x])) ∧ Bx3 w3 (w.heap.size + 1 + 1) (0, 0)) ∧ ((Box2 w3 (w.heap.size + 1) px py ∧ Fit3 (faW n X Y px py (pre ++ [x]))) ∧ (q + 2 ≤ w3.heap.size ∧ Below w.heap.size w w3)))) := fun w3 g e => by
      rw [← e]
      have gs := g.size
      obtain ⟨bO1, bR1, bP1⟩ := HB.out
      exact ⟨(gr_keeps g).from _, (KK.refl B (q + 1) W).gr g (by omega) (by omega), ⟨⟨bO1.kept (gr_grown g) (by simp), bR1.kept (gr_grown g) (by simp)⟩, ⟨bP1.kept (gr_grown g) (by simp), HF.out.1⟩, by omega, Gr.trans hB1 g⟩⟩
    obtain ⟨⟨sn, sd⟩, rfl⟩ : ∃ t, t = s := ⟨_, rfl⟩
    obtain ⟨⟨dn, dd⟩, rfl⟩ : ∃ t, t = d := ⟨_, rfl⟩
    have hFIN := Lib.hid fin
    have hFIN2 := Lib.hid fin2
    have HSN := Lib.hid hsn
    clear fin fin2 hst bO1 bR1 bP1 bA bB hfd hon
    unfold dV at CD CC
    dsimp only at CD CC CS s0 s1 s2
    obtain ⟨sh, esh⟩ : ∃ z : Nat, sn / 18446744073709551616 = z := ⟨_, rfl⟩
    obtain ⟨sl, esl⟩ : ∃ z : Nat, sn % 18446744073709551616 = z := ⟨_, rfl⟩
    obtain ⟨dh, edh⟩ : ∃ z : Nat, dn / 18446744073709551616 = z := ⟨_, rfl⟩
    obtain ⟨dl, edl⟩ : ∃ z : Nat, dn % 18446744073709551616 = z := ⟨_, rfl⟩
    rw [esh] at s0 CS CC
    rw [esl] at s1 CS CC
    rw [edh, edl] at CD CC
    have HCD := Lib.hid CD
    have HCS := Lib.hid CS
    have HCC := Lib.hid CC
    clear CD CS CC hsn
    by_cases hz : sd = 0
    · subst hz
      have esn : (decide ((0 : Nat) ≠ 0)) = false := by decide
      rw [esn] at HCS
      gi_wp2_with (first
        | (refine ⟨trivial, ?_⟩; gi_at_call 77; (refine (CallsIn.inRound l (callsIn_wide.2 (HCD.out _))).mono ?_); rintro e w2 ⟨rfl, g2⟩; (have gA : Gr w2 (w2.alloc (.cells #[.int .u64 dh, .int .u64 dl, .int .u64 dd] 42)) := by go_grown); (have t0 := cell_gr (Gr.trans g2 gA) s0); (have t1 := cell_gr (Gr.trans g2 gA) s1); (have t2 := cell_gr (Gr.trans g2 gA) s2); clear gA)
        | (refine ⟨trivial, ?_⟩; gi_at_call 78; (refine (CallsIn.inRound l (callsIn_wide.2 (HCS.out _))).mono ?_); rintro e w3 ⟨rfl, x3⟩; (have g3 : Gr W w3 := Gr.trans g2 (Gr.trans (by go_grown) x3)); (have d0 : w3.cell? ⟨w2.heap.size, 0, none⟩ = some (.int .u64 dh) := cell_gr x3 (by go_simp)); (have d1 : w3.cell? ⟨w2.heap.size, 1, none⟩ = some (.int .u64 dl) := cell_gr x3 (by go_simp)); (have d2 : w3.cell? ⟨w2.heap.size, 2, none⟩ = some (.int .u64 dd) := cell_gr x3 (by go_simp)); (have t0 := cell_gr g3 s0); (have t1 := cell_gr g3 s1); (have t2 := cell_gr g3 s2); (have k0 := frozen_gr g3 s0 f0); (have k1 := frozen_gr g3 s1 f1); (have k2 := frozen_gr g3 s2 f2))
        | (refine ⟨trivial, ?_⟩))
      have hsn : faW n X Y px py (pre ++ [x]) = (dn, dd) := by rw [HSN.out]; simp
      refine hFIN.out w3 g3 (dn, dd) hsn.symm HF.out.2 _ ?_
      subst edh edl; rfl
    · have esn : (decide (sd ≠ 0)) = true := decide_eq_true hz
      rw [esn] at HCS
      by_cases hc : cz < 0
      · gi_wp2_with (first
          | (refine ⟨trivial, ?_⟩; gi_at_call 77; (refine (CallsIn.inRound l (callsIn_wide.2 (HCD.out _))).mono ?_); rintro e w2 ⟨rfl, g2⟩; (have gA : Gr w2 (w2.alloc (.cells #[.int .u64 dh, .int .u64 dl, .int .u64 dd] 42)) := by go_grown); (have t0 := cell_gr (Gr.trans g2 gA) s0); (have t1 := cell_gr (Gr.trans g2 gA) s1); (have t2 := cell_gr (Gr.trans g2 gA) s2); clear gA)
          | (refine ⟨trivial, ?_⟩; gi_at_call 78; (refine (CallsIn.inRound l (callsIn_wide.2 (HCS.out _))).mono ?_); rintro e w3 ⟨rfl, x3⟩; (have g3 : Gr W w3 := Gr.trans g2 (Gr.trans (by go_grown) x3)); (have d0 : w3.cell? ⟨w2.heap.size, 0, none⟩ = some (.int .u64 dh) := cell_gr x3 (by go_simp)); (have d1 : w3.cell? ⟨w2.heap.size, 1, none⟩ = some (.int .u64 dl) := cell_gr x3 (by go_simp)); (have d2 : w3.cell? ⟨w2.heap.size, 2, none⟩ = some (.int .u64 dd) := cell_gr x3 (by go_simp)); (have t0 := cell_gr g3 s0); (have t1 := cell_gr g3 s1); (have t2 := cell_gr g3 s2); (have k0 := frozen_gr g3 s0 f0); (have k1 := frozen_gr g3 s1 f1); (have k2 := frozen_gr g3 s2 f2))
          | (refine ⟨trivial, ?_⟩; gi_at_call 79; (refine (CallsIn.inRound l (callsIn_wide.2 (HCC.out _))).mono ?_); rintro e w4 ⟨rfl, x4⟩; (have g4 : Gr W w4 := Gr.trans g3 (Gr.trans (by go_grown) x4)); (have u0 := cell_gr x4 d0); (have u1 := cell_gr x4 d1); (have u2 := cell_gr x4 d2); (have v0 := cell_gr g4 s0); (have v1 := cell_gr g4 s1); (have v2 := cell_gr g4 s2); (have m0 := frozen_gr g4 s0 f0); (have m1 := frozen_gr g4 s1 f1); (have m2 := frozen_gr g4 s2 f2))
          | (refine ⟨trivial, ?_⟩))
        have hsn : faW n X Y px py (pre ++ [x]) = (dn, dd) := by rw [HSN.out]; exact if_pos (Or.inr hc)
        refine hFIN.out w4 g4 (dn, dd) hsn.symm HF.out.2 _ ?_
        subst edh edl; rfl
      · gi_wp2_with (first
          | (refine ⟨trivial, ?_⟩; gi_at_call 77; (refine (CallsIn.inRound l (callsIn_wide.2 (HCD.out _))).mono ?_); rintro e w2 ⟨rfl, g2⟩; (have gA : Gr w2 (w2.alloc (.cells #[.int .u64 dh, .int .u64 dl, .int .u64 dd] 42)) := by go_grown); (have t0 := cell_gr (Gr.trans g2 gA) s0); (have t1 := cell_gr (Gr.trans g2 gA) s1); (have t2 := cell_gr (Gr.trans g2 gA) s2); clear gA)
          | (refine ⟨trivial, ?_⟩; gi_at_call 78; (refine (CallsIn.inRound l (callsIn_wide.2 (HCS.out _))).mono ?_); rintro e w3 ⟨rfl, x3⟩; (have g3 : Gr W w3 := Gr.trans g2 (Gr.trans (by go_grown) x3)); (have d0 : w3.cell? ⟨w2.heap.size, 0, none⟩ = some (.int .u64 dh) := cell_gr x3 (by go_simp)); (have d1 : w3.cell? ⟨w2.heap.size, 1, none⟩ = some (.int .u64 dl) := cell_gr x3 (by go_simp)); (have d2 : w3.cell? ⟨w2.heap.size, 2, none⟩ = some (.int .u64 dd) := cell_gr x3 (by go_simp)); (have t0 := cell_gr g3 s0); (have t1 := cell_gr g3 s1); (have t2 := cell_gr g3 s2); (have k0 := frozen_gr g3 s0 f0); (have k1 := frozen_gr g3 s1 f1); (have k2 := frozen_gr g3 s2 f2))
          | (refine ⟨trivial, ?_⟩; gi_at_call 79; (refine (CallsIn.inRound l (callsIn_wide.2 (HCC.out _))).mono ?_); rintro e w4 ⟨rfl, x4⟩; (have g4 : Gr W w4 := Gr.trans g3 (Gr.trans (by go_grown) x4)); (have u0 := cell_gr x4 d0); (have u1 := cell_gr x4 d1); (have u2 := cell_gr x4 d2); (have v0 := cell_gr g4 s0); (have v1 := cell_gr g4 s1); (have v2 := cell_gr g4 s2); (have m0 := frozen_gr g4 s0 f0); (have m1 := frozen_gr g4 s1 f1); (have m2 := frozen_gr g4 s2 f2))
          | (refine ⟨trivial, ?_⟩))
        have hsn : faW n X Y px py (pre ++ [x]) = (sn, sd) := by rw [HSN.out]; exact if_neg (fun h => h.elim hz (by omega))
        exact hFIN2.out w4 g4 hsn.symm
  case done =>
    rintro D ys W' hD rfl ⟨⟨bO1, bR1⟩, ⟨bP1, hon⟩, hs3, hB1⟩ hK
    obtain ⟨c0, c1, c2⟩ := bO1.cells
    obtain ⟨e0, e1, e2⟩ := bR1.cells
    obtain ⟨f0, f1, f2⟩ := bR1.frozen
    generalize hS : faW n X Y px py (List.range n) = S at c0 c1 c2 hon bO1
    obtain ⟨sh, esh⟩ : ∃ z : Nat, S.1 / 18446744073709551616 = z := ⟨_, rfl⟩
    obtain ⟨sl, esl⟩ : ∃ z : Nat, S.1 % 18446744073709551616 = z := ⟨_, rfl⟩
    obtain ⟨sd, esd⟩ : ∃ z : Nat, S.2 = z := ⟨_, rfl⟩
    rw [esh] at c0
    rw [esl] at c1
    rw [esd] at c2
    have HBR := Lib.hid bR1
    clear bO1 bR1 bP1
    gi_wp2
    have hw : set3 W' (w.heap.size + 1 + 1) S = ((W'.setCell ⟨w.heap.size + 1 + 1, 0, none⟩ (.int .u64 sh)).setCell ⟨w.heap.size + 1 + 1, 1, none⟩ (.int .u64 sl)).setCell ⟨w.heap.size + 1 + 1, 2, none⟩ (.int .u64 sd) := by
      subst esh esl esd; rfl
    rw [← hw]
    have hK2 : (set3 W' (w.heap.size + 1 + 1) S).heap[D]? = some (.deferred (some [])) := (set3_keeps _ _ _).same D _ hK rfl
    obtain ⟨g0, g1, g2⟩ := (HBR.out.set S).cells
    have hc0 := cell_kept g0 (grownBy_putObj' _ D (.deferred none)) (fun r e => by cases e; exact ⟨_, hK2, rfl⟩)
    have hc1 := cell_kept g1 (grownBy_putObj' _ D (.deferred none)) (fun r e => by cases e; exact ⟨_, hK2, rfl⟩)
    have hc2 := cell_kept g2 (grownBy_putObj' _ D (.deferred none)) (fun r e => by cases e; exact ⟨_, hK2, rfl⟩)
    refine ⟨by simp, .inl ⟨_, _, rfl, run_takeDeferred hK2, ?_⟩⟩
    subst hS
    exact ⟨_, far_results rfl rfl hc0 hc1 hc2, rfl, (below_set3 hB1 (by omega) _).trans (belowK_b (w := w) (Nat.le_refl _) _ D _ _ (by omega) hK2 rfl rfl)⟩
  case stop =>
    rintro D c pre W hD _ hF hK
    exact hF.elim
def faP (n : Nat) (X Y : Nat → Int) (px py : Int) : Nat × Nat := if Rg.hasN n X Y px py then (0, 1) else faW n X Y px py (List.range n)
theorem c_FarA (w : World) (h : Pts w v n X Y) (h0 : (Rg.ringC n X Y).1 = 0) (hp : nearB px py = true) :
    Calls Tryz.prog 46 #[.agg #[.int .i64 4, v], .agg #[.int .i64 px, .int .i64 py]] w fun e w' => e = .returned (dV (faP n X Y px py)) ∧ Gr w w' := by
  unfold faP
  cases hh : Rg.hasN n X Y px py
  · rw [if_neg (by decide)]; exact c_Far_out w h h0 hp hh
  · rw [if_pos rfl]; exact c_Far_in w h h0 hp hh
end
end Go.Proofs.YtfobmlgpjhghdaaGreatDoor
namespace Go.Proofs.YtfobmlgpjhghdaaGreatDoor
set_option linter.unusedVariables false
set_option linter.unusedSimpArgs false
open Go.ChangeShapes Go.WideShapes Go.ChangeAt Go.RowKit
theorem near_box {n : Nat} {X Y : Nat → Int} (h : ∀ k, k < n → nearB (X k) (Y k) = true) (hn : 1 ≤ n) : boxB (mnN X n) (mnN Y n) (mxN X n) (mxN Y n) = true := by
  have key : ∀ m, 1 ≤ m → m ≤ n → ((-1073741823 ≤ mnN X m ∧ mnN X m ≤ mxN X m) ∧ mxN X m ≤ 1073741823) ∧ ((-1073741823 ≤ mnN Y m ∧ mnN Y m ≤ mxN Y m) ∧ mxN Y m ≤ 1073741823) := by
    intro m
    induction m with
    | zero => intro h; omega
    | succ m ih =>
      intro _ hm
      have b := Rg.nearB_iff'.1 (h m (by omega))
      by_cases h0 : m = 0
      · rw [mnN_0 _ h0, mnN_0 _ h0, mxN_0 _ h0, mxN_0 _ h0]; omega
      · have i := ih (by omega) (by omega)
        rw [mnN_s _ h0, mnN_s _ h0, mxN_s _ h0, mxN_s _ h0]
        unfold minZ maxZ
        refine ⟨⟨⟨?_, ?_⟩, ?_⟩, ⟨⟨?_, ?_⟩, ?_⟩⟩ <;> (repeat split) <;> omega
  have k := key n hn (Nat.le_refl _)
  exact boxB_iff.2 ⟨⟨Rg.nearB_iff'.2 (by omega), Rg.nearB_iff'.2 (by omega)⟩, by omega, by omega⟩
end Go.Proofs.YtfobmlgpjhghdaaGreatDoor
namespace Go.Proofs.YtfobmlgpjhghdaaGreatDoor
set_option linter.unusedVariables false
set_option linter.unusedSimpArgs false
open Go.ChangeShapes Go.WideShapes Go.ChangeAt Go.RowKit
def oLy (k : Int) (Y : Nat → Int) : Int := if k = 2 then 0 else Y 0
def oHx (k : Int) (X Y : Nat → Int) : Int := if k = 3 then X 1 else if k = 2 then Y 0 else X 0
def oHy (k : Int) (Y : Nat → Int) : Int := if k = 3 then Y 1 else if k = 2 then 0 else Y 0
def maA (k : Int) (n : Nat) (X Y : Nat → Int) (kq qlx qly qhx qhy : Int) (m : Nat) (P Q : Nat → Int) : Bool := if k = 4 then mpV n X Y kq qlx qly qhx qhy m P Q else msV (X 0) (oLy k Y) (oHx k X Y) (oHy k Y) kq qlx qly qhx qhy m P Q
def diA (k : Int) (n : Nat) (X Y : Nat → Int) (px py : Int) : Nat × Nat := if k = 4 then faP n X Y px py else ((distZ (X 0) (oLy k Y) (oHx k X Y) (oHy k Y) px py).toNat, 1)
theorem obj_box {k : Int} {n : Nat} {X Y : Nat → Int} (h : objC k n X Y = 0) (h4 : k ≠ 4) : (k = 1 ∧ n = 1 ∨ k = 2 ∧ n = 1 ∨ k = 3 ∧ n = 2) ∧ objC k n X Y = boxN (X 0) (oLy k Y) (oHx k X Y) (oHy k Y) ∧ boxN (X 0) (oLy k Y) (oHx k X Y) (oHy k Y) = 0 := by
  have e : objC k n X Y = 0 := h
  unfold objC at e
  rw [if_neg h4] at e
  by_cases k3 : k = 3
  · subst k3
    rw [if_pos rfl] at e
    by_cases hn : n = 2
    · subst hn
      rw [if_pos rfl] at e
      exact ⟨Or.inr (Or.inr ⟨rfl, rfl⟩), by rw [objC_3, if_pos rfl]; rfl, e⟩
    · rw [if_neg hn] at e; cases e
  rw [if_neg k3] at e
  by_cases k1 : k = 1
  · subst k1
    rw [if_pos rfl] at e
    by_cases hn : n = 1
    · subst hn
      rw [if_pos rfl] at e
      exact ⟨Or.inl ⟨rfl, rfl⟩, by rw [objC_1, if_pos rfl]; rfl, e⟩
    · rw [if_neg hn] at e; cases e
  rw [if_neg k1] at e
  by_cases k2 : k = 2
  · subst k2
    rw [if_pos rfl] at e
    by_cases hn : n = 1
    · subst hn
      rw [if_pos rfl] at e
      exact ⟨Or.inr (Or.inl ⟨rfl, rfl⟩), by rw [objC_2, if_pos rfl]; rfl, e⟩
    · rw [if_neg hn] at e; cases e
  rw [if_neg k2] at e
  cases e
theorem bl_of {W : World} {k : Int} {n : Nat} {X Y : Nat → Int} {v : Value} (hp : Pts W v n X Y) (h : objC k n X Y = 0) (h4 : k ≠ 4) : BL W k v (X 0) (oLy k Y) (oHx k X Y) (oHy k Y) := by
  obtain ⟨hk, he, -⟩ := obj_box h h4
  have hp0 := hp
  obtain ⟨ad, cap, B, off, rfl, q1, q2, q3, q4⟩ := hp
  rcases hk with ⟨rfl, rfl⟩ | ⟨rfl, rfl⟩ | ⟨rfl, rfl⟩
  · obtain rfl := q3 (by omega)
    obtain ⟨c0, c1⟩ := q4 0 (by omega)
    rw [Nat.zero_mul, Nat.add_zero] at c0 c1
    exact ⟨⟨Or.inl rfl, ⟨_, _, _, rfl⟩, fun w' g => c_frame_1 (X 0) (Y 0) B off cap w' (cell_gr g c0) (cell_gr g c1) (World.block_lt_of_cell? _ _ (cell_gr g c0))⟩, 1, X, Y, hp0, he⟩
  · obtain rfl := q3 (by omega)
    obtain ⟨c0, c1⟩ := q4 0 (by omega)
    rw [Nat.zero_mul, Nat.add_zero] at c0 c1
    exact ⟨⟨Or.inr (Or.inl rfl), ⟨_, _, _, rfl⟩, fun w' g => c_frame_2 (X 0) (Y 0) B off cap w' (cell_gr g c0) (cell_gr g c1) (World.block_lt_of_cell? _ _ (cell_gr g c0))⟩, 1, X, Y, hp0, he⟩
  · obtain rfl := q3 (by omega)
    obtain ⟨c0, c1⟩ := q4 0 (by omega)
    obtain ⟨c2, c3⟩ := q4 1 (by omega)
    rw [Nat.zero_mul, Nat.add_zero] at c0 c1
    rw [Nat.one_mul] at c2 c3
    exact ⟨⟨Or.inr (Or.inr rfl), ⟨_, _, _, rfl⟩, fun w' g => c_frame_3 (X 0) (Y 0) (X 1) (Y 1) B off cap w' (cell_gr g c0) (cell_gr g c1) (cell_gr g c2) (cell_gr g c3) (World.block_lt_of_cell? _ _ (cell_gr g c0))⟩, 2, X, Y, hp0, he⟩
theorem c_MatchAny {k : Int} {n : Nat} {X Y : Nat → Int} {v : Value} {m : Nat} {P Q : Nat → Int} {u : Value} (kq qlx qly qhx qhy : Int) (W : World) (hE : ErrT W) (h : Pts W v n X Y) (hc : objC k n X Y = 0) (hu : Pts W u m P Q) (hq : qC kq qlx qly qhx qhy m P Q = 0) :
    Calls Tryz.prog 13 #[.agg #[.int .i64 k, v], qryV kq qlx qly qhx qhy u] W fun e w' => e = .returned (.bool (maA k n X Y kq qlx qly qhx qhy m P Q)) ∧ Gr W w' := by
  unfold maA
  by_cases h4 : k = 4
  · subst h4
    rw [if_pos rfl]
    have C := c_MatchP kq qlx qly qhx qhy W hE h hu
    rw [objC_4] at hc
    rw [hc, hq] at C
    simpa using C
  · rw [if_neg h4]
    obtain ⟨-, -, e⟩ := obj_box hc h4
    have C := c_MatchO kq qlx qly qhx qhy W hE (bl_of h hc h4) hu
    unfold maV at C
    rw [e, hq] at C
    simpa using C
set_option maxHeartbeats 4000000 in
set_option maxRecDepth 100000 in
theorem dist_ok {k : Int} {n : Nat} {X Y : Nat → Int} {v : Value} (px py : Int) (dh dl dd : Nat) (W : World) (hE : ErrT W) (h : Pts W v n X Y) (hc : objC k n X Y = 0) (hp : nearB px py = true)
    (C3 : ∀ w, Gr W w → Calls Tryz.prog 46 #[.agg #[.int .i64 k, v], .agg #[.int .i64 px, .int .i64 py]] w fun e w' => e = .returned (.agg #[.int .u64 dh, .int .u64 dl, .int .u64 dd]) ∧ Gr w w') :
    Calls Tryz.prog 15 #[.agg #[.int .i64 k, v], .agg #[.int .i64 px, .int .i64 py]] W fun e w' => e = .returned (.agg #[.int .u64 dh, .int .u64 dl, .int .u64 dd]) ∧ Gr W w' := by
  have B2 := c_CheckPoint px py
  rw [hp, if_pos rfl] at B2
  have B4 : ∀ (w : World) (D : Nat) (x : Value) (q : Bool), Gr W w → w.cell? ⟨D, 0, none⟩ = some x → NF x → (q = true ↔ x = .nilIface) → Calls Tryz.prog 39 #[.slice (some ⟨D, 0, none⟩) 1 1] w fun e w' => e = .returned (.bool q) ∧ Gr w w' := fun w D x q g h0 n0 hq =>
    c_allowed (D := D) (n := 1) (cap := 1) (e := fun _ => x) w (errT_gr hE g) (by omega) (fun k hk => by match k, hk with | 0, _ => exact h0) (fun k hk => n0) (World.block_lt_of_cell? _ _ h0) (Nat.le_refl _) q (by
      rw [hq]
      exact ⟨fun a k _ => a, fun h => h 0 (by omega)⟩)
  have C1 : ∀ w, Gr W w → Calls Tryz.prog 34 #[.agg #[.int .i64 k, v]] w fun e w' => e = .returned .nilIface ∧ Gr w w' := fun w g => (c_relCheck k w (pts_gr h g)).mono (by
    rintro e w' ⟨x, rfl, hx, g'⟩
    rw [hc] at hx
    obtain rfl := (werr_nf hx).2.2 rfl
    exact ⟨rfl, g'⟩)
  obtain ⟨ad, cap, _, _, rfl, -⟩ := h
  have H1 := Lib.hid C1
  have H2 := Lib.hid B2
  have H3 := Lib.hid C3
  have H4 := Lib.hid B4
  clear C1 B2 C3 B4
  clear hp hc hE
  go_enter Tryz.func15, Tryz.ntmps15
  go_wp2_with fail
  go_at_call 34
  refine ((H1.out _ (by go_grown))).mono ?_
  rintro e w1 ⟨rfl, hw1⟩
  have cw1_0_0 := ci hw1 (W.heap.size) 0 k (by go_simp)
  have cw1_0_1 := cg hw1 (W.heap.size) 1 (.slice ad n cap) (by go_simp)
  have zw1_0 := zb cw1_0_0
  have cw1_1_0 := ci hw1 (W.heap.size + 1) 0 px (by go_simp)
  have cw1_1_1 := ci hw1 (W.heap.size + 1) 1 py (by go_simp)
  have zw1_1 := zb cw1_1_0
  have cw1_2_0 := cu hw1 (W.heap.size + 1 + 1) 0 0 (by go_simp)
  have fw1_2_0 := fq hw1 (W.heap.size + 1 + 1) 0 (.int .u64 0) (by go_simp) (by go_simp)
  have cw1_2_1 := cu hw1 (W.heap.size + 1 + 1) 1 0 (by go_simp)
  have fw1_2_1 := fq hw1 (W.heap.size + 1 + 1) 1 (.int .u64 0) (by go_simp) (by go_simp)
  have cw1_2_2 := cu hw1 (W.heap.size + 1 + 1) 2 0 (by go_simp)
  have fw1_2_2 := fq hw1 (W.heap.size + 1 + 1) 2 (.int .u64 0) (by go_simp) (by go_simp)
  have zw1_2 := zb cw1_2_0
  have gw1 : Gr W w1 := Gr.trans (by go_grown) hw1
  clear hw1
  go_wp2_with fail
  go_at_call 39
  refine ((H4.out _ _ _ true (by have gg := gw1; have gs := gg.size; go_grown) (by go_simp) nf_nil (by simp))).mono ?_
  rintro e w2 ⟨rfl, hw2⟩
  have cw2_0_0 := ci hw2 (W.heap.size) 0 k (by go_simp)
  have cw2_0_1 := cg hw2 (W.heap.size) 1 (.slice ad n cap) (by go_simp)
  have cw2_1_0 := ci hw2 (W.heap.size + 1) 0 px (by go_simp)
  have cw2_1_1 := ci hw2 (W.heap.size + 1) 1 py (by go_simp)
  have cw2_2_0 := cu hw2 (W.heap.size + 1 + 1) 0 0 (by go_simp)
  have fw2_2_0 := fq hw2 (W.heap.size + 1 + 1) 0 (.int .u64 0) (by go_simp) (by go_simp)
  have cw2_2_1 := cu hw2 (W.heap.size + 1 + 1) 1 0 (by go_simp)
  have fw2_2_1 := fq hw2 (W.heap.size + 1 + 1) 1 (.int .u64 0) (by go_simp) (by go_simp)
  have cw2_2_2 := cu hw2 (W.heap.size + 1 + 1) 2 0 (by go_simp)
  have fw2_2_2 := fq hw2 (W.heap.size + 1 + 1) 2 (.int .u64 0) (by go_simp) (by go_simp)
  have gw2 : Gr W w2 := Gr.trans (by have gg := gw1; have gs := gg.size; go_grown) hw2
  clear hw2 gw1 zw1_0 cw1_0_0 cw1_0_1 zw1_1 cw1_1_0 cw1_1_1 zw1_2 cw1_2_0 fw1_2_0 cw1_2_1 fw1_2_1 cw1_2_2 fw1_2_2
  go_wp2_with fail
  go_at_call 45
  refine ((H2.out _)).mono ?_
  rintro e w3 ⟨rfl, hw3⟩
  have cw3_0_0 := ci hw3 (W.heap.size) 0 k (by go_simp)
  have cw3_0_1 := cg hw3 (W.heap.size) 1 (.slice ad n cap) (by go_simp)
  have cw3_1_0 := ci hw3 (W.heap.size + 1) 0 px (by go_simp)
  have cw3_1_1 := ci hw3 (W.heap.size + 1) 1 py (by go_simp)
  have cw3_2_0 := cu hw3 (W.heap.size + 1 + 1) 0 0 (by go_simp)
  have fw3_2_0 := fq hw3 (W.heap.size + 1 + 1) 0 (.int .u64 0) (by go_simp) (by go_simp)
  have cw3_2_1 := cu hw3 (W.heap.size + 1 + 1) 1 0 (by go_simp)
  have fw3_2_1 := fq hw3 (W.heap.size + 1 + 1) 1 (.int .u64 0) (by go_simp) (by go_simp)
  have cw3_2_2 := cu hw3 (W.heap.size + 1 + 1) 2 0 (by go_simp)
  have fw3_2_2 := fq hw3 (W.heap.size + 1 + 1) 2 (.int .u64 0) (by go_simp) (by go_simp)
  have gw3 : Gr W w3 := Gr.trans (by have gg := gw2; have gs := gg.size; go_grown) hw3
  clear hw3 gw2 cw2_0_0 cw2_0_1 cw2_1_0 cw2_1_1 cw2_2_0 fw2_2_0 cw2_2_1 fw2_2_1 cw2_2_2 fw2_2_2
  go_wp2_with fail
  go_at_call 46
  refine ((H3.out _ (by have gg := gw3; have gs := gg.size; go_grown))).mono ?_
  rintro e w4 ⟨rfl, hw4⟩
  have cw4_2_0 := cu hw4 (W.heap.size + 1 + 1) 0 0 (by go_simp)
  have fw4_2_0 := fq hw4 (W.heap.size + 1 + 1) 0 (.int .u64 0) (by go_simp) (by go_simp)
  have cw4_2_1 := cu hw4 (W.heap.size + 1 + 1) 1 0 (by go_simp)
  have fw4_2_1 := fq hw4 (W.heap.size + 1 + 1) 1 (.int .u64 0) (by go_simp) (by go_simp)
  have cw4_2_2 := cu hw4 (W.heap.size + 1 + 1) 2 0 (by go_simp)
  have fw4_2_2 := fq hw4 (W.heap.size + 1 + 1) 2 (.int .u64 0) (by go_simp) (by go_simp)
  have gw4 : Gr W w4 := Gr.trans (by have gg := gw3; have gs := gg.size; go_grown) hw4
  clear hw4 gw3 cw3_0_0 cw3_0_1 cw3_1_0 cw3_1_1 cw3_2_0 fw3_2_0 cw3_2_1 fw3_2_1 cw3_2_2 fw3_2_2
  go_wp2_with fail
  refine bodyPost_ret (v := .agg #[.int .u64 dh, .int .u64 dl, .int .u64 dd]) (by simp [results, Tryz.results15, go_sem, *]) rfl ⟨rfl, by go_grown⟩
theorem distZ_lt {lx ly hx hy px py : Int} (hb : boxB lx ly hx hy = true) (hp : nearB px py = true) : 0 ≤ distZ lx ly hx hy px py ∧ distZ lx ly hx hy px py < 18446744073709551616 := by
  obtain ⟨⟨a, b⟩, c, d⟩ := boxB_iff.1 hb
  have a := Rg.nearB_iff'.1 a
  have b := Rg.nearB_iff'.1 b
  have p := Rg.nearB_iff'.1 hp
  have e : ∀ lo hi v : Int, lo ≤ hi → -1073741823 ≤ lo → hi ≤ 1073741823 → -1073741823 ≤ v → v ≤ 1073741823 → 0 ≤ beyZ lo hi v * beyZ lo hi v ∧ beyZ lo hi v * beyZ lo hi v ≤ 2147483646 * 2147483646 := fun lo hi v h1 h2 h3 h4 h5 => by
    have hb : 0 ≤ beyZ lo hi v ∧ beyZ lo hi v ≤ 2147483646 := by unfold beyZ; split <;> (try split) <;> omega
    exact ⟨Int.mul_nonneg hb.1 hb.1, Int.mul_le_mul hb.2 hb.2 hb.1 (by omega)⟩
  have e1 := e lx hx px c (by omega) (by omega) (by omega) (by omega)
  have e2 := e ly hy py d (by omega) (by omega) (by omega) (by omega)
  unfold distZ
  omega
theorem c_DistAny {k : Int} {n : Nat} {X Y : Nat → Int} {v : Value} (px py : Int) (W : World) (hE : ErrT W) (h : Pts W v n X Y) (hc : objC k n X Y = 0) (hp : nearB px py = true) :
    Calls Tryz.prog 15 #[.agg #[.int .i64 k, v], .agg #[.int .i64 px, .int .i64 py]] W fun e w' => e = .returned (dV (diA k n X Y px py)) ∧ Gr W w' := by
  refine dist_ok px py _ _ _ W hE h hc hp fun w g => ?_
  unfold diA
  by_cases h4 : k = 4
  · subst h4
    rw [if_pos rfl]
    rw [objC_4] at hc
    exact c_FarA w (pts_gr h g) hc hp
  · rw [if_neg h4]
    obtain ⟨-, -, e⟩ := obj_box hc h4
    have hb := boxN_0.1 e
    obtain ⟨d0, d1⟩ := distZ_lt hb hp
    have C := c_FarB w (bl_gr (bl_of h hc h4) g).1 hb hp
    generalize distZ (X 0) (oLy k Y) (oHx k X Y) (oHy k Y) px py = z at C d0 d1 ⊢
    obtain ⟨m, rfl⟩ := Int.eq_ofNat_of_zero_le d0
    have e1 : m / 18446744073709551616 = 0 := by omega
    have e2 : m % 18446744073709551616 = m := by omega
    show Calls _ _ _ _ _
    simp only [Int.toNat_natCast, e1, e2]
    exact C
end Go.Proofs.YtfobmlgpjhghdaaGreatDoor
