/- what objects may be: rel.refusal, told, Check; the document's -/
import Derived.Test.YtpomllpplpalkaaGreatDoorRv
import Derived.Test.YtpomllpplpalkaaGreatDoorCp
import Derived.Test.YtpomllpplpalkaaGreatDoorOd
namespace Go.Proofs.YtpomllpplpalkaaGreatDoor
set_option linter.unusedVariables false
set_option linter.unusedSimpArgs false
open Go.ChangeShapes Go.WideShapes Go.ChangeAt Go.RowKit

def boxN (lx ly hx hy : Int) : Nat := if nearB lx ly && nearB hx hy then (if decide (lx ≤ hx) && decide (ly ≤ hy) then 0 else 1) else 2
theorem boxN_code (lx ly hx hy : Int) : boxCode lx ly hx hy = (boxN lx ly hx hy : Nat) := by
  unfold boxCode boxN
  split
  · split <;> rfl
  · rfl
theorem boxN_err (w : World) (lx ly hx hy : Int) : OErr w (boxErr lx ly hx hy) (boxN lx ly hx hy) := by
  unfold boxErr boxN
  split
  · split
    · exact Or.inl ⟨rfl, rfl⟩
    · exact Or.inr ⟨by omega, by omega, 0, rfl⟩
  · exact Or.inr ⟨by omega, by omega, 0, rfl⟩
def objC (k : Int) (n : Nat) (X Y : Nat → Int) : Nat :=
  if k = 4 then (Rg.ringC n X Y).1
  else if k = 3 then (if n = 2 then boxN (X 0) (Y 0) (X 1) (Y 1) else 3)
  else if k = 1 then (if n = 1 then boxN (X 0) (Y 0) (X 0) (Y 0) else 3)
  else if k = 2 then (if n = 1 then boxN (X 0) 0 (Y 0) 0 else 3)
  else 5
theorem objC_4 {n : Nat} {X Y : Nat → Int} : objC 4 n X Y = (Rg.ringC n X Y).1 := by unfold objC; rw [if_pos rfl]
theorem objC_3 {n : Nat} {X Y : Nat → Int} : objC 3 n X Y = if n = 2 then boxN (X 0) (Y 0) (X 1) (Y 1) else 3 := by unfold objC; rw [if_neg (by omega), if_pos rfl]
theorem objC_1 {n : Nat} {X Y : Nat → Int} : objC 1 n X Y = if n = 1 then boxN (X 0) (Y 0) (X 0) (Y 0) else 3 := by unfold objC; rw [if_neg (by omega), if_neg (by omega), if_pos rfl]
theorem objC_2 {n : Nat} {X Y : Nat → Int} : objC 2 n X Y = if n = 1 then boxN (X 0) 0 (Y 0) 0 else 3 := by unfold objC; rw [if_neg (by omega), if_neg (by omega), if_neg (by omega), if_pos rfl]
theorem objC_x {k : Int} {n : Nat} {X Y : Nat → Int} (h4 : k ≠ 4) (h3 : k ≠ 3) (h1 : k ≠ 1) (h2 : k ≠ 2) : objC k n X Y = 5 := by unfold objC; rw [if_neg h4, if_neg h3, if_neg h1, if_neg h2]
def ObjTo (W : World) (c : Nat) (e : Ending) (w' : World) : Prop := ∃ u, e = .returned u ∧ OErr w' u c ∧ Gr W w'
theorem errno_one (w : World) (k : Nat) (h : 1 ≤ k ∧ k ≤ 15) : OErr w (.iface 107 (.int .i64 k)) k := Or.inr ⟨h.1, h.2, 0, rfl⟩

theorem pts_at0 {w : World} {ad : Option Addr} {n cap : Nat} {X Y : Nat → Int} (h : Pts w (.slice ad n cap) n X Y) (h1 : 1 ≤ n) : ∃ B off, ad = some ⟨B, off, none⟩ ∧ B < w.heap.size ∧ w.cell? ⟨B, off, none⟩ = some (.int .i64 (X 0)) ∧ w.cell? ⟨B, off + 1, none⟩ = some (.int .i64 (Y 0)) ∧ (2 ≤ n → w.cell? ⟨B, off + 2, none⟩ = some (.int .i64 (X 1)) ∧ w.cell? ⟨B, off + 3, none⟩ = some (.int .i64 (Y 1))) := by
  obtain ⟨ad', cap', B, off, e, _, _, q3, q4⟩ := h
  cases e
  obtain ⟨k0, k1⟩ := q4 0 (by omega)
  rw [Nat.zero_mul, Nat.add_zero] at k0 k1
  exact ⟨B, off, q3 (by omega), World.block_lt_of_cell? _ _ k0, k0, k1, fun h2 => q4 1 (by omega)⟩
set_option maxHeartbeats 2000000 in
set_option maxRecDepth 100000 in
theorem c_frame_1 (x y : Int) (B off cap : Nat) (W : World) (p0 : W.cell? ⟨B, off, none⟩ = some (.int .i64 x)) (p1 : W.cell? ⟨B, off + 1, none⟩ = some (.int .i64 y)) (hB : B < W.heap.size) :
    Calls Tryz.prog 110 #[.agg #[.int .i64 1, .slice (some ⟨B, off, none⟩) 1 cap]] W fun e w' => e = .returned (.agg #[.int .i64 x, .int .i64 y, .int .i64 x, .int .i64 y]) ∧ Gr W w' := by
  go_enter Tryz.func110, Tryz.ntmps110
  go_wp2_with fail
  generalize hhw0 : (W.alloc (.cells #[.int .i64 1, .slice (some ⟨B, off, none⟩) 1 cap] 34)).alloc (.cells #[.int .i64 0, .int .i64 0, .int .i64 0, .int .i64 0] 60) = w0
  have cw0_0_0 : w0.cell? ⟨W.heap.size, 0, none⟩ = some (.int .i64 1) := by subst hhw0; go_simp
  have cw0_0_1 : w0.cell? ⟨W.heap.size, 1, none⟩ = some (.slice (some ⟨B, off, none⟩) 1 cap) := by subst hhw0; go_simp
  have zw0_0 : W.heap.size < w0.heap.size := World.block_lt_of_cell? _ _ cw0_0_0
  have cw0_1_0 : w0.cell? ⟨W.heap.size + 1, 0, none⟩ = some (.int .i64 0) := by subst hhw0; go_simp
  have fw0_1_0 : w0.frozen? ⟨W.heap.size + 1, 0, none⟩ = false := by subst hhw0; go_simp
  have cw0_1_1 : w0.cell? ⟨W.heap.size + 1, 1, none⟩ = some (.int .i64 0) := by subst hhw0; go_simp
  have fw0_1_1 : w0.frozen? ⟨W.heap.size + 1, 1, none⟩ = false := by subst hhw0; go_simp
  have cw0_1_2 : w0.cell? ⟨W.heap.size + 1, 2, none⟩ = some (.int .i64 0) := by subst hhw0; go_simp
  have fw0_1_2 : w0.frozen? ⟨W.heap.size + 1, 2, none⟩ = false := by subst hhw0; go_simp
  have cw0_1_3 : w0.cell? ⟨W.heap.size + 1, 3, none⟩ = some (.int .i64 0) := by subst hhw0; go_simp
  have fw0_1_3 : w0.frozen? ⟨W.heap.size + 1, 3, none⟩ = false := by subst hhw0; go_simp
  have zw0_1 : W.heap.size + 1 < w0.heap.size := World.block_lt_of_cell? _ _ cw0_1_0
  have gw0 : Gr W w0 := by subst hhw0; go_grown
  clear hhw0
  have q0 := cell_gr gw0 p0
  have q1 := cell_gr gw0 p1
  clear p0 p1
  go_wp2_with fail
  refine Hd.wp_region_tail 9 (by kernel_rfl) (by kernel_rfl) ?_
  intro KQ hKQ
  repeat (first | (refine Hd.wpG_skip (by decide) rfl ?_; simp only [Act.put, List.setIfInBounds_toArray, List.set_cons_zero, List.set_cons_succ]) | (refine Hd.wpG_want (by decide) rfl ?_; apply Exists.intro; refine ⟨?_, ?_⟩; (· intro wx gx; (obtain ⟨mx, rfl⟩ := gx); all_goals (apply Hd.gAt_of_quiet; intro K hK; go_big_quiet_op; first | exact hK _ rfl | (apply Exists.intro; refine ⟨fun _ => ?_, ?_⟩; (· fail); exact hK _ rfl))); try simp only [Act.put, List.setIfInBounds_toArray, List.set_cons_zero, List.set_cons_succ]))
  refine Hd.wpG_nil (hKQ _ ?_)
  clear hKQ KQ
  intro w1 hhw1
  have hw1 := Hd.gr_of_spread hhw1
  have cw1_0_0 : w1.cell? ⟨W.heap.size + 1, 0, none⟩ = some (.int .i64 0) := cell_gr hw1 (by go_simp)
  have fw1_0_0 : w1.frozen? ⟨W.heap.size + 1, 0, none⟩ = false := frozen_gr (v := .int .i64 0) hw1 (by go_simp) (by go_simp)
  have cw1_0_1 : w1.cell? ⟨W.heap.size + 1, 1, none⟩ = some (.int .i64 0) := cell_gr hw1 (by go_simp)
  have fw1_0_1 : w1.frozen? ⟨W.heap.size + 1, 1, none⟩ = false := frozen_gr (v := .int .i64 0) hw1 (by go_simp) (by go_simp)
  have cw1_0_2 : w1.cell? ⟨W.heap.size + 1, 2, none⟩ = some (.int .i64 0) := cell_gr hw1 (by go_simp)
  have fw1_0_2 : w1.frozen? ⟨W.heap.size + 1, 2, none⟩ = false := frozen_gr (v := .int .i64 0) hw1 (by go_simp) (by go_simp)
  have cw1_0_3 : w1.cell? ⟨W.heap.size + 1, 3, none⟩ = some (.int .i64 0) := cell_gr hw1 (by go_simp)
  have fw1_0_3 : w1.frozen? ⟨W.heap.size + 1, 3, none⟩ = false := frozen_gr (v := .int .i64 0) hw1 (by go_simp) (by go_simp)
  have zw1_0 : W.heap.size + 1 < w1.heap.size := World.block_lt_of_cell? _ _ cw1_0_0
  have gw1 : Gr W w1 := Gr.trans (by have gg := gw0; have gs := gg.size; go_grown) hw1
  clear hw1 hhw1 gw0 zw0_0 cw0_0_0 cw0_0_1 zw0_1 cw0_1_0 fw0_1_0 cw0_1_1 fw0_1_1 cw0_1_2 fw0_1_2 cw0_1_3 fw0_1_3
  go_wp2_with fail
  refine bodyPost_ret (v := .agg #[.int .i64 x, .int .i64 y, .int .i64 x, .int .i64 y]) (by simp [results, Tryz.results110, go_sem, *]) rfl ⟨rfl, by go_grown⟩
set_option maxHeartbeats 2000000 in
set_option maxRecDepth 100000 in
theorem c_frame_3 (x y z u : Int) (B off cap : Nat) (W : World) (p0 : W.cell? ⟨B, off, none⟩ = some (.int .i64 x)) (p1 : W.cell? ⟨B, off + 1, none⟩ = some (.int .i64 y)) (p2 : W.cell? ⟨B, off + 2, none⟩ = some (.int .i64 z)) (p3 : W.cell? ⟨B, off + 3, none⟩ = some (.int .i64 u)) (hB : B < W.heap.size) :
    Calls Tryz.prog 110 #[.agg #[.int .i64 3, .slice (some ⟨B, off, none⟩) 2 cap]] W fun e w' => e = .returned (.agg #[.int .i64 x, .int .i64 y, .int .i64 z, .int .i64 u]) ∧ Gr W w' := by
  go_enter Tryz.func110, Tryz.ntmps110
  go_wp2_with fail
  generalize hhw0 : (W.alloc (.cells #[.int .i64 3, .slice (some ⟨B, off, none⟩) 2 cap] 34)).alloc (.cells #[.int .i64 0, .int .i64 0, .int .i64 0, .int .i64 0] 60) = w0
  have cw0_0_0 : w0.cell? ⟨W.heap.size, 0, none⟩ = some (.int .i64 3) := by subst hhw0; go_simp
  have cw0_0_1 : w0.cell? ⟨W.heap.size, 1, none⟩ = some (.slice (some ⟨B, off, none⟩) 2 cap) := by subst hhw0; go_simp
  have zw0_0 : W.heap.size < w0.heap.size := World.block_lt_of_cell? _ _ cw0_0_0
  have cw0_1_0 : w0.cell? ⟨W.heap.size + 1, 0, none⟩ = some (.int .i64 0) := by subst hhw0; go_simp
  have fw0_1_0 : w0.frozen? ⟨W.heap.size + 1, 0, none⟩ = false := by subst hhw0; go_simp
  have cw0_1_1 : w0.cell? ⟨W.heap.size + 1, 1, none⟩ = some (.int .i64 0) := by subst hhw0; go_simp
  have fw0_1_1 : w0.frozen? ⟨W.heap.size + 1, 1, none⟩ = false := by subst hhw0; go_simp
  have cw0_1_2 : w0.cell? ⟨W.heap.size + 1, 2, none⟩ = some (.int .i64 0) := by subst hhw0; go_simp
  have fw0_1_2 : w0.frozen? ⟨W.heap.size + 1, 2, none⟩ = false := by subst hhw0; go_simp
  have cw0_1_3 : w0.cell? ⟨W.heap.size + 1, 3, none⟩ = some (.int .i64 0) := by subst hhw0; go_simp
  have fw0_1_3 : w0.frozen? ⟨W.heap.size + 1, 3, none⟩ = false := by subst hhw0; go_simp
  have zw0_1 : W.heap.size + 1 < w0.heap.size := World.block_lt_of_cell? _ _ cw0_1_0
  have gw0 : Gr W w0 := by subst hhw0; go_grown
  clear hhw0
  have q0 := cell_gr gw0 p0
  have q1 := cell_gr gw0 p1
  have q2 := cell_gr gw0 p2
  have q3 := cell_gr gw0 p3
  have q4 : w0.cell? ⟨B, off + 2 + 1, none⟩ = some (.int .i64 u) := q3
  clear p0 p1 p2 p3
  go_wp2_with fail
  refine Hd.wp_region_tail 9 (by kernel_rfl) (by kernel_rfl) ?_
  intro KQ hKQ
  repeat (first | (refine Hd.wpG_skip (by decide) rfl ?_; simp only [Act.put, List.setIfInBounds_toArray, List.set_cons_zero, List.set_cons_succ]) | (refine Hd.wpG_want (by decide) rfl ?_; apply Exists.intro; refine ⟨?_, ?_⟩; (· intro wx gx; (obtain ⟨mx, rfl⟩ := gx); all_goals (apply Hd.gAt_of_quiet; intro K hK; go_big_quiet_op; first | exact hK _ rfl | (apply Exists.intro; refine ⟨fun _ => ?_, ?_⟩; (· fail); exact hK _ rfl))); try simp only [Act.put, List.setIfInBounds_toArray, List.set_cons_zero, List.set_cons_succ]))
  refine Hd.wpG_nil (hKQ _ ?_)
  clear hKQ KQ
  intro w1 hhw1
  have hw1 := Hd.gr_of_spread hhw1
  have cw1_0_0 : w1.cell? ⟨W.heap.size + 1, 0, none⟩ = some (.int .i64 0) := cell_gr hw1 (by go_simp)
  have fw1_0_0 : w1.frozen? ⟨W.heap.size + 1, 0, none⟩ = false := frozen_gr (v := .int .i64 0) hw1 (by go_simp) (by go_simp)
  have cw1_0_1 : w1.cell? ⟨W.heap.size + 1, 1, none⟩ = some (.int .i64 0) := cell_gr hw1 (by go_simp)
  have fw1_0_1 : w1.frozen? ⟨W.heap.size + 1, 1, none⟩ = false := frozen_gr (v := .int .i64 0) hw1 (by go_simp) (by go_simp)
  have cw1_0_2 : w1.cell? ⟨W.heap.size + 1, 2, none⟩ = some (.int .i64 0) := cell_gr hw1 (by go_simp)
  have fw1_0_2 : w1.frozen? ⟨W.heap.size + 1, 2, none⟩ = false := frozen_gr (v := .int .i64 0) hw1 (by go_simp) (by go_simp)
  have cw1_0_3 : w1.cell? ⟨W.heap.size + 1, 3, none⟩ = some (.int .i64 0) := cell_gr hw1 (by go_simp)
  have fw1_0_3 : w1.frozen? ⟨W.heap.size + 1, 3, none⟩ = false := frozen_gr (v := .int .i64 0) hw1 (by go_simp) (by go_simp)
  have zw1_0 : W.heap.size + 1 < w1.heap.size := World.block_lt_of_cell? _ _ cw1_0_0
  have gw1 : Gr W w1 := Gr.trans (by have gg := gw0; have gs := gg.size; go_grown) hw1
  clear hw1 hhw1 gw0 zw0_0 cw0_0_0 cw0_0_1 zw0_1 cw0_1_0 fw0_1_0 cw0_1_1 fw0_1_1 cw0_1_2 fw0_1_2 cw0_1_3 fw0_1_3
  go_wp2_with fail
  refine bodyPost_ret (v := .agg #[.int .i64 x, .int .i64 y, .int .i64 z, .int .i64 u]) (by simp [results, Tryz.results110, go_sem, *]) rfl ⟨rfl, by go_grown⟩
set_option maxHeartbeats 2000000 in
set_option maxRecDepth 100000 in
theorem c_frame_2 (x y : Int) (B off cap : Nat) (W : World) (p0 : W.cell? ⟨B, off, none⟩ = some (.int .i64 x)) (p1 : W.cell? ⟨B, off + 1, none⟩ = some (.int .i64 y)) (hB : B < W.heap.size) :
    Calls Tryz.prog 110 #[.agg #[.int .i64 2, .slice (some ⟨B, off, none⟩) 1 cap]] W fun e w' => e = .returned (.agg #[.int .i64 x, .int .i64 0, .int .i64 y, .int .i64 0]) ∧ Gr W w' := by
  go_enter Tryz.func110, Tryz.ntmps110
  go_wp2_with fail
  refine bodyPost_ret (v := .agg #[.int .i64 x, .int .i64 0, .int .i64 y, .int .i64 0]) (by simp [results, Tryz.results110, go_sem, *]) rfl ⟨rfl, by go_grown⟩
set_option maxHeartbeats 2000000 in
set_option maxRecDepth 100000 in
theorem refusal_box (k : Int) (n cap : Nat) (ad : Option Addr) (lx ly hx hy : Int) (W : World) (hk : k = 1 ∧ n = 1 ∨ k = 2 ∧ n = 1 ∨ k = 3 ∧ n = 2)
    (A2 : ∀ w, Gr W w → Calls Tryz.prog 110 #[.agg #[.int .i64 k, .slice ad n cap]] w fun e w' => e = .returned (.agg #[.int .i64 lx, .int .i64 ly, .int .i64 hx, .int .i64 hy]) ∧ Gr w w') :
    Calls Tryz.prog 224 #[.agg #[.int .i64 k, .slice ad n cap]] W (ObjTo W (boxN lx ly hx hy)) := by
  have A1 := fun w => c_CheckBox lx ly hx hy w
  have E := fun w => boxN_err w lx ly hx hy
  obtain ⟨u, hu⟩ : ∃ u, u = boxErr lx ly hx hy := ⟨_, rfl⟩
  rw [← hu] at A1 E
  generalize boxN lx ly hx hy = c at E ⊢
  have H1 := Lib.hid A1
  have H2 := Lib.hid A2
  clear A1 A2
  have HE := Lib.hid E
  clear hu E
  rcases hk with ⟨rfl, rfl⟩ | ⟨rfl, rfl⟩ | ⟨rfl, rfl⟩
  all_goals
    go_enter Tryz.func224, Tryz.ntmps224
    go_wp2_with fail
    go_at_call 110
    refine ((H2.out _ (by go_grown))).mono ?_
    rintro e w1 ⟨rfl, hw1⟩
    have gw1 : Gr W w1 := Gr.trans (by go_grown) hw1
    clear hw1
    go_wp2_with fail
    go_at_call 148
    refine ((H1.out _)).mono ?_
    rintro e w2 ⟨rfl, hw2⟩
    have gw2 : Gr W w2 := Gr.trans (by have gg := gw1; have gs := gg.size; go_grown) hw2
    clear hw2 gw1
    go_wp2_with fail
    go_ret
    exact ⟨_, rfl, HE.out _, gw2⟩
set_option maxHeartbeats 2000000 in
set_option maxRecDepth 100000 in
theorem refusal_verts (k : Int) (n cap : Nat) (ad : Option Addr) (W : World) (hk : k = 1 ∧ n ≠ 1 ∨ k = 2 ∧ n ≠ 1 ∨ k = 3 ∧ n ≠ 2) :
    Calls Tryz.prog 224 #[.agg #[.int .i64 k, .slice ad n cap]] W (ObjTo W 3) := by
  have HE := Lib.hid (fun w => errno_one w 3 (by omega))
  rcases hk with ⟨rfl, h⟩ | ⟨rfl, h⟩ | ⟨rfl, h⟩
  · have t1 : ((n : Int) != 1) = true := by simp; omega
    have t2 : (n != 1) = true := by simp; omega
    clear h
    go_enter Tryz.func224, Tryz.ntmps224
    go_wp2_with fail
    go_ret
    exact ⟨_, rfl, HE.out _, by go_grown⟩
  · have t1 : ((n : Int) != 1) = true := by simp; omega
    have t2 : (n != 1) = true := by simp; omega
    clear h
    go_enter Tryz.func224, Tryz.ntmps224
    go_wp2_with fail
    go_ret
    exact ⟨_, rfl, HE.out _, by go_grown⟩
  · have t1 : ((n : Int) != 2) = true := by simp; omega
    have t2 : (n != 2) = true := by simp; omega
    clear h
    go_enter Tryz.func224, Tryz.ntmps224
    go_wp2_with fail
    go_ret
    exact ⟨_, rfl, HE.out _, by go_grown⟩
set_option maxHeartbeats 2000000 in
set_option maxRecDepth 100000 in
theorem refusal_kind (k : Int) (n cap : Nat) (ad : Option Addr) (W : World) (h4 : k ≠ 4) (h3 : k ≠ 3) (h1 : k ≠ 1) (h2 : k ≠ 2) :
    Calls Tryz.prog 224 #[.agg #[.int .i64 k, .slice ad n cap]] W (ObjTo W 5) := by
  have HE := Lib.hid (fun w => errno_one w 5 (by omega))
  have t1 : (k == 1) = false := by simp; omega
  have t2 : (k == 2) = false := by simp; omega
  have t3 : (k == 3) = false := by simp; omega
  have t4 : (k == 4) = false := by simp; omega
  clear h1 h2 h3 h4
  go_enter Tryz.func224, Tryz.ntmps224
  go_wp2_with fail
  go_ret
  exact ⟨_, rfl, HE.out _, by go_grown⟩
set_option maxHeartbeats 2000000 in
set_option maxRecDepth 100000 in
theorem refusal_ring {n : Nat} {X Y : Nat → Int} {v : Value} (W : World) (h : Pts W v n X Y) :
    Calls Tryz.prog 224 #[.agg #[.int .i64 4, v]] W (ObjTo W (Rg.ringC n X Y).1) := by
  have A1 : ∀ w, Gr W w → Calls Tryz.prog 149 #[v] w fun e w' => ∃ f, e = .returned f ∧ AErr ringS w' f (Rg.ringC n X Y).2 (Rg.ringC n X Y).1 ∧ Gr w w' := fun w g => c_ringCheck w (pts_gr h g)
  generalize (Rg.ringC n X Y).1 = c at A1 ⊢
  generalize (Rg.ringC n X Y).2 = id at A1
  obtain ⟨ad, cap, B, off, rfl, _⟩ := h
  have H1 := Lib.hid A1
  clear A1
  go_enter Tryz.func224, Tryz.ntmps224
  go_wp2_with fail
  go_at_call 149
  refine (H1.out _ (by go_grown)).mono ?_
  rintro e w1 ⟨x, rfl, hx, g1⟩
  have HX := Lib.hid hx
  clear hx
  go_wp2_with fail
  go_ret
  exact ⟨_, rfl, oerr_aerr HX.out, Gr.trans (by go_grown) g1⟩
theorem c_refusal {n : Nat} {X Y : Nat → Int} {v : Value} (k : Int) (W : World) (h : Pts W v n X Y) :
    Calls Tryz.prog 224 #[.agg #[.int .i64 k, v]] W (ObjTo W (objC k n X Y)) := by
  by_cases h4 : k = 4
  · subst h4; rw [objC_4]; exact refusal_ring W h
  obtain ⟨ad, cap, _, _, rfl, _⟩ := (show Pts W v n X Y from h)
  by_cases h3 : k = 3
  · subst h3
    rw [objC_3]
    by_cases hn : n = 2
    · rw [if_pos hn]
      subst hn
      refine refusal_box 3 2 cap ad _ _ _ _ W (Or.inr (Or.inr ⟨rfl, rfl⟩)) fun w g => ?_
      obtain ⟨B, off, rfl, hB, p0, p1, p2⟩ := pts_at0 (pts_gr h g) (by omega)
      exact c_frame_3 _ _ _ _ B off cap w p0 p1 (p2 (by omega)).1 (p2 (by omega)).2 hB
    · rw [if_neg hn]
      exact refusal_verts 3 n cap ad W (Or.inr (Or.inr ⟨rfl, hn⟩))
  by_cases h1 : k = 1
  · subst h1
    rw [objC_1]
    by_cases hn : n = 1
    · rw [if_pos hn]
      subst hn
      refine refusal_box 1 1 cap ad _ _ _ _ W (Or.inl ⟨rfl, rfl⟩) fun w g => ?_
      obtain ⟨B, off, rfl, hB, p0, p1, p2⟩ := pts_at0 (pts_gr h g) (by omega)
      exact c_frame_1 _ _ B off cap w p0 p1 hB
    · rw [if_neg hn]
      exact refusal_verts 1 n cap ad W (Or.inl ⟨rfl, hn⟩)
  by_cases h2 : k = 2
  · subst h2
    rw [objC_2]
    by_cases hn : n = 1
    · rw [if_pos hn]
      subst hn
      refine refusal_box 2 1 cap ad _ _ _ _ W (Or.inr (Or.inl ⟨rfl, rfl⟩)) fun w g => ?_
      obtain ⟨B, off, rfl, hB, p0, p1, p2⟩ := pts_at0 (pts_gr h g) (by omega)
      exact c_frame_2 _ _ B off cap w p0 p1 hB
    · rw [if_neg hn]
      exact refusal_verts 2 n cap ad W (Or.inr (Or.inl ⟨rfl, hn⟩))
  rw [objC_x h4 h3 h1 h2]
  exact refusal_kind k n cap ad W h4 h3 h1 h2
def WrTo (op : ByteArray) (W : World) (id : Int) (c : Nat) (e : Ending) (w' : World) : Prop := ∃ u, e = .returned u ∧ WErr op w' u id c ∧ Gr W w'
set_option maxHeartbeats 2000000 in
set_option maxRecDepth 100000 in
theorem c_told (op : ByteArray) (k : Int) (u : Value) (c : Nat) (W : World) (h : OErr W u c) :
    Calls Tryz.prog 107 #[.string op, .int .i64 k, u] W (WrTo op W k c) := by
  rcases h with ⟨rfl, rfl⟩ | ⟨h1, h2, d, h⟩
  · go_enter Tryz.func107, Tryz.ntmps107
    go_wp2_with fail
    go_ret
    exact ⟨_, rfl, Or.inl ⟨rfl, rfl⟩, by go_grown⟩
  · have H := Lib.hid (And.intro h1 (And.intro h2 h))
    rcases eAt_form h with ⟨x, rfl⟩ | ⟨x, rfl⟩
    all_goals
      clear h h1 h2
      go_enter Tryz.func107, Tryz.ntmps107
      go_wp2_with fail
      go_ret
      exact ⟨_, rfl, Or.inr ⟨_, _, d, rfl, H.out.1, H.out.2.1, by go_simp, by go_simp, by go_simp, eAt_gr H.out.2.2 (by go_grown)⟩, by go_grown⟩
abbrev objectS : ByteArray := ⟨#[111, 98, 106, 101, 99, 116]⟩
set_option maxHeartbeats 2000000 in
set_option maxRecDepth 100000 in
theorem c_relCheck {n : Nat} {X Y : Nat → Int} {v : Value} (k : Int) (W : World) (h : Pts W v n X Y) :
    Calls Tryz.prog 195 #[.agg #[.int .i64 k, v]] W (WrTo objectS W k (objC k n X Y)) := by
  have A1 : ∀ w, Gr W w → Calls Tryz.prog 224 #[.agg #[.int .i64 k, v]] w fun e w' => ∃ u, e = .returned u ∧ OErr w' u (objC k n X Y) ∧ Gr w w' := fun w g => c_refusal k w (pts_gr h g)
  generalize objC k n X Y = c at A1 ⊢
  have A2 : ∀ (w : World) (u : Value), OErr w u c → Calls Tryz.prog 107 #[.string objectS, .int .i64 k, u] w fun e w' => ∃ x, e = .returned x ∧ WErr objectS w' x k c ∧ Gr w w' := fun w u hu => c_told objectS k u c w hu
  obtain ⟨ad, cap, B, off, rfl, _⟩ := h
  have H1 := Lib.hid A1
  have H2 := Lib.hid A2
  clear A1 A2
  go_enter Tryz.func195, Tryz.ntmps195
  go_wp2_with fail
  try simp only [List.append]
  refine Od.wp_region_ord [(0, false), (1, false), (2, false), (3, true), (4, true), (5, false)] (by kernel_rfl) (by kernel_rfl) ?_
  intro w0 hw0 KQ hKQ
  have cw0_0_0 : w0.cell? ⟨W.heap.size, 0, none⟩ = some (.int .i64 k) := cell_gr hw0 (by go_simp)
  have cw0_0_1 : w0.cell? ⟨W.heap.size, 1, none⟩ = some (.slice ad n cap) := cell_gr hw0 (by go_simp)
  have zw0_0 : W.heap.size < w0.heap.size := World.block_lt_of_cell? _ _ cw0_0_0
  have gw0 : Gr W w0 := Gr.trans (by go_grown) hw0
  skip
  clear hw0
  repeat (first | (refine Od.wpO_skip (by simp only [List.getElem?_toArray, List.getElem?_cons_succ, List.getElem?_cons_zero] <;> rfl) rfl ?_; simp only [Act.put, List.setIfInBounds_toArray, List.set_cons_zero, List.set_cons_succ]) | (refine Od.wpO_pure (by simp only [List.getElem?_toArray, List.getElem?_cons_succ, List.getElem?_cons_zero] <;> rfl) rfl ?_; apply Exists.intro; refine ⟨?_, ?_⟩; (· intro wx gx; obtain ⟨mx, rfl⟩ := spread_of_gr gx; clear gx; all_goals (apply Od.pAt_of_quiet; intro K hK; go_big_quiet_op; first | exact hK _ rfl | (apply Exists.intro; refine ⟨fun _ => ?_, ?_⟩; (· fail); exact hK _ rfl))); try simp only [Act.put, List.setIfInBounds_toArray, List.set_cons_zero, List.set_cons_succ]))
  refine Od.wpO_call (by simp only [List.getElem?_toArray, List.getElem?_cons_succ, List.getElem?_cons_zero] <;> rfl) rfl ?_
  intro QS hQS
  go_wp2_with fail
  go_at_call 224
  (with_reducible refine ((H1.out _ gw0)).mono ?_)
  rintro e w1 ⟨u, rfl, hu, hw1⟩
  go_wp2_with fail
  apply Exists.intro
  refine ⟨?_, hw1, ?_⟩
  · simp only [Act.put, List.setIfInBounds_toArray, List.set_cons_zero, List.set_cons_succ]; rfl
  have cw1_0_0 : w1.cell? ⟨W.heap.size, 0, none⟩ = some (.int .i64 k) := cell_gr hw1 (by go_simp)
  have cw1_0_1 : w1.cell? ⟨W.heap.size, 1, none⟩ = some (.slice ad n cap) := cell_gr hw1 (by go_simp)
  have zw1_0 : W.heap.size < w1.heap.size := World.block_lt_of_cell? _ _ cw1_0_0
  have gw1 : Gr W w1 := Gr.trans (by have gg := gw0; have gs := gg.size; go_grown) hw1
  clear gw0 zw0_0 cw0_0_0 cw0_0_1
  clear hw1
  try simp only [Act.put, List.setIfInBounds_toArray, List.set_cons_zero, List.set_cons_succ]
  repeat (first | (refine Od.wpO_skip (by simp only [List.getElem?_toArray, List.getElem?_cons_succ, List.getElem?_cons_zero] <;> rfl) rfl ?_; simp only [Act.put, List.setIfInBounds_toArray, List.set_cons_zero, List.set_cons_succ]) | (refine Od.wpO_pure (by simp only [List.getElem?_toArray, List.getElem?_cons_succ, List.getElem?_cons_zero] <;> rfl) rfl ?_; apply Exists.intro; refine ⟨?_, ?_⟩; (· intro wx gx; obtain ⟨mx, rfl⟩ := spread_of_gr gx; clear gx; all_goals (apply Od.pAt_of_quiet; intro K hK; go_big_quiet_op; first | exact hK _ rfl | (apply Exists.intro; refine ⟨fun _ => ?_, ?_⟩; (· fail); exact hK _ rfl))); try simp only [Act.put, List.setIfInBounds_toArray, List.set_cons_zero, List.set_cons_succ]))
  refine Od.wpO_call (by simp only [List.getElem?_toArray, List.getElem?_cons_succ, List.getElem?_cons_zero] <;> rfl) rfl ?_
  intro QS hQS
  go_wp2_with fail
  go_at_call 107
  (with_reducible refine ((H2.out _ _ hu)).mono ?_)
  rintro e w2 ⟨x, rfl, hx, hw2⟩
  go_wp2_with fail
  apply Exists.intro
  refine ⟨?_, hw2, ?_⟩
  · simp only [Act.put, List.setIfInBounds_toArray, List.set_cons_zero, List.set_cons_succ]; rfl
  have cw2_0_0 : w2.cell? ⟨W.heap.size, 0, none⟩ = some (.int .i64 k) := cell_gr hw2 (by go_simp)
  have cw2_0_1 : w2.cell? ⟨W.heap.size, 1, none⟩ = some (.slice ad n cap) := cell_gr hw2 (by go_simp)
  have zw2_0 : W.heap.size < w2.heap.size := World.block_lt_of_cell? _ _ cw2_0_0
  have gw2 : Gr W w2 := Gr.trans (by have gg := gw1; have gs := gg.size; go_grown) hw2
  clear gw1 zw1_0 cw1_0_0 cw1_0_1
  clear hw2
  try simp only [Act.put, List.setIfInBounds_toArray, List.set_cons_zero, List.set_cons_succ]
  repeat (first | (refine Od.wpO_skip (by simp only [List.getElem?_toArray, List.getElem?_cons_succ, List.getElem?_cons_zero] <;> rfl) rfl ?_; simp only [Act.put, List.setIfInBounds_toArray, List.set_cons_zero, List.set_cons_succ]) | (refine Od.wpO_pure (by simp only [List.getElem?_toArray, List.getElem?_cons_succ, List.getElem?_cons_zero] <;> rfl) rfl ?_; apply Exists.intro; refine ⟨?_, ?_⟩; (· intro wx gx; obtain ⟨mx, rfl⟩ := spread_of_gr gx; clear gx; all_goals (apply Od.pAt_of_quiet; intro K hK; go_big_quiet_op; first | exact hK _ rfl | (apply Exists.intro; refine ⟨fun _ => ?_, ?_⟩; (· fail); exact hK _ rfl))); try simp only [Act.put, List.setIfInBounds_toArray, List.set_cons_zero, List.set_cons_succ]))
  refine Od.wpO_nil (hKQ _ _ ?_)
  clear hKQ KQ
  have HX := Lib.hid hx
  clear hx
  go_wp2_with fail
  go_ret
  exact ⟨_, rfl, HX.out, gw2⟩
end Go.Proofs.YtpomllpplpalkaaGreatDoor
