/- PlaneBoxes -/
import Derived.Test.YtffobfjjbcdbdaaRt
import Derived.Test.YtffobfjjbcdbdaaPo
import Derived.Test.YtffobfjjbcdbdaaPr
namespace Go.Proofs.Ytffobfjjbcdbdaa
set_option linter.unusedVariables false
open Go.ChangeShapes Go.WideShapes Go.ChangeAt Go.RowKit

def two (a b : Int) : Nat → Int := fun k => if k = 0 then a else b
theorem two_cells {B : Nat} {w : World} {lx ly hx hy mx my nx ny : Int} (k0 : w.cell? ⟨B, 0, none⟩ = some (.int .i64 lx)) (k1 : w.cell? ⟨B, 1, none⟩ = some (.int .i64 ly)) (k2 : w.cell? ⟨B, 2, none⟩ = some (.int .i64 hx)) (k3 : w.cell? ⟨B, 3, none⟩ = some (.int .i64 hy)) (k4 : w.cell? ⟨B, 4, none⟩ = some (.int .i64 mx)) (k5 : w.cell? ⟨B, 5, none⟩ = some (.int .i64 my)) (k6 : w.cell? ⟨B, 6, none⟩ = some (.int .i64 nx)) (k7 : w.cell? ⟨B, 7, none⟩ = some (.int .i64 ny)) :
    ∀ k, k < 2 → w.cell? ⟨B, 0 + k * 4, none⟩ = some (.int .i64 (two lx mx k)) ∧ w.cell? ⟨B, 0 + k * 4 + 1, none⟩ = some (.int .i64 (two ly my k)) ∧ w.cell? ⟨B, 0 + k * 4 + 2, none⟩ = some (.int .i64 (two hx nx k)) ∧ w.cell? ⟨B, 0 + k * 4 + 3, none⟩ = some (.int .i64 (two hy ny k)) := fun k hk => by
  rcases (by omega : k = 0 ∨ k = 1) with rfl | rfl
  · exact ⟨k0, k1, k2, k3⟩
  · exact ⟨k4, k5, k6, k7⟩
theorem two_all (lx ly hx hy mx my nx ny : Int) : allBox (two lx mx) (two ly my) (two hx nx) (two hy ny) 2 = (boxB lx ly hx hy && boxB mx my nx ny) := by
  simp [allBox, two]
theorem two_min (a b : Int) : accMin (two a b) 2 = minZ a b := by
  show minZ (minZ a a) b = minZ a b
  rw [minZ_self]
theorem two_max (a b : Int) : accMax (two a b) 2 = maxZ a b := by
  show maxZ (maxZ a a) b = maxZ a b
  rw [maxZ_self]
/-- Of two boxes, one of which may not be. -/
theorem two_no (lx ly hx hy mx my nx ny : Int) (h : (boxB lx ly hx hy && boxB mx my nx ny) = false) : ∃ z : Int, (z = 1 ∨ z = 2) ∧
    (∀ B w, w.cell? ⟨B, 0, none⟩ = some (.int .i64 lx) → w.cell? ⟨B, 1, none⟩ = some (.int .i64 ly) → w.cell? ⟨B, 2, none⟩ = some (.int .i64 hx) → w.cell? ⟨B, 3, none⟩ = some (.int .i64 hy) →
      w.cell? ⟨B, 4, none⟩ = some (.int .i64 mx) → w.cell? ⟨B, 5, none⟩ = some (.int .i64 my) → w.cell? ⟨B, 6, none⟩ = some (.int .i64 nx) → w.cell? ⟨B, 7, none⟩ = some (.int .i64 ny) →
      Calls Try.prog 36 #[.slice (some ⟨B, 0, none⟩) 2 2] w fun e w' => e = .returned (.tuple #[.agg #[.int .i64 0, .int .i64 0, .int .i64 0, .int .i64 0], .iface 67 (.int .i64 z)]) ∧ Gr w w') ∧
    (∀ B w, w.cell? ⟨B, 0, none⟩ = some (.int .i64 lx) → w.cell? ⟨B, 1, none⟩ = some (.int .i64 ly) → w.cell? ⟨B, 2, none⟩ = some (.int .i64 hx) → w.cell? ⟨B, 3, none⟩ = some (.int .i64 hy) →
      w.cell? ⟨B, 4, none⟩ = some (.int .i64 mx) → w.cell? ⟨B, 5, none⟩ = some (.int .i64 my) → w.cell? ⟨B, 6, none⟩ = some (.int .i64 nx) → w.cell? ⟨B, 7, none⟩ = some (.int .i64 ny) →
      Calls Try.prog 37 #[.slice (some ⟨B, 0, none⟩) 2 2] w fun e w' => e = .returned (.tuple #[.agg #[.int .i64 0, .int .i64 0, .int .i64 0, .int .i64 0], .int .i64 z]) ∧ Gr w w') := by
  rcases first_bad (two lx mx) (two ly my) (two hx nx) (two hy ny) 2 with g | ⟨j, hj, h1, h2⟩
  · rw [two_all, h] at g
    cases g
  · obtain ⟨z, hz, e1, e2⟩ := boxErr_code h2
    refine ⟨z, hz, fun B w k0 k1 k2 k3 k4 k5 k6 k7 => ?_, fun B w k0 k1 k2 k3 k4 k5 k6 k7 => ?_⟩
    · exact c_UnionN 2 2 _ _ _ _ B 0 w (by omega) (by omega) _ (two_cells k0 k1 k2 k3 k4 k5 k6 k7) (fun i hi h3 h4 => by obtain rfl := bad_one h1 h2 h3 h4; rw [e1]) (fun h => (not_all hj h2 h).elim)
    · exact c_rUnionN 2 2 _ _ _ _ B 0 w (by omega) (by omega) _ (two_cells k0 k1 k2 k3 k4 k5 k6 k7) (fun i hi h3 h4 => by obtain rfl := bad_one h1 h2 h3 h4; rw [e2]) (fun h => (not_all hj h2 h).elim)
theorem rtwo_yes (lx ly hx hy mx my nx ny : Int) (h1 : boxB lx ly hx hy = true) (h2 : boxB mx my nx ny = true) :
    (∀ B w, w.cell? ⟨B, 0, none⟩ = some (.int .i64 lx) → w.cell? ⟨B, 1, none⟩ = some (.int .i64 ly) → w.cell? ⟨B, 2, none⟩ = some (.int .i64 hx) → w.cell? ⟨B, 3, none⟩ = some (.int .i64 hy) →
      w.cell? ⟨B, 4, none⟩ = some (.int .i64 mx) → w.cell? ⟨B, 5, none⟩ = some (.int .i64 my) → w.cell? ⟨B, 6, none⟩ = some (.int .i64 nx) → w.cell? ⟨B, 7, none⟩ = some (.int .i64 ny) →
      Calls Try.prog 37 #[.slice (some ⟨B, 0, none⟩) 2 2] w fun e w' => e = .returned (.tuple #[.agg #[.int .i64 (minZ lx mx), .int .i64 (minZ ly my), .int .i64 (maxZ hx nx), .int .i64 (maxZ hy ny)], .int .i64 0]) ∧ Gr w w') := by
  intro B w k0 k1 k2 k3 k4 k5 k6 k7
  have ha : allBox (two lx mx) (two ly my) (two hx nx) (two hy ny) 2 = true := by rw [two_all, h1, h2]; rfl
  have C := c_rUnionN 2 2 (two lx mx) (two ly my) (two hx nx) (two hy ny) B 0 w (by omega) (by omega) _ (two_cells k0 k1 k2 k3 k4 k5 k6 k7) (fun j hj _ h2 => (not_all hj h2 ha).elim) (fun _ => rfl)
  rw [two_min, two_min, two_max, two_max] at C
  exact C
theorem rgrow_of (l1 l2 l3 l4 m1 m2 m3 m4 : Int) (h1 : boxB l1 l2 l3 l4 = true) (h2 : boxB m1 m2 m3 m4 = true) (s t : Nat) (hs : (s : Int) = (maxZ l3 m3 - minZ l1 m1) * (maxZ l4 m4 - minZ l2 m2)) (ht : (t : Int) = (l3 - l1) * (l4 - l2)) (hst : t ≤ s) (hsb : s ≤ 4611686009837453316) (W : World) :
    Calls Try.prog 33 #[.agg #[.int .i64 l1, .int .i64 l2, .int .i64 l3, .int .i64 l4], .agg #[.int .i64 m1, .int .i64 m2, .int .i64 m3, .int .i64 m4]] W fun e w' => e = .returned (.agg #[.int .u64 0, .int .u64 ((s - t : Nat) : Int)]) ∧ Gr W w' := by
  have A1 := rtwo_yes l1 l2 l3 l4 m1 m2 m3 m4 h1 h2
  have A2 := c_rArea _ _ _ _ (box_join h1 h2) s hs
  have A3 := c_rArea _ _ _ _ h1 t ht
  have A4 := c_rSub 0 s 0 t (by unfold Wd; omega) (by unfold Wd; omega) (by unfold Wd; omega) (by unfold Wd; omega)
  have v1 : (val 0 s + 340282366920938463463374607431768211456 - val 0 t) / 18446744073709551616 % 18446744073709551616 = 0 := by unfold val; omega
  have v2 : (val 0 s + 340282366920938463463374607431768211456 - val 0 t) % 18446744073709551616 = s - t := by unfold val; omega
  rw [v1, v2] at A4
  exact rgrow_core l1 l2 l3 l4 m1 m2 m3 m4 _ _ _ _ s t (s - t) _ W A1 A2 A3 A4
set_option maxHeartbeats 2000000 in
set_option maxRecDepth 100000 in
theorem boxes_core (lx ly hx hy mx my nx ny px py z s g d1 d2 : Int) (b1 b2 b3 : Bool) (ev : Value) (W : World)
    (A1 : ∀ w, Calls Try.prog 21 #[.agg #[.int .i64 lx, .int .i64 ly, .int .i64 hx, .int .i64 hy]] w fun e w' => e = .returned (ev) ∧ Gr w w')
    (A2 : ∀ w, Calls Try.prog 12 #[ev] w fun e w' => e = .returned (.int .i64 z) ∧ Gr w w')
    (A3 : ∀ w, Calls Try.prog 22 #[.agg #[.int .i64 lx, .int .i64 ly, .int .i64 hx, .int .i64 hy]] w fun e w' => e = .returned (.int .i64 z) ∧ Gr w w')
    (A4 : ∀ w, Calls Try.prog 23 #[.agg #[.int .i64 lx, .int .i64 ly, .int .i64 hx, .int .i64 hy], .agg #[.int .i64 px, .int .i64 py]] w fun e w' => e = .returned (.bool b1) ∧ Gr w w')
    (A5 : ∀ w, Calls Try.prog 24 #[.agg #[.int .i64 lx, .int .i64 ly, .int .i64 hx, .int .i64 hy], .agg #[.int .i64 px, .int .i64 py]] w fun e w' => e = .returned (.bool b1) ∧ Gr w w')
    (A6 : ∀ w, Calls Try.prog 25 #[.agg #[.int .i64 lx, .int .i64 ly, .int .i64 hx, .int .i64 hy], .agg #[.int .i64 mx, .int .i64 my, .int .i64 nx, .int .i64 ny]] w fun e w' => e = .returned (.bool b2) ∧ Gr w w')
    (A7 : ∀ w, Calls Try.prog 26 #[.agg #[.int .i64 lx, .int .i64 ly, .int .i64 hx, .int .i64 hy], .agg #[.int .i64 mx, .int .i64 my, .int .i64 nx, .int .i64 ny]] w fun e w' => e = .returned (.bool b2) ∧ Gr w w')
    (A8 : ∀ w, Calls Try.prog 27 #[.agg #[.int .i64 lx, .int .i64 ly, .int .i64 hx, .int .i64 hy], .agg #[.int .i64 mx, .int .i64 my, .int .i64 nx, .int .i64 ny]] w fun e w' => e = .returned (.bool b3) ∧ Gr w w')
    (A9 : ∀ w, Calls Try.prog 28 #[.agg #[.int .i64 lx, .int .i64 ly, .int .i64 hx, .int .i64 hy], .agg #[.int .i64 mx, .int .i64 my, .int .i64 nx, .int .i64 ny]] w fun e w' => e = .returned (.bool b3) ∧ Gr w w')
    (A10 : ∀ w, Calls Try.prog 30 #[.agg #[.int .i64 lx, .int .i64 ly, .int .i64 hx, .int .i64 hy]] w fun e w' => e = .returned (.agg #[.int .u64 0, .int .u64 s]) ∧ Gr w w')
    (A11 : ∀ w, Calls Try.prog 31 #[.agg #[.int .i64 lx, .int .i64 ly, .int .i64 hx, .int .i64 hy]] w fun e w' => e = .returned (.agg #[.int .u64 0, .int .u64 s]) ∧ Gr w w')
    (A12 : ∀ w, Calls Try.prog 32 #[.agg #[.int .i64 lx, .int .i64 ly, .int .i64 hx, .int .i64 hy], .agg #[.int .i64 mx, .int .i64 my, .int .i64 nx, .int .i64 ny]] w fun e w' => e = .returned (.agg #[.int .u64 0, .int .u64 g]) ∧ Gr w w')
    (A13 : ∀ w, Calls Try.prog 33 #[.agg #[.int .i64 lx, .int .i64 ly, .int .i64 hx, .int .i64 hy], .agg #[.int .i64 mx, .int .i64 my, .int .i64 nx, .int .i64 ny]] w fun e w' => e = .returned (.agg #[.int .u64 0, .int .u64 g]) ∧ Gr w w')
    (A14 : ∀ w, Calls Try.prog 34 #[.agg #[.int .i64 lx, .int .i64 ly, .int .i64 hx, .int .i64 hy], .agg #[.int .i64 px, .int .i64 py]] w fun e w' => e = .returned (.agg #[.int .u64 0, .int .u64 d1, .int .u64 d2]) ∧ Gr w w')
    (A15 : ∀ w, Calls Try.prog 35 #[.agg #[.int .i64 lx, .int .i64 ly, .int .i64 hx, .int .i64 hy], .agg #[.int .i64 px, .int .i64 py]] w fun e w' => e = .returned (.agg #[.int .u64 0, .int .u64 d1, .int .u64 d2]) ∧ Gr w w') :
    Calls Try.prog 4 #[.agg #[.int .i64 lx, .int .i64 ly, .int .i64 hx, .int .i64 hy], .agg #[.int .i64 mx, .int .i64 my, .int .i64 nx, .int .i64 ny], .agg #[.int .i64 px, .int .i64 py]] W fun e w' => e = .returned (.bool true) ∧ Gr W w' := by
  have H1 := Lib.hid A1
  have H2 := Lib.hid A2
  have H3 := Lib.hid A3
  have H4 := Lib.hid A4
  have H5 := Lib.hid A5
  have H6 := Lib.hid A6
  have H7 := Lib.hid A7
  have H8 := Lib.hid A8
  have H9 := Lib.hid A9
  have H10 := Lib.hid A10
  have H11 := Lib.hid A11
  have H12 := Lib.hid A12
  have H13 := Lib.hid A13
  have H14 := Lib.hid A14
  have H15 := Lib.hid A15
  clear A1 A2 A3 A4 A5 A6 A7 A8 A9 A10 A11 A12 A13 A14 A15
  go_enter Try.func4, Try.ntmps4
  go_wp2_with fail
  generalize hhw1 : (((W.alloc (.cells #[.int .i64 lx, .int .i64 ly, .int .i64 hx, .int .i64 hy] 37)).alloc (.cells #[.int .i64 mx, .int .i64 my, .int .i64 nx, .int .i64 ny] 37)).alloc (.cells #[.int .i64 px, .int .i64 py] 23)) = w1
  have cw1_0_0 : w1.cell? ⟨W.heap.size, 0, none⟩ = some (.int .i64 lx) := by subst hhw1; go_simp
  have cw1_0_1 : w1.cell? ⟨W.heap.size, 1, none⟩ = some (.int .i64 ly) := by subst hhw1; go_simp
  have cw1_0_2 : w1.cell? ⟨W.heap.size, 2, none⟩ = some (.int .i64 hx) := by subst hhw1; go_simp
  have cw1_0_3 : w1.cell? ⟨W.heap.size, 3, none⟩ = some (.int .i64 hy) := by subst hhw1; go_simp
  have zw1_0 : W.heap.size < w1.heap.size := World.block_lt_of_cell? _ _ cw1_0_0
  have cw1_1_0 : w1.cell? ⟨W.heap.size + 1, 0, none⟩ = some (.int .i64 mx) := by subst hhw1; go_simp
  have cw1_1_1 : w1.cell? ⟨W.heap.size + 1, 1, none⟩ = some (.int .i64 my) := by subst hhw1; go_simp
  have cw1_1_2 : w1.cell? ⟨W.heap.size + 1, 2, none⟩ = some (.int .i64 nx) := by subst hhw1; go_simp
  have cw1_1_3 : w1.cell? ⟨W.heap.size + 1, 3, none⟩ = some (.int .i64 ny) := by subst hhw1; go_simp
  have zw1_1 : W.heap.size + 1 < w1.heap.size := World.block_lt_of_cell? _ _ cw1_1_0
  have cw1_2_0 : w1.cell? ⟨W.heap.size + 1 + 1, 0, none⟩ = some (.int .i64 px) := by subst hhw1; go_simp
  have cw1_2_1 : w1.cell? ⟨W.heap.size + 1 + 1, 1, none⟩ = some (.int .i64 py) := by subst hhw1; go_simp
  have zw1_2 : W.heap.size + 1 + 1 < w1.heap.size := World.block_lt_of_cell? _ _ cw1_2_0
  have gw1 : Gr W w1 := by subst hhw1; go_grown
  clear hhw1
  refine wp_region_spread (by kernel_rfl) (by kernel_rfl) ?_
  repeat (first | go_big_quiet_skip | (go_big_quiet_want; go_big_quiet_op; (first | go_big_quiet_on | (apply Exists.intro; refine ⟨fun _ => ?_, ?_⟩; (· (first | (go_at_call 21; first | ((with_reducible refine ((H1.out _)).mono ?_); rintro e w' ⟨rfl, hg⟩; exact ⟨rfl, spread_gr hg⟩)) | (go_at_call 12; first | ((with_reducible refine ((H2.out _)).mono ?_); rintro e w' ⟨rfl, hg⟩; exact ⟨rfl, spread_gr hg⟩)) | (go_at_call 22; first | ((with_reducible refine ((H3.out _)).mono ?_); rintro e w' ⟨rfl, hg⟩; exact ⟨rfl, spread_gr hg⟩)) | (go_at_call 23; first | ((with_reducible refine ((H4.out _)).mono ?_); rintro e w' ⟨rfl, hg⟩; exact ⟨rfl, spread_gr hg⟩)) | (go_at_call 24; first | ((with_reducible refine ((H5.out _)).mono ?_); rintro e w' ⟨rfl, hg⟩; exact ⟨rfl, spread_gr hg⟩)) | (go_at_call 25; first | ((with_reducible refine ((H6.out _)).mono ?_); rintro e w' ⟨rfl, hg⟩; exact ⟨rfl, spread_gr hg⟩)) | (go_at_call 26; first | ((with_reducible refine ((H7.out _)).mono ?_); rintro e w' ⟨rfl, hg⟩; exact ⟨rfl, spread_gr hg⟩)) | (go_at_call 27; first | ((with_reducible refine ((H8.out _)).mono ?_); rintro e w' ⟨rfl, hg⟩; exact ⟨rfl, spread_gr hg⟩)) | (go_at_call 28; first | ((with_reducible refine ((H9.out _)).mono ?_); rintro e w' ⟨rfl, hg⟩; exact ⟨rfl, spread_gr hg⟩)) | (go_at_call 30; first | ((with_reducible refine ((H10.out _)).mono ?_); rintro e w' ⟨rfl, hg⟩; exact ⟨rfl, spread_gr hg⟩)) | (go_at_call 31; first | ((with_reducible refine ((H11.out _)).mono ?_); rintro e w' ⟨rfl, hg⟩; exact ⟨rfl, spread_gr hg⟩)) | (go_at_call 32; first | ((with_reducible refine ((H12.out _)).mono ?_); rintro e w' ⟨rfl, hg⟩; exact ⟨rfl, spread_gr hg⟩)) | (go_at_call 33; first | ((with_reducible refine ((H13.out _)).mono ?_); rintro e w' ⟨rfl, hg⟩; exact ⟨rfl, spread_gr hg⟩)) | (go_at_call 34; first | ((with_reducible refine ((H14.out _)).mono ?_); rintro e w' ⟨rfl, hg⟩; exact ⟨rfl, spread_gr hg⟩)) | (go_at_call 35; first | ((with_reducible refine ((H15.out _)).mono ?_); rintro e w' ⟨rfl, hg⟩; exact ⟨rfl, spread_gr hg⟩)) | (go_at_call 29; first | ((with_reducible refine ((c_u3 _ _ _)).mono ?_); rintro e w' ⟨rfl, hg⟩; exact ⟨rfl, spread_gr hg⟩)) | (go_at_call 20; first | ((with_reducible refine ((p_awake _)).mono ?_); rintro e w' ⟨rfl, hg⟩; exact ⟨rfl, spread_gr hg⟩)))); go_big_quiet_on))))
  refine wpQuiet_nil ?_
  intro wr hr
  obtain ⟨mr, rfl⟩ := hr
  go_wp2_with fail
  go_ret
  exact ⟨rfl, Gr.trans (by have gg := gw1; have gs := gg.size; go_grown) (gr_spread _ _)⟩

theorem walk_PlaneBoxes (lx ly hx hy mx my nx ny px py : Int) (h1 : ((-9223372036854775808 ≤ lx ∧ lx ≤ 9223372036854775807) ∧ (-9223372036854775808 ≤ ly ∧ ly ≤ 9223372036854775807) ∧ (-9223372036854775808 ≤ hx ∧ hx ≤ 9223372036854775807) ∧ (-9223372036854775808 ≤ hy ∧ hy ≤ 9223372036854775807))) (h2 : ((-9223372036854775808 ≤ mx ∧ mx ≤ 9223372036854775807) ∧ (-9223372036854775808 ≤ my ∧ my ≤ 9223372036854775807) ∧ (-9223372036854775808 ≤ nx ∧ nx ≤ 9223372036854775807) ∧ (-9223372036854775808 ≤ ny ∧ ny ≤ 9223372036854775807))) (h3 : ((-9223372036854775808 ≤ px ∧ px ≤ 9223372036854775807) ∧ (-9223372036854775808 ≤ py ∧ py ≤ 9223372036854775807))) (W : World) :
    Calls Try.prog 4 #[.agg #[.int .i64 lx, .int .i64 ly, .int .i64 hx, .int .i64 hy], .agg #[.int .i64 mx, .int .i64 my, .int .i64 nx, .int .i64 ny], .agg #[.int .i64 px, .int .i64 py]] W fun e w' => e = .returned (.bool true) ∧ Gr W w' := by
  clear h1 h2 h3
  have A6 := c_Meets lx ly hx hy mx my nx ny
  have A7 := c_rBoxMeets lx ly hx hy mx my nx ny
  have e7 : (boxB lx ly hx hy && boxB mx my nx ny && decide (lx ≤ nx) && decide (mx ≤ hx) && decide (ly ≤ ny) && decide (my ≤ hy)) = (boxB lx ly hx hy && boxB mx my nx ny && meetB lx ly hx hy mx my nx ny) := by
    unfold meetB
    simp only [Bool.and_assoc]
  rw [e7] at A6
  have S : ∃ s : Int, (∀ w, Calls Try.prog 30 #[.agg #[.int .i64 lx, .int .i64 ly, .int .i64 hx, .int .i64 hy]] w fun e w' => e = .returned (.agg #[.int .u64 0, .int .u64 s]) ∧ Gr w w') ∧ (∀ w, Calls Try.prog 31 #[.agg #[.int .i64 lx, .int .i64 ly, .int .i64 hx, .int .i64 hy]] w fun e w' => e = .returned (.agg #[.int .u64 0, .int .u64 s]) ∧ Gr w w') := by
    cases hb : boxB lx ly hx hy
    · exact ⟨0, c_Area_no lx ly hx hy hb, c_rArea_no lx ly hx hy hb⟩
    · obtain ⟨s, hs, -⟩ := area_nat hb
      exact ⟨s, c_Area lx ly hx hy hb s hs, c_rArea lx ly hx hy hb s hs⟩
  have G : ∃ g : Int, (∀ w, Calls Try.prog 32 #[.agg #[.int .i64 lx, .int .i64 ly, .int .i64 hx, .int .i64 hy], .agg #[.int .i64 mx, .int .i64 my, .int .i64 nx, .int .i64 ny]] w fun e w' => e = .returned (.agg #[.int .u64 0, .int .u64 g]) ∧ Gr w w') ∧ (∀ w, Calls Try.prog 33 #[.agg #[.int .i64 lx, .int .i64 ly, .int .i64 hx, .int .i64 hy], .agg #[.int .i64 mx, .int .i64 my, .int .i64 nx, .int .i64 ny]] w fun e w' => e = .returned (.agg #[.int .u64 0, .int .u64 g]) ∧ Gr w w') := by
    cases hb : (boxB lx ly hx hy && boxB mx my nx ny)
    · obtain ⟨z, hz, U1, U2⟩ := two_no lx ly hx hy mx my nx ny hb
      exact ⟨0, fun w => growno_core lx ly hx hy mx my nx ny z hz w U1, fun w => rgrowno_core lx ly hx hy mx my nx ny z (by rcases hz with rfl | rfl <;> decide) (by rcases hz with rfl | rfl <;> decide) w U2⟩
    · rw [Bool.and_eq_true] at hb
      obtain ⟨s, hs, hsb⟩ := area_nat (box_join hb.1 hb.2)
      obtain ⟨t, ht, -⟩ := area_nat hb.1
      have q1 := boxB_iff.1 hb.1
      have s1 := span1 lx mx hx nx q1.2.1
      have s2 := span1 ly my hy ny q1.2.2
      have hst : t ≤ s := by
        have := area_mono s1.1 s1.2.1 s2.1 s2.2.1
        omega
      exact ⟨((s - t : Nat) : Int), grow_of lx ly hx hy mx my nx ny hb.1 hb.2 s t hs ht hst hsb, rgrow_of lx ly hx hy mx my nx ny hb.1 hb.2 s t hs ht hst hsb⟩
  have D : ∃ d1 d2 : Int, (∀ w, Calls Try.prog 34 #[.agg #[.int .i64 lx, .int .i64 ly, .int .i64 hx, .int .i64 hy], .agg #[.int .i64 px, .int .i64 py]] w fun e w' => e = .returned (.agg #[.int .u64 0, .int .u64 d1, .int .u64 d2]) ∧ Gr w w') ∧ (∀ w, Calls Try.prog 35 #[.agg #[.int .i64 lx, .int .i64 ly, .int .i64 hx, .int .i64 hy], .agg #[.int .i64 px, .int .i64 py]] w fun e w' => e = .returned (.agg #[.int .u64 0, .int .u64 d1, .int .u64 d2]) ∧ Gr w w') := by
    cases hb : (boxB lx ly hx hy && nearB px py)
    · exact ⟨0, 0, fun w => c_Dist_no lx ly hx hy px py w hb, fun w => c_rBoxDist_no lx ly hx hy px py w hb⟩
    · rw [Bool.and_eq_true] at hb
      have nn : 0 ≤ distZ lx ly hx hy px py := by
        unfold distZ
        rw [← nat_sq, ← nat_sq]
        omega
      obtain ⟨s, hs⟩ : ∃ s : Nat, (s : Int) = distZ lx ly hx hy px py := ⟨_, Int.toNat_of_nonneg nn⟩
      exact ⟨s, 1, fun w => by rw [hs]; exact c_Dist lx ly hx hy px py w hb, fun w => c_rBoxDist lx ly hx hy px py hb s hs w⟩
  obtain ⟨s, A10, A11⟩ := S
  obtain ⟨g, A12, A13⟩ := G
  obtain ⟨d1, d2, A14, A15⟩ := D
  have C : ∃ (z : Int) (ev : Value), (∀ w, Calls Try.prog 21 #[.agg #[.int .i64 lx, .int .i64 ly, .int .i64 hx, .int .i64 hy]] w fun e w' => e = .returned (ev) ∧ Gr w w') ∧ (∀ w, Calls Try.prog 12 #[ev] w fun e w' => e = .returned (.int .i64 z) ∧ Gr w w') ∧ (∀ w, Calls Try.prog 22 #[.agg #[.int .i64 lx, .int .i64 ly, .int .i64 hx, .int .i64 hy]] w fun e w' => e = .returned (.int .i64 z) ∧ Gr w w') := by
    have K1 := c_CheckBox lx ly hx hy
    have K3 := c_rCheckBox lx ly hx hy
    cases hb : boxB lx ly hx hy
    · obtain ⟨z, hz, e1, e2⟩ := boxErr_code hb
      rw [e1] at K1
      rw [e2] at K3
      exact ⟨z, _, K1, c_Code_errno z hz, K3⟩
    · rw [boxErr_true hb] at K1
      have z1 : boxCode lx ly hx hy = 0 := by simpa using (boxCode_zero (lx := lx) (ly := ly) (hx := hx) (hy := hy)).trans hb
      rw [z1] at K3
      exact ⟨0, _, K1, c_Code_nil, K3⟩
  obtain ⟨z, ev, A1, A2, A3⟩ := C
  exact boxes_core lx ly hx hy mx my nx ny px py z s g d1 d2 _ _ _ ev W A1 A2 A3 (c_Has lx ly hx hy px py) (c_rBoxHas lx ly hx hy px py) A6 A7 (c_Inside lx ly hx hy mx my nx ny) (c_rBoxInside lx ly hx hy mx my nx ny) A10 A11 A12 A13 A14 A15
end Go.Proofs.Ytffobfjjbcdbdaa
