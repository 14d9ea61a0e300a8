/- What RelNested leans on: In -/
import Derived.Test.YtfobmlgpjhghdaaDoorCRelNested3
namespace Go.Proofs.YtfobmlgpjhghdaaDoor
set_option linter.unusedVariables false
set_option linter.unusedSimpArgs false
open Go.ChangeShapes Go.WideShapes Go.ChangeAt Go.RowKit
set_option maxHeartbeats 2000000 in
set_option maxRecDepth 100000 in
theorem c_nest1 {n cap D : Nat} {ad : Option Addr} (k lx ly hx hy : Int) (z : Bool) (W : World) (h0 : W.cell? ⟨D, 0, none⟩ = some (.int .i64 k)) (h1 : W.cell? ⟨D, 1, none⟩ = some (.slice ad n cap))
    (A1 : ∀ w, Gr W w → Calls Tryd.prog 10 #[.agg #[.int .i64 k, .slice ad n cap], qryV 1 lx ly hx hy (.slice none 0 0)] w fun e w' => e = .returned (.bool z) ∧ Gr w w') :
    Calls Tryd.prog 9 #[.agg #[.int .i64 lx, .int .i64 ly, .int .i64 hx, .int .i64 hy], .pointer (some ⟨D, 0, none⟩)] W fun e w' => e = .returned (.bool z) ∧ Gr W w' := by
  have zD : D < W.heap.size := World.block_lt_of_cell? _ _ h0
  have nD : ¬ D = W.heap.size := by omega
  have H1 := Lib.hid A1
  clear A1
  go_enter Tryd.func9, Tryd.ntmps9
  go_wp2_with fail
  go_at_call 10
  refine ((H1.out _ (by go_grown))).mono ?_
  rintro e w1 ⟨rfl, hw1⟩
  have gw1 : Gr W w1 := Gr.trans (by go_grown) hw1
  clear hw1
  go_wp2_with fail
  go_ret
  exact ⟨rfl, gw1⟩
set_option maxHeartbeats 2000000 in
set_option maxRecDepth 100000 in
theorem c_nest2 {n cap D : Nat} {ad : Option Addr} (k lx ly hx hy : Int) (z : Bool) (W : World) (h0 : W.cell? ⟨D, 0, none⟩ = some (.int .i64 k)) (h1 : W.cell? ⟨D, 1, none⟩ = some (.slice ad n cap))
    (A1 : ∀ w, Gr W w → Calls Tryd.prog 10 #[.agg #[.int .i64 k, .slice ad n cap], qryV 2 lx ly hx hy (.slice none 0 0)] w fun e w' => e = .returned (.bool z) ∧ Gr w w') :
    Calls Tryd.prog 11 #[.agg #[.int .i64 lx, .int .i64 ly, .int .i64 hx, .int .i64 hy], .pointer (some ⟨D, 0, none⟩)] W fun e w' => e = .returned (.bool z) ∧ Gr W w' := by
  have zD : D < W.heap.size := World.block_lt_of_cell? _ _ h0
  have nD : ¬ D = W.heap.size := by omega
  have H1 := Lib.hid A1
  clear A1
  go_enter Tryd.func11, Tryd.ntmps11
  go_wp2_with fail
  go_at_call 10
  refine ((H1.out _ (by go_grown))).mono ?_
  rintro e w1 ⟨rfl, hw1⟩
  have gw1 : Gr W w1 := Gr.trans (by go_grown) hw1
  clear hw1
  go_wp2_with fail
  go_ret
  exact ⟨rfl, gw1⟩
def mn2 (a b : Int) : Int := if b < a then b else a
def mx2 (a b : Int) : Int := if a < b then b else a
theorem c_rUnion2 {D cap : Nat} {lx ly hx hy mx my nx ny : Int} (W : World) (h1 : boxB lx ly hx hy = true) (h2 : boxB mx my nx ny = true)
    (c0 : W.cell? ⟨D, 0, none⟩ = some (.int .i64 lx)) (c1 : W.cell? ⟨D, 1, none⟩ = some (.int .i64 ly)) (c2 : W.cell? ⟨D, 2, none⟩ = some (.int .i64 hx)) (c3 : W.cell? ⟨D, 3, none⟩ = some (.int .i64 hy))
    (c4 : W.cell? ⟨D, 4, none⟩ = some (.int .i64 mx)) (c5 : W.cell? ⟨D, 5, none⟩ = some (.int .i64 my)) (c6 : W.cell? ⟨D, 6, none⟩ = some (.int .i64 nx)) (c7 : W.cell? ⟨D, 7, none⟩ = some (.int .i64 ny)) :
    Calls Tryd.prog 8 #[.slice (some ⟨D, 0, none⟩) 2 cap] W fun e w' => e = .returned (.tuple #[.agg #[.int .i64 (mn2 lx mx), .int .i64 (mn2 ly my), .int .i64 (mx2 hx nx), .int .i64 (mx2 hy ny)], .int .i64 0]) ∧ Gr W w' := by
  have T : ∀ a b : Int, accMin (fun k => if k = 0 then a else b) 2 = mn2 a b ∧ accMax (fun k => if k = 0 then a else b) 2 = mx2 a b := fun a b => by
    unfold mn2 mx2
    simp only [accMin, accMax, minZ, maxZ]
    constructor
    · simp
    · simp
  refine c_rUnionN 2 cap (fun k => if k = 0 then lx else mx) (fun k => if k = 0 then ly else my) (fun k => if k = 0 then hx else nx) (fun k => if k = 0 then hy else ny) D 0 W (by omega) (by omega) _ (fun k hk => ?_) (fun j hj _ hb => ?_) (fun _ => ?_)
  · match k, hk with
    | 0, _ => exact ⟨c0, c1, c2, c3⟩
    | 1, _ => exact ⟨c4, c5, c6, c7⟩
  · match j, hj with
    | 0, _ => exact absurd (h1.symm.trans hb) (by decide)
    | 1, _ => exact absurd (h2.symm.trans hb) (by decide)
  · rw [(T lx mx).1, (T ly my).1, (T hx nx).2, (T hy ny).2]
set_option maxHeartbeats 16000000 in
set_option maxRecDepth 100000 in
theorem nested_core {n cap : Nat} {ad : Option Addr} (k lx ly hx hy mx my nx ny ux uy vx vy p1 p2 p3 p4 : Int) (zA zU iA iU iB bm bi : Bool) (W : World)
    (f1 : zA = true → zU = true) (f2 : iA = true → iU = true) (f3 : iA = true → iB = true → bm = true) (f4 : iA = true → bi = true)
    (A1 : ∀ w, Gr W w → Calls Tryd.prog 5 #[.agg #[.int .i64 k, .slice ad n cap]] w fun e w' => e = .returned (.bool true) ∧ Gr w w')
    (A2 : ∀ w, Calls Tryd.prog 6 #[.agg #[.int .i64 lx, .int .i64 ly, .int .i64 hx, .int .i64 hy]] w fun e w' => e = .returned (.int .i64 0) ∧ Gr w w')
    (A3 : ∀ w, Calls Tryd.prog 6 #[.agg #[.int .i64 mx, .int .i64 my, .int .i64 nx, .int .i64 ny]] w fun e w' => e = .returned (.int .i64 0) ∧ Gr w w')
    (A4 : ∀ (w : World) (D : Nat), w.cell? ⟨D, 0, none⟩ = some (.int .i64 lx) → w.cell? ⟨D, 1, none⟩ = some (.int .i64 ly) → w.cell? ⟨D, 2, none⟩ = some (.int .i64 hx) → w.cell? ⟨D, 3, none⟩ = some (.int .i64 hy) → w.cell? ⟨D, 4, none⟩ = some (.int .i64 mx) → w.cell? ⟨D, 5, none⟩ = some (.int .i64 my) → w.cell? ⟨D, 6, none⟩ = some (.int .i64 nx) → w.cell? ⟨D, 7, none⟩ = some (.int .i64 ny) → Calls Tryd.prog 8 #[.slice (some ⟨D, 0, none⟩) 2 2] w fun e w' => e = .returned (.tuple #[.agg #[.int .i64 ux, .int .i64 uy, .int .i64 vx, .int .i64 vy], .int .i64 0]) ∧ Gr w w')
    (M1 : (∀ w, Gr W w → Calls Tryd.prog 10 #[.agg #[.int .i64 k, .slice ad n cap], qryV 1 lx ly hx hy (.slice none 0 0)] w fun e w' => e = .returned (.bool zA) ∧ Gr w w'))
    (M2 : (∀ w, Gr W w → Calls Tryd.prog 10 #[.agg #[.int .i64 k, .slice ad n cap], qryV 1 ux uy vx vy (.slice none 0 0)] w fun e w' => e = .returned (.bool zU) ∧ Gr w w'))
    (M3 : (∀ w, Gr W w → Calls Tryd.prog 10 #[.agg #[.int .i64 k, .slice ad n cap], qryV 2 lx ly hx hy (.slice none 0 0)] w fun e w' => e = .returned (.bool iA) ∧ Gr w w'))
    (M4 : (∀ w, Gr W w → Calls Tryd.prog 10 #[.agg #[.int .i64 k, .slice ad n cap], qryV 2 ux uy vx vy (.slice none 0 0)] w fun e w' => e = .returned (.bool iU) ∧ Gr w w'))
    (M5 : (∀ w, Gr W w → Calls Tryd.prog 10 #[.agg #[.int .i64 k, .slice ad n cap], qryV 2 mx my nx ny (.slice none 0 0)] w fun e w' => e = .returned (.bool iB) ∧ Gr w w'))
    (M6 : (∀ w, Gr W w → Calls Tryd.prog 10 #[.agg #[.int .i64 k, .slice ad n cap], qryV 2 p1 p2 p3 p4 (.slice none 0 0)] w fun e w' => e = .returned (.bool true) ∧ Gr w w'))
    (M7 : (∀ w, Gr W w → Calls Tryd.prog 10 #[.agg #[.int .i64 k, .slice ad n cap], qryV 1 p1 p2 p3 p4 (.slice none 0 0)] w fun e w' => e = .returned (.bool true) ∧ Gr w w'))
    (A5 : ∀ w, Calls Tryd.prog 12 #[.agg #[.int .i64 lx, .int .i64 ly, .int .i64 hx, .int .i64 hy], .agg #[.int .i64 mx, .int .i64 my, .int .i64 nx, .int .i64 ny]] w fun e w' => e = .returned (.bool bm) ∧ Gr w w')
    (A6 : ∀ w, Gr W w → Calls Tryd.prog 13 #[.agg #[.int .i64 k, .slice ad n cap]] w fun e w' => e = .returned (.tuple #[.agg #[.int .i64 p1, .int .i64 p2, .int .i64 p3, .int .i64 p4], .nilIface]) ∧ Gr w w')
    (A7 : ∀ w, Calls Tryd.prog 14 #[.agg #[.int .i64 p1, .int .i64 p2, .int .i64 p3, .int .i64 p4], .agg #[.int .i64 lx, .int .i64 ly, .int .i64 hx, .int .i64 hy]] w fun e w' => e = .returned (.bool bi) ∧ Gr w w')
    (A8 : ∀ w, Gr W w → Calls Tryd.prog 7 #[] w fun e w' => e = .returned (.bool true) ∧ Gr w w') :
    Calls Tryd.prog 3 #[.agg #[.int .i64 k, .slice ad n cap], .agg #[.int .i64 lx, .int .i64 ly, .int .i64 hx, .int .i64 hy], .agg #[.int .i64 mx, .int .i64 my, .int .i64 nx, .int .i64 ny]] W fun e w' => e = .returned (.bool true) ∧ Gr W w' := by
  have N1 := fun w (g : Gr W w) h0 h1 => c_nest1 (D := W.heap.size) k lx ly hx hy zA w h0 h1 (fun w' g' => M1 w' (Gr.trans g g'))
  have N2 := fun w (g : Gr W w) h0 h1 => c_nest1 (D := W.heap.size) k ux uy vx vy zU w h0 h1 (fun w' g' => M2 w' (Gr.trans g g'))
  have N3 := fun w (g : Gr W w) h0 h1 => c_nest2 (D := W.heap.size) k lx ly hx hy iA w h0 h1 (fun w' g' => M3 w' (Gr.trans g g'))
  have N4 := fun w (g : Gr W w) h0 h1 => c_nest2 (D := W.heap.size) k ux uy vx vy iU w h0 h1 (fun w' g' => M4 w' (Gr.trans g g'))
  have N5 := fun w (g : Gr W w) h0 h1 => c_nest2 (D := W.heap.size) k mx my nx ny iB w h0 h1 (fun w' g' => M5 w' (Gr.trans g g'))
  have N6 := fun w (g : Gr W w) h0 h1 => c_nest2 (D := W.heap.size) k p1 p2 p3 p4 true w h0 h1 (fun w' g' => M6 w' (Gr.trans g g'))
  have N7 := fun w (g : Gr W w) h0 h1 => c_nest1 (D := W.heap.size) k p1 p2 p3 p4 true w h0 h1 (fun w' g' => M7 w' (Gr.trans g g'))
  have H1 := Lib.hid A1
  have H2 := Lib.hid A2
  have H3 := Lib.hid A3
  have H4 := Lib.hid A4
  have H5 := Lib.hid A5
  have H6 := Lib.hid A6
  have H7 := Lib.hid A7
  have H8 := Lib.hid A8
  clear A1 A2 A3 A4 A5 A6 A7 A8
  have HN1 := Lib.hid N1
  have HN2 := Lib.hid N2
  have HN3 := Lib.hid N3
  have HN4 := Lib.hid N4
  have HN5 := Lib.hid N5
  have HN6 := Lib.hid N6
  have HN7 := Lib.hid N7
  clear N1 N2 N3 N4 N5 N6 N7 M1 M2 M3 M4 M5 M6 M7
  cases zA
  · cases iA
    · clear f1 f2 f3 f4
      go_enter Tryd.func3, Tryd.ntmps3
      go_wp2_with fail
      go_at_call 5
      refine ((H1.out _ (by go_grown))).mono ?_
      rintro e w1 ⟨rfl, hw1⟩
      have cw1_0_0 : w1.cell? ⟨W.heap.size, 0, none⟩ = some (.int .i64 k) := cell_gr hw1 (by go_simp)
      have cw1_0_1 : w1.cell? ⟨W.heap.size, 1, none⟩ = some (.slice ad n cap) := cell_gr hw1 (by go_simp)
      have zw1_0 : W.heap.size < w1.heap.size := World.block_lt_of_cell? _ _ cw1_0_0
      have cw1_1_0 : w1.cell? ⟨W.heap.size + 1, 0, none⟩ = some (.int .i64 lx) := cell_gr hw1 (by go_simp)
      have cw1_1_1 : w1.cell? ⟨W.heap.size + 1, 1, none⟩ = some (.int .i64 ly) := cell_gr hw1 (by go_simp)
      have cw1_1_2 : w1.cell? ⟨W.heap.size + 1, 2, none⟩ = some (.int .i64 hx) := cell_gr hw1 (by go_simp)
      have cw1_1_3 : w1.cell? ⟨W.heap.size + 1, 3, none⟩ = some (.int .i64 hy) := cell_gr hw1 (by go_simp)
      have zw1_1 : W.heap.size + 1 < w1.heap.size := World.block_lt_of_cell? _ _ cw1_1_0
      have cw1_2_0 : w1.cell? ⟨W.heap.size + 1 + 1, 0, none⟩ = some (.int .i64 mx) := cell_gr hw1 (by go_simp)
      have cw1_2_1 : w1.cell? ⟨W.heap.size + 1 + 1, 1, none⟩ = some (.int .i64 my) := cell_gr hw1 (by go_simp)
      have cw1_2_2 : w1.cell? ⟨W.heap.size + 1 + 1, 2, none⟩ = some (.int .i64 nx) := cell_gr hw1 (by go_simp)
      have cw1_2_3 : w1.cell? ⟨W.heap.size + 1 + 1, 3, none⟩ = some (.int .i64 ny) := cell_gr hw1 (by go_simp)
      have zw1_2 : W.heap.size + 1 + 1 < w1.heap.size := World.block_lt_of_cell? _ _ cw1_2_0
      have gw1 : Gr W w1 := Gr.trans (by go_grown) hw1
      clear hw1
      go_wp2_with fail
      go_at_call 6
      refine ((H2.out _)).mono ?_
      rintro e w2 ⟨rfl, hw2⟩
      have cw2_0_0 : w2.cell? ⟨W.heap.size, 0, none⟩ = some (.int .i64 k) := cell_gr hw2 (by go_simp)
      have cw2_0_1 : w2.cell? ⟨W.heap.size, 1, none⟩ = some (.slice ad n cap) := cell_gr hw2 (by go_simp)
      have zw2_0 : W.heap.size < w2.heap.size := World.block_lt_of_cell? _ _ cw2_0_0
      have cw2_1_0 : w2.cell? ⟨W.heap.size + 1, 0, none⟩ = some (.int .i64 lx) := cell_gr hw2 (by go_simp)
      have cw2_1_1 : w2.cell? ⟨W.heap.size + 1, 1, none⟩ = some (.int .i64 ly) := cell_gr hw2 (by go_simp)
      have cw2_1_2 : w2.cell? ⟨W.heap.size + 1, 2, none⟩ = some (.int .i64 hx) := cell_gr hw2 (by go_simp)
      have cw2_1_3 : w2.cell? ⟨W.heap.size + 1, 3, none⟩ = some (.int .i64 hy) := cell_gr hw2 (by go_simp)
      have zw2_1 : W.heap.size + 1 < w2.heap.size := World.block_lt_of_cell? _ _ cw2_1_0
      have cw2_2_0 : w2.cell? ⟨W.heap.size + 1 + 1, 0, none⟩ = some (.int .i64 mx) := cell_gr hw2 (by go_simp)
      have cw2_2_1 : w2.cell? ⟨W.heap.size + 1 + 1, 1, none⟩ = some (.int .i64 my) := cell_gr hw2 (by go_simp)
      have cw2_2_2 : w2.cell? ⟨W.heap.size + 1 + 1, 2, none⟩ = some (.int .i64 nx) := cell_gr hw2 (by go_simp)
      have cw2_2_3 : w2.cell? ⟨W.heap.size + 1 + 1, 3, none⟩ = some (.int .i64 ny) := cell_gr hw2 (by go_simp)
      have zw2_2 : W.heap.size + 1 + 1 < w2.heap.size := World.block_lt_of_cell? _ _ cw2_2_0
      have gw2 : Gr W w2 := Gr.trans (by have gg := gw1; have gs := gg.size; go_grown) hw2
      clear hw2 gw1 zw1_0 cw1_0_0 cw1_0_1 zw1_1 cw1_1_0 cw1_1_1 cw1_1_2 cw1_1_3 zw1_2 cw1_2_0 cw1_2_1 cw1_2_2 cw1_2_3
      go_wp2_with fail
      go_at_call 6
      refine ((H3.out _)).mono ?_
      rintro e w3 ⟨rfl, hw3⟩
      have cw3_0_0 : w3.cell? ⟨W.heap.size, 0, none⟩ = some (.int .i64 k) := cell_gr hw3 (by go_simp)
      have cw3_0_1 : w3.cell? ⟨W.heap.size, 1, none⟩ = some (.slice ad n cap) := cell_gr hw3 (by go_simp)
      have zw3_0 : W.heap.size < w3.heap.size := World.block_lt_of_cell? _ _ cw3_0_0
      have cw3_1_0 : w3.cell? ⟨W.heap.size + 1, 0, none⟩ = some (.int .i64 lx) := cell_gr hw3 (by go_simp)
      have cw3_1_1 : w3.cell? ⟨W.heap.size + 1, 1, none⟩ = some (.int .i64 ly) := cell_gr hw3 (by go_simp)
      have cw3_1_2 : w3.cell? ⟨W.heap.size + 1, 2, none⟩ = some (.int .i64 hx) := cell_gr hw3 (by go_simp)
      have cw3_1_3 : w3.cell? ⟨W.heap.size + 1, 3, none⟩ = some (.int .i64 hy) := cell_gr hw3 (by go_simp)
      have zw3_1 : W.heap.size + 1 < w3.heap.size := World.block_lt_of_cell? _ _ cw3_1_0
      have cw3_2_0 : w3.cell? ⟨W.heap.size + 1 + 1, 0, none⟩ = some (.int .i64 mx) := cell_gr hw3 (by go_simp)
      have cw3_2_1 : w3.cell? ⟨W.heap.size + 1 + 1, 1, none⟩ = some (.int .i64 my) := cell_gr hw3 (by go_simp)
      have cw3_2_2 : w3.cell? ⟨W.heap.size + 1 + 1, 2, none⟩ = some (.int .i64 nx) := cell_gr hw3 (by go_simp)
      have cw3_2_3 : w3.cell? ⟨W.heap.size + 1 + 1, 3, none⟩ = some (.int .i64 ny) := cell_gr hw3 (by go_simp)
      have zw3_2 : W.heap.size + 1 + 1 < w3.heap.size := World.block_lt_of_cell? _ _ cw3_2_0
      have gw3 : Gr W w3 := Gr.trans (by have gg := gw2; have gs := gg.size; go_grown) hw3
      clear hw3 gw2 zw2_0 cw2_0_0 cw2_0_1 zw2_1 cw2_1_0 cw2_1_1 cw2_1_2 cw2_1_3 zw2_2 cw2_2_0 cw2_2_1 cw2_2_2 cw2_2_3
      go_wp2_with fail
      generalize hhw4 : (w3.alloc (.cells #[.int .i64 lx, .int .i64 ly, .int .i64 hx, .int .i64 hy, .int .i64 mx, .int .i64 my, .int .i64 nx, .int .i64 ny] 28)) = w4
      have cw4_0_0 : w4.cell? ⟨W.heap.size, 0, none⟩ = some (.int .i64 k) := by subst hhw4; go_simp
      have cw4_0_1 : w4.cell? ⟨W.heap.size, 1, none⟩ = some (.slice ad n cap) := by subst hhw4; go_simp
      have zw4_0 : W.heap.size < w4.heap.size := World.block_lt_of_cell? _ _ cw4_0_0
      have cw4_1_0 : w4.cell? ⟨W.heap.size + 1, 0, none⟩ = some (.int .i64 lx) := by subst hhw4; go_simp
      have cw4_1_1 : w4.cell? ⟨W.heap.size + 1, 1, none⟩ = some (.int .i64 ly) := by subst hhw4; go_simp
      have cw4_1_2 : w4.cell? ⟨W.heap.size + 1, 2, none⟩ = some (.int .i64 hx) := by subst hhw4; go_simp
      have cw4_1_3 : w4.cell? ⟨W.heap.size + 1, 3, none⟩ = some (.int .i64 hy) := by subst hhw4; go_simp
      have zw4_1 : W.heap.size + 1 < w4.heap.size := World.block_lt_of_cell? _ _ cw4_1_0
      have cw4_2_0 : w4.cell? ⟨W.heap.size + 1 + 1, 0, none⟩ = some (.int .i64 mx) := by subst hhw4; go_simp
      have cw4_2_1 : w4.cell? ⟨W.heap.size + 1 + 1, 1, none⟩ = some (.int .i64 my) := by subst hhw4; go_simp
      have cw4_2_2 : w4.cell? ⟨W.heap.size + 1 + 1, 2, none⟩ = some (.int .i64 nx) := by subst hhw4; go_simp
      have cw4_2_3 : w4.cell? ⟨W.heap.size + 1 + 1, 3, none⟩ = some (.int .i64 ny) := by subst hhw4; go_simp
      have zw4_2 : W.heap.size + 1 + 1 < w4.heap.size := World.block_lt_of_cell? _ _ cw4_2_0
      have cw4_3_0 : w4.cell? ⟨w3.heap.size, 0, none⟩ = some (.int .i64 lx) := by subst hhw4; go_simp
      have cw4_3_1 : w4.cell? ⟨w3.heap.size, 1, none⟩ = some (.int .i64 ly) := by subst hhw4; go_simp
      have cw4_3_2 : w4.cell? ⟨w3.heap.size, 2, none⟩ = some (.int .i64 hx) := by subst hhw4; go_simp
      have cw4_3_3 : w4.cell? ⟨w3.heap.size, 3, none⟩ = some (.int .i64 hy) := by subst hhw4; go_simp
      have cw4_3_4 : w4.cell? ⟨w3.heap.size, 4, none⟩ = some (.int .i64 mx) := by subst hhw4; go_simp
      have cw4_3_5 : w4.cell? ⟨w3.heap.size, 5, none⟩ = some (.int .i64 my) := by subst hhw4; go_simp
      have cw4_3_6 : w4.cell? ⟨w3.heap.size, 6, none⟩ = some (.int .i64 nx) := by subst hhw4; go_simp
      have cw4_3_7 : w4.cell? ⟨w3.heap.size, 7, none⟩ = some (.int .i64 ny) := by subst hhw4; go_simp
      have zw4_3 : w3.heap.size < w4.heap.size := World.block_lt_of_cell? _ _ cw4_3_0
      have gw4 : Gr W w4 := by subst hhw4; have gg := gw3; have gs := gg.size; go_grown
      clear hhw4 gw3 zw3_0 cw3_0_0 cw3_0_1 zw3_1 cw3_1_0 cw3_1_1 cw3_1_2 cw3_1_3 zw3_2 cw3_2_0 cw3_2_1 cw3_2_2 cw3_2_3
      go_wp2_with fail
      go_at_call 8
      refine ((H4.out _ _ cw4_3_0 cw4_3_1 cw4_3_2 cw4_3_3 cw4_3_4 cw4_3_5 cw4_3_6 cw4_3_7)).mono ?_
      rintro e w5 ⟨rfl, hw5⟩
      have cw5_0_0 : w5.cell? ⟨W.heap.size, 0, none⟩ = some (.int .i64 k) := cell_gr hw5 (by go_simp)
      have cw5_0_1 : w5.cell? ⟨W.heap.size, 1, none⟩ = some (.slice ad n cap) := cell_gr hw5 (by go_simp)
      have zw5_0 : W.heap.size < w5.heap.size := World.block_lt_of_cell? _ _ cw5_0_0
      have cw5_1_0 : w5.cell? ⟨W.heap.size + 1, 0, none⟩ = some (.int .i64 lx) := cell_gr hw5 (by go_simp)
      have cw5_1_1 : w5.cell? ⟨W.heap.size + 1, 1, none⟩ = some (.int .i64 ly) := cell_gr hw5 (by go_simp)
      have cw5_1_2 : w5.cell? ⟨W.heap.size + 1, 2, none⟩ = some (.int .i64 hx) := cell_gr hw5 (by go_simp)
      have cw5_1_3 : w5.cell? ⟨W.heap.size + 1, 3, none⟩ = some (.int .i64 hy) := cell_gr hw5 (by go_simp)
      have zw5_1 : W.heap.size + 1 < w5.heap.size := World.block_lt_of_cell? _ _ cw5_1_0
      have cw5_2_0 : w5.cell? ⟨W.heap.size + 1 + 1, 0, none⟩ = some (.int .i64 mx) := cell_gr hw5 (by go_simp)
      have cw5_2_1 : w5.cell? ⟨W.heap.size + 1 + 1, 1, none⟩ = some (.int .i64 my) := cell_gr hw5 (by go_simp)
      have cw5_2_2 : w5.cell? ⟨W.heap.size + 1 + 1, 2, none⟩ = some (.int .i64 nx) := cell_gr hw5 (by go_simp)
      have cw5_2_3 : w5.cell? ⟨W.heap.size + 1 + 1, 3, none⟩ = some (.int .i64 ny) := cell_gr hw5 (by go_simp)
      have zw5_2 : W.heap.size + 1 + 1 < w5.heap.size := World.block_lt_of_cell? _ _ cw5_2_0
      have cw5_3_0 : w5.cell? ⟨w3.heap.size, 0, none⟩ = some (.int .i64 lx) := cell_gr hw5 (by go_simp)
      have cw5_3_1 : w5.cell? ⟨w3.heap.size, 1, none⟩ = some (.int .i64 ly) := cell_gr hw5 (by go_simp)
      have cw5_3_2 : w5.cell? ⟨w3.heap.size, 2, none⟩ = some (.int .i64 hx) := cell_gr hw5 (by go_simp)
      have cw5_3_3 : w5.cell? ⟨w3.heap.size, 3, none⟩ = some (.int .i64 hy) := cell_gr hw5 (by go_simp)
      have cw5_3_4 : w5.cell? ⟨w3.heap.size, 4, none⟩ = some (.int .i64 mx) := cell_gr hw5 (by go_simp)
      have cw5_3_5 : w5.cell? ⟨w3.heap.size, 5, none⟩ = some (.int .i64 my) := cell_gr hw5 (by go_simp)
      have cw5_3_6 : w5.cell? ⟨w3.heap.size, 6, none⟩ = some (.int .i64 nx) := cell_gr hw5 (by go_simp)
      have cw5_3_7 : w5.cell? ⟨w3.heap.size, 7, none⟩ = some (.int .i64 ny) := cell_gr hw5 (by go_simp)
      have zw5_3 : w3.heap.size < w5.heap.size := World.block_lt_of_cell? _ _ cw5_3_0
      have gw5 : Gr W w5 := Gr.trans (by have gg := gw4; have gs := gg.size; go_grown) hw5
      clear hw5 gw4 zw4_0 cw4_0_0 cw4_0_1 zw4_1 cw4_1_0 cw4_1_1 cw4_1_2 cw4_1_3 zw4_2 cw4_2_0 cw4_2_1 cw4_2_2 cw4_2_3 zw4_3 cw4_3_0 cw4_3_1 cw4_3_2 cw4_3_3 cw4_3_4 cw4_3_5 cw4_3_6 cw4_3_7
      go_wp2_with fail
      generalize hhw6 : (w5.alloc (.cells #[.int .i64 ux, .int .i64 uy, .int .i64 vx, .int .i64 vy] 28)) = w6
      have cw6_0_0 : w6.cell? ⟨W.heap.size, 0, none⟩ = some (.int .i64 k) := by subst hhw6; go_simp
      have cw6_0_1 : w6.cell? ⟨W.heap.size, 1, none⟩ = some (.slice ad n cap) := by subst hhw6; go_simp
      have zw6_0 : W.heap.size < w6.heap.size := World.block_lt_of_cell? _ _ cw6_0_0
      have cw6_1_0 : w6.cell? ⟨W.heap.size + 1, 0, none⟩ = some (.int .i64 lx) := by subst hhw6; go_simp
      have cw6_1_1 : w6.cell? ⟨W.heap.size + 1, 1, none⟩ = some (.int .i64 ly) := by subst hhw6; go_simp
      have cw6_1_2 : w6.cell? ⟨W.heap.size + 1, 2, none⟩ = some (.int .i64 hx) := by subst hhw6; go_simp
      have cw6_1_3 : w6.cell? ⟨W.heap.size + 1, 3, none⟩ = some (.int .i64 hy) := by subst hhw6; go_simp
      have zw6_1 : W.heap.size + 1 < w6.heap.size := World.block_lt_of_cell? _ _ cw6_1_0
      have cw6_2_0 : w6.cell? ⟨W.heap.size + 1 + 1, 0, none⟩ = some (.int .i64 mx) := by subst hhw6; go_simp
      have cw6_2_1 : w6.cell? ⟨W.heap.size + 1 + 1, 1, none⟩ = some (.int .i64 my) := by subst hhw6; go_simp
      have cw6_2_2 : w6.cell? ⟨W.heap.size + 1 + 1, 2, none⟩ = some (.int .i64 nx) := by subst hhw6; go_simp
      have cw6_2_3 : w6.cell? ⟨W.heap.size + 1 + 1, 3, none⟩ = some (.int .i64 ny) := by subst hhw6; go_simp
      have zw6_2 : W.heap.size + 1 + 1 < w6.heap.size := World.block_lt_of_cell? _ _ cw6_2_0
      have cw6_3_0 : w6.cell? ⟨w5.heap.size, 0, none⟩ = some (.int .i64 ux) := by subst hhw6; go_simp
      have cw6_3_1 : w6.cell? ⟨w5.heap.size, 1, none⟩ = some (.int .i64 uy) := by subst hhw6; go_simp
      have cw6_3_2 : w6.cell? ⟨w5.heap.size, 2, none⟩ = some (.int .i64 vx) := by subst hhw6; go_simp
      have cw6_3_3 : w6.cell? ⟨w5.heap.size, 3, none⟩ = some (.int .i64 vy) := by subst hhw6; go_simp
      have zw6_3 : w5.heap.size < w6.heap.size := World.block_lt_of_cell? _ _ cw6_3_0
      have gw6 : Gr W w6 := by subst hhw6; have gg := gw5; have gs := gg.size; go_grown
      clear hhw6 gw5 zw5_0 cw5_0_0 cw5_0_1 zw5_1 cw5_1_0 cw5_1_1 cw5_1_2 cw5_1_3 zw5_2 cw5_2_0 cw5_2_1 cw5_2_2 cw5_2_3 zw5_3 cw5_3_0 cw5_3_1 cw5_3_2 cw5_3_3 cw5_3_4 cw5_3_5 cw5_3_6 cw5_3_7
      go_wp2_with fail
      go_at_call 9
      refine ((HN1.out _ gw6 cw6_0_0 cw6_0_1)).mono ?_
      rintro e w7 ⟨rfl, hw7⟩
      have cw7_0_0 : w7.cell? ⟨W.heap.size, 0, none⟩ = some (.int .i64 k) := cell_gr hw7 (by go_simp)
      have cw7_0_1 : w7.cell? ⟨W.heap.size, 1, none⟩ = some (.slice ad n cap) := cell_gr hw7 (by go_simp)
      have zw7_0 : W.heap.size < w7.heap.size := World.block_lt_of_cell? _ _ cw7_0_0
      have cw7_1_0 : w7.cell? ⟨W.heap.size + 1, 0, none⟩ = some (.int .i64 lx) := cell_gr hw7 (by go_simp)
      have cw7_1_1 : w7.cell? ⟨W.heap.size + 1, 1, none⟩ = some (.int .i64 ly) := cell_gr hw7 (by go_simp)
      have cw7_1_2 : w7.cell? ⟨W.heap.size + 1, 2, none⟩ = some (.int .i64 hx) := cell_gr hw7 (by go_simp)
      have cw7_1_3 : w7.cell? ⟨W.heap.size + 1, 3, none⟩ = some (.int .i64 hy) := cell_gr hw7 (by go_simp)
      have zw7_1 : W.heap.size + 1 < w7.heap.size := World.block_lt_of_cell? _ _ cw7_1_0
      have cw7_2_0 : w7.cell? ⟨W.heap.size + 1 + 1, 0, none⟩ = some (.int .i64 mx) := cell_gr hw7 (by go_simp)
      have cw7_2_1 : w7.cell? ⟨W.heap.size + 1 + 1, 1, none⟩ = some (.int .i64 my) := cell_gr hw7 (by go_simp)
      have cw7_2_2 : w7.cell? ⟨W.heap.size + 1 + 1, 2, none⟩ = some (.int .i64 nx) := cell_gr hw7 (by go_simp)
      have cw7_2_3 : w7.cell? ⟨W.heap.size + 1 + 1, 3, none⟩ = some (.int .i64 ny) := cell_gr hw7 (by go_simp)
      have zw7_2 : W.heap.size + 1 + 1 < w7.heap.size := World.block_lt_of_cell? _ _ cw7_2_0
      have cw7_3_0 : w7.cell? ⟨w5.heap.size, 0, none⟩ = some (.int .i64 ux) := cell_gr hw7 (by go_simp)
      have cw7_3_1 : w7.cell? ⟨w5.heap.size, 1, none⟩ = some (.int .i64 uy) := cell_gr hw7 (by go_simp)
      have cw7_3_2 : w7.cell? ⟨w5.heap.size, 2, none⟩ = some (.int .i64 vx) := cell_gr hw7 (by go_simp)
      have cw7_3_3 : w7.cell? ⟨w5.heap.size, 3, none⟩ = some (.int .i64 vy) := cell_gr hw7 (by go_simp)
      have zw7_3 : w5.heap.size < w7.heap.size := World.block_lt_of_cell? _ _ cw7_3_0
      have gw7 : Gr W w7 := Gr.trans (by have gg := gw6; have gs := gg.size; go_grown) hw7
      clear hw7 gw6 zw6_0 cw6_0_0 cw6_0_1 zw6_1 cw6_1_0 cw6_1_1 cw6_1_2 cw6_1_3 zw6_2 cw6_2_0 cw6_2_1 cw6_2_2 cw6_2_3 zw6_3 cw6_3_0 cw6_3_1 cw6_3_2 cw6_3_3
      go_wp2_with fail
      go_at_call 11
      refine ((HN3.out _ gw7 cw7_0_0 cw7_0_1)).mono ?_
      rintro e w8 ⟨rfl, hw8⟩
      have cw8_0_0 : w8.cell? ⟨W.heap.size, 0, none⟩ = some (.int .i64 k) := cell_gr hw8 (by go_simp)
      have cw8_0_1 : w8.cell? ⟨W.heap.size, 1, none⟩ = some (.slice ad n cap) := cell_gr hw8 (by go_simp)
      have zw8_0 : W.heap.size < w8.heap.size := World.block_lt_of_cell? _ _ cw8_0_0
      have cw8_1_0 : w8.cell? ⟨W.heap.size + 1, 0, none⟩ = some (.int .i64 lx) := cell_gr hw8 (by go_simp)
      have cw8_1_1 : w8.cell? ⟨W.heap.size + 1, 1, none⟩ = some (.int .i64 ly) := cell_gr hw8 (by go_simp)
      have cw8_1_2 : w8.cell? ⟨W.heap.size + 1, 2, none⟩ = some (.int .i64 hx) := cell_gr hw8 (by go_simp)
      have cw8_1_3 : w8.cell? ⟨W.heap.size + 1, 3, none⟩ = some (.int .i64 hy) := cell_gr hw8 (by go_simp)
      have zw8_1 : W.heap.size + 1 < w8.heap.size := World.block_lt_of_cell? _ _ cw8_1_0
      have cw8_2_0 : w8.cell? ⟨W.heap.size + 1 + 1, 0, none⟩ = some (.int .i64 mx) := cell_gr hw8 (by go_simp)
      have cw8_2_1 : w8.cell? ⟨W.heap.size + 1 + 1, 1, none⟩ = some (.int .i64 my) := cell_gr hw8 (by go_simp)
      have cw8_2_2 : w8.cell? ⟨W.heap.size + 1 + 1, 2, none⟩ = some (.int .i64 nx) := cell_gr hw8 (by go_simp)
      have cw8_2_3 : w8.cell? ⟨W.heap.size + 1 + 1, 3, none⟩ = some (.int .i64 ny) := cell_gr hw8 (by go_simp)
      have zw8_2 : W.heap.size + 1 + 1 < w8.heap.size := World.block_lt_of_cell? _ _ cw8_2_0
      have cw8_3_0 : w8.cell? ⟨w5.heap.size, 0, none⟩ = some (.int .i64 ux) := cell_gr hw8 (by go_simp)
      have cw8_3_1 : w8.cell? ⟨w5.heap.size, 1, none⟩ = some (.int .i64 uy) := cell_gr hw8 (by go_simp)
      have cw8_3_2 : w8.cell? ⟨w5.heap.size, 2, none⟩ = some (.int .i64 vx) := cell_gr hw8 (by go_simp)
      have cw8_3_3 : w8.cell? ⟨w5.heap.size, 3, none⟩ = some (.int .i64 vy) := cell_gr hw8 (by go_simp)
      have zw8_3 : w5.heap.size < w8.heap.size := World.block_lt_of_cell? _ _ cw8_3_0
      have gw8 : Gr W w8 := Gr.trans (by have gg := gw7; have gs := gg.size; go_grown) hw8
      clear hw8 gw7 zw7_0 cw7_0_0 cw7_0_1 zw7_1 cw7_1_0 cw7_1_1 cw7_1_2 cw7_1_3 zw7_2 cw7_2_0 cw7_2_1 cw7_2_2 cw7_2_3 zw7_3 cw7_3_0 cw7_3_1 cw7_3_2 cw7_3_3
      go_wp2_with fail
      go_at_call 11
      refine ((HN3.out _ gw8 cw8_0_0 cw8_0_1)).mono ?_
      rintro e w9 ⟨rfl, hw9⟩
      have cw9_0_0 : w9.cell? ⟨W.heap.size, 0, none⟩ = some (.int .i64 k) := cell_gr hw9 (by go_simp)
      have cw9_0_1 : w9.cell? ⟨W.heap.size, 1, none⟩ = some (.slice ad n cap) := cell_gr hw9 (by go_simp)
      have zw9_0 : W.heap.size < w9.heap.size := World.block_lt_of_cell? _ _ cw9_0_0
      have cw9_1_0 : w9.cell? ⟨W.heap.size + 1, 0, none⟩ = some (.int .i64 lx) := cell_gr hw9 (by go_simp)
      have cw9_1_1 : w9.cell? ⟨W.heap.size + 1, 1, none⟩ = some (.int .i64 ly) := cell_gr hw9 (by go_simp)
      have cw9_1_2 : w9.cell? ⟨W.heap.size + 1, 2, none⟩ = some (.int .i64 hx) := cell_gr hw9 (by go_simp)
      have cw9_1_3 : w9.cell? ⟨W.heap.size + 1, 3, none⟩ = some (.int .i64 hy) := cell_gr hw9 (by go_simp)
      have zw9_1 : W.heap.size + 1 < w9.heap.size := World.block_lt_of_cell? _ _ cw9_1_0
      have cw9_2_0 : w9.cell? ⟨W.heap.size + 1 + 1, 0, none⟩ = some (.int .i64 mx) := cell_gr hw9 (by go_simp)
      have cw9_2_1 : w9.cell? ⟨W.heap.size + 1 + 1, 1, none⟩ = some (.int .i64 my) := cell_gr hw9 (by go_simp)
      have cw9_2_2 : w9.cell? ⟨W.heap.size + 1 + 1, 2, none⟩ = some (.int .i64 nx) := cell_gr hw9 (by go_simp)
      have cw9_2_3 : w9.cell? ⟨W.heap.size + 1 + 1, 3, none⟩ = some (.int .i64 ny) := cell_gr hw9 (by go_simp)
      have zw9_2 : W.heap.size + 1 + 1 < w9.heap.size := World.block_lt_of_cell? _ _ cw9_2_0
      have cw9_3_0 : w9.cell? ⟨w5.heap.size, 0, none⟩ = some (.int .i64 ux) := cell_gr hw9 (by go_simp)
      have cw9_3_1 : w9.cell? ⟨w5.heap.size, 1, none⟩ = some (.int .i64 uy) := cell_gr hw9 (by go_simp)
      have cw9_3_2 : w9.cell? ⟨w5.heap.size, 2, none⟩ = some (.int .i64 vx) := cell_gr hw9 (by go_simp)
      have cw9_3_3 : w9.cell? ⟨w5.heap.size, 3, none⟩ = some (.int .i64 vy) := cell_gr hw9 (by go_simp)
      have zw9_3 : w5.heap.size < w9.heap.size := World.block_lt_of_cell? _ _ cw9_3_0
      have gw9 : Gr W w9 := Gr.trans (by have gg := gw8; have gs := gg.size; go_grown) hw9
      clear hw9 gw8 zw8_0 cw8_0_0 cw8_0_1 zw8_1 cw8_1_0 cw8_1_1 cw8_1_2 cw8_1_3 zw8_2 cw8_2_0 cw8_2_1 cw8_2_2 cw8_2_3 zw8_3 cw8_3_0 cw8_3_1 cw8_3_2 cw8_3_3
      go_wp2_with fail
      go_at_call 13
      refine ((H6.out _ gw9)).mono ?_
      rintro e w10 ⟨rfl, hw10⟩
      have cw10_0_0 : w10.cell? ⟨W.heap.size, 0, none⟩ = some (.int .i64 k) := cell_gr hw10 (by go_simp)
      have cw10_0_1 : w10.cell? ⟨W.heap.size, 1, none⟩ = some (.slice ad n cap) := cell_gr hw10 (by go_simp)
      have zw10_0 : W.heap.size < w10.heap.size := World.block_lt_of_cell? _ _ cw10_0_0
      have cw10_1_0 : w10.cell? ⟨W.heap.size + 1, 0, none⟩ = some (.int .i64 lx) := cell_gr hw10 (by go_simp)
      have cw10_1_1 : w10.cell? ⟨W.heap.size + 1, 1, none⟩ = some (.int .i64 ly) := cell_gr hw10 (by go_simp)
      have cw10_1_2 : w10.cell? ⟨W.heap.size + 1, 2, none⟩ = some (.int .i64 hx) := cell_gr hw10 (by go_simp)
      have cw10_1_3 : w10.cell? ⟨W.heap.size + 1, 3, none⟩ = some (.int .i64 hy) := cell_gr hw10 (by go_simp)
      have zw10_1 : W.heap.size + 1 < w10.heap.size := World.block_lt_of_cell? _ _ cw10_1_0
      have cw10_2_0 : w10.cell? ⟨W.heap.size + 1 + 1, 0, none⟩ = some (.int .i64 mx) := cell_gr hw10 (by go_simp)
      have cw10_2_1 : w10.cell? ⟨W.heap.size + 1 + 1, 1, none⟩ = some (.int .i64 my) := cell_gr hw10 (by go_simp)
      have cw10_2_2 : w10.cell? ⟨W.heap.size + 1 + 1, 2, none⟩ = some (.int .i64 nx) := cell_gr hw10 (by go_simp)
      have cw10_2_3 : w10.cell? ⟨W.heap.size + 1 + 1, 3, none⟩ = some (.int .i64 ny) := cell_gr hw10 (by go_simp)
      have zw10_2 : W.heap.size + 1 + 1 < w10.heap.size := World.block_lt_of_cell? _ _ cw10_2_0
      have cw10_3_0 : w10.cell? ⟨w5.heap.size, 0, none⟩ = some (.int .i64 ux) := cell_gr hw10 (by go_simp)
      have cw10_3_1 : w10.cell? ⟨w5.heap.size, 1, none⟩ = some (.int .i64 uy) := cell_gr hw10 (by go_simp)
      have cw10_3_2 : w10.cell? ⟨w5.heap.size, 2, none⟩ = some (.int .i64 vx) := cell_gr hw10 (by go_simp)
      have cw10_3_3 : w10.cell? ⟨w5.heap.size, 3, none⟩ = some (.int .i64 vy) := cell_gr hw10 (by go_simp)
      have zw10_3 : w5.heap.size < w10.heap.size := World.block_lt_of_cell? _ _ cw10_3_0
      have gw10 : Gr W w10 := Gr.trans (by have gg := gw9; have gs := gg.size; go_grown) hw10
      clear hw10 gw9 zw9_0 cw9_0_0 cw9_0_1 zw9_1 cw9_1_0 cw9_1_1 cw9_1_2 cw9_1_3 zw9_2 cw9_2_0 cw9_2_1 cw9_2_2 cw9_2_3 zw9_3 cw9_3_0 cw9_3_1 cw9_3_2 cw9_3_3
      go_wp2_with fail
      generalize hhwx : (w10.alloc (.cells #[.int .i64 p1, .int .i64 p2, .int .i64 p3, .int .i64 p4] 28)) = wx
      have cwx_0_0 : wx.cell? ⟨W.heap.size, 0, none⟩ = some (.int .i64 k) := by subst hhwx; go_simp
      have cwx_0_1 : wx.cell? ⟨W.heap.size, 1, none⟩ = some (.slice ad n cap) := by subst hhwx; go_simp
      have zwx_0 : W.heap.size < wx.heap.size := World.block_lt_of_cell? _ _ cwx_0_0
      have cwx_1_0 : wx.cell? ⟨W.heap.size + 1, 0, none⟩ = some (.int .i64 lx) := by subst hhwx; go_simp
      have cwx_1_1 : wx.cell? ⟨W.heap.size + 1, 1, none⟩ = some (.int .i64 ly) := by subst hhwx; go_simp
      have cwx_1_2 : wx.cell? ⟨W.heap.size + 1, 2, none⟩ = some (.int .i64 hx) := by subst hhwx; go_simp
      have cwx_1_3 : wx.cell? ⟨W.heap.size + 1, 3, none⟩ = some (.int .i64 hy) := by subst hhwx; go_simp
      have zwx_1 : W.heap.size + 1 < wx.heap.size := World.block_lt_of_cell? _ _ cwx_1_0
      have cwx_2_0 : wx.cell? ⟨W.heap.size + 1 + 1, 0, none⟩ = some (.int .i64 mx) := by subst hhwx; go_simp
      have cwx_2_1 : wx.cell? ⟨W.heap.size + 1 + 1, 1, none⟩ = some (.int .i64 my) := by subst hhwx; go_simp
      have cwx_2_2 : wx.cell? ⟨W.heap.size + 1 + 1, 2, none⟩ = some (.int .i64 nx) := by subst hhwx; go_simp
      have cwx_2_3 : wx.cell? ⟨W.heap.size + 1 + 1, 3, none⟩ = some (.int .i64 ny) := by subst hhwx; go_simp
      have zwx_2 : W.heap.size + 1 + 1 < wx.heap.size := World.block_lt_of_cell? _ _ cwx_2_0
      have cwx_3_0 : wx.cell? ⟨w5.heap.size, 0, none⟩ = some (.int .i64 ux) := by subst hhwx; go_simp
      have cwx_3_1 : wx.cell? ⟨w5.heap.size, 1, none⟩ = some (.int .i64 uy) := by subst hhwx; go_simp
      have cwx_3_2 : wx.cell? ⟨w5.heap.size, 2, none⟩ = some (.int .i64 vx) := by subst hhwx; go_simp
      have cwx_3_3 : wx.cell? ⟨w5.heap.size, 3, none⟩ = some (.int .i64 vy) := by subst hhwx; go_simp
      have zwx_3 : w5.heap.size < wx.heap.size := World.block_lt_of_cell? _ _ cwx_3_0
      have cwx_4_0 : wx.cell? ⟨w10.heap.size, 0, none⟩ = some (.int .i64 p1) := by subst hhwx; go_simp
      have cwx_4_1 : wx.cell? ⟨w10.heap.size, 1, none⟩ = some (.int .i64 p2) := by subst hhwx; go_simp
      have cwx_4_2 : wx.cell? ⟨w10.heap.size, 2, none⟩ = some (.int .i64 p3) := by subst hhwx; go_simp
      have cwx_4_3 : wx.cell? ⟨w10.heap.size, 3, none⟩ = some (.int .i64 p4) := by subst hhwx; go_simp
      have zwx_4 : w10.heap.size < wx.heap.size := World.block_lt_of_cell? _ _ cwx_4_0
      have gwx : Gr W wx := by subst hhwx; have gg := gw10; have gs := gg.size; go_grown
      clear hhwx gw10 zw10_0 cw10_0_0 cw10_0_1 zw10_1 cw10_1_0 cw10_1_1 cw10_1_2 cw10_1_3 zw10_2 cw10_2_0 cw10_2_1 cw10_2_2 cw10_2_3 zw10_3 cw10_3_0 cw10_3_1 cw10_3_2 cw10_3_3
      go_wp2_with fail
      go_at_call 11
      refine ((HN6.out _ gwx cwx_0_0 cwx_0_1)).mono ?_
      rintro e w11 ⟨rfl, hw11⟩
      have cw11_0_0 : w11.cell? ⟨W.heap.size, 0, none⟩ = some (.int .i64 k) := cell_gr hw11 (by go_simp)
      have cw11_0_1 : w11.cell? ⟨W.heap.size, 1, none⟩ = some (.slice ad n cap) := cell_gr hw11 (by go_simp)
      have zw11_0 : W.heap.size < w11.heap.size := World.block_lt_of_cell? _ _ cw11_0_0
      have cw11_1_0 : w11.cell? ⟨W.heap.size + 1, 0, none⟩ = some (.int .i64 lx) := cell_gr hw11 (by go_simp)
      have cw11_1_1 : w11.cell? ⟨W.heap.size + 1, 1, none⟩ = some (.int .i64 ly) := cell_gr hw11 (by go_simp)
      have cw11_1_2 : w11.cell? ⟨W.heap.size + 1, 2, none⟩ = some (.int .i64 hx) := cell_gr hw11 (by go_simp)
      have cw11_1_3 : w11.cell? ⟨W.heap.size + 1, 3, none⟩ = some (.int .i64 hy) := cell_gr hw11 (by go_simp)
      have zw11_1 : W.heap.size + 1 < w11.heap.size := World.block_lt_of_cell? _ _ cw11_1_0
      have cw11_2_0 : w11.cell? ⟨W.heap.size + 1 + 1, 0, none⟩ = some (.int .i64 mx) := cell_gr hw11 (by go_simp)
      have cw11_2_1 : w11.cell? ⟨W.heap.size + 1 + 1, 1, none⟩ = some (.int .i64 my) := cell_gr hw11 (by go_simp)
      have cw11_2_2 : w11.cell? ⟨W.heap.size + 1 + 1, 2, none⟩ = some (.int .i64 nx) := cell_gr hw11 (by go_simp)
      have cw11_2_3 : w11.cell? ⟨W.heap.size + 1 + 1, 3, none⟩ = some (.int .i64 ny) := cell_gr hw11 (by go_simp)
      have zw11_2 : W.heap.size + 1 + 1 < w11.heap.size := World.block_lt_of_cell? _ _ cw11_2_0
      have cw11_3_0 : w11.cell? ⟨w5.heap.size, 0, none⟩ = some (.int .i64 ux) := cell_gr hw11 (by go_simp)
      have cw11_3_1 : w11.cell? ⟨w5.heap.size, 1, none⟩ = some (.int .i64 uy) := cell_gr hw11 (by go_simp)
      have cw11_3_2 : w11.cell? ⟨w5.heap.size, 2, none⟩ = some (.int .i64 vx) := cell_gr hw11 (by go_simp)
      have cw11_3_3 : w11.cell? ⟨w5.heap.size, 3, none⟩ = some (.int .i64 vy) := cell_gr hw11 (by go_simp)
      have zw11_3 : w5.heap.size < w11.heap.size := World.block_lt_of_cell? _ _ cw11_3_0
      have cw11_4_0 : w11.cell? ⟨w10.heap.size, 0, none⟩ = some (.int .i64 p1) := cell_gr hw11 (by go_simp)
      have cw11_4_1 : w11.cell? ⟨w10.heap.size, 1, none⟩ = some (.int .i64 p2) := cell_gr hw11 (by go_simp)
      have cw11_4_2 : w11.cell? ⟨w10.heap.size, 2, none⟩ = some (.int .i64 p3) := cell_gr hw11 (by go_simp)
      have cw11_4_3 : w11.cell? ⟨w10.heap.size, 3, none⟩ = some (.int .i64 p4) := cell_gr hw11 (by go_simp)
      have zw11_4 : w10.heap.size < w11.heap.size := World.block_lt_of_cell? _ _ cw11_4_0
      have gw11 : Gr W w11 := Gr.trans (by have gg := gwx; have gs := gg.size; go_grown) hw11
      clear hw11 gwx zwx_0 cwx_0_0 cwx_0_1 zwx_1 cwx_1_0 cwx_1_1 cwx_1_2 cwx_1_3 zwx_2 cwx_2_0 cwx_2_1 cwx_2_2 cwx_2_3 zwx_3 cwx_3_0 cwx_3_1 cwx_3_2 cwx_3_3 zwx_4 cwx_4_0 cwx_4_1 cwx_4_2 cwx_4_3
      go_wp2_with fail
      go_at_call 9
      refine ((HN7.out _ gw11 cw11_0_0 cw11_0_1)).mono ?_
      rintro e w12 ⟨rfl, hw12⟩
      have cw12_0_0 : w12.cell? ⟨W.heap.size, 0, none⟩ = some (.int .i64 k) := cell_gr hw12 (by go_simp)
      have cw12_0_1 : w12.cell? ⟨W.heap.size, 1, none⟩ = some (.slice ad n cap) := cell_gr hw12 (by go_simp)
      have zw12_0 : W.heap.size < w12.heap.size := World.block_lt_of_cell? _ _ cw12_0_0
      have cw12_1_0 : w12.cell? ⟨W.heap.size + 1, 0, none⟩ = some (.int .i64 lx) := cell_gr hw12 (by go_simp)
      have cw12_1_1 : w12.cell? ⟨W.heap.size + 1, 1, none⟩ = some (.int .i64 ly) := cell_gr hw12 (by go_simp)
      have cw12_1_2 : w12.cell? ⟨W.heap.size + 1, 2, none⟩ = some (.int .i64 hx) := cell_gr hw12 (by go_simp)
      have cw12_1_3 : w12.cell? ⟨W.heap.size + 1, 3, none⟩ = some (.int .i64 hy) := cell_gr hw12 (by go_simp)
      have zw12_1 : W.heap.size + 1 < w12.heap.size := World.block_lt_of_cell? _ _ cw12_1_0
      have cw12_2_0 : w12.cell? ⟨W.heap.size + 1 + 1, 0, none⟩ = some (.int .i64 mx) := cell_gr hw12 (by go_simp)
      have cw12_2_1 : w12.cell? ⟨W.heap.size + 1 + 1, 1, none⟩ = some (.int .i64 my) := cell_gr hw12 (by go_simp)
      have cw12_2_2 : w12.cell? ⟨W.heap.size + 1 + 1, 2, none⟩ = some (.int .i64 nx) := cell_gr hw12 (by go_simp)
      have cw12_2_3 : w12.cell? ⟨W.heap.size + 1 + 1, 3, none⟩ = some (.int .i64 ny) := cell_gr hw12 (by go_simp)
      have zw12_2 : W.heap.size + 1 + 1 < w12.heap.size := World.block_lt_of_cell? _ _ cw12_2_0
      have cw12_3_0 : w12.cell? ⟨w5.heap.size, 0, none⟩ = some (.int .i64 ux) := cell_gr hw12 (by go_simp)
      have cw12_3_1 : w12.cell? ⟨w5.heap.size, 1, none⟩ = some (.int .i64 uy) := cell_gr hw12 (by go_simp)
      have cw12_3_2 : w12.cell? ⟨w5.heap.size, 2, none⟩ = some (.int .i64 vx) := cell_gr hw12 (by go_simp)
      have cw12_3_3 : w12.cell? ⟨w5.heap.size, 3, none⟩ = some (.int .i64 vy) := cell_gr hw12 (by go_simp)
      have zw12_3 : w5.heap.size < w12.heap.size := World.block_lt_of_cell? _ _ cw12_3_0
      have cw12_4_0 : w12.cell? ⟨w10.heap.size, 0, none⟩ = some (.int .i64 p1) := cell_gr hw12 (by go_simp)
      have cw12_4_1 : w12.cell? ⟨w10.heap.size, 1, none⟩ = some (.int .i64 p2) := cell_gr hw12 (by go_simp)
      have cw12_4_2 : w12.cell? ⟨w10.heap.size, 2, none⟩ = some (.int .i64 p3) := cell_gr hw12 (by go_simp)
      have cw12_4_3 : w12.cell? ⟨w10.heap.size, 3, none⟩ = some (.int .i64 p4) := cell_gr hw12 (by go_simp)
      have zw12_4 : w10.heap.size < w12.heap.size := World.block_lt_of_cell? _ _ cw12_4_0
      have gw12 : Gr W w12 := Gr.trans (by have gg := gw11; have gs := gg.size; go_grown) hw12
      clear hw12 gw11 zw11_0 cw11_0_0 cw11_0_1 zw11_1 cw11_1_0 cw11_1_1 cw11_1_2 cw11_1_3 zw11_2 cw11_2_0 cw11_2_1 cw11_2_2 cw11_2_3 zw11_3 cw11_3_0 cw11_3_1 cw11_3_2 cw11_3_3 zw11_4 cw11_4_0 cw11_4_1 cw11_4_2 cw11_4_3
      go_wp2_with fail
      go_at_call 11
      refine ((HN3.out _ gw12 cw12_0_0 cw12_0_1)).mono ?_
      rintro e w13 ⟨rfl, hw13⟩
      have cw13_0_0 : w13.cell? ⟨W.heap.size, 0, none⟩ = some (.int .i64 k) := cell_gr hw13 (by go_simp)
      have cw13_0_1 : w13.cell? ⟨W.heap.size, 1, none⟩ = some (.slice ad n cap) := cell_gr hw13 (by go_simp)
      have zw13_0 : W.heap.size < w13.heap.size := World.block_lt_of_cell? _ _ cw13_0_0
      have cw13_1_0 : w13.cell? ⟨W.heap.size + 1, 0, none⟩ = some (.int .i64 lx) := cell_gr hw13 (by go_simp)
      have cw13_1_1 : w13.cell? ⟨W.heap.size + 1, 1, none⟩ = some (.int .i64 ly) := cell_gr hw13 (by go_simp)
      have cw13_1_2 : w13.cell? ⟨W.heap.size + 1, 2, none⟩ = some (.int .i64 hx) := cell_gr hw13 (by go_simp)
      have cw13_1_3 : w13.cell? ⟨W.heap.size + 1, 3, none⟩ = some (.int .i64 hy) := cell_gr hw13 (by go_simp)
      have zw13_1 : W.heap.size + 1 < w13.heap.size := World.block_lt_of_cell? _ _ cw13_1_0
      have cw13_2_0 : w13.cell? ⟨W.heap.size + 1 + 1, 0, none⟩ = some (.int .i64 mx) := cell_gr hw13 (by go_simp)
      have cw13_2_1 : w13.cell? ⟨W.heap.size + 1 + 1, 1, none⟩ = some (.int .i64 my) := cell_gr hw13 (by go_simp)
      have cw13_2_2 : w13.cell? ⟨W.heap.size + 1 + 1, 2, none⟩ = some (.int .i64 nx) := cell_gr hw13 (by go_simp)
      have cw13_2_3 : w13.cell? ⟨W.heap.size + 1 + 1, 3, none⟩ = some (.int .i64 ny) := cell_gr hw13 (by go_simp)
      have zw13_2 : W.heap.size + 1 + 1 < w13.heap.size := World.block_lt_of_cell? _ _ cw13_2_0
      have cw13_3_0 : w13.cell? ⟨w5.heap.size, 0, none⟩ = some (.int .i64 ux) := cell_gr hw13 (by go_simp)
      have cw13_3_1 : w13.cell? ⟨w5.heap.size, 1, none⟩ = some (.int .i64 uy) := cell_gr hw13 (by go_simp)
      have cw13_3_2 : w13.cell? ⟨w5.heap.size, 2, none⟩ = some (.int .i64 vx) := cell_gr hw13 (by go_simp)
      have cw13_3_3 : w13.cell? ⟨w5.heap.size, 3, none⟩ = some (.int .i64 vy) := cell_gr hw13 (by go_simp)
      have zw13_3 : w5.heap.size < w13.heap.size := World.block_lt_of_cell? _ _ cw13_3_0
      have cw13_4_0 : w13.cell? ⟨w10.heap.size, 0, none⟩ = some (.int .i64 p1) := cell_gr hw13 (by go_simp)
      have cw13_4_1 : w13.cell? ⟨w10.heap.size, 1, none⟩ = some (.int .i64 p2) := cell_gr hw13 (by go_simp)
      have cw13_4_2 : w13.cell? ⟨w10.heap.size, 2, none⟩ = some (.int .i64 p3) := cell_gr hw13 (by go_simp)
      have cw13_4_3 : w13.cell? ⟨w10.heap.size, 3, none⟩ = some (.int .i64 p4) := cell_gr hw13 (by go_simp)
      have zw13_4 : w10.heap.size < w13.heap.size := World.block_lt_of_cell? _ _ cw13_4_0
      have gw13 : Gr W w13 := Gr.trans (by have gg := gw12; have gs := gg.size; go_grown) hw13
      clear hw13 gw12 zw12_0 cw12_0_0 cw12_0_1 zw12_1 cw12_1_0 cw12_1_1 cw12_1_2 cw12_1_3 zw12_2 cw12_2_0 cw12_2_1 cw12_2_2 cw12_2_3 zw12_3 cw12_3_0 cw12_3_1 cw12_3_2 cw12_3_3 zw12_4 cw12_4_0 cw12_4_1 cw12_4_2 cw12_4_3
      go_wp2_with fail
      go_at_call 7
      refine ((H8.out _ gw13)).mono ?_
      rintro e w14 ⟨rfl, hw14⟩
      have cw14_0_0 : w14.cell? ⟨W.heap.size, 0, none⟩ = some (.int .i64 k) := cell_gr hw14 (by go_simp)
      have cw14_0_1 : w14.cell? ⟨W.heap.size, 1, none⟩ = some (.slice ad n cap) := cell_gr hw14 (by go_simp)
      have zw14_0 : W.heap.size < w14.heap.size := World.block_lt_of_cell? _ _ cw14_0_0
      have cw14_1_0 : w14.cell? ⟨W.heap.size + 1, 0, none⟩ = some (.int .i64 lx) := cell_gr hw14 (by go_simp)
      have cw14_1_1 : w14.cell? ⟨W.heap.size + 1, 1, none⟩ = some (.int .i64 ly) := cell_gr hw14 (by go_simp)
      have cw14_1_2 : w14.cell? ⟨W.heap.size + 1, 2, none⟩ = some (.int .i64 hx) := cell_gr hw14 (by go_simp)
      have cw14_1_3 : w14.cell? ⟨W.heap.size + 1, 3, none⟩ = some (.int .i64 hy) := cell_gr hw14 (by go_simp)
      have zw14_1 : W.heap.size + 1 < w14.heap.size := World.block_lt_of_cell? _ _ cw14_1_0
      have cw14_2_0 : w14.cell? ⟨W.heap.size + 1 + 1, 0, none⟩ = some (.int .i64 mx) := cell_gr hw14 (by go_simp)
      have cw14_2_1 : w14.cell? ⟨W.heap.size + 1 + 1, 1, none⟩ = some (.int .i64 my) := cell_gr hw14 (by go_simp)
      have cw14_2_2 : w14.cell? ⟨W.heap.size + 1 + 1, 2, none⟩ = some (.int .i64 nx) := cell_gr hw14 (by go_simp)
      have cw14_2_3 : w14.cell? ⟨W.heap.size + 1 + 1, 3, none⟩ = some (.int .i64 ny) := cell_gr hw14 (by go_simp)
      have zw14_2 : W.heap.size + 1 + 1 < w14.heap.size := World.block_lt_of_cell? _ _ cw14_2_0
      have cw14_3_0 : w14.cell? ⟨w5.heap.size, 0, none⟩ = some (.int .i64 ux) := cell_gr hw14 (by go_simp)
      have cw14_3_1 : w14.cell? ⟨w5.heap.size, 1, none⟩ = some (.int .i64 uy) := cell_gr hw14 (by go_simp)
      have cw14_3_2 : w14.cell? ⟨w5.heap.size, 2, none⟩ = some (.int .i64 vx) := cell_gr hw14 (by go_simp)
      have cw14_3_3 : w14.cell? ⟨w5.heap.size, 3, none⟩ = some (.int .i64 vy) := cell_gr hw14 (by go_simp)
      have zw14_3 : w5.heap.size < w14.heap.size := World.block_lt_of_cell? _ _ cw14_3_0
      have cw14_4_0 : w14.cell? ⟨w10.heap.size, 0, none⟩ = some (.int .i64 p1) := cell_gr hw14 (by go_simp)
      have cw14_4_1 : w14.cell? ⟨w10.heap.size, 1, none⟩ = some (.int .i64 p2) := cell_gr hw14 (by go_simp)
      have cw14_4_2 : w14.cell? ⟨w10.heap.size, 2, none⟩ = some (.int .i64 p3) := cell_gr hw14 (by go_simp)
      have cw14_4_3 : w14.cell? ⟨w10.heap.size, 3, none⟩ = some (.int .i64 p4) := cell_gr hw14 (by go_simp)
      have zw14_4 : w10.heap.size < w14.heap.size := World.block_lt_of_cell? _ _ cw14_4_0
      have gw14 : Gr W w14 := Gr.trans (by have gg := gw13; have gs := gg.size; go_grown) hw14
      clear hw14 gw13 zw13_0 cw13_0_0 cw13_0_1 zw13_1 cw13_1_0 cw13_1_1 cw13_1_2 cw13_1_3 zw13_2 cw13_2_0 cw13_2_1 cw13_2_2 cw13_2_3 zw13_3 cw13_3_0 cw13_3_1 cw13_3_2 cw13_3_3 zw13_4 cw13_4_0 cw13_4_1 cw13_4_2 cw13_4_3
      go_wp2_with fail
      go_ret
      exact ⟨rfl, gw14⟩
    · obtain rfl : iU = true := f2 rfl
      obtain rfl : bi = true := f4 rfl
      cases iB
      · clear f1 f2 f3 f4
        go_enter Tryd.func3, Tryd.ntmps3
        go_wp2_with fail
        go_at_call 5
        refine ((H1.out _ (by go_grown))).mono ?_
        rintro e w1 ⟨rfl, hw1⟩
        have cw1_0_0 : w1.cell? ⟨W.heap.size, 0, none⟩ = some (.int .i64 k) := cell_gr hw1 (by go_simp)
        have cw1_0_1 : w1.cell? ⟨W.heap.size, 1, none⟩ = some (.slice ad n cap) := cell_gr hw1 (by go_simp)
        have zw1_0 : W.heap.size < w1.heap.size := World.block_lt_of_cell? _ _ cw1_0_0
        have cw1_1_0 : w1.cell? ⟨W.heap.size + 1, 0, none⟩ = some (.int .i64 lx) := cell_gr hw1 (by go_simp)
        have cw1_1_1 : w1.cell? ⟨W.heap.size + 1, 1, none⟩ = some (.int .i64 ly) := cell_gr hw1 (by go_simp)
        have cw1_1_2 : w1.cell? ⟨W.heap.size + 1, 2, none⟩ = some (.int .i64 hx) := cell_gr hw1 (by go_simp)
        have cw1_1_3 : w1.cell? ⟨W.heap.size + 1, 3, none⟩ = some (.int .i64 hy) := cell_gr hw1 (by go_simp)
        have zw1_1 : W.heap.size + 1 < w1.heap.size := World.block_lt_of_cell? _ _ cw1_1_0
        have cw1_2_0 : w1.cell? ⟨W.heap.size + 1 + 1, 0, none⟩ = some (.int .i64 mx) := cell_gr hw1 (by go_simp)
        have cw1_2_1 : w1.cell? ⟨W.heap.size + 1 + 1, 1, none⟩ = some (.int .i64 my) := cell_gr hw1 (by go_simp)
        have cw1_2_2 : w1.cell? ⟨W.heap.size + 1 + 1, 2, none⟩ = some (.int .i64 nx) := cell_gr hw1 (by go_simp)
        have cw1_2_3 : w1.cell? ⟨W.heap.size + 1 + 1, 3, none⟩ = some (.int .i64 ny) := cell_gr hw1 (by go_simp)
        have zw1_2 : W.heap.size + 1 + 1 < w1.heap.size := World.block_lt_of_cell? _ _ cw1_2_0
        have gw1 : Gr W w1 := Gr.trans (by go_grown) hw1
        clear hw1
        go_wp2_with fail
        go_at_call 6
        refine ((H2.out _)).mono ?_
        rintro e w2 ⟨rfl, hw2⟩
        have cw2_0_0 : w2.cell? ⟨W.heap.size, 0, none⟩ = some (.int .i64 k) := cell_gr hw2 (by go_simp)
        have cw2_0_1 : w2.cell? ⟨W.heap.size, 1, none⟩ = some (.slice ad n cap) := cell_gr hw2 (by go_simp)
        have zw2_0 : W.heap.size < w2.heap.size := World.block_lt_of_cell? _ _ cw2_0_0
        have cw2_1_0 : w2.cell? ⟨W.heap.size + 1, 0, none⟩ = some (.int .i64 lx) := cell_gr hw2 (by go_simp)
        have cw2_1_1 : w2.cell? ⟨W.heap.size + 1, 1, none⟩ = some (.int .i64 ly) := cell_gr hw2 (by go_simp)
        have cw2_1_2 : w2.cell? ⟨W.heap.size + 1, 2, none⟩ = some (.int .i64 hx) := cell_gr hw2 (by go_simp)
        have cw2_1_3 : w2.cell? ⟨W.heap.size + 1, 3, none⟩ = some (.int .i64 hy) := cell_gr hw2 (by go_simp)
        have zw2_1 : W.heap.size + 1 < w2.heap.size := World.block_lt_of_cell? _ _ cw2_1_0
        have cw2_2_0 : w2.cell? ⟨W.heap.size + 1 + 1, 0, none⟩ = some (.int .i64 mx) := cell_gr hw2 (by go_simp)
        have cw2_2_1 : w2.cell? ⟨W.heap.size + 1 + 1, 1, none⟩ = some (.int .i64 my) := cell_gr hw2 (by go_simp)
        have cw2_2_2 : w2.cell? ⟨W.heap.size + 1 + 1, 2, none⟩ = some (.int .i64 nx) := cell_gr hw2 (by go_simp)
        have cw2_2_3 : w2.cell? ⟨W.heap.size + 1 + 1, 3, none⟩ = some (.int .i64 ny) := cell_gr hw2 (by go_simp)
        have zw2_2 : W.heap.size + 1 + 1 < w2.heap.size := World.block_lt_of_cell? _ _ cw2_2_0
        have gw2 : Gr W w2 := Gr.trans (by have gg := gw1; have gs := gg.size; go_grown) hw2
        clear hw2 gw1 zw1_0 cw1_0_0 cw1_0_1 zw1_1 cw1_1_0 cw1_1_1 cw1_1_2 cw1_1_3 zw1_2 cw1_2_0 cw1_2_1 cw1_2_2 cw1_2_3
        go_wp2_with fail
        go_at_call 6
        refine ((H3.out _)).mono ?_
        rintro e w3 ⟨rfl, hw3⟩
        have cw3_0_0 : w3.cell? ⟨W.heap.size, 0, none⟩ = some (.int .i64 k) := cell_gr hw3 (by go_simp)
        have cw3_0_1 : w3.cell? ⟨W.heap.size, 1, none⟩ = some (.slice ad n cap) := cell_gr hw3 (by go_simp)
        have zw3_0 : W.heap.size < w3.heap.size := World.block_lt_of_cell? _ _ cw3_0_0
        have cw3_1_0 : w3.cell? ⟨W.heap.size + 1, 0, none⟩ = some (.int .i64 lx) := cell_gr hw3 (by go_simp)
        have cw3_1_1 : w3.cell? ⟨W.heap.size + 1, 1, none⟩ = some (.int .i64 ly) := cell_gr hw3 (by go_simp)
        have cw3_1_2 : w3.cell? ⟨W.heap.size + 1, 2, none⟩ = some (.int .i64 hx) := cell_gr hw3 (by go_simp)
        have cw3_1_3 : w3.cell? ⟨W.heap.size + 1, 3, none⟩ = some (.int .i64 hy) := cell_gr hw3 (by go_simp)
        have zw3_1 : W.heap.size + 1 < w3.heap.size := World.block_lt_of_cell? _ _ cw3_1_0
        have cw3_2_0 : w3.cell? ⟨W.heap.size + 1 + 1, 0, none⟩ = some (.int .i64 mx) := cell_gr hw3 (by go_simp)
        have cw3_2_1 : w3.cell? ⟨W.heap.size + 1 + 1, 1, none⟩ = some (.int .i64 my) := cell_gr hw3 (by go_simp)
        have cw3_2_2 : w3.cell? ⟨W.heap.size + 1 + 1, 2, none⟩ = some (.int .i64 nx) := cell_gr hw3 (by go_simp)
        have cw3_2_3 : w3.cell? ⟨W.heap.size + 1 + 1, 3, none⟩ = some (.int .i64 ny) := cell_gr hw3 (by go_simp)
        have zw3_2 : W.heap.size + 1 + 1 < w3.heap.size := World.block_lt_of_cell? _ _ cw3_2_0
        have gw3 : Gr W w3 := Gr.trans (by have gg := gw2; have gs := gg.size; go_grown) hw3
        clear hw3 gw2 zw2_0 cw2_0_0 cw2_0_1 zw2_1 cw2_1_0 cw2_1_1 cw2_1_2 cw2_1_3 zw2_2 cw2_2_0 cw2_2_1 cw2_2_2 cw2_2_3
        go_wp2_with fail
        generalize hhw4 : (w3.alloc (.cells #[.int .i64 lx, .int .i64 ly, .int .i64 hx, .int .i64 hy, .int .i64 mx, .int .i64 my, .int .i64 nx, .int .i64 ny] 28)) = w4
        have cw4_0_0 : w4.cell? ⟨W.heap.size, 0, none⟩ = some (.int .i64 k) := by subst hhw4; go_simp
        have cw4_0_1 : w4.cell? ⟨W.heap.size, 1, none⟩ = some (.slice ad n cap) := by subst hhw4; go_simp
        have zw4_0 : W.heap.size < w4.heap.size := World.block_lt_of_cell? _ _ cw4_0_0
        have cw4_1_0 : w4.cell? ⟨W.heap.size + 1, 0, none⟩ = some (.int .i64 lx) := by subst hhw4; go_simp
        have cw4_1_1 : w4.cell? ⟨W.heap.size + 1, 1, none⟩ = some (.int .i64 ly) := by subst hhw4; go_simp
        have cw4_1_2 : w4.cell? ⟨W.heap.size + 1, 2, none⟩ = some (.int .i64 hx) := by subst hhw4; go_simp
        have cw4_1_3 : w4.cell? ⟨W.heap.size + 1, 3, none⟩ = some (.int .i64 hy) := by subst hhw4; go_simp
        have zw4_1 : W.heap.size + 1 < w4.heap.size := World.block_lt_of_cell? _ _ cw4_1_0
        have cw4_2_0 : w4.cell? ⟨W.heap.size + 1 + 1, 0, none⟩ = some (.int .i64 mx) := by subst hhw4; go_simp
        have cw4_2_1 : w4.cell? ⟨W.heap.size + 1 + 1, 1, none⟩ = some (.int .i64 my) := by subst hhw4; go_simp
        have cw4_2_2 : w4.cell? ⟨W.heap.size + 1 + 1, 2, none⟩ = some (.int .i64 nx) := by subst hhw4; go_simp
        have cw4_2_3 : w4.cell? ⟨W.heap.size + 1 + 1, 3, none⟩ = some (.int .i64 ny) := by subst hhw4; go_simp
        have zw4_2 : W.heap.size + 1 + 1 < w4.heap.size := World.block_lt_of_cell? _ _ cw4_2_0
        have cw4_3_0 : w4.cell? ⟨w3.heap.size, 0, none⟩ = some (.int .i64 lx) := by subst hhw4; go_simp
        have cw4_3_1 : w4.cell? ⟨w3.heap.size, 1, none⟩ = some (.int .i64 ly) := by subst hhw4; go_simp
        have cw4_3_2 : w4.cell? ⟨w3.heap.size, 2, none⟩ = some (.int .i64 hx) := by subst hhw4; go_simp
        have cw4_3_3 : w4.cell? ⟨w3.heap.size, 3, none⟩ = some (.int .i64 hy) := by subst hhw4; go_simp
        have cw4_3_4 : w4.cell? ⟨w3.heap.size, 4, none⟩ = some (.int .i64 mx) := by subst hhw4; go_simp
        have cw4_3_5 : w4.cell? ⟨w3.heap.size, 5, none⟩ = some (.int .i64 my) := by subst hhw4; go_simp
        have cw4_3_6 : w4.cell? ⟨w3.heap.size, 6, none⟩ = some (.int .i64 nx) := by subst hhw4; go_simp
        have cw4_3_7 : w4.cell? ⟨w3.heap.size, 7, none⟩ = some (.int .i64 ny) := by subst hhw4; go_simp
        have zw4_3 : w3.heap.size < w4.heap.size := World.block_lt_of_cell? _ _ cw4_3_0
        have gw4 : Gr W w4 := by subst hhw4; have gg := gw3; have gs := gg.size; go_grown
        clear hhw4 gw3 zw3_0 cw3_0_0 cw3_0_1 zw3_1 cw3_1_0 cw3_1_1 cw3_1_2 cw3_1_3 zw3_2 cw3_2_0 cw3_2_1 cw3_2_2 cw3_2_3
        go_wp2_with fail
        go_at_call 8
        refine ((H4.out _ _ cw4_3_0 cw4_3_1 cw4_3_2 cw4_3_3 cw4_3_4 cw4_3_5 cw4_3_6 cw4_3_7)).mono ?_
        rintro e w5 ⟨rfl, hw5⟩
        have cw5_0_0 : w5.cell? ⟨W.heap.size, 0, none⟩ = some (.int .i64 k) := cell_gr hw5 (by go_simp)
        have cw5_0_1 : w5.cell? ⟨W.heap.size, 1, none⟩ = some (.slice ad n cap) := cell_gr hw5 (by go_simp)
        have zw5_0 : W.heap.size < w5.heap.size := World.block_lt_of_cell? _ _ cw5_0_0
        have cw5_1_0 : w5.cell? ⟨W.heap.size + 1, 0, none⟩ = some (.int .i64 lx) := cell_gr hw5 (by go_simp)
        have cw5_1_1 : w5.cell? ⟨W.heap.size + 1, 1, none⟩ = some (.int .i64 ly) := cell_gr hw5 (by go_simp)
        have cw5_1_2 : w5.cell? ⟨W.heap.size + 1, 2, none⟩ = some (.int .i64 hx) := cell_gr hw5 (by go_simp)
        have cw5_1_3 : w5.cell? ⟨W.heap.size + 1, 3, none⟩ = some (.int .i64 hy) := cell_gr hw5 (by go_simp)
        have zw5_1 : W.heap.size + 1 < w5.heap.size := World.block_lt_of_cell? _ _ cw5_1_0
        have cw5_2_0 : w5.cell? ⟨W.heap.size + 1 + 1, 0, none⟩ = some (.int .i64 mx) := cell_gr hw5 (by go_simp)
        have cw5_2_1 : w5.cell? ⟨W.heap.size + 1 + 1, 1, none⟩ = some (.int .i64 my) := cell_gr hw5 (by go_simp)
        have cw5_2_2 : w5.cell? ⟨W.heap.size + 1 + 1, 2, none⟩ = some (.int .i64 nx) := cell_gr hw5 (by go_simp)
        have cw5_2_3 : w5.cell? ⟨W.heap.size + 1 + 1, 3, none⟩ = some (.int .i64 ny) := cell_gr hw5 (by go_simp)
        have zw5_2 : W.heap.size + 1 + 1 < w5.heap.size := World.block_lt_of_cell? _ _ cw5_2_0
        have cw5_3_0 : w5.cell? ⟨w3.heap.size, 0, none⟩ = some (.int .i64 lx) := cell_gr hw5 (by go_simp)
        have cw5_3_1 : w5.cell? ⟨w3.heap.size, 1, none⟩ = some (.int .i64 ly) := cell_gr hw5 (by go_simp)
        have cw5_3_2 : w5.cell? ⟨w3.heap.size, 2, none⟩ = some (.int .i64 hx) := cell_gr hw5 (by go_simp)
        have cw5_3_3 : w5.cell? ⟨w3.heap.size, 3, none⟩ = some (.int .i64 hy) := cell_gr hw5 (by go_simp)
        have cw5_3_4 : w5.cell? ⟨w3.heap.size, 4, none⟩ = some (.int .i64 mx) := cell_gr hw5 (by go_simp)
        have cw5_3_5 : w5.cell? ⟨w3.heap.size, 5, none⟩ = some (.int .i64 my) := cell_gr hw5 (by go_simp)
        have cw5_3_6 : w5.cell? ⟨w3.heap.size, 6, none⟩ = some (.int .i64 nx) := cell_gr hw5 (by go_simp)
        have cw5_3_7 : w5.cell? ⟨w3.heap.size, 7, none⟩ = some (.int .i64 ny) := cell_gr hw5 (by go_simp)
        have zw5_3 : w3.heap.size < w5.heap.size := World.block_lt_of_cell? _ _ cw5_3_0
        have gw5 : Gr W w5 := Gr.trans (by have gg := gw4; have gs := gg.size; go_grown) hw5
        clear hw5 gw4 zw4_0 cw4_0_0 cw4_0_1 zw4_1 cw4_1_0 cw4_1_1 cw4_1_2 cw4_1_3 zw4_2 cw4_2_0 cw4_2_1 cw4_2_2 cw4_2_3 zw4_3 cw4_3_0 cw4_3_1 cw4_3_2 cw4_3_3 cw4_3_4 cw4_3_5 cw4_3_6 cw4_3_7
        go_wp2_with fail
        generalize hhw6 : (w5.alloc (.cells #[.int .i64 ux, .int .i64 uy, .int .i64 vx, .int .i64 vy] 28)) = w6
        have cw6_0_0 : w6.cell? ⟨W.heap.size, 0, none⟩ = some (.int .i64 k) := by subst hhw6; go_simp
        have cw6_0_1 : w6.cell? ⟨W.heap.size, 1, none⟩ = some (.slice ad n cap) := by subst hhw6; go_simp
        have zw6_0 : W.heap.size < w6.heap.size := World.block_lt_of_cell? _ _ cw6_0_0
        have cw6_1_0 : w6.cell? ⟨W.heap.size + 1, 0, none⟩ = some (.int .i64 lx) := by subst hhw6; go_simp
        have cw6_1_1 : w6.cell? ⟨W.heap.size + 1, 1, none⟩ = some (.int .i64 ly) := by subst hhw6; go_simp
        have cw6_1_2 : w6.cell? ⟨W.heap.size + 1, 2, none⟩ = some (.int .i64 hx) := by subst hhw6; go_simp
        have cw6_1_3 : w6.cell? ⟨W.heap.size + 1, 3, none⟩ = some (.int .i64 hy) := by subst hhw6; go_simp
        have zw6_1 : W.heap.size + 1 < w6.heap.size := World.block_lt_of_cell? _ _ cw6_1_0
        have cw6_2_0 : w6.cell? ⟨W.heap.size + 1 + 1, 0, none⟩ = some (.int .i64 mx) := by subst hhw6; go_simp
        have cw6_2_1 : w6.cell? ⟨W.heap.size + 1 + 1, 1, none⟩ = some (.int .i64 my) := by subst hhw6; go_simp
        have cw6_2_2 : w6.cell? ⟨W.heap.size + 1 + 1, 2, none⟩ = some (.int .i64 nx) := by subst hhw6; go_simp
        have cw6_2_3 : w6.cell? ⟨W.heap.size + 1 + 1, 3, none⟩ = some (.int .i64 ny) := by subst hhw6; go_simp
        have zw6_2 : W.heap.size + 1 + 1 < w6.heap.size := World.block_lt_of_cell? _ _ cw6_2_0
        have cw6_3_0 : w6.cell? ⟨w5.heap.size, 0, none⟩ = some (.int .i64 ux) := by subst hhw6; go_simp
        have cw6_3_1 : w6.cell? ⟨w5.heap.size, 1, none⟩ = some (.int .i64 uy) := by subst hhw6; go_simp
        have cw6_3_2 : w6.cell? ⟨w5.heap.size, 2, none⟩ = some (.int .i64 vx) := by subst hhw6; go_simp
        have cw6_3_3 : w6.cell? ⟨w5.heap.size, 3, none⟩ = some (.int .i64 vy) := by subst hhw6; go_simp
        have zw6_3 : w5.heap.size < w6.heap.size := World.block_lt_of_cell? _ _ cw6_3_0
        have gw6 : Gr W w6 := by subst hhw6; have gg := gw5; have gs := gg.size; go_grown
        clear hhw6 gw5 zw5_0 cw5_0_0 cw5_0_1 zw5_1 cw5_1_0 cw5_1_1 cw5_1_2 cw5_1_3 zw5_2 cw5_2_0 cw5_2_1 cw5_2_2 cw5_2_3 zw5_3 cw5_3_0 cw5_3_1 cw5_3_2 cw5_3_3 cw5_3_4 cw5_3_5 cw5_3_6 cw5_3_7
        go_wp2_with fail
        go_at_call 9
        refine ((HN1.out _ gw6 cw6_0_0 cw6_0_1)).mono ?_
        rintro e w7 ⟨rfl, hw7⟩
        have cw7_0_0 : w7.cell? ⟨W.heap.size, 0, none⟩ = some (.int .i64 k) := cell_gr hw7 (by go_simp)
        have cw7_0_1 : w7.cell? ⟨W.heap.size, 1, none⟩ = some (.slice ad n cap) := cell_gr hw7 (by go_simp)
        have zw7_0 : W.heap.size < w7.heap.size := World.block_lt_of_cell? _ _ cw7_0_0
        have cw7_1_0 : w7.cell? ⟨W.heap.size + 1, 0, none⟩ = some (.int .i64 lx) := cell_gr hw7 (by go_simp)
        have cw7_1_1 : w7.cell? ⟨W.heap.size + 1, 1, none⟩ = some (.int .i64 ly) := cell_gr hw7 (by go_simp)
        have cw7_1_2 : w7.cell? ⟨W.heap.size + 1, 2, none⟩ = some (.int .i64 hx) := cell_gr hw7 (by go_simp)
        have cw7_1_3 : w7.cell? ⟨W.heap.size + 1, 3, none⟩ = some (.int .i64 hy) := cell_gr hw7 (by go_simp)
        have zw7_1 : W.heap.size + 1 < w7.heap.size := World.block_lt_of_cell? _ _ cw7_1_0
        have cw7_2_0 : w7.cell? ⟨W.heap.size + 1 + 1, 0, none⟩ = some (.int .i64 mx) := cell_gr hw7 (by go_simp)
        have cw7_2_1 : w7.cell? ⟨W.heap.size + 1 + 1, 1, none⟩ = some (.int .i64 my) := cell_gr hw7 (by go_simp)
        have cw7_2_2 : w7.cell? ⟨W.heap.size + 1 + 1, 2, none⟩ = some (.int .i64 nx) := cell_gr hw7 (by go_simp)
        have cw7_2_3 : w7.cell? ⟨W.heap.size + 1 + 1, 3, none⟩ = some (.int .i64 ny) := cell_gr hw7 (by go_simp)
        have zw7_2 : W.heap.size + 1 + 1 < w7.heap.size := World.block_lt_of_cell? _ _ cw7_2_0
        have cw7_3_0 : w7.cell? ⟨w5.heap.size, 0, none⟩ = some (.int .i64 ux) := cell_gr hw7 (by go_simp)
        have cw7_3_1 : w7.cell? ⟨w5.heap.size, 1, none⟩ = some (.int .i64 uy) := cell_gr hw7 (by go_simp)
        have cw7_3_2 : w7.cell? ⟨w5.heap.size, 2, none⟩ = some (.int .i64 vx) := cell_gr hw7 (by go_simp)
        have cw7_3_3 : w7.cell? ⟨w5.heap.size, 3, none⟩ = some (.int .i64 vy) := cell_gr hw7 (by go_simp)
        have zw7_3 : w5.heap.size < w7.heap.size := World.block_lt_of_cell? _ _ cw7_3_0
        have gw7 : Gr W w7 := Gr.trans (by have gg := gw6; have gs := gg.size; go_grown) hw7
        clear hw7 gw6 zw6_0 cw6_0_0 cw6_0_1 zw6_1 cw6_1_0 cw6_1_1 cw6_1_2 cw6_1_3 zw6_2 cw6_2_0 cw6_2_1 cw6_2_2 cw6_2_3 zw6_3 cw6_3_0 cw6_3_1 cw6_3_2 cw6_3_3
        go_wp2_with fail
        go_at_call 11
        refine ((HN3.out _ gw7 cw7_0_0 cw7_0_1)).mono ?_
        rintro e w8 ⟨rfl, hw8⟩
        have cw8_0_0 : w8.cell? ⟨W.heap.size, 0, none⟩ = some (.int .i64 k) := cell_gr hw8 (by go_simp)
        have cw8_0_1 : w8.cell? ⟨W.heap.size, 1, none⟩ = some (.slice ad n cap) := cell_gr hw8 (by go_simp)
        have zw8_0 : W.heap.size < w8.heap.size := World.block_lt_of_cell? _ _ cw8_0_0
        have cw8_1_0 : w8.cell? ⟨W.heap.size + 1, 0, none⟩ = some (.int .i64 lx) := cell_gr hw8 (by go_simp)
        have cw8_1_1 : w8.cell? ⟨W.heap.size + 1, 1, none⟩ = some (.int .i64 ly) := cell_gr hw8 (by go_simp)
        have cw8_1_2 : w8.cell? ⟨W.heap.size + 1, 2, none⟩ = some (.int .i64 hx) := cell_gr hw8 (by go_simp)
        have cw8_1_3 : w8.cell? ⟨W.heap.size + 1, 3, none⟩ = some (.int .i64 hy) := cell_gr hw8 (by go_simp)
        have zw8_1 : W.heap.size + 1 < w8.heap.size := World.block_lt_of_cell? _ _ cw8_1_0
        have cw8_2_0 : w8.cell? ⟨W.heap.size + 1 + 1, 0, none⟩ = some (.int .i64 mx) := cell_gr hw8 (by go_simp)
        have cw8_2_1 : w8.cell? ⟨W.heap.size + 1 + 1, 1, none⟩ = some (.int .i64 my) := cell_gr hw8 (by go_simp)
        have cw8_2_2 : w8.cell? ⟨W.heap.size + 1 + 1, 2, none⟩ = some (.int .i64 nx) := cell_gr hw8 (by go_simp)
        have cw8_2_3 : w8.cell? ⟨W.heap.size + 1 + 1, 3, none⟩ = some (.int .i64 ny) := cell_gr hw8 (by go_simp)
        have zw8_2 : W.heap.size + 1 + 1 < w8.heap.size := World.block_lt_of_cell? _ _ cw8_2_0
        have cw8_3_0 : w8.cell? ⟨w5.heap.size, 0, none⟩ = some (.int .i64 ux) := cell_gr hw8 (by go_simp)
        have cw8_3_1 : w8.cell? ⟨w5.heap.size, 1, none⟩ = some (.int .i64 uy) := cell_gr hw8 (by go_simp)
        have cw8_3_2 : w8.cell? ⟨w5.heap.size, 2, none⟩ = some (.int .i64 vx) := cell_gr hw8 (by go_simp)
        have cw8_3_3 : w8.cell? ⟨w5.heap.size, 3, none⟩ = some (.int .i64 vy) := cell_gr hw8 (by go_simp)
        have zw8_3 : w5.heap.size < w8.heap.size := World.block_lt_of_cell? _ _ cw8_3_0
        have gw8 : Gr W w8 := Gr.trans (by have gg := gw7; have gs := gg.size; go_grown) hw8
        clear hw8 gw7 zw7_0 cw7_0_0 cw7_0_1 zw7_1 cw7_1_0 cw7_1_1 cw7_1_2 cw7_1_3 zw7_2 cw7_2_0 cw7_2_1 cw7_2_2 cw7_2_3 zw7_3 cw7_3_0 cw7_3_1 cw7_3_2 cw7_3_3
        go_wp2_with fail
        go_at_call 11
        refine ((HN4.out _ gw8 cw8_0_0 cw8_0_1)).mono ?_
        rintro e w9 ⟨rfl, hw9⟩
        have cw9_0_0 : w9.cell? ⟨W.heap.size, 0, none⟩ = some (.int .i64 k) := cell_gr hw9 (by go_simp)
        have cw9_0_1 : w9.cell? ⟨W.heap.size, 1, none⟩ = some (.slice ad n cap) := cell_gr hw9 (by go_simp)
        have zw9_0 : W.heap.size < w9.heap.size := World.block_lt_of_cell? _ _ cw9_0_0
        have cw9_1_0 : w9.cell? ⟨W.heap.size + 1, 0, none⟩ = some (.int .i64 lx) := cell_gr hw9 (by go_simp)
        have cw9_1_1 : w9.cell? ⟨W.heap.size + 1, 1, none⟩ = some (.int .i64 ly) := cell_gr hw9 (by go_simp)
        have cw9_1_2 : w9.cell? ⟨W.heap.size + 1, 2, none⟩ = some (.int .i64 hx) := cell_gr hw9 (by go_simp)
        have cw9_1_3 : w9.cell? ⟨W.heap.size + 1, 3, none⟩ = some (.int .i64 hy) := cell_gr hw9 (by go_simp)
        have zw9_1 : W.heap.size + 1 < w9.heap.size := World.block_lt_of_cell? _ _ cw9_1_0
        have cw9_2_0 : w9.cell? ⟨W.heap.size + 1 + 1, 0, none⟩ = some (.int .i64 mx) := cell_gr hw9 (by go_simp)
        have cw9_2_1 : w9.cell? ⟨W.heap.size + 1 + 1, 1, none⟩ = some (.int .i64 my) := cell_gr hw9 (by go_simp)
        have cw9_2_2 : w9.cell? ⟨W.heap.size + 1 + 1, 2, none⟩ = some (.int .i64 nx) := cell_gr hw9 (by go_simp)
        have cw9_2_3 : w9.cell? ⟨W.heap.size + 1 + 1, 3, none⟩ = some (.int .i64 ny) := cell_gr hw9 (by go_simp)
        have zw9_2 : W.heap.size + 1 + 1 < w9.heap.size := World.block_lt_of_cell? _ _ cw9_2_0
        have cw9_3_0 : w9.cell? ⟨w5.heap.size, 0, none⟩ = some (.int .i64 ux) := cell_gr hw9 (by go_simp)
        have cw9_3_1 : w9.cell? ⟨w5.heap.size, 1, none⟩ = some (.int .i64 uy) := cell_gr hw9 (by go_simp)
        have cw9_3_2 : w9.cell? ⟨w5.heap.size, 2, none⟩ = some (.int .i64 vx) := cell_gr hw9 (by go_simp)
        have cw9_3_3 : w9.cell? ⟨w5.heap.size, 3, none⟩ = some (.int .i64 vy) := cell_gr hw9 (by go_simp)
        have zw9_3 : w5.heap.size < w9.heap.size := World.block_lt_of_cell? _ _ cw9_3_0
        have gw9 : Gr W w9 := Gr.trans (by have gg := gw8; have gs := gg.size; go_grown) hw9
        clear hw9 gw8 zw8_0 cw8_0_0 cw8_0_1 zw8_1 cw8_1_0 cw8_1_1 cw8_1_2 cw8_1_3 zw8_2 cw8_2_0 cw8_2_1 cw8_2_2 cw8_2_3 zw8_3 cw8_3_0 cw8_3_1 cw8_3_2 cw8_3_3
        go_wp2_with fail
        go_at_call 11
        refine ((HN3.out _ gw9 cw9_0_0 cw9_0_1)).mono ?_
        rintro e w10 ⟨rfl, hw10⟩
        have cw10_0_0 : w10.cell? ⟨W.heap.size, 0, none⟩ = some (.int .i64 k) := cell_gr hw10 (by go_simp)
        have cw10_0_1 : w10.cell? ⟨W.heap.size, 1, none⟩ = some (.slice ad n cap) := cell_gr hw10 (by go_simp)
        have zw10_0 : W.heap.size < w10.heap.size := World.block_lt_of_cell? _ _ cw10_0_0
        have cw10_1_0 : w10.cell? ⟨W.heap.size + 1, 0, none⟩ = some (.int .i64 lx) := cell_gr hw10 (by go_simp)
        have cw10_1_1 : w10.cell? ⟨W.heap.size + 1, 1, none⟩ = some (.int .i64 ly) := cell_gr hw10 (by go_simp)
        have cw10_1_2 : w10.cell? ⟨W.heap.size + 1, 2, none⟩ = some (.int .i64 hx) := cell_gr hw10 (by go_simp)
        have cw10_1_3 : w10.cell? ⟨W.heap.size + 1, 3, none⟩ = some (.int .i64 hy) := cell_gr hw10 (by go_simp)
        have zw10_1 : W.heap.size + 1 < w10.heap.size := World.block_lt_of_cell? _ _ cw10_1_0
        have cw10_2_0 : w10.cell? ⟨W.heap.size + 1 + 1, 0, none⟩ = some (.int .i64 mx) := cell_gr hw10 (by go_simp)
        have cw10_2_1 : w10.cell? ⟨W.heap.size + 1 + 1, 1, none⟩ = some (.int .i64 my) := cell_gr hw10 (by go_simp)
        have cw10_2_2 : w10.cell? ⟨W.heap.size + 1 + 1, 2, none⟩ = some (.int .i64 nx) := cell_gr hw10 (by go_simp)
        have cw10_2_3 : w10.cell? ⟨W.heap.size + 1 + 1, 3, none⟩ = some (.int .i64 ny) := cell_gr hw10 (by go_simp)
        have zw10_2 : W.heap.size + 1 + 1 < w10.heap.size := World.block_lt_of_cell? _ _ cw10_2_0
        have cw10_3_0 : w10.cell? ⟨w5.heap.size, 0, none⟩ = some (.int .i64 ux) := cell_gr hw10 (by go_simp)
        have cw10_3_1 : w10.cell? ⟨w5.heap.size, 1, none⟩ = some (.int .i64 uy) := cell_gr hw10 (by go_simp)
        have cw10_3_2 : w10.cell? ⟨w5.heap.size, 2, none⟩ = some (.int .i64 vx) := cell_gr hw10 (by go_simp)
        have cw10_3_3 : w10.cell? ⟨w5.heap.size, 3, none⟩ = some (.int .i64 vy) := cell_gr hw10 (by go_simp)
        have zw10_3 : w5.heap.size < w10.heap.size := World.block_lt_of_cell? _ _ cw10_3_0
        have gw10 : Gr W w10 := Gr.trans (by have gg := gw9; have gs := gg.size; go_grown) hw10
        clear hw10 gw9 zw9_0 cw9_0_0 cw9_0_1 zw9_1 cw9_1_0 cw9_1_1 cw9_1_2 cw9_1_3 zw9_2 cw9_2_0 cw9_2_1 cw9_2_2 cw9_2_3 zw9_3 cw9_3_0 cw9_3_1 cw9_3_2 cw9_3_3
        go_wp2_with fail
        go_at_call 11
        refine ((HN5.out _ gw10 cw10_0_0 cw10_0_1)).mono ?_
        rintro e w11 ⟨rfl, hw11⟩
        have cw11_0_0 : w11.cell? ⟨W.heap.size, 0, none⟩ = some (.int .i64 k) := cell_gr hw11 (by go_simp)
        have cw11_0_1 : w11.cell? ⟨W.heap.size, 1, none⟩ = some (.slice ad n cap) := cell_gr hw11 (by go_simp)
        have zw11_0 : W.heap.size < w11.heap.size := World.block_lt_of_cell? _ _ cw11_0_0
        have cw11_1_0 : w11.cell? ⟨W.heap.size + 1, 0, none⟩ = some (.int .i64 lx) := cell_gr hw11 (by go_simp)
        have cw11_1_1 : w11.cell? ⟨W.heap.size + 1, 1, none⟩ = some (.int .i64 ly) := cell_gr hw11 (by go_simp)
        have cw11_1_2 : w11.cell? ⟨W.heap.size + 1, 2, none⟩ = some (.int .i64 hx) := cell_gr hw11 (by go_simp)
        have cw11_1_3 : w11.cell? ⟨W.heap.size + 1, 3, none⟩ = some (.int .i64 hy) := cell_gr hw11 (by go_simp)
        have zw11_1 : W.heap.size + 1 < w11.heap.size := World.block_lt_of_cell? _ _ cw11_1_0
        have cw11_2_0 : w11.cell? ⟨W.heap.size + 1 + 1, 0, none⟩ = some (.int .i64 mx) := cell_gr hw11 (by go_simp)
        have cw11_2_1 : w11.cell? ⟨W.heap.size + 1 + 1, 1, none⟩ = some (.int .i64 my) := cell_gr hw11 (by go_simp)
        have cw11_2_2 : w11.cell? ⟨W.heap.size + 1 + 1, 2, none⟩ = some (.int .i64 nx) := cell_gr hw11 (by go_simp)
        have cw11_2_3 : w11.cell? ⟨W.heap.size + 1 + 1, 3, none⟩ = some (.int .i64 ny) := cell_gr hw11 (by go_simp)
        have zw11_2 : W.heap.size + 1 + 1 < w11.heap.size := World.block_lt_of_cell? _ _ cw11_2_0
        have cw11_3_0 : w11.cell? ⟨w5.heap.size, 0, none⟩ = some (.int .i64 ux) := cell_gr hw11 (by go_simp)
        have cw11_3_1 : w11.cell? ⟨w5.heap.size, 1, none⟩ = some (.int .i64 uy) := cell_gr hw11 (by go_simp)
        have cw11_3_2 : w11.cell? ⟨w5.heap.size, 2, none⟩ = some (.int .i64 vx) := cell_gr hw11 (by go_simp)
        have cw11_3_3 : w11.cell? ⟨w5.heap.size, 3, none⟩ = some (.int .i64 vy) := cell_gr hw11 (by go_simp)
        have zw11_3 : w5.heap.size < w11.heap.size := World.block_lt_of_cell? _ _ cw11_3_0
        have gw11 : Gr W w11 := Gr.trans (by have gg := gw10; have gs := gg.size; go_grown) hw11
        clear hw11 gw10 zw10_0 cw10_0_0 cw10_0_1 zw10_1 cw10_1_0 cw10_1_1 cw10_1_2 cw10_1_3 zw10_2 cw10_2_0 cw10_2_1 cw10_2_2 cw10_2_3 zw10_3 cw10_3_0 cw10_3_1 cw10_3_2 cw10_3_3
        go_wp2_with fail
        go_at_call 13
        refine ((H6.out _ gw11)).mono ?_
        rintro e w12 ⟨rfl, hw12⟩
        have cw12_0_0 : w12.cell? ⟨W.heap.size, 0, none⟩ = some (.int .i64 k) := cell_gr hw12 (by go_simp)
        have cw12_0_1 : w12.cell? ⟨W.heap.size, 1, none⟩ = some (.slice ad n cap) := cell_gr hw12 (by go_simp)
        have zw12_0 : W.heap.size < w12.heap.size := World.block_lt_of_cell? _ _ cw12_0_0
        have cw12_1_0 : w12.cell? ⟨W.heap.size + 1, 0, none⟩ = some (.int .i64 lx) := cell_gr hw12 (by go_simp)
        have cw12_1_1 : w12.cell? ⟨W.heap.size + 1, 1, none⟩ = some (.int .i64 ly) := cell_gr hw12 (by go_simp)
        have cw12_1_2 : w12.cell? ⟨W.heap.size + 1, 2, none⟩ = some (.int .i64 hx) := cell_gr hw12 (by go_simp)
        have cw12_1_3 : w12.cell? ⟨W.heap.size + 1, 3, none⟩ = some (.int .i64 hy) := cell_gr hw12 (by go_simp)
        have zw12_1 : W.heap.size + 1 < w12.heap.size := World.block_lt_of_cell? _ _ cw12_1_0
        have cw12_2_0 : w12.cell? ⟨W.heap.size + 1 + 1, 0, none⟩ = some (.int .i64 mx) := cell_gr hw12 (by go_simp)
        have cw12_2_1 : w12.cell? ⟨W.heap.size + 1 + 1, 1, none⟩ = some (.int .i64 my) := cell_gr hw12 (by go_simp)
        have cw12_2_2 : w12.cell? ⟨W.heap.size + 1 + 1, 2, none⟩ = some (.int .i64 nx) := cell_gr hw12 (by go_simp)
        have cw12_2_3 : w12.cell? ⟨W.heap.size + 1 + 1, 3, none⟩ = some (.int .i64 ny) := cell_gr hw12 (by go_simp)
        have zw12_2 : W.heap.size + 1 + 1 < w12.heap.size := World.block_lt_of_cell? _ _ cw12_2_0
        have cw12_3_0 : w12.cell? ⟨w5.heap.size, 0, none⟩ = some (.int .i64 ux) := cell_gr hw12 (by go_simp)
        have cw12_3_1 : w12.cell? ⟨w5.heap.size, 1, none⟩ = some (.int .i64 uy) := cell_gr hw12 (by go_simp)
        have cw12_3_2 : w12.cell? ⟨w5.heap.size, 2, none⟩ = some (.int .i64 vx) := cell_gr hw12 (by go_simp)
        have cw12_3_3 : w12.cell? ⟨w5.heap.size, 3, none⟩ = some (.int .i64 vy) := cell_gr hw12 (by go_simp)
        have zw12_3 : w5.heap.size < w12.heap.size := World.block_lt_of_cell? _ _ cw12_3_0
        have gw12 : Gr W w12 := Gr.trans (by have gg := gw11; have gs := gg.size; go_grown) hw12
        clear hw12 gw11 zw11_0 cw11_0_0 cw11_0_1 zw11_1 cw11_1_0 cw11_1_1 cw11_1_2 cw11_1_3 zw11_2 cw11_2_0 cw11_2_1 cw11_2_2 cw11_2_3 zw11_3 cw11_3_0 cw11_3_1 cw11_3_2 cw11_3_3
        go_wp2_with fail
        generalize hhwx : (w12.alloc (.cells #[.int .i64 p1, .int .i64 p2, .int .i64 p3, .int .i64 p4] 28)) = wx
        have cwx_0_0 : wx.cell? ⟨W.heap.size, 0, none⟩ = some (.int .i64 k) := by subst hhwx; go_simp
        have cwx_0_1 : wx.cell? ⟨W.heap.size, 1, none⟩ = some (.slice ad n cap) := by subst hhwx; go_simp
        have zwx_0 : W.heap.size < wx.heap.size := World.block_lt_of_cell? _ _ cwx_0_0
        have cwx_1_0 : wx.cell? ⟨W.heap.size + 1, 0, none⟩ = some (.int .i64 lx) := by subst hhwx; go_simp
        have cwx_1_1 : wx.cell? ⟨W.heap.size + 1, 1, none⟩ = some (.int .i64 ly) := by subst hhwx; go_simp
        have cwx_1_2 : wx.cell? ⟨W.heap.size + 1, 2, none⟩ = some (.int .i64 hx) := by subst hhwx; go_simp
        have cwx_1_3 : wx.cell? ⟨W.heap.size + 1, 3, none⟩ = some (.int .i64 hy) := by subst hhwx; go_simp
        have zwx_1 : W.heap.size + 1 < wx.heap.size := World.block_lt_of_cell? _ _ cwx_1_0
        have cwx_2_0 : wx.cell? ⟨W.heap.size + 1 + 1, 0, none⟩ = some (.int .i64 mx) := by subst hhwx; go_simp
        have cwx_2_1 : wx.cell? ⟨W.heap.size + 1 + 1, 1, none⟩ = some (.int .i64 my) := by subst hhwx; go_simp
        have cwx_2_2 : wx.cell? ⟨W.heap.size + 1 + 1, 2, none⟩ = some (.int .i64 nx) := by subst hhwx; go_simp
        have cwx_2_3 : wx.cell? ⟨W.heap.size + 1 + 1, 3, none⟩ = some (.int .i64 ny) := by subst hhwx; go_simp
        have zwx_2 : W.heap.size + 1 + 1 < wx.heap.size := World.block_lt_of_cell? _ _ cwx_2_0
        have cwx_3_0 : wx.cell? ⟨w5.heap.size, 0, none⟩ = some (.int .i64 ux) := by subst hhwx; go_simp
        have cwx_3_1 : wx.cell? ⟨w5.heap.size, 1, none⟩ = some (.int .i64 uy) := by subst hhwx; go_simp
        have cwx_3_2 : wx.cell? ⟨w5.heap.size, 2, none⟩ = some (.int .i64 vx) := by subst hhwx; go_simp
        have cwx_3_3 : wx.cell? ⟨w5.heap.size, 3, none⟩ = some (.int .i64 vy) := by subst hhwx; go_simp
        have zwx_3 : w5.heap.size < wx.heap.size := World.block_lt_of_cell? _ _ cwx_3_0
        have cwx_4_0 : wx.cell? ⟨w12.heap.size, 0, none⟩ = some (.int .i64 p1) := by subst hhwx; go_simp
        have cwx_4_1 : wx.cell? ⟨w12.heap.size, 1, none⟩ = some (.int .i64 p2) := by subst hhwx; go_simp
        have cwx_4_2 : wx.cell? ⟨w12.heap.size, 2, none⟩ = some (.int .i64 p3) := by subst hhwx; go_simp
        have cwx_4_3 : wx.cell? ⟨w12.heap.size, 3, none⟩ = some (.int .i64 p4) := by subst hhwx; go_simp
        have zwx_4 : w12.heap.size < wx.heap.size := World.block_lt_of_cell? _ _ cwx_4_0
        have gwx : Gr W wx := by subst hhwx; have gg := gw12; have gs := gg.size; go_grown
        clear hhwx gw12 zw12_0 cw12_0_0 cw12_0_1 zw12_1 cw12_1_0 cw12_1_1 cw12_1_2 cw12_1_3 zw12_2 cw12_2_0 cw12_2_1 cw12_2_2 cw12_2_3 zw12_3 cw12_3_0 cw12_3_1 cw12_3_2 cw12_3_3
        go_wp2_with fail
        go_at_call 11
        refine ((HN6.out _ gwx cwx_0_0 cwx_0_1)).mono ?_
        rintro e w13 ⟨rfl, hw13⟩
        have cw13_0_0 : w13.cell? ⟨W.heap.size, 0, none⟩ = some (.int .i64 k) := cell_gr hw13 (by go_simp)
        have cw13_0_1 : w13.cell? ⟨W.heap.size, 1, none⟩ = some (.slice ad n cap) := cell_gr hw13 (by go_simp)
        have zw13_0 : W.heap.size < w13.heap.size := World.block_lt_of_cell? _ _ cw13_0_0
        have cw13_1_0 : w13.cell? ⟨W.heap.size + 1, 0, none⟩ = some (.int .i64 lx) := cell_gr hw13 (by go_simp)
        have cw13_1_1 : w13.cell? ⟨W.heap.size + 1, 1, none⟩ = some (.int .i64 ly) := cell_gr hw13 (by go_simp)
        have cw13_1_2 : w13.cell? ⟨W.heap.size + 1, 2, none⟩ = some (.int .i64 hx) := cell_gr hw13 (by go_simp)
        have cw13_1_3 : w13.cell? ⟨W.heap.size + 1, 3, none⟩ = some (.int .i64 hy) := cell_gr hw13 (by go_simp)
        have zw13_1 : W.heap.size + 1 < w13.heap.size := World.block_lt_of_cell? _ _ cw13_1_0
        have cw13_2_0 : w13.cell? ⟨W.heap.size + 1 + 1, 0, none⟩ = some (.int .i64 mx) := cell_gr hw13 (by go_simp)
        have cw13_2_1 : w13.cell? ⟨W.heap.size + 1 + 1, 1, none⟩ = some (.int .i64 my) := cell_gr hw13 (by go_simp)
        have cw13_2_2 : w13.cell? ⟨W.heap.size + 1 + 1, 2, none⟩ = some (.int .i64 nx) := cell_gr hw13 (by go_simp)
        have cw13_2_3 : w13.cell? ⟨W.heap.size + 1 + 1, 3, none⟩ = some (.int .i64 ny) := cell_gr hw13 (by go_simp)
        have zw13_2 : W.heap.size + 1 + 1 < w13.heap.size := World.block_lt_of_cell? _ _ cw13_2_0
        have cw13_3_0 : w13.cell? ⟨w5.heap.size, 0, none⟩ = some (.int .i64 ux) := cell_gr hw13 (by go_simp)
        have cw13_3_1 : w13.cell? ⟨w5.heap.size, 1, none⟩ = some (.int .i64 uy) := cell_gr hw13 (by go_simp)
        have cw13_3_2 : w13.cell? ⟨w5.heap.size, 2, none⟩ = some (.int .i64 vx) := cell_gr hw13 (by go_simp)
        have cw13_3_3 : w13.cell? ⟨w5.heap.size, 3, none⟩ = some (.int .i64 vy) := cell_gr hw13 (by go_simp)
        have zw13_3 : w5.heap.size < w13.heap.size := World.block_lt_of_cell? _ _ cw13_3_0
        have cw13_4_0 : w13.cell? ⟨w12.heap.size, 0, none⟩ = some (.int .i64 p1) := cell_gr hw13 (by go_simp)
        have cw13_4_1 : w13.cell? ⟨w12.heap.size, 1, none⟩ = some (.int .i64 p2) := cell_gr hw13 (by go_simp)
        have cw13_4_2 : w13.cell? ⟨w12.heap.size, 2, none⟩ = some (.int .i64 p3) := cell_gr hw13 (by go_simp)
        have cw13_4_3 : w13.cell? ⟨w12.heap.size, 3, none⟩ = some (.int .i64 p4) := cell_gr hw13 (by go_simp)
        have zw13_4 : w12.heap.size < w13.heap.size := World.block_lt_of_cell? _ _ cw13_4_0
        have gw13 : Gr W w13 := Gr.trans (by have gg := gwx; have gs := gg.size; go_grown) hw13
        clear hw13 gwx zwx_0 cwx_0_0 cwx_0_1 zwx_1 cwx_1_0 cwx_1_1 cwx_1_2 cwx_1_3 zwx_2 cwx_2_0 cwx_2_1 cwx_2_2 cwx_2_3 zwx_3 cwx_3_0 cwx_3_1 cwx_3_2 cwx_3_3 zwx_4 cwx_4_0 cwx_4_1 cwx_4_2 cwx_4_3
        go_wp2_with fail
        go_at_call 9
        refine ((HN7.out _ gw13 cw13_0_0 cw13_0_1)).mono ?_
        rintro e w14 ⟨rfl, hw14⟩
        have cw14_0_0 : w14.cell? ⟨W.heap.size, 0, none⟩ = some (.int .i64 k) := cell_gr hw14 (by go_simp)
        have cw14_0_1 : w14.cell? ⟨W.heap.size, 1, none⟩ = some (.slice ad n cap) := cell_gr hw14 (by go_simp)
        have zw14_0 : W.heap.size < w14.heap.size := World.block_lt_of_cell? _ _ cw14_0_0
        have cw14_1_0 : w14.cell? ⟨W.heap.size + 1, 0, none⟩ = some (.int .i64 lx) := cell_gr hw14 (by go_simp)
        have cw14_1_1 : w14.cell? ⟨W.heap.size + 1, 1, none⟩ = some (.int .i64 ly) := cell_gr hw14 (by go_simp)
        have cw14_1_2 : w14.cell? ⟨W.heap.size + 1, 2, none⟩ = some (.int .i64 hx) := cell_gr hw14 (by go_simp)
        have cw14_1_3 : w14.cell? ⟨W.heap.size + 1, 3, none⟩ = some (.int .i64 hy) := cell_gr hw14 (by go_simp)
        have zw14_1 : W.heap.size + 1 < w14.heap.size := World.block_lt_of_cell? _ _ cw14_1_0
        have cw14_2_0 : w14.cell? ⟨W.heap.size + 1 + 1, 0, none⟩ = some (.int .i64 mx) := cell_gr hw14 (by go_simp)
        have cw14_2_1 : w14.cell? ⟨W.heap.size + 1 + 1, 1, none⟩ = some (.int .i64 my) := cell_gr hw14 (by go_simp)
        have cw14_2_2 : w14.cell? ⟨W.heap.size + 1 + 1, 2, none⟩ = some (.int .i64 nx) := cell_gr hw14 (by go_simp)
        have cw14_2_3 : w14.cell? ⟨W.heap.size + 1 + 1, 3, none⟩ = some (.int .i64 ny) := cell_gr hw14 (by go_simp)
        have zw14_2 : W.heap.size + 1 + 1 < w14.heap.size := World.block_lt_of_cell? _ _ cw14_2_0
        have cw14_3_0 : w14.cell? ⟨w5.heap.size, 0, none⟩ = some (.int .i64 ux) := cell_gr hw14 (by go_simp)
        have cw14_3_1 : w14.cell? ⟨w5.heap.size, 1, none⟩ = some (.int .i64 uy) := cell_gr hw14 (by go_simp)
        have cw14_3_2 : w14.cell? ⟨w5.heap.size, 2, none⟩ = some (.int .i64 vx) := cell_gr hw14 (by go_simp)
        have cw14_3_3 : w14.cell? ⟨w5.heap.size, 3, none⟩ = some (.int .i64 vy) := cell_gr hw14 (by go_simp)
        have zw14_3 : w5.heap.size < w14.heap.size := World.block_lt_of_cell? _ _ cw14_3_0
        have cw14_4_0 : w14.cell? ⟨w12.heap.size, 0, none⟩ = some (.int .i64 p1) := cell_gr hw14 (by go_simp)
        have cw14_4_1 : w14.cell? ⟨w12.heap.size, 1, none⟩ = some (.int .i64 p2) := cell_gr hw14 (by go_simp)
        have cw14_4_2 : w14.cell? ⟨w12.heap.size, 2, none⟩ = some (.int .i64 p3) := cell_gr hw14 (by go_simp)
        have cw14_4_3 : w14.cell? ⟨w12.heap.size, 3, none⟩ = some (.int .i64 p4) := cell_gr hw14 (by go_simp)
        have zw14_4 : w12.heap.size < w14.heap.size := World.block_lt_of_cell? _ _ cw14_4_0
        have gw14 : Gr W w14 := Gr.trans (by have gg := gw13; have gs := gg.size; go_grown) hw14
        clear hw14 gw13 zw13_0 cw13_0_0 cw13_0_1 zw13_1 cw13_1_0 cw13_1_1 cw13_1_2 cw13_1_3 zw13_2 cw13_2_0 cw13_2_1 cw13_2_2 cw13_2_3 zw13_3 cw13_3_0 cw13_3_1 cw13_3_2 cw13_3_3 zw13_4 cw13_4_0 cw13_4_1 cw13_4_2 cw13_4_3
        go_wp2_with fail
        go_at_call 11
        refine ((HN3.out _ gw14 cw14_0_0 cw14_0_1)).mono ?_
        rintro e w15 ⟨rfl, hw15⟩
        have cw15_0_0 : w15.cell? ⟨W.heap.size, 0, none⟩ = some (.int .i64 k) := cell_gr hw15 (by go_simp)
        have cw15_0_1 : w15.cell? ⟨W.heap.size, 1, none⟩ = some (.slice ad n cap) := cell_gr hw15 (by go_simp)
        have zw15_0 : W.heap.size < w15.heap.size := World.block_lt_of_cell? _ _ cw15_0_0
        have cw15_1_0 : w15.cell? ⟨W.heap.size + 1, 0, none⟩ = some (.int .i64 lx) := cell_gr hw15 (by go_simp)
        have cw15_1_1 : w15.cell? ⟨W.heap.size + 1, 1, none⟩ = some (.int .i64 ly) := cell_gr hw15 (by go_simp)
        have cw15_1_2 : w15.cell? ⟨W.heap.size + 1, 2, none⟩ = some (.int .i64 hx) := cell_gr hw15 (by go_simp)
        have cw15_1_3 : w15.cell? ⟨W.heap.size + 1, 3, none⟩ = some (.int .i64 hy) := cell_gr hw15 (by go_simp)
        have zw15_1 : W.heap.size + 1 < w15.heap.size := World.block_lt_of_cell? _ _ cw15_1_0
        have cw15_2_0 : w15.cell? ⟨W.heap.size + 1 + 1, 0, none⟩ = some (.int .i64 mx) := cell_gr hw15 (by go_simp)
        have cw15_2_1 : w15.cell? ⟨W.heap.size + 1 + 1, 1, none⟩ = some (.int .i64 my) := cell_gr hw15 (by go_simp)
        have cw15_2_2 : w15.cell? ⟨W.heap.size + 1 + 1, 2, none⟩ = some (.int .i64 nx) := cell_gr hw15 (by go_simp)
        have cw15_2_3 : w15.cell? ⟨W.heap.size + 1 + 1, 3, none⟩ = some (.int .i64 ny) := cell_gr hw15 (by go_simp)
        have zw15_2 : W.heap.size + 1 + 1 < w15.heap.size := World.block_lt_of_cell? _ _ cw15_2_0
        have cw15_3_0 : w15.cell? ⟨w5.heap.size, 0, none⟩ = some (.int .i64 ux) := cell_gr hw15 (by go_simp)
        have cw15_3_1 : w15.cell? ⟨w5.heap.size, 1, none⟩ = some (.int .i64 uy) := cell_gr hw15 (by go_simp)
        have cw15_3_2 : w15.cell? ⟨w5.heap.size, 2, none⟩ = some (.int .i64 vx) := cell_gr hw15 (by go_simp)
        have cw15_3_3 : w15.cell? ⟨w5.heap.size, 3, none⟩ = some (.int .i64 vy) := cell_gr hw15 (by go_simp)
        have zw15_3 : w5.heap.size < w15.heap.size := World.block_lt_of_cell? _ _ cw15_3_0
        have cw15_4_0 : w15.cell? ⟨w12.heap.size, 0, none⟩ = some (.int .i64 p1) := cell_gr hw15 (by go_simp)
        have cw15_4_1 : w15.cell? ⟨w12.heap.size, 1, none⟩ = some (.int .i64 p2) := cell_gr hw15 (by go_simp)
        have cw15_4_2 : w15.cell? ⟨w12.heap.size, 2, none⟩ = some (.int .i64 p3) := cell_gr hw15 (by go_simp)
        have cw15_4_3 : w15.cell? ⟨w12.heap.size, 3, none⟩ = some (.int .i64 p4) := cell_gr hw15 (by go_simp)
        have zw15_4 : w12.heap.size < w15.heap.size := World.block_lt_of_cell? _ _ cw15_4_0
        have gw15 : Gr W w15 := Gr.trans (by have gg := gw14; have gs := gg.size; go_grown) hw15
        clear hw15 gw14 zw14_0 cw14_0_0 cw14_0_1 zw14_1 cw14_1_0 cw14_1_1 cw14_1_2 cw14_1_3 zw14_2 cw14_2_0 cw14_2_1 cw14_2_2 cw14_2_3 zw14_3 cw14_3_0 cw14_3_1 cw14_3_2 cw14_3_3 zw14_4 cw14_4_0 cw14_4_1 cw14_4_2 cw14_4_3
        go_wp2_with fail
        go_at_call 14
        refine ((H7.out _)).mono ?_
        rintro e w16 ⟨rfl, hw16⟩
        have cw16_0_0 : w16.cell? ⟨W.heap.size, 0, none⟩ = some (.int .i64 k) := cell_gr hw16 (by go_simp)
        have cw16_0_1 : w16.cell? ⟨W.heap.size, 1, none⟩ = some (.slice ad n cap) := cell_gr hw16 (by go_simp)
        have zw16_0 : W.heap.size < w16.heap.size := World.block_lt_of_cell? _ _ cw16_0_0
        have cw16_1_0 : w16.cell? ⟨W.heap.size + 1, 0, none⟩ = some (.int .i64 lx) := cell_gr hw16 (by go_simp)
        have cw16_1_1 : w16.cell? ⟨W.heap.size + 1, 1, none⟩ = some (.int .i64 ly) := cell_gr hw16 (by go_simp)
        have cw16_1_2 : w16.cell? ⟨W.heap.size + 1, 2, none⟩ = some (.int .i64 hx) := cell_gr hw16 (by go_simp)
        have cw16_1_3 : w16.cell? ⟨W.heap.size + 1, 3, none⟩ = some (.int .i64 hy) := cell_gr hw16 (by go_simp)
        have zw16_1 : W.heap.size + 1 < w16.heap.size := World.block_lt_of_cell? _ _ cw16_1_0
        have cw16_2_0 : w16.cell? ⟨W.heap.size + 1 + 1, 0, none⟩ = some (.int .i64 mx) := cell_gr hw16 (by go_simp)
        have cw16_2_1 : w16.cell? ⟨W.heap.size + 1 + 1, 1, none⟩ = some (.int .i64 my) := cell_gr hw16 (by go_simp)
        have cw16_2_2 : w16.cell? ⟨W.heap.size + 1 + 1, 2, none⟩ = some (.int .i64 nx) := cell_gr hw16 (by go_simp)
        have cw16_2_3 : w16.cell? ⟨W.heap.size + 1 + 1, 3, none⟩ = some (.int .i64 ny) := cell_gr hw16 (by go_simp)
        have zw16_2 : W.heap.size + 1 + 1 < w16.heap.size := World.block_lt_of_cell? _ _ cw16_2_0
        have cw16_3_0 : w16.cell? ⟨w5.heap.size, 0, none⟩ = some (.int .i64 ux) := cell_gr hw16 (by go_simp)
        have cw16_3_1 : w16.cell? ⟨w5.heap.size, 1, none⟩ = some (.int .i64 uy) := cell_gr hw16 (by go_simp)
        have cw16_3_2 : w16.cell? ⟨w5.heap.size, 2, none⟩ = some (.int .i64 vx) := cell_gr hw16 (by go_simp)
        have cw16_3_3 : w16.cell? ⟨w5.heap.size, 3, none⟩ = some (.int .i64 vy) := cell_gr hw16 (by go_simp)
        have zw16_3 : w5.heap.size < w16.heap.size := World.block_lt_of_cell? _ _ cw16_3_0
        have cw16_4_0 : w16.cell? ⟨w12.heap.size, 0, none⟩ = some (.int .i64 p1) := cell_gr hw16 (by go_simp)
        have cw16_4_1 : w16.cell? ⟨w12.heap.size, 1, none⟩ = some (.int .i64 p2) := cell_gr hw16 (by go_simp)
        have cw16_4_2 : w16.cell? ⟨w12.heap.size, 2, none⟩ = some (.int .i64 p3) := cell_gr hw16 (by go_simp)
        have cw16_4_3 : w16.cell? ⟨w12.heap.size, 3, none⟩ = some (.int .i64 p4) := cell_gr hw16 (by go_simp)
        have zw16_4 : w12.heap.size < w16.heap.size := World.block_lt_of_cell? _ _ cw16_4_0
        have gw16 : Gr W w16 := Gr.trans (by have gg := gw15; have gs := gg.size; go_grown) hw16
        clear hw16 gw15 zw15_0 cw15_0_0 cw15_0_1 zw15_1 cw15_1_0 cw15_1_1 cw15_1_2 cw15_1_3 zw15_2 cw15_2_0 cw15_2_1 cw15_2_2 cw15_2_3 zw15_3 cw15_3_0 cw15_3_1 cw15_3_2 cw15_3_3 zw15_4 cw15_4_0 cw15_4_1 cw15_4_2 cw15_4_3
        go_wp2_with fail
        go_at_call 7
        refine ((H8.out _ gw16)).mono ?_
        rintro e w17 ⟨rfl, hw17⟩
        have cw17_0_0 : w17.cell? ⟨W.heap.size, 0, none⟩ = some (.int .i64 k) := cell_gr hw17 (by go_simp)
        have cw17_0_1 : w17.cell? ⟨W.heap.size, 1, none⟩ = some (.slice ad n cap) := cell_gr hw17 (by go_simp)
        have zw17_0 : W.heap.size < w17.heap.size := World.block_lt_of_cell? _ _ cw17_0_0
        have cw17_1_0 : w17.cell? ⟨W.heap.size + 1, 0, none⟩ = some (.int .i64 lx) := cell_gr hw17 (by go_simp)
        have cw17_1_1 : w17.cell? ⟨W.heap.size + 1, 1, none⟩ = some (.int .i64 ly) := cell_gr hw17 (by go_simp)
        have cw17_1_2 : w17.cell? ⟨W.heap.size + 1, 2, none⟩ = some (.int .i64 hx) := cell_gr hw17 (by go_simp)
        have cw17_1_3 : w17.cell? ⟨W.heap.size + 1, 3, none⟩ = some (.int .i64 hy) := cell_gr hw17 (by go_simp)
        have zw17_1 : W.heap.size + 1 < w17.heap.size := World.block_lt_of_cell? _ _ cw17_1_0
        have cw17_2_0 : w17.cell? ⟨W.heap.size + 1 + 1, 0, none⟩ = some (.int .i64 mx) := cell_gr hw17 (by go_simp)
        have cw17_2_1 : w17.cell? ⟨W.heap.size + 1 + 1, 1, none⟩ = some (.int .i64 my) := cell_gr hw17 (by go_simp)
        have cw17_2_2 : w17.cell? ⟨W.heap.size + 1 + 1, 2, none⟩ = some (.int .i64 nx) := cell_gr hw17 (by go_simp)
        have cw17_2_3 : w17.cell? ⟨W.heap.size + 1 + 1, 3, none⟩ = some (.int .i64 ny) := cell_gr hw17 (by go_simp)
        have zw17_2 : W.heap.size + 1 + 1 < w17.heap.size := World.block_lt_of_cell? _ _ cw17_2_0
        have cw17_3_0 : w17.cell? ⟨w5.heap.size, 0, none⟩ = some (.int .i64 ux) := cell_gr hw17 (by go_simp)
        have cw17_3_1 : w17.cell? ⟨w5.heap.size, 1, none⟩ = some (.int .i64 uy) := cell_gr hw17 (by go_simp)
        have cw17_3_2 : w17.cell? ⟨w5.heap.size, 2, none⟩ = some (.int .i64 vx) := cell_gr hw17 (by go_simp)
        have cw17_3_3 : w17.cell? ⟨w5.heap.size, 3, none⟩ = some (.int .i64 vy) := cell_gr hw17 (by go_simp)
        have zw17_3 : w5.heap.size < w17.heap.size := World.block_lt_of_cell? _ _ cw17_3_0
        have cw17_4_0 : w17.cell? ⟨w12.heap.size, 0, none⟩ = some (.int .i64 p1) := cell_gr hw17 (by go_simp)
        have cw17_4_1 : w17.cell? ⟨w12.heap.size, 1, none⟩ = some (.int .i64 p2) := cell_gr hw17 (by go_simp)
        have cw17_4_2 : w17.cell? ⟨w12.heap.size, 2, none⟩ = some (.int .i64 p3) := cell_gr hw17 (by go_simp)
        have cw17_4_3 : w17.cell? ⟨w12.heap.size, 3, none⟩ = some (.int .i64 p4) := cell_gr hw17 (by go_simp)
        have zw17_4 : w12.heap.size < w17.heap.size := World.block_lt_of_cell? _ _ cw17_4_0
        have gw17 : Gr W w17 := Gr.trans (by have gg := gw16; have gs := gg.size; go_grown) hw17
        clear hw17 gw16 zw16_0 cw16_0_0 cw16_0_1 zw16_1 cw16_1_0 cw16_1_1 cw16_1_2 cw16_1_3 zw16_2 cw16_2_0 cw16_2_1 cw16_2_2 cw16_2_3 zw16_3 cw16_3_0 cw16_3_1 cw16_3_2 cw16_3_3 zw16_4 cw16_4_0 cw16_4_1 cw16_4_2 cw16_4_3
        go_wp2_with fail
        go_ret
        exact ⟨rfl, gw17⟩
      · obtain rfl : bm = true := f3 rfl rfl
        clear f1 f2 f3 f4
        go_enter Tryd.func3, Tryd.ntmps3
        go_wp2_with fail
        go_at_call 5
        refine ((H1.out _ (by go_grown))).mono ?_
        rintro e w1 ⟨rfl, hw1⟩
        have cw1_0_0 : w1.cell? ⟨W.heap.size, 0, none⟩ = some (.int .i64 k) := cell_gr hw1 (by go_simp)
        have cw1_0_1 : w1.cell? ⟨W.heap.size, 1, none⟩ = some (.slice ad n cap) := cell_gr hw1 (by go_simp)
        have zw1_0 : W.heap.size < w1.heap.size := World.block_lt_of_cell? _ _ cw1_0_0
        have cw1_1_0 : w1.cell? ⟨W.heap.size + 1, 0, none⟩ = some (.int .i64 lx) := cell_gr hw1 (by go_simp)
        have cw1_1_1 : w1.cell? ⟨W.heap.size + 1, 1, none⟩ = some (.int .i64 ly) := cell_gr hw1 (by go_simp)
        have cw1_1_2 : w1.cell? ⟨W.heap.size + 1, 2, none⟩ = some (.int .i64 hx) := cell_gr hw1 (by go_simp)
        have cw1_1_3 : w1.cell? ⟨W.heap.size + 1, 3, none⟩ = some (.int .i64 hy) := cell_gr hw1 (by go_simp)
        have zw1_1 : W.heap.size + 1 < w1.heap.size := World.block_lt_of_cell? _ _ cw1_1_0
        have cw1_2_0 : w1.cell? ⟨W.heap.size + 1 + 1, 0, none⟩ = some (.int .i64 mx) := cell_gr hw1 (by go_simp)
        have cw1_2_1 : w1.cell? ⟨W.heap.size + 1 + 1, 1, none⟩ = some (.int .i64 my) := cell_gr hw1 (by go_simp)
        have cw1_2_2 : w1.cell? ⟨W.heap.size + 1 + 1, 2, none⟩ = some (.int .i64 nx) := cell_gr hw1 (by go_simp)
        have cw1_2_3 : w1.cell? ⟨W.heap.size + 1 + 1, 3, none⟩ = some (.int .i64 ny) := cell_gr hw1 (by go_simp)
        have zw1_2 : W.heap.size + 1 + 1 < w1.heap.size := World.block_lt_of_cell? _ _ cw1_2_0
        have gw1 : Gr W w1 := Gr.trans (by go_grown) hw1
        clear hw1
        go_wp2_with fail
        go_at_call 6
        refine ((H2.out _)).mono ?_
        rintro e w2 ⟨rfl, hw2⟩
        have cw2_0_0 : w2.cell? ⟨W.heap.size, 0, none⟩ = some (.int .i64 k) := cell_gr hw2 (by go_simp)
        have cw2_0_1 : w2.cell? ⟨W.heap.size, 1, none⟩ = some (.slice ad n cap) := cell_gr hw2 (by go_simp)
        have zw2_0 : W.heap.size < w2.heap.size := World.block_lt_of_cell? _ _ cw2_0_0
        have cw2_1_0 : w2.cell? ⟨W.heap.size + 1, 0, none⟩ = some (.int .i64 lx) := cell_gr hw2 (by go_simp)
        have cw2_1_1 : w2.cell? ⟨W.heap.size + 1, 1, none⟩ = some (.int .i64 ly) := cell_gr hw2 (by go_simp)
        have cw2_1_2 : w2.cell? ⟨W.heap.size + 1, 2, none⟩ = some (.int .i64 hx) := cell_gr hw2 (by go_simp)
        have cw2_1_3 : w2.cell? ⟨W.heap.size + 1, 3, none⟩ = some (.int .i64 hy) := cell_gr hw2 (by go_simp)
        have zw2_1 : W.heap.size + 1 < w2.heap.size := World.block_lt_of_cell? _ _ cw2_1_0
        have cw2_2_0 : w2.cell? ⟨W.heap.size + 1 + 1, 0, none⟩ = some (.int .i64 mx) := cell_gr hw2 (by go_simp)
        have cw2_2_1 : w2.cell? ⟨W.heap.size + 1 + 1, 1, none⟩ = some (.int .i64 my) := cell_gr hw2 (by go_simp)
        have cw2_2_2 : w2.cell? ⟨W.heap.size + 1 + 1, 2, none⟩ = some (.int .i64 nx) := cell_gr hw2 (by go_simp)
        have cw2_2_3 : w2.cell? ⟨W.heap.size + 1 + 1, 3, none⟩ = some (.int .i64 ny) := cell_gr hw2 (by go_simp)
        have zw2_2 : W.heap.size + 1 + 1 < w2.heap.size := World.block_lt_of_cell? _ _ cw2_2_0
        have gw2 : Gr W w2 := Gr.trans (by have gg := gw1; have gs := gg.size; go_grown) hw2
        clear hw2 gw1 zw1_0 cw1_0_0 cw1_0_1 zw1_1 cw1_1_0 cw1_1_1 cw1_1_2 cw1_1_3 zw1_2 cw1_2_0 cw1_2_1 cw1_2_2 cw1_2_3
        go_wp2_with fail
        go_at_call 6
        refine ((H3.out _)).mono ?_
        rintro e w3 ⟨rfl, hw3⟩
        have cw3_0_0 : w3.cell? ⟨W.heap.size, 0, none⟩ = some (.int .i64 k) := cell_gr hw3 (by go_simp)
        have cw3_0_1 : w3.cell? ⟨W.heap.size, 1, none⟩ = some (.slice ad n cap) := cell_gr hw3 (by go_simp)
        have zw3_0 : W.heap.size < w3.heap.size := World.block_lt_of_cell? _ _ cw3_0_0
        have cw3_1_0 : w3.cell? ⟨W.heap.size + 1, 0, none⟩ = some (.int .i64 lx) := cell_gr hw3 (by go_simp)
        have cw3_1_1 : w3.cell? ⟨W.heap.size + 1, 1, none⟩ = some (.int .i64 ly) := cell_gr hw3 (by go_simp)
        have cw3_1_2 : w3.cell? ⟨W.heap.size + 1, 2, none⟩ = some (.int .i64 hx) := cell_gr hw3 (by go_simp)
        have cw3_1_3 : w3.cell? ⟨W.heap.size + 1, 3, none⟩ = some (.int .i64 hy) := cell_gr hw3 (by go_simp)
        have zw3_1 : W.heap.size + 1 < w3.heap.size := World.block_lt_of_cell? _ _ cw3_1_0
        have cw3_2_0 : w3.cell? ⟨W.heap.size + 1 + 1, 0, none⟩ = some (.int .i64 mx) := cell_gr hw3 (by go_simp)
        have cw3_2_1 : w3.cell? ⟨W.heap.size + 1 + 1, 1, none⟩ = some (.int .i64 my) := cell_gr hw3 (by go_simp)
        have cw3_2_2 : w3.cell? ⟨W.heap.size + 1 + 1, 2, none⟩ = some (.int .i64 nx) := cell_gr hw3 (by go_simp)
        have cw3_2_3 : w3.cell? ⟨W.heap.size + 1 + 1, 3, none⟩ = some (.int .i64 ny) := cell_gr hw3 (by go_simp)
        have zw3_2 : W.heap.size + 1 + 1 < w3.heap.size := World.block_lt_of_cell? _ _ cw3_2_0
        have gw3 : Gr W w3 := Gr.trans (by have gg := gw2; have gs := gg.size; go_grown) hw3
        clear hw3 gw2 zw2_0 cw2_0_0 cw2_0_1 zw2_1 cw2_1_0 cw2_1_1 cw2_1_2 cw2_1_3 zw2_2 cw2_2_0 cw2_2_1 cw2_2_2 cw2_2_3
        go_wp2_with fail
        generalize hhw4 : (w3.alloc (.cells #[.int .i64 lx, .int .i64 ly, .int .i64 hx, .int .i64 hy, .int .i64 mx, .int .i64 my, .int .i64 nx, .int .i64 ny] 28)) = w4
        have cw4_0_0 : w4.cell? ⟨W.heap.size, 0, none⟩ = some (.int .i64 k) := by subst hhw4; go_simp
        have cw4_0_1 : w4.cell? ⟨W.heap.size, 1, none⟩ = some (.slice ad n cap) := by subst hhw4; go_simp
        have zw4_0 : W.heap.size < w4.heap.size := World.block_lt_of_cell? _ _ cw4_0_0
        have cw4_1_0 : w4.cell? ⟨W.heap.size + 1, 0, none⟩ = some (.int .i64 lx) := by subst hhw4; go_simp
        have cw4_1_1 : w4.cell? ⟨W.heap.size + 1, 1, none⟩ = some (.int .i64 ly) := by subst hhw4; go_simp
        have cw4_1_2 : w4.cell? ⟨W.heap.size + 1, 2, none⟩ = some (.int .i64 hx) := by subst hhw4; go_simp
        have cw4_1_3 : w4.cell? ⟨W.heap.size + 1, 3, none⟩ = some (.int .i64 hy) := by subst hhw4; go_simp
        have zw4_1 : W.heap.size + 1 < w4.heap.size := World.block_lt_of_cell? _ _ cw4_1_0
        have cw4_2_0 : w4.cell? ⟨W.heap.size + 1 + 1, 0, none⟩ = some (.int .i64 mx) := by subst hhw4; go_simp
        have cw4_2_1 : w4.cell? ⟨W.heap.size + 1 + 1, 1, none⟩ = some (.int .i64 my) := by subst hhw4; go_simp
        have cw4_2_2 : w4.cell? ⟨W.heap.size + 1 + 1, 2, none⟩ = some (.int .i64 nx) := by subst hhw4; go_simp
        have cw4_2_3 : w4.cell? ⟨W.heap.size + 1 + 1, 3, none⟩ = some (.int .i64 ny) := by subst hhw4; go_simp
        have zw4_2 : W.heap.size + 1 + 1 < w4.heap.size := World.block_lt_of_cell? _ _ cw4_2_0
        have cw4_3_0 : w4.cell? ⟨w3.heap.size, 0, none⟩ = some (.int .i64 lx) := by subst hhw4; go_simp
        have cw4_3_1 : w4.cell? ⟨w3.heap.size, 1, none⟩ = some (.int .i64 ly) := by subst hhw4; go_simp
        have cw4_3_2 : w4.cell? ⟨w3.heap.size, 2, none⟩ = some (.int .i64 hx) := by subst hhw4; go_simp
        have cw4_3_3 : w4.cell? ⟨w3.heap.size, 3, none⟩ = some (.int .i64 hy) := by subst hhw4; go_simp
        have cw4_3_4 : w4.cell? ⟨w3.heap.size, 4, none⟩ = some (.int .i64 mx) := by subst hhw4; go_simp
        have cw4_3_5 : w4.cell? ⟨w3.heap.size, 5, none⟩ = some (.int .i64 my) := by subst hhw4; go_simp
        have cw4_3_6 : w4.cell? ⟨w3.heap.size, 6, none⟩ = some (.int .i64 nx) := by subst hhw4; go_simp
        have cw4_3_7 : w4.cell? ⟨w3.heap.size, 7, none⟩ = some (.int .i64 ny) := by subst hhw4; go_simp
        have zw4_3 : w3.heap.size < w4.heap.size := World.block_lt_of_cell? _ _ cw4_3_0
        have gw4 : Gr W w4 := by subst hhw4; have gg := gw3; have gs := gg.size; go_grown
        clear hhw4 gw3 zw3_0 cw3_0_0 cw3_0_1 zw3_1 cw3_1_0 cw3_1_1 cw3_1_2 cw3_1_3 zw3_2 cw3_2_0 cw3_2_1 cw3_2_2 cw3_2_3
        go_wp2_with fail
        go_at_call 8
        refine ((H4.out _ _ cw4_3_0 cw4_3_1 cw4_3_2 cw4_3_3 cw4_3_4 cw4_3_5 cw4_3_6 cw4_3_7)).mono ?_
        rintro e w5 ⟨rfl, hw5⟩
        have cw5_0_0 : w5.cell? ⟨W.heap.size, 0, none⟩ = some (.int .i64 k) := cell_gr hw5 (by go_simp)
        have cw5_0_1 : w5.cell? ⟨W.heap.size, 1, none⟩ = some (.slice ad n cap) := cell_gr hw5 (by go_simp)
        have zw5_0 : W.heap.size < w5.heap.size := World.block_lt_of_cell? _ _ cw5_0_0
        have cw5_1_0 : w5.cell? ⟨W.heap.size + 1, 0, none⟩ = some (.int .i64 lx) := cell_gr hw5 (by go_simp)
        have cw5_1_1 : w5.cell? ⟨W.heap.size + 1, 1, none⟩ = some (.int .i64 ly) := cell_gr hw5 (by go_simp)
        have cw5_1_2 : w5.cell? ⟨W.heap.size + 1, 2, none⟩ = some (.int .i64 hx) := cell_gr hw5 (by go_simp)
        have cw5_1_3 : w5.cell? ⟨W.heap.size + 1, 3, none⟩ = some (.int .i64 hy) := cell_gr hw5 (by go_simp)
        have zw5_1 : W.heap.size + 1 < w5.heap.size := World.block_lt_of_cell? _ _ cw5_1_0
        have cw5_2_0 : w5.cell? ⟨W.heap.size + 1 + 1, 0, none⟩ = some (.int .i64 mx) := cell_gr hw5 (by go_simp)
        have cw5_2_1 : w5.cell? ⟨W.heap.size + 1 + 1, 1, none⟩ = some (.int .i64 my) := cell_gr hw5 (by go_simp)
        have cw5_2_2 : w5.cell? ⟨W.heap.size + 1 + 1, 2, none⟩ = some (.int .i64 nx) := cell_gr hw5 (by go_simp)
        have cw5_2_3 : w5.cell? ⟨W.heap.size + 1 + 1, 3, none⟩ = some (.int .i64 ny) := cell_gr hw5 (by go_simp)
        have zw5_2 : W.heap.size + 1 + 1 < w5.heap.size := World.block_lt_of_cell? _ _ cw5_2_0
        have cw5_3_0 : w5.cell? ⟨w3.heap.size, 0, none⟩ = some (.int .i64 lx) := cell_gr hw5 (by go_simp)
        have cw5_3_1 : w5.cell? ⟨w3.heap.size, 1, none⟩ = some (.int .i64 ly) := cell_gr hw5 (by go_simp)
        have cw5_3_2 : w5.cell? ⟨w3.heap.size, 2, none⟩ = some (.int .i64 hx) := cell_gr hw5 (by go_simp)
        have cw5_3_3 : w5.cell? ⟨w3.heap.size, 3, none⟩ = some (.int .i64 hy) := cell_gr hw5 (by go_simp)
        have cw5_3_4 : w5.cell? ⟨w3.heap.size, 4, none⟩ = some (.int .i64 mx) := cell_gr hw5 (by go_simp)
        have cw5_3_5 : w5.cell? ⟨w3.heap.size, 5, none⟩ = some (.int .i64 my) := cell_gr hw5 (by go_simp)
        have cw5_3_6 : w5.cell? ⟨w3.heap.size, 6, none⟩ = some (.int .i64 nx) := cell_gr hw5 (by go_simp)
        have cw5_3_7 : w5.cell? ⟨w3.heap.size, 7, none⟩ = some (.int .i64 ny) := cell_gr hw5 (by go_simp)
        have zw5_3 : w3.heap.size < w5.heap.size := World.block_lt_of_cell? _ _ cw5_3_0
        have gw5 : Gr W w5 := Gr.trans (by have gg := gw4; have gs := gg.size; go_grown) hw5
        clear hw5 gw4 zw4_0 cw4_0_0 cw4_0_1 zw4_1 cw4_1_0 cw4_1_1 cw4_1_2 cw4_1_3 zw4_2 cw4_2_0 cw4_2_1 cw4_2_2 cw4_2_3 zw4_3 cw4_3_0 cw4_3_1 cw4_3_2 cw4_3_3 cw4_3_4 cw4_3_5 cw4_3_6 cw4_3_7
        go_wp2_with fail
        generalize hhw6 : (w5.alloc (.cells #[.int .i64 ux, .int .i64 uy, .int .i64 vx, .int .i64 vy] 28)) = w6
        have cw6_0_0 : w6.cell? ⟨W.heap.size, 0, none⟩ = some (.int .i64 k) := by subst hhw6; go_simp
        have cw6_0_1 : w6.cell? ⟨W.heap.size, 1, none⟩ = some (.slice ad n cap) := by subst hhw6; go_simp
        have zw6_0 : W.heap.size < w6.heap.size := World.block_lt_of_cell? _ _ cw6_0_0
        have cw6_1_0 : w6.cell? ⟨W.heap.size + 1, 0, none⟩ = some (.int .i64 lx) := by subst hhw6; go_simp
        have cw6_1_1 : w6.cell? ⟨W.heap.size + 1, 1, none⟩ = some (.int .i64 ly) := by subst hhw6; go_simp
        have cw6_1_2 : w6.cell? ⟨W.heap.size + 1, 2, none⟩ = some (.int .i64 hx) := by subst hhw6; go_simp
        have cw6_1_3 : w6.cell? ⟨W.heap.size + 1, 3, none⟩ = some (.int .i64 hy) := by subst hhw6; go_simp
        have zw6_1 : W.heap.size + 1 < w6.heap.size := World.block_lt_of_cell? _ _ cw6_1_0
        have cw6_2_0 : w6.cell? ⟨W.heap.size + 1 + 1, 0, none⟩ = some (.int .i64 mx) := by subst hhw6; go_simp
        have cw6_2_1 : w6.cell? ⟨W.heap.size + 1 + 1, 1, none⟩ = some (.int .i64 my) := by subst hhw6; go_simp
        have cw6_2_2 : w6.cell? ⟨W.heap.size + 1 + 1, 2, none⟩ = some (.int .i64 nx) := by subst hhw6; go_simp
        have cw6_2_3 : w6.cell? ⟨W.heap.size + 1 + 1, 3, none⟩ = some (.int .i64 ny) := by subst hhw6; go_simp
        have zw6_2 : W.heap.size + 1 + 1 < w6.heap.size := World.block_lt_of_cell? _ _ cw6_2_0
        have cw6_3_0 : w6.cell? ⟨w5.heap.size, 0, none⟩ = some (.int .i64 ux) := by subst hhw6; go_simp
        have cw6_3_1 : w6.cell? ⟨w5.heap.size, 1, none⟩ = some (.int .i64 uy) := by subst hhw6; go_simp
        have cw6_3_2 : w6.cell? ⟨w5.heap.size, 2, none⟩ = some (.int .i64 vx) := by subst hhw6; go_simp
        have cw6_3_3 : w6.cell? ⟨w5.heap.size, 3, none⟩ = some (.int .i64 vy) := by subst hhw6; go_simp
        have zw6_3 : w5.heap.size < w6.heap.size := World.block_lt_of_cell? _ _ cw6_3_0
        have gw6 : Gr W w6 := by subst hhw6; have gg := gw5; have gs := gg.size; go_grown
        clear hhw6 gw5 zw5_0 cw5_0_0 cw5_0_1 zw5_1 cw5_1_0 cw5_1_1 cw5_1_2 cw5_1_3 zw5_2 cw5_2_0 cw5_2_1 cw5_2_2 cw5_2_3 zw5_3 cw5_3_0 cw5_3_1 cw5_3_2 cw5_3_3 cw5_3_4 cw5_3_5 cw5_3_6 cw5_3_7
        go_wp2_with fail
        go_at_call 9
        refine ((HN1.out _ gw6 cw6_0_0 cw6_0_1)).mono ?_
        rintro e w7 ⟨rfl, hw7⟩
        have cw7_0_0 : w7.cell? ⟨W.heap.size, 0, none⟩ = some (.int .i64 k) := cell_gr hw7 (by go_simp)
        have cw7_0_1 : w7.cell? ⟨W.heap.size, 1, none⟩ = some (.slice ad n cap) := cell_gr hw7 (by go_simp)
        have zw7_0 : W.heap.size < w7.heap.size := World.block_lt_of_cell? _ _ cw7_0_0
        have cw7_1_0 : w7.cell? ⟨W.heap.size + 1, 0, none⟩ = some (.int .i64 lx) := cell_gr hw7 (by go_simp)
        have cw7_1_1 : w7.cell? ⟨W.heap.size + 1, 1, none⟩ = some (.int .i64 ly) := cell_gr hw7 (by go_simp)
        have cw7_1_2 : w7.cell? ⟨W.heap.size + 1, 2, none⟩ = some (.int .i64 hx) := cell_gr hw7 (by go_simp)
        have cw7_1_3 : w7.cell? ⟨W.heap.size + 1, 3, none⟩ = some (.int .i64 hy) := cell_gr hw7 (by go_simp)
        have zw7_1 : W.heap.size + 1 < w7.heap.size := World.block_lt_of_cell? _ _ cw7_1_0
        have cw7_2_0 : w7.cell? ⟨W.heap.size + 1 + 1, 0, none⟩ = some (.int .i64 mx) := cell_gr hw7 (by go_simp)
        have cw7_2_1 : w7.cell? ⟨W.heap.size + 1 + 1, 1, none⟩ = some (.int .i64 my) := cell_gr hw7 (by go_simp)
        have cw7_2_2 : w7.cell? ⟨W.heap.size + 1 + 1, 2, none⟩ = some (.int .i64 nx) := cell_gr hw7 (by go_simp)
        have cw7_2_3 : w7.cell? ⟨W.heap.size + 1 + 1, 3, none⟩ = some (.int .i64 ny) := cell_gr hw7 (by go_simp)
        have zw7_2 : W.heap.size + 1 + 1 < w7.heap.size := World.block_lt_of_cell? _ _ cw7_2_0
        have cw7_3_0 : w7.cell? ⟨w5.heap.size, 0, none⟩ = some (.int .i64 ux) := cell_gr hw7 (by go_simp)
        have cw7_3_1 : w7.cell? ⟨w5.heap.size, 1, none⟩ = some (.int .i64 uy) := cell_gr hw7 (by go_simp)
        have cw7_3_2 : w7.cell? ⟨w5.heap.size, 2, none⟩ = some (.int .i64 vx) := cell_gr hw7 (by go_simp)
        have cw7_3_3 : w7.cell? ⟨w5.heap.size, 3, none⟩ = some (.int .i64 vy) := cell_gr hw7 (by go_simp)
        have zw7_3 : w5.heap.size < w7.heap.size := World.block_lt_of_cell? _ _ cw7_3_0
        have gw7 : Gr W w7 := Gr.trans (by have gg := gw6; have gs := gg.size; go_grown) hw7
        clear hw7 gw6 zw6_0 cw6_0_0 cw6_0_1 zw6_1 cw6_1_0 cw6_1_1 cw6_1_2 cw6_1_3 zw6_2 cw6_2_0 cw6_2_1 cw6_2_2 cw6_2_3 zw6_3 cw6_3_0 cw6_3_1 cw6_3_2 cw6_3_3
        go_wp2_with fail
        go_at_call 11
        refine ((HN3.out _ gw7 cw7_0_0 cw7_0_1)).mono ?_
        rintro e w8 ⟨rfl, hw8⟩
        have cw8_0_0 : w8.cell? ⟨W.heap.size, 0, none⟩ = some (.int .i64 k) := cell_gr hw8 (by go_simp)
        have cw8_0_1 : w8.cell? ⟨W.heap.size, 1, none⟩ = some (.slice ad n cap) := cell_gr hw8 (by go_simp)
        have zw8_0 : W.heap.size < w8.heap.size := World.block_lt_of_cell? _ _ cw8_0_0
        have cw8_1_0 : w8.cell? ⟨W.heap.size + 1, 0, none⟩ = some (.int .i64 lx) := cell_gr hw8 (by go_simp)
        have cw8_1_1 : w8.cell? ⟨W.heap.size + 1, 1, none⟩ = some (.int .i64 ly) := cell_gr hw8 (by go_simp)
        have cw8_1_2 : w8.cell? ⟨W.heap.size + 1, 2, none⟩ = some (.int .i64 hx) := cell_gr hw8 (by go_simp)
        have cw8_1_3 : w8.cell? ⟨W.heap.size + 1, 3, none⟩ = some (.int .i64 hy) := cell_gr hw8 (by go_simp)
        have zw8_1 : W.heap.size + 1 < w8.heap.size := World.block_lt_of_cell? _ _ cw8_1_0
        have cw8_2_0 : w8.cell? ⟨W.heap.size + 1 + 1, 0, none⟩ = some (.int .i64 mx) := cell_gr hw8 (by go_simp)
        have cw8_2_1 : w8.cell? ⟨W.heap.size + 1 + 1, 1, none⟩ = some (.int .i64 my) := cell_gr hw8 (by go_simp)
        have cw8_2_2 : w8.cell? ⟨W.heap.size + 1 + 1, 2, none⟩ = some (.int .i64 nx) := cell_gr hw8 (by go_simp)
        have cw8_2_3 : w8.cell? ⟨W.heap.size + 1 + 1, 3, none⟩ = some (.int .i64 ny) := cell_gr hw8 (by go_simp)
        have zw8_2 : W.heap.size + 1 + 1 < w8.heap.size := World.block_lt_of_cell? _ _ cw8_2_0
        have cw8_3_0 : w8.cell? ⟨w5.heap.size, 0, none⟩ = some (.int .i64 ux) := cell_gr hw8 (by go_simp)
        have cw8_3_1 : w8.cell? ⟨w5.heap.size, 1, none⟩ = some (.int .i64 uy) := cell_gr hw8 (by go_simp)
        have cw8_3_2 : w8.cell? ⟨w5.heap.size, 2, none⟩ = some (.int .i64 vx) := cell_gr hw8 (by go_simp)
        have cw8_3_3 : w8.cell? ⟨w5.heap.size, 3, none⟩ = some (.int .i64 vy) := cell_gr hw8 (by go_simp)
        have zw8_3 : w5.heap.size < w8.heap.size := World.block_lt_of_cell? _ _ cw8_3_0
        have gw8 : Gr W w8 := Gr.trans (by have gg := gw7; have gs := gg.size; go_grown) hw8
        clear hw8 gw7 zw7_0 cw7_0_0 cw7_0_1 zw7_1 cw7_1_0 cw7_1_1 cw7_1_2 cw7_1_3 zw7_2 cw7_2_0 cw7_2_1 cw7_2_2 cw7_2_3 zw7_3 cw7_3_0 cw7_3_1 cw7_3_2 cw7_3_3
        go_wp2_with fail
        go_at_call 11
        refine ((HN4.out _ gw8 cw8_0_0 cw8_0_1)).mono ?_
        rintro e w9 ⟨rfl, hw9⟩
        have cw9_0_0 : w9.cell? ⟨W.heap.size, 0, none⟩ = some (.int .i64 k) := cell_gr hw9 (by go_simp)
        have cw9_0_1 : w9.cell? ⟨W.heap.size, 1, none⟩ = some (.slice ad n cap) := cell_gr hw9 (by go_simp)
        have zw9_0 : W.heap.size < w9.heap.size := World.block_lt_of_cell? _ _ cw9_0_0
        have cw9_1_0 : w9.cell? ⟨W.heap.size + 1, 0, none⟩ = some (.int .i64 lx) := cell_gr hw9 (by go_simp)
        have cw9_1_1 : w9.cell? ⟨W.heap.size + 1, 1, none⟩ = some (.int .i64 ly) := cell_gr hw9 (by go_simp)
        have cw9_1_2 : w9.cell? ⟨W.heap.size + 1, 2, none⟩ = some (.int .i64 hx) := cell_gr hw9 (by go_simp)
        have cw9_1_3 : w9.cell? ⟨W.heap.size + 1, 3, none⟩ = some (.int .i64 hy) := cell_gr hw9 (by go_simp)
        have zw9_1 : W.heap.size + 1 < w9.heap.size := World.block_lt_of_cell? _ _ cw9_1_0
        have cw9_2_0 : w9.cell? ⟨W.heap.size + 1 + 1, 0, none⟩ = some (.int .i64 mx) := cell_gr hw9 (by go_simp)
        have cw9_2_1 : w9.cell? ⟨W.heap.size + 1 + 1, 1, none⟩ = some (.int .i64 my) := cell_gr hw9 (by go_simp)
        have cw9_2_2 : w9.cell? ⟨W.heap.size + 1 + 1, 2, none⟩ = some (.int .i64 nx) := cell_gr hw9 (by go_simp)
        have cw9_2_3 : w9.cell? ⟨W.heap.size + 1 + 1, 3, none⟩ = some (.int .i64 ny) := cell_gr hw9 (by go_simp)
        have zw9_2 : W.heap.size + 1 + 1 < w9.heap.size := World.block_lt_of_cell? _ _ cw9_2_0
        have cw9_3_0 : w9.cell? ⟨w5.heap.size, 0, none⟩ = some (.int .i64 ux) := cell_gr hw9 (by go_simp)
        have cw9_3_1 : w9.cell? ⟨w5.heap.size, 1, none⟩ = some (.int .i64 uy) := cell_gr hw9 (by go_simp)
        have cw9_3_2 : w9.cell? ⟨w5.heap.size, 2, none⟩ = some (.int .i64 vx) := cell_gr hw9 (by go_simp)
        have cw9_3_3 : w9.cell? ⟨w5.heap.size, 3, none⟩ = some (.int .i64 vy) := cell_gr hw9 (by go_simp)
        have zw9_3 : w5.heap.size < w9.heap.size := World.block_lt_of_cell? _ _ cw9_3_0
        have gw9 : Gr W w9 := Gr.trans (by have gg := gw8; have gs := gg.size; go_grown) hw9
        clear hw9 gw8 zw8_0 cw8_0_0 cw8_0_1 zw8_1 cw8_1_0 cw8_1_1 cw8_1_2 cw8_1_3 zw8_2 cw8_2_0 cw8_2_1 cw8_2_2 cw8_2_3 zw8_3 cw8_3_0 cw8_3_1 cw8_3_2 cw8_3_3
        go_wp2_with fail
        go_at_call 11
        refine ((HN3.out _ gw9 cw9_0_0 cw9_0_1)).mono ?_
        rintro e w10 ⟨rfl, hw10⟩
        have cw10_0_0 : w10.cell? ⟨W.heap.size, 0, none⟩ = some (.int .i64 k) := cell_gr hw10 (by go_simp)
        have cw10_0_1 : w10.cell? ⟨W.heap.size, 1, none⟩ = some (.slice ad n cap) := cell_gr hw10 (by go_simp)
        have zw10_0 : W.heap.size < w10.heap.size := World.block_lt_of_cell? _ _ cw10_0_0
        have cw10_1_0 : w10.cell? ⟨W.heap.size + 1, 0, none⟩ = some (.int .i64 lx) := cell_gr hw10 (by go_simp)
        have cw10_1_1 : w10.cell? ⟨W.heap.size + 1, 1, none⟩ = some (.int .i64 ly) := cell_gr hw10 (by go_simp)
        have cw10_1_2 : w10.cell? ⟨W.heap.size + 1, 2, none⟩ = some (.int .i64 hx) := cell_gr hw10 (by go_simp)
        have cw10_1_3 : w10.cell? ⟨W.heap.size + 1, 3, none⟩ = some (.int .i64 hy) := cell_gr hw10 (by go_simp)
        have zw10_1 : W.heap.size + 1 < w10.heap.size := World.block_lt_of_cell? _ _ cw10_1_0
        have cw10_2_0 : w10.cell? ⟨W.heap.size + 1 + 1, 0, none⟩ = some (.int .i64 mx) := cell_gr hw10 (by go_simp)
        have cw10_2_1 : w10.cell? ⟨W.heap.size + 1 + 1, 1, none⟩ = some (.int .i64 my) := cell_gr hw10 (by go_simp)
        have cw10_2_2 : w10.cell? ⟨W.heap.size + 1 + 1, 2, none⟩ = some (.int .i64 nx) := cell_gr hw10 (by go_simp)
        have cw10_2_3 : w10.cell? ⟨W.heap.size + 1 + 1, 3, none⟩ = some (.int .i64 ny) := cell_gr hw10 (by go_simp)
        have zw10_2 : W.heap.size + 1 + 1 < w10.heap.size := World.block_lt_of_cell? _ _ cw10_2_0
        have cw10_3_0 : w10.cell? ⟨w5.heap.size, 0, none⟩ = some (.int .i64 ux) := cell_gr hw10 (by go_simp)
        have cw10_3_1 : w10.cell? ⟨w5.heap.size, 1, none⟩ = some (.int .i64 uy) := cell_gr hw10 (by go_simp)
        have cw10_3_2 : w10.cell? ⟨w5.heap.size, 2, none⟩ = some (.int .i64 vx) := cell_gr hw10 (by go_simp)
        have cw10_3_3 : w10.cell? ⟨w5.heap.size, 3, none⟩ = some (.int .i64 vy) := cell_gr hw10 (by go_simp)
        have zw10_3 : w5.heap.size < w10.heap.size := World.block_lt_of_cell? _ _ cw10_3_0
        have gw10 : Gr W w10 := Gr.trans (by have gg := gw9; have gs := gg.size; go_grown) hw10
        clear hw10 gw9 zw9_0 cw9_0_0 cw9_0_1 zw9_1 cw9_1_0 cw9_1_1 cw9_1_2 cw9_1_3 zw9_2 cw9_2_0 cw9_2_1 cw9_2_2 cw9_2_3 zw9_3 cw9_3_0 cw9_3_1 cw9_3_2 cw9_3_3
        go_wp2_with fail
        go_at_call 11
        refine ((HN5.out _ gw10 cw10_0_0 cw10_0_1)).mono ?_
        rintro e w11 ⟨rfl, hw11⟩
        have cw11_0_0 : w11.cell? ⟨W.heap.size, 0, none⟩ = some (.int .i64 k) := cell_gr hw11 (by go_simp)
        have cw11_0_1 : w11.cell? ⟨W.heap.size, 1, none⟩ = some (.slice ad n cap) := cell_gr hw11 (by go_simp)
        have zw11_0 : W.heap.size < w11.heap.size := World.block_lt_of_cell? _ _ cw11_0_0
        have cw11_1_0 : w11.cell? ⟨W.heap.size + 1, 0, none⟩ = some (.int .i64 lx) := cell_gr hw11 (by go_simp)
        have cw11_1_1 : w11.cell? ⟨W.heap.size + 1, 1, none⟩ = some (.int .i64 ly) := cell_gr hw11 (by go_simp)
        have cw11_1_2 : w11.cell? ⟨W.heap.size + 1, 2, none⟩ = some (.int .i64 hx) := cell_gr hw11 (by go_simp)
        have cw11_1_3 : w11.cell? ⟨W.heap.size + 1, 3, none⟩ = some (.int .i64 hy) := cell_gr hw11 (by go_simp)
        have zw11_1 : W.heap.size + 1 < w11.heap.size := World.block_lt_of_cell? _ _ cw11_1_0
        have cw11_2_0 : w11.cell? ⟨W.heap.size + 1 + 1, 0, none⟩ = some (.int .i64 mx) := cell_gr hw11 (by go_simp)
        have cw11_2_1 : w11.cell? ⟨W.heap.size + 1 + 1, 1, none⟩ = some (.int .i64 my) := cell_gr hw11 (by go_simp)
        have cw11_2_2 : w11.cell? ⟨W.heap.size + 1 + 1, 2, none⟩ = some (.int .i64 nx) := cell_gr hw11 (by go_simp)
        have cw11_2_3 : w11.cell? ⟨W.heap.size + 1 + 1, 3, none⟩ = some (.int .i64 ny) := cell_gr hw11 (by go_simp)
        have zw11_2 : W.heap.size + 1 + 1 < w11.heap.size := World.block_lt_of_cell? _ _ cw11_2_0
        have cw11_3_0 : w11.cell? ⟨w5.heap.size, 0, none⟩ = some (.int .i64 ux) := cell_gr hw11 (by go_simp)
        have cw11_3_1 : w11.cell? ⟨w5.heap.size, 1, none⟩ = some (.int .i64 uy) := cell_gr hw11 (by go_simp)
        have cw11_3_2 : w11.cell? ⟨w5.heap.size, 2, none⟩ = some (.int .i64 vx) := cell_gr hw11 (by go_simp)
        have cw11_3_3 : w11.cell? ⟨w5.heap.size, 3, none⟩ = some (.int .i64 vy) := cell_gr hw11 (by go_simp)
        have zw11_3 : w5.heap.size < w11.heap.size := World.block_lt_of_cell? _ _ cw11_3_0
        have gw11 : Gr W w11 := Gr.trans (by have gg := gw10; have gs := gg.size; go_grown) hw11
        clear hw11 gw10 zw10_0 cw10_0_0 cw10_0_1 zw10_1 cw10_1_0 cw10_1_1 cw10_1_2 cw10_1_3 zw10_2 cw10_2_0 cw10_2_1 cw10_2_2 cw10_2_3 zw10_3 cw10_3_0 cw10_3_1 cw10_3_2 cw10_3_3
        go_wp2_with fail
        go_at_call 12
        refine ((H5.out _)).mono ?_
        rintro e w12 ⟨rfl, hw12⟩
        have cw12_0_0 : w12.cell? ⟨W.heap.size, 0, none⟩ = some (.int .i64 k) := cell_gr hw12 (by go_simp)
        have cw12_0_1 : w12.cell? ⟨W.heap.size, 1, none⟩ = some (.slice ad n cap) := cell_gr hw12 (by go_simp)
        have zw12_0 : W.heap.size < w12.heap.size := World.block_lt_of_cell? _ _ cw12_0_0
        have cw12_1_0 : w12.cell? ⟨W.heap.size + 1, 0, none⟩ = some (.int .i64 lx) := cell_gr hw12 (by go_simp)
        have cw12_1_1 : w12.cell? ⟨W.heap.size + 1, 1, none⟩ = some (.int .i64 ly) := cell_gr hw12 (by go_simp)
        have cw12_1_2 : w12.cell? ⟨W.heap.size + 1, 2, none⟩ = some (.int .i64 hx) := cell_gr hw12 (by go_simp)
        have cw12_1_3 : w12.cell? ⟨W.heap.size + 1, 3, none⟩ = some (.int .i64 hy) := cell_gr hw12 (by go_simp)
        have zw12_1 : W.heap.size + 1 < w12.heap.size := World.block_lt_of_cell? _ _ cw12_1_0
        have cw12_2_0 : w12.cell? ⟨W.heap.size + 1 + 1, 0, none⟩ = some (.int .i64 mx) := cell_gr hw12 (by go_simp)
        have cw12_2_1 : w12.cell? ⟨W.heap.size + 1 + 1, 1, none⟩ = some (.int .i64 my) := cell_gr hw12 (by go_simp)
        have cw12_2_2 : w12.cell? ⟨W.heap.size + 1 + 1, 2, none⟩ = some (.int .i64 nx) := cell_gr hw12 (by go_simp)
        have cw12_2_3 : w12.cell? ⟨W.heap.size + 1 + 1, 3, none⟩ = some (.int .i64 ny) := cell_gr hw12 (by go_simp)
        have zw12_2 : W.heap.size + 1 + 1 < w12.heap.size := World.block_lt_of_cell? _ _ cw12_2_0
        have cw12_3_0 : w12.cell? ⟨w5.heap.size, 0, none⟩ = some (.int .i64 ux) := cell_gr hw12 (by go_simp)
        have cw12_3_1 : w12.cell? ⟨w5.heap.size, 1, none⟩ = some (.int .i64 uy) := cell_gr hw12 (by go_simp)
        have cw12_3_2 : w12.cell? ⟨w5.heap.size, 2, none⟩ = some (.int .i64 vx) := cell_gr hw12 (by go_simp)
        have cw12_3_3 : w12.cell? ⟨w5.heap.size, 3, none⟩ = some (.int .i64 vy) := cell_gr hw12 (by go_simp)
        have zw12_3 : w5.heap.size < w12.heap.size := World.block_lt_of_cell? _ _ cw12_3_0
        have gw12 : Gr W w12 := Gr.trans (by have gg := gw11; have gs := gg.size; go_grown) hw12
        clear hw12 gw11 zw11_0 cw11_0_0 cw11_0_1 zw11_1 cw11_1_0 cw11_1_1 cw11_1_2 cw11_1_3 zw11_2 cw11_2_0 cw11_2_1 cw11_2_2 cw11_2_3 zw11_3 cw11_3_0 cw11_3_1 cw11_3_2 cw11_3_3
        go_wp2_with fail
        go_at_call 13
        refine ((H6.out _ gw12)).mono ?_
        rintro e w13 ⟨rfl, hw13⟩
        have cw13_0_0 : w13.cell? ⟨W.heap.size, 0, none⟩ = some (.int .i64 k) := cell_gr hw13 (by go_simp)
        have cw13_0_1 : w13.cell? ⟨W.heap.size, 1, none⟩ = some (.slice ad n cap) := cell_gr hw13 (by go_simp)
        have zw13_0 : W.heap.size < w13.heap.size := World.block_lt_of_cell? _ _ cw13_0_0
        have cw13_1_0 : w13.cell? ⟨W.heap.size + 1, 0, none⟩ = some (.int .i64 lx) := cell_gr hw13 (by go_simp)
        have cw13_1_1 : w13.cell? ⟨W.heap.size + 1, 1, none⟩ = some (.int .i64 ly) := cell_gr hw13 (by go_simp)
        have cw13_1_2 : w13.cell? ⟨W.heap.size + 1, 2, none⟩ = some (.int .i64 hx) := cell_gr hw13 (by go_simp)
        have cw13_1_3 : w13.cell? ⟨W.heap.size + 1, 3, none⟩ = some (.int .i64 hy) := cell_gr hw13 (by go_simp)
        have zw13_1 : W.heap.size + 1 < w13.heap.size := World.block_lt_of_cell? _ _ cw13_1_0
        have cw13_2_0 : w13.cell? ⟨W.heap.size + 1 + 1, 0, none⟩ = some (.int .i64 mx) := cell_gr hw13 (by go_simp)
        have cw13_2_1 : w13.cell? ⟨W.heap.size + 1 + 1, 1, none⟩ = some (.int .i64 my) := cell_gr hw13 (by go_simp)
        have cw13_2_2 : w13.cell? ⟨W.heap.size + 1 + 1, 2, none⟩ = some (.int .i64 nx) := cell_gr hw13 (by go_simp)
        have cw13_2_3 : w13.cell? ⟨W.heap.size + 1 + 1, 3, none⟩ = some (.int .i64 ny) := cell_gr hw13 (by go_simp)
        have zw13_2 : W.heap.size + 1 + 1 < w13.heap.size := World.block_lt_of_cell? _ _ cw13_2_0
        have cw13_3_0 : w13.cell? ⟨w5.heap.size, 0, none⟩ = some (.int .i64 ux) := cell_gr hw13 (by go_simp)
        have cw13_3_1 : w13.cell? ⟨w5.heap.size, 1, none⟩ = some (.int .i64 uy) := cell_gr hw13 (by go_simp)
        have cw13_3_2 : w13.cell? ⟨w5.heap.size, 2, none⟩ = some (.int .i64 vx) := cell_gr hw13 (by go_simp)
        have cw13_3_3 : w13.cell? ⟨w5.heap.size, 3, none⟩ = some (.int .i64 vy) := cell_gr hw13 (by go_simp)
        have zw13_3 : w5.heap.size < w13.heap.size := World.block_lt_of_cell? _ _ cw13_3_0
        have gw13 : Gr W w13 := Gr.trans (by have gg := gw12; have gs := gg.size; go_grown) hw13
        clear hw13 gw12 zw12_0 cw12_0_0 cw12_0_1 zw12_1 cw12_1_0 cw12_1_1 cw12_1_2 cw12_1_3 zw12_2 cw12_2_0 cw12_2_1 cw12_2_2 cw12_2_3 zw12_3 cw12_3_0 cw12_3_1 cw12_3_2 cw12_3_3
        go_wp2_with fail
        generalize hhwx : (w13.alloc (.cells #[.int .i64 p1, .int .i64 p2, .int .i64 p3, .int .i64 p4] 28)) = wx
        have cwx_0_0 : wx.cell? ⟨W.heap.size, 0, none⟩ = some (.int .i64 k) := by subst hhwx; go_simp
        have cwx_0_1 : wx.cell? ⟨W.heap.size, 1, none⟩ = some (.slice ad n cap) := by subst hhwx; go_simp
        have zwx_0 : W.heap.size < wx.heap.size := World.block_lt_of_cell? _ _ cwx_0_0
        have cwx_1_0 : wx.cell? ⟨W.heap.size + 1, 0, none⟩ = some (.int .i64 lx) := by subst hhwx; go_simp
        have cwx_1_1 : wx.cell? ⟨W.heap.size + 1, 1, none⟩ = some (.int .i64 ly) := by subst hhwx; go_simp
        have cwx_1_2 : wx.cell? ⟨W.heap.size + 1, 2, none⟩ = some (.int .i64 hx) := by subst hhwx; go_simp
        have cwx_1_3 : wx.cell? ⟨W.heap.size + 1, 3, none⟩ = some (.int .i64 hy) := by subst hhwx; go_simp
        have zwx_1 : W.heap.size + 1 < wx.heap.size := World.block_lt_of_cell? _ _ cwx_1_0
        have cwx_2_0 : wx.cell? ⟨W.heap.size + 1 + 1, 0, none⟩ = some (.int .i64 mx) := by subst hhwx; go_simp
        have cwx_2_1 : wx.cell? ⟨W.heap.size + 1 + 1, 1, none⟩ = some (.int .i64 my) := by subst hhwx; go_simp
        have cwx_2_2 : wx.cell? ⟨W.heap.size + 1 + 1, 2, none⟩ = some (.int .i64 nx) := by subst hhwx; go_simp
        have cwx_2_3 : wx.cell? ⟨W.heap.size + 1 + 1, 3, none⟩ = some (.int .i64 ny) := by subst hhwx; go_simp
        have zwx_2 : W.heap.size + 1 + 1 < wx.heap.size := World.block_lt_of_cell? _ _ cwx_2_0
        have cwx_3_0 : wx.cell? ⟨w5.heap.size, 0, none⟩ = some (.int .i64 ux) := by subst hhwx; go_simp
        have cwx_3_1 : wx.cell? ⟨w5.heap.size, 1, none⟩ = some (.int .i64 uy) := by subst hhwx; go_simp
        have cwx_3_2 : wx.cell? ⟨w5.heap.size, 2, none⟩ = some (.int .i64 vx) := by subst hhwx; go_simp
        have cwx_3_3 : wx.cell? ⟨w5.heap.size, 3, none⟩ = some (.int .i64 vy) := by subst hhwx; go_simp
        have zwx_3 : w5.heap.size < wx.heap.size := World.block_lt_of_cell? _ _ cwx_3_0
        have cwx_4_0 : wx.cell? ⟨w13.heap.size, 0, none⟩ = some (.int .i64 p1) := by subst hhwx; go_simp
        have cwx_4_1 : wx.cell? ⟨w13.heap.size, 1, none⟩ = some (.int .i64 p2) := by subst hhwx; go_simp
        have cwx_4_2 : wx.cell? ⟨w13.heap.size, 2, none⟩ = some (.int .i64 p3) := by subst hhwx; go_simp
        have cwx_4_3 : wx.cell? ⟨w13.heap.size, 3, none⟩ = some (.int .i64 p4) := by subst hhwx; go_simp
        have zwx_4 : w13.heap.size < wx.heap.size := World.block_lt_of_cell? _ _ cwx_4_0
        have gwx : Gr W wx := by subst hhwx; have gg := gw13; have gs := gg.size; go_grown
        clear hhwx gw13 zw13_0 cw13_0_0 cw13_0_1 zw13_1 cw13_1_0 cw13_1_1 cw13_1_2 cw13_1_3 zw13_2 cw13_2_0 cw13_2_1 cw13_2_2 cw13_2_3 zw13_3 cw13_3_0 cw13_3_1 cw13_3_2 cw13_3_3
        go_wp2_with fail
        go_at_call 11
        refine ((HN6.out _ gwx cwx_0_0 cwx_0_1)).mono ?_
        rintro e w14 ⟨rfl, hw14⟩
        have cw14_0_0 : w14.cell? ⟨W.heap.size, 0, none⟩ = some (.int .i64 k) := cell_gr hw14 (by go_simp)
        have cw14_0_1 : w14.cell? ⟨W.heap.size, 1, none⟩ = some (.slice ad n cap) := cell_gr hw14 (by go_simp)
        have zw14_0 : W.heap.size < w14.heap.size := World.block_lt_of_cell? _ _ cw14_0_0
        have cw14_1_0 : w14.cell? ⟨W.heap.size + 1, 0, none⟩ = some (.int .i64 lx) := cell_gr hw14 (by go_simp)
        have cw14_1_1 : w14.cell? ⟨W.heap.size + 1, 1, none⟩ = some (.int .i64 ly) := cell_gr hw14 (by go_simp)
        have cw14_1_2 : w14.cell? ⟨W.heap.size + 1, 2, none⟩ = some (.int .i64 hx) := cell_gr hw14 (by go_simp)
        have cw14_1_3 : w14.cell? ⟨W.heap.size + 1, 3, none⟩ = some (.int .i64 hy) := cell_gr hw14 (by go_simp)
        have zw14_1 : W.heap.size + 1 < w14.heap.size := World.block_lt_of_cell? _ _ cw14_1_0
        have cw14_2_0 : w14.cell? ⟨W.heap.size + 1 + 1, 0, none⟩ = some (.int .i64 mx) := cell_gr hw14 (by go_simp)
        have cw14_2_1 : w14.cell? ⟨W.heap.size + 1 + 1, 1, none⟩ = some (.int .i64 my) := cell_gr hw14 (by go_simp)
        have cw14_2_2 : w14.cell? ⟨W.heap.size + 1 + 1, 2, none⟩ = some (.int .i64 nx) := cell_gr hw14 (by go_simp)
        have cw14_2_3 : w14.cell? ⟨W.heap.size + 1 + 1, 3, none⟩ = some (.int .i64 ny) := cell_gr hw14 (by go_simp)
        have zw14_2 : W.heap.size + 1 + 1 < w14.heap.size := World.block_lt_of_cell? _ _ cw14_2_0
        have cw14_3_0 : w14.cell? ⟨w5.heap.size, 0, none⟩ = some (.int .i64 ux) := cell_gr hw14 (by go_simp)
        have cw14_3_1 : w14.cell? ⟨w5.heap.size, 1, none⟩ = some (.int .i64 uy) := cell_gr hw14 (by go_simp)
        have cw14_3_2 : w14.cell? ⟨w5.heap.size, 2, none⟩ = some (.int .i64 vx) := cell_gr hw14 (by go_simp)
        have cw14_3_3 : w14.cell? ⟨w5.heap.size, 3, none⟩ = some (.int .i64 vy) := cell_gr hw14 (by go_simp)
        have zw14_3 : w5.heap.size < w14.heap.size := World.block_lt_of_cell? _ _ cw14_3_0
        have cw14_4_0 : w14.cell? ⟨w13.heap.size, 0, none⟩ = some (.int .i64 p1) := cell_gr hw14 (by go_simp)
        have cw14_4_1 : w14.cell? ⟨w13.heap.size, 1, none⟩ = some (.int .i64 p2) := cell_gr hw14 (by go_simp)
        have cw14_4_2 : w14.cell? ⟨w13.heap.size, 2, none⟩ = some (.int .i64 p3) := cell_gr hw14 (by go_simp)
        have cw14_4_3 : w14.cell? ⟨w13.heap.size, 3, none⟩ = some (.int .i64 p4) := cell_gr hw14 (by go_simp)
        have zw14_4 : w13.heap.size < w14.heap.size := World.block_lt_of_cell? _ _ cw14_4_0
        have gw14 : Gr W w14 := Gr.trans (by have gg := gwx; have gs := gg.size; go_grown) hw14
        clear hw14 gwx zwx_0 cwx_0_0 cwx_0_1 zwx_1 cwx_1_0 cwx_1_1 cwx_1_2 cwx_1_3 zwx_2 cwx_2_0 cwx_2_1 cwx_2_2 cwx_2_3 zwx_3 cwx_3_0 cwx_3_1 cwx_3_2 cwx_3_3 zwx_4 cwx_4_0 cwx_4_1 cwx_4_2 cwx_4_3
        go_wp2_with fail
        go_at_call 9
        refine ((HN7.out _ gw14 cw14_0_0 cw14_0_1)).mono ?_
        rintro e w15 ⟨rfl, hw15⟩
        have cw15_0_0 : w15.cell? ⟨W.heap.size, 0, none⟩ = some (.int .i64 k) := cell_gr hw15 (by go_simp)
        have cw15_0_1 : w15.cell? ⟨W.heap.size, 1, none⟩ = some (.slice ad n cap) := cell_gr hw15 (by go_simp)
        have zw15_0 : W.heap.size < w15.heap.size := World.block_lt_of_cell? _ _ cw15_0_0
        have cw15_1_0 : w15.cell? ⟨W.heap.size + 1, 0, none⟩ = some (.int .i64 lx) := cell_gr hw15 (by go_simp)
        have cw15_1_1 : w15.cell? ⟨W.heap.size + 1, 1, none⟩ = some (.int .i64 ly) := cell_gr hw15 (by go_simp)
        have cw15_1_2 : w15.cell? ⟨W.heap.size + 1, 2, none⟩ = some (.int .i64 hx) := cell_gr hw15 (by go_simp)
        have cw15_1_3 : w15.cell? ⟨W.heap.size + 1, 3, none⟩ = some (.int .i64 hy) := cell_gr hw15 (by go_simp)
        have zw15_1 : W.heap.size + 1 < w15.heap.size := World.block_lt_of_cell? _ _ cw15_1_0
        have cw15_2_0 : w15.cell? ⟨W.heap.size + 1 + 1, 0, none⟩ = some (.int .i64 mx) := cell_gr hw15 (by go_simp)
        have cw15_2_1 : w15.cell? ⟨W.heap.size + 1 + 1, 1, none⟩ = some (.int .i64 my) := cell_gr hw15 (by go_simp)
        have cw15_2_2 : w15.cell? ⟨W.heap.size + 1 + 1, 2, none⟩ = some (.int .i64 nx) := cell_gr hw15 (by go_simp)
        have cw15_2_3 : w15.cell? ⟨W.heap.size + 1 + 1, 3, none⟩ = some (.int .i64 ny) := cell_gr hw15 (by go_simp)
        have zw15_2 : W.heap.size + 1 + 1 < w15.heap.size := World.block_lt_of_cell? _ _ cw15_2_0
        have cw15_3_0 : w15.cell? ⟨w5.heap.size, 0, none⟩ = some (.int .i64 ux) := cell_gr hw15 (by go_simp)
        have cw15_3_1 : w15.cell? ⟨w5.heap.size, 1, none⟩ = some (.int .i64 uy) := cell_gr hw15 (by go_simp)
        have cw15_3_2 : w15.cell? ⟨w5.heap.size, 2, none⟩ = some (.int .i64 vx) := cell_gr hw15 (by go_simp)
        have cw15_3_3 : w15.cell? ⟨w5.heap.size, 3, none⟩ = some (.int .i64 vy) := cell_gr hw15 (by go_simp)
        have zw15_3 : w5.heap.size < w15.heap.size := World.block_lt_of_cell? _ _ cw15_3_0
        have cw15_4_0 : w15.cell? ⟨w13.heap.size, 0, none⟩ = some (.int .i64 p1) := cell_gr hw15 (by go_simp)
        have cw15_4_1 : w15.cell? ⟨w13.heap.size, 1, none⟩ = some (.int .i64 p2) := cell_gr hw15 (by go_simp)
        have cw15_4_2 : w15.cell? ⟨w13.heap.size, 2, none⟩ = some (.int .i64 p3) := cell_gr hw15 (by go_simp)
        have cw15_4_3 : w15.cell? ⟨w13.heap.size, 3, none⟩ = some (.int .i64 p4) := cell_gr hw15 (by go_simp)
        have zw15_4 : w13.heap.size < w15.heap.size := World.block_lt_of_cell? _ _ cw15_4_0
        have gw15 : Gr W w15 := Gr.trans (by have gg := gw14; have gs := gg.size; go_grown) hw15
        clear hw15 gw14 zw14_0 cw14_0_0 cw14_0_1 zw14_1 cw14_1_0 cw14_1_1 cw14_1_2 cw14_1_3 zw14_2 cw14_2_0 cw14_2_1 cw14_2_2 cw14_2_3 zw14_3 cw14_3_0 cw14_3_1 cw14_3_2 cw14_3_3 zw14_4 cw14_4_0 cw14_4_1 cw14_4_2 cw14_4_3
        go_wp2_with fail
        go_at_call 11
        refine ((HN3.out _ gw15 cw15_0_0 cw15_0_1)).mono ?_
        rintro e w16 ⟨rfl, hw16⟩
        have cw16_0_0 : w16.cell? ⟨W.heap.size, 0, none⟩ = some (.int .i64 k) := cell_gr hw16 (by go_simp)
        have cw16_0_1 : w16.cell? ⟨W.heap.size, 1, none⟩ = some (.slice ad n cap) := cell_gr hw16 (by go_simp)
        have zw16_0 : W.heap.size < w16.heap.size := World.block_lt_of_cell? _ _ cw16_0_0
        have cw16_1_0 : w16.cell? ⟨W.heap.size + 1, 0, none⟩ = some (.int .i64 lx) := cell_gr hw16 (by go_simp)
        have cw16_1_1 : w16.cell? ⟨W.heap.size + 1, 1, none⟩ = some (.int .i64 ly) := cell_gr hw16 (by go_simp)
        have cw16_1_2 : w16.cell? ⟨W.heap.size + 1, 2, none⟩ = some (.int .i64 hx) := cell_gr hw16 (by go_simp)
        have cw16_1_3 : w16.cell? ⟨W.heap.size + 1, 3, none⟩ = some (.int .i64 hy) := cell_gr hw16 (by go_simp)
        have zw16_1 : W.heap.size + 1 < w16.heap.size := World.block_lt_of_cell? _ _ cw16_1_0
        have cw16_2_0 : w16.cell? ⟨W.heap.size + 1 + 1, 0, none⟩ = some (.int .i64 mx) := cell_gr hw16 (by go_simp)
        have cw16_2_1 : w16.cell? ⟨W.heap.size + 1 + 1, 1, none⟩ = some (.int .i64 my) := cell_gr hw16 (by go_simp)
        have cw16_2_2 : w16.cell? ⟨W.heap.size + 1 + 1, 2, none⟩ = some (.int .i64 nx) := cell_gr hw16 (by go_simp)
        have cw16_2_3 : w16.cell? ⟨W.heap.size + 1 + 1, 3, none⟩ = some (.int .i64 ny) := cell_gr hw16 (by go_simp)
        have zw16_2 : W.heap.size + 1 + 1 < w16.heap.size := World.block_lt_of_cell? _ _ cw16_2_0
        have cw16_3_0 : w16.cell? ⟨w5.heap.size, 0, none⟩ = some (.int .i64 ux) := cell_gr hw16 (by go_simp)
        have cw16_3_1 : w16.cell? ⟨w5.heap.size, 1, none⟩ = some (.int .i64 uy) := cell_gr hw16 (by go_simp)
        have cw16_3_2 : w16.cell? ⟨w5.heap.size, 2, none⟩ = some (.int .i64 vx) := cell_gr hw16 (by go_simp)
        have cw16_3_3 : w16.cell? ⟨w5.heap.size, 3, none⟩ = some (.int .i64 vy) := cell_gr hw16 (by go_simp)
        have zw16_3 : w5.heap.size < w16.heap.size := World.block_lt_of_cell? _ _ cw16_3_0
        have cw16_4_0 : w16.cell? ⟨w13.heap.size, 0, none⟩ = some (.int .i64 p1) := cell_gr hw16 (by go_simp)
        have cw16_4_1 : w16.cell? ⟨w13.heap.size, 1, none⟩ = some (.int .i64 p2) := cell_gr hw16 (by go_simp)
        have cw16_4_2 : w16.cell? ⟨w13.heap.size, 2, none⟩ = some (.int .i64 p3) := cell_gr hw16 (by go_simp)
        have cw16_4_3 : w16.cell? ⟨w13.heap.size, 3, none⟩ = some (.int .i64 p4) := cell_gr hw16 (by go_simp)
        have zw16_4 : w13.heap.size < w16.heap.size := World.block_lt_of_cell? _ _ cw16_4_0
        have gw16 : Gr W w16 := Gr.trans (by have gg := gw15; have gs := gg.size; go_grown) hw16
        clear hw16 gw15 zw15_0 cw15_0_0 cw15_0_1 zw15_1 cw15_1_0 cw15_1_1 cw15_1_2 cw15_1_3 zw15_2 cw15_2_0 cw15_2_1 cw15_2_2 cw15_2_3 zw15_3 cw15_3_0 cw15_3_1 cw15_3_2 cw15_3_3 zw15_4 cw15_4_0 cw15_4_1 cw15_4_2 cw15_4_3
        go_wp2_with fail
        go_at_call 14
        refine ((H7.out _)).mono ?_
        rintro e w17 ⟨rfl, hw17⟩
        have cw17_0_0 : w17.cell? ⟨W.heap.size, 0, none⟩ = some (.int .i64 k) := cell_gr hw17 (by go_simp)
        have cw17_0_1 : w17.cell? ⟨W.heap.size, 1, none⟩ = some (.slice ad n cap) := cell_gr hw17 (by go_simp)
        have zw17_0 : W.heap.size < w17.heap.size := World.block_lt_of_cell? _ _ cw17_0_0
        have cw17_1_0 : w17.cell? ⟨W.heap.size + 1, 0, none⟩ = some (.int .i64 lx) := cell_gr hw17 (by go_simp)
        have cw17_1_1 : w17.cell? ⟨W.heap.size + 1, 1, none⟩ = some (.int .i64 ly) := cell_gr hw17 (by go_simp)
        have cw17_1_2 : w17.cell? ⟨W.heap.size + 1, 2, none⟩ = some (.int .i64 hx) := cell_gr hw17 (by go_simp)
        have cw17_1_3 : w17.cell? ⟨W.heap.size + 1, 3, none⟩ = some (.int .i64 hy) := cell_gr hw17 (by go_simp)
        have zw17_1 : W.heap.size + 1 < w17.heap.size := World.block_lt_of_cell? _ _ cw17_1_0
        have cw17_2_0 : w17.cell? ⟨W.heap.size + 1 + 1, 0, none⟩ = some (.int .i64 mx) := cell_gr hw17 (by go_simp)
        have cw17_2_1 : w17.cell? ⟨W.heap.size + 1 + 1, 1, none⟩ = some (.int .i64 my) := cell_gr hw17 (by go_simp)
        have cw17_2_2 : w17.cell? ⟨W.heap.size + 1 + 1, 2, none⟩ = some (.int .i64 nx) := cell_gr hw17 (by go_simp)
        have cw17_2_3 : w17.cell? ⟨W.heap.size + 1 + 1, 3, none⟩ = some (.int .i64 ny) := cell_gr hw17 (by go_simp)
        have zw17_2 : W.heap.size + 1 + 1 < w17.heap.size := World.block_lt_of_cell? _ _ cw17_2_0
        have cw17_3_0 : w17.cell? ⟨w5.heap.size, 0, none⟩ = some (.int .i64 ux) := cell_gr hw17 (by go_simp)
        have cw17_3_1 : w17.cell? ⟨w5.heap.size, 1, none⟩ = some (.int .i64 uy) := cell_gr hw17 (by go_simp)
        have cw17_3_2 : w17.cell? ⟨w5.heap.size, 2, none⟩ = some (.int .i64 vx) := cell_gr hw17 (by go_simp)
        have cw17_3_3 : w17.cell? ⟨w5.heap.size, 3, none⟩ = some (.int .i64 vy) := cell_gr hw17 (by go_simp)
        have zw17_3 : w5.heap.size < w17.heap.size := World.block_lt_of_cell? _ _ cw17_3_0
        have cw17_4_0 : w17.cell? ⟨w13.heap.size, 0, none⟩ = some (.int .i64 p1) := cell_gr hw17 (by go_simp)
        have cw17_4_1 : w17.cell? ⟨w13.heap.size, 1, none⟩ = some (.int .i64 p2) := cell_gr hw17 (by go_simp)
        have cw17_4_2 : w17.cell? ⟨w13.heap.size, 2, none⟩ = some (.int .i64 p3) := cell_gr hw17 (by go_simp)
        have cw17_4_3 : w17.cell? ⟨w13.heap.size, 3, none⟩ = some (.int .i64 p4) := cell_gr hw17 (by go_simp)
        have zw17_4 : w13.heap.size < w17.heap.size := World.block_lt_of_cell? _ _ cw17_4_0
        have gw17 : Gr W w17 := Gr.trans (by have gg := gw16; have gs := gg.size; go_grown) hw17
        clear hw17 gw16 zw16_0 cw16_0_0 cw16_0_1 zw16_1 cw16_1_0 cw16_1_1 cw16_1_2 cw16_1_3 zw16_2 cw16_2_0 cw16_2_1 cw16_2_2 cw16_2_3 zw16_3 cw16_3_0 cw16_3_1 cw16_3_2 cw16_3_3 zw16_4 cw16_4_0 cw16_4_1 cw16_4_2 cw16_4_3
        go_wp2_with fail
        go_at_call 7
        refine ((H8.out _ gw17)).mono ?_
        rintro e w18 ⟨rfl, hw18⟩
        have cw18_0_0 : w18.cell? ⟨W.heap.size, 0, none⟩ = some (.int .i64 k) := cell_gr hw18 (by go_simp)
        have cw18_0_1 : w18.cell? ⟨W.heap.size, 1, none⟩ = some (.slice ad n cap) := cell_gr hw18 (by go_simp)
        have zw18_0 : W.heap.size < w18.heap.size := World.block_lt_of_cell? _ _ cw18_0_0
        have cw18_1_0 : w18.cell? ⟨W.heap.size + 1, 0, none⟩ = some (.int .i64 lx) := cell_gr hw18 (by go_simp)
        have cw18_1_1 : w18.cell? ⟨W.heap.size + 1, 1, none⟩ = some (.int .i64 ly) := cell_gr hw18 (by go_simp)
        have cw18_1_2 : w18.cell? ⟨W.heap.size + 1, 2, none⟩ = some (.int .i64 hx) := cell_gr hw18 (by go_simp)
        have cw18_1_3 : w18.cell? ⟨W.heap.size + 1, 3, none⟩ = some (.int .i64 hy) := cell_gr hw18 (by go_simp)
        have zw18_1 : W.heap.size + 1 < w18.heap.size := World.block_lt_of_cell? _ _ cw18_1_0
        have cw18_2_0 : w18.cell? ⟨W.heap.size + 1 + 1, 0, none⟩ = some (.int .i64 mx) := cell_gr hw18 (by go_simp)
        have cw18_2_1 : w18.cell? ⟨W.heap.size + 1 + 1, 1, none⟩ = some (.int .i64 my) := cell_gr hw18 (by go_simp)
        have cw18_2_2 : w18.cell? ⟨W.heap.size + 1 + 1, 2, none⟩ = some (.int .i64 nx) := cell_gr hw18 (by go_simp)
        have cw18_2_3 : w18.cell? ⟨W.heap.size + 1 + 1, 3, none⟩ = some (.int .i64 ny) := cell_gr hw18 (by go_simp)
        have zw18_2 : W.heap.size + 1 + 1 < w18.heap.size := World.block_lt_of_cell? _ _ cw18_2_0
        have cw18_3_0 : w18.cell? ⟨w5.heap.size, 0, none⟩ = some (.int .i64 ux) := cell_gr hw18 (by go_simp)
        have cw18_3_1 : w18.cell? ⟨w5.heap.size, 1, none⟩ = some (.int .i64 uy) := cell_gr hw18 (by go_simp)
        have cw18_3_2 : w18.cell? ⟨w5.heap.size, 2, none⟩ = some (.int .i64 vx) := cell_gr hw18 (by go_simp)
        have cw18_3_3 : w18.cell? ⟨w5.heap.size, 3, none⟩ = some (.int .i64 vy) := cell_gr hw18 (by go_simp)
        have zw18_3 : w5.heap.size < w18.heap.size := World.block_lt_of_cell? _ _ cw18_3_0
        have cw18_4_0 : w18.cell? ⟨w13.heap.size, 0, none⟩ = some (.int .i64 p1) := cell_gr hw18 (by go_simp)
        have cw18_4_1 : w18.cell? ⟨w13.heap.size, 1, none⟩ = some (.int .i64 p2) := cell_gr hw18 (by go_simp)
        have cw18_4_2 : w18.cell? ⟨w13.heap.size, 2, none⟩ = some (.int .i64 p3) := cell_gr hw18 (by go_simp)
        have cw18_4_3 : w18.cell? ⟨w13.heap.size, 3, none⟩ = some (.int .i64 p4) := cell_gr hw18 (by go_simp)
        have zw18_4 : w13.heap.size < w18.heap.size := World.block_lt_of_cell? _ _ cw18_4_0
        have gw18 : Gr W w18 := Gr.trans (by have gg := gw17; have gs := gg.size; go_grown) hw18
        clear hw18 gw17 zw17_0 cw17_0_0 cw17_0_1 zw17_1 cw17_1_0 cw17_1_1 cw17_1_2 cw17_1_3 zw17_2 cw17_2_0 cw17_2_1 cw17_2_2 cw17_2_3 zw17_3 cw17_3_0 cw17_3_1 cw17_3_2 cw17_3_3 zw17_4 cw17_4_0 cw17_4_1 cw17_4_2 cw17_4_3
        go_wp2_with fail
        go_ret
        exact ⟨rfl, gw18⟩
  · obtain rfl : zU = true := f1 rfl
    cases iA
    · clear f1 f2 f3 f4
      go_enter Tryd.func3, Tryd.ntmps3
      go_wp2_with fail
      go_at_call 5
      refine ((H1.out _ (by go_grown))).mono ?_
      rintro e w1 ⟨rfl, hw1⟩
      have cw1_0_0 : w1.cell? ⟨W.heap.size, 0, none⟩ = some (.int .i64 k) := cell_gr hw1 (by go_simp)
      have cw1_0_1 : w1.cell? ⟨W.heap.size, 1, none⟩ = some (.slice ad n cap) := cell_gr hw1 (by go_simp)
      have zw1_0 : W.heap.size < w1.heap.size := World.block_lt_of_cell? _ _ cw1_0_0
      have cw1_1_0 : w1.cell? ⟨W.heap.size + 1, 0, none⟩ = some (.int .i64 lx) := cell_gr hw1 (by go_simp)
      have cw1_1_1 : w1.cell? ⟨W.heap.size + 1, 1, none⟩ = some (.int .i64 ly) := cell_gr hw1 (by go_simp)
      have cw1_1_2 : w1.cell? ⟨W.heap.size + 1, 2, none⟩ = some (.int .i64 hx) := cell_gr hw1 (by go_simp)
      have cw1_1_3 : w1.cell? ⟨W.heap.size + 1, 3, none⟩ = some (.int .i64 hy) := cell_gr hw1 (by go_simp)
      have zw1_1 : W.heap.size + 1 < w1.heap.size := World.block_lt_of_cell? _ _ cw1_1_0
      have cw1_2_0 : w1.cell? ⟨W.heap.size + 1 + 1, 0, none⟩ = some (.int .i64 mx) := cell_gr hw1 (by go_simp)
      have cw1_2_1 : w1.cell? ⟨W.heap.size + 1 + 1, 1, none⟩ = some (.int .i64 my) := cell_gr hw1 (by go_simp)
      have cw1_2_2 : w1.cell? ⟨W.heap.size + 1 + 1, 2, none⟩ = some (.int .i64 nx) := cell_gr hw1 (by go_simp)
      have cw1_2_3 : w1.cell? ⟨W.heap.size + 1 + 1, 3, none⟩ = some (.int .i64 ny) := cell_gr hw1 (by go_simp)
      have zw1_2 : W.heap.size + 1 + 1 < w1.heap.size := World.block_lt_of_cell? _ _ cw1_2_0
      have gw1 : Gr W w1 := Gr.trans (by go_grown) hw1
      clear hw1
      go_wp2_with fail
      go_at_call 6
      refine ((H2.out _)).mono ?_
      rintro e w2 ⟨rfl, hw2⟩
      have cw2_0_0 : w2.cell? ⟨W.heap.size, 0, none⟩ = some (.int .i64 k) := cell_gr hw2 (by go_simp)
      have cw2_0_1 : w2.cell? ⟨W.heap.size, 1, none⟩ = some (.slice ad n cap) := cell_gr hw2 (by go_simp)
      have zw2_0 : W.heap.size < w2.heap.size := World.block_lt_of_cell? _ _ cw2_0_0
      have cw2_1_0 : w2.cell? ⟨W.heap.size + 1, 0, none⟩ = some (.int .i64 lx) := cell_gr hw2 (by go_simp)
      have cw2_1_1 : w2.cell? ⟨W.heap.size + 1, 1, none⟩ = some (.int .i64 ly) := cell_gr hw2 (by go_simp)
      have cw2_1_2 : w2.cell? ⟨W.heap.size + 1, 2, none⟩ = some (.int .i64 hx) := cell_gr hw2 (by go_simp)
      have cw2_1_3 : w2.cell? ⟨W.heap.size + 1, 3, none⟩ = some (.int .i64 hy) := cell_gr hw2 (by go_simp)
      have zw2_1 : W.heap.size + 1 < w2.heap.size := World.block_lt_of_cell? _ _ cw2_1_0
      have cw2_2_0 : w2.cell? ⟨W.heap.size + 1 + 1, 0, none⟩ = some (.int .i64 mx) := cell_gr hw2 (by go_simp)
      have cw2_2_1 : w2.cell? ⟨W.heap.size + 1 + 1, 1, none⟩ = some (.int .i64 my) := cell_gr hw2 (by go_simp)
      have cw2_2_2 : w2.cell? ⟨W.heap.size + 1 + 1, 2, none⟩ = some (.int .i64 nx) := cell_gr hw2 (by go_simp)
      have cw2_2_3 : w2.cell? ⟨W.heap.size + 1 + 1, 3, none⟩ = some (.int .i64 ny) := cell_gr hw2 (by go_simp)
      have zw2_2 : W.heap.size + 1 + 1 < w2.heap.size := World.block_lt_of_cell? _ _ cw2_2_0
      have gw2 : Gr W w2 := Gr.trans (by have gg := gw1; have gs := gg.size; go_grown) hw2
      clear hw2 gw1 zw1_0 cw1_0_0 cw1_0_1 zw1_1 cw1_1_0 cw1_1_1 cw1_1_2 cw1_1_3 zw1_2 cw1_2_0 cw1_2_1 cw1_2_2 cw1_2_3
      go_wp2_with fail
      go_at_call 6
      refine ((H3.out _)).mono ?_
      rintro e w3 ⟨rfl, hw3⟩
      have cw3_0_0 : w3.cell? ⟨W.heap.size, 0, none⟩ = some (.int .i64 k) := cell_gr hw3 (by go_simp)
      have cw3_0_1 : w3.cell? ⟨W.heap.size, 1, none⟩ = some (.slice ad n cap) := cell_gr hw3 (by go_simp)
      have zw3_0 : W.heap.size < w3.heap.size := World.block_lt_of_cell? _ _ cw3_0_0
      have cw3_1_0 : w3.cell? ⟨W.heap.size + 1, 0, none⟩ = some (.int .i64 lx) := cell_gr hw3 (by go_simp)
      have cw3_1_1 : w3.cell? ⟨W.heap.size + 1, 1, none⟩ = some (.int .i64 ly) := cell_gr hw3 (by go_simp)
      have cw3_1_2 : w3.cell? ⟨W.heap.size + 1, 2, none⟩ = some (.int .i64 hx) := cell_gr hw3 (by go_simp)
      have cw3_1_3 : w3.cell? ⟨W.heap.size + 1, 3, none⟩ = some (.int .i64 hy) := cell_gr hw3 (by go_simp)
      have zw3_1 : W.heap.size + 1 < w3.heap.size := World.block_lt_of_cell? _ _ cw3_1_0
      have cw3_2_0 : w3.cell? ⟨W.heap.size + 1 + 1, 0, none⟩ = some (.int .i64 mx) := cell_gr hw3 (by go_simp)
      have cw3_2_1 : w3.cell? ⟨W.heap.size + 1 + 1, 1, none⟩ = some (.int .i64 my) := cell_gr hw3 (by go_simp)
      have cw3_2_2 : w3.cell? ⟨W.heap.size + 1 + 1, 2, none⟩ = some (.int .i64 nx) := cell_gr hw3 (by go_simp)
      have cw3_2_3 : w3.cell? ⟨W.heap.size + 1 + 1, 3, none⟩ = some (.int .i64 ny) := cell_gr hw3 (by go_simp)
      have zw3_2 : W.heap.size + 1 + 1 < w3.heap.size := World.block_lt_of_cell? _ _ cw3_2_0
      have gw3 : Gr W w3 := Gr.trans (by have gg := gw2; have gs := gg.size; go_grown) hw3
      clear hw3 gw2 zw2_0 cw2_0_0 cw2_0_1 zw2_1 cw2_1_0 cw2_1_1 cw2_1_2 cw2_1_3 zw2_2 cw2_2_0 cw2_2_1 cw2_2_2 cw2_2_3
      go_wp2_with fail
      generalize hhw4 : (w3.alloc (.cells #[.int .i64 lx, .int .i64 ly, .int .i64 hx, .int .i64 hy, .int .i64 mx, .int .i64 my, .int .i64 nx, .int .i64 ny] 28)) = w4
      have cw4_0_0 : w4.cell? ⟨W.heap.size, 0, none⟩ = some (.int .i64 k) := by subst hhw4; go_simp
      have cw4_0_1 : w4.cell? ⟨W.heap.size, 1, none⟩ = some (.slice ad n cap) := by subst hhw4; go_simp
      have zw4_0 : W.heap.size < w4.heap.size := World.block_lt_of_cell? _ _ cw4_0_0
      have cw4_1_0 : w4.cell? ⟨W.heap.size + 1, 0, none⟩ = some (.int .i64 lx) := by subst hhw4; go_simp
      have cw4_1_1 : w4.cell? ⟨W.heap.size + 1, 1, none⟩ = some (.int .i64 ly) := by subst hhw4; go_simp
      have cw4_1_2 : w4.cell? ⟨W.heap.size + 1, 2, none⟩ = some (.int .i64 hx) := by subst hhw4; go_simp
      have cw4_1_3 : w4.cell? ⟨W.heap.size + 1, 3, none⟩ = some (.int .i64 hy) := by subst hhw4; go_simp
      have zw4_1 : W.heap.size + 1 < w4.heap.size := World.block_lt_of_cell? _ _ cw4_1_0
      have cw4_2_0 : w4.cell? ⟨W.heap.size + 1 + 1, 0, none⟩ = some (.int .i64 mx) := by subst hhw4; go_simp
      have cw4_2_1 : w4.cell? ⟨W.heap.size + 1 + 1, 1, none⟩ = some (.int .i64 my) := by subst hhw4; go_simp
      have cw4_2_2 : w4.cell? ⟨W.heap.size + 1 + 1, 2, none⟩ = some (.int .i64 nx) := by subst hhw4; go_simp
      have cw4_2_3 : w4.cell? ⟨W.heap.size + 1 + 1, 3, none⟩ = some (.int .i64 ny) := by subst hhw4; go_simp
      have zw4_2 : W.heap.size + 1 + 1 < w4.heap.size := World.block_lt_of_cell? _ _ cw4_2_0
      have cw4_3_0 : w4.cell? ⟨w3.heap.size, 0, none⟩ = some (.int .i64 lx) := by subst hhw4; go_simp
      have cw4_3_1 : w4.cell? ⟨w3.heap.size, 1, none⟩ = some (.int .i64 ly) := by subst hhw4; go_simp
      have cw4_3_2 : w4.cell? ⟨w3.heap.size, 2, none⟩ = some (.int .i64 hx) := by subst hhw4; go_simp
      have cw4_3_3 : w4.cell? ⟨w3.heap.size, 3, none⟩ = some (.int .i64 hy) := by subst hhw4; go_simp
      have cw4_3_4 : w4.cell? ⟨w3.heap.size, 4, none⟩ = some (.int .i64 mx) := by subst hhw4; go_simp
      have cw4_3_5 : w4.cell? ⟨w3.heap.size, 5, none⟩ = some (.int .i64 my) := by subst hhw4; go_simp
      have cw4_3_6 : w4.cell? ⟨w3.heap.size, 6, none⟩ = some (.int .i64 nx) := by subst hhw4; go_simp
      have cw4_3_7 : w4.cell? ⟨w3.heap.size, 7, none⟩ = some (.int .i64 ny) := by subst hhw4; go_simp
      have zw4_3 : w3.heap.size < w4.heap.size := World.block_lt_of_cell? _ _ cw4_3_0
      have gw4 : Gr W w4 := by subst hhw4; have gg := gw3; have gs := gg.size; go_grown
      clear hhw4 gw3 zw3_0 cw3_0_0 cw3_0_1 zw3_1 cw3_1_0 cw3_1_1 cw3_1_2 cw3_1_3 zw3_2 cw3_2_0 cw3_2_1 cw3_2_2 cw3_2_3
      go_wp2_with fail
      go_at_call 8
      refine ((H4.out _ _ cw4_3_0 cw4_3_1 cw4_3_2 cw4_3_3 cw4_3_4 cw4_3_5 cw4_3_6 cw4_3_7)).mono ?_
      rintro e w5 ⟨rfl, hw5⟩
      have cw5_0_0 : w5.cell? ⟨W.heap.size, 0, none⟩ = some (.int .i64 k) := cell_gr hw5 (by go_simp)
      have cw5_0_1 : w5.cell? ⟨W.heap.size, 1, none⟩ = some (.slice ad n cap) := cell_gr hw5 (by go_simp)
      have zw5_0 : W.heap.size < w5.heap.size := World.block_lt_of_cell? _ _ cw5_0_0
      have cw5_1_0 : w5.cell? ⟨W.heap.size + 1, 0, none⟩ = some (.int .i64 lx) := cell_gr hw5 (by go_simp)
      have cw5_1_1 : w5.cell? ⟨W.heap.size + 1, 1, none⟩ = some (.int .i64 ly) := cell_gr hw5 (by go_simp)
      have cw5_1_2 : w5.cell? ⟨W.heap.size + 1, 2, none⟩ = some (.int .i64 hx) := cell_gr hw5 (by go_simp)
      have cw5_1_3 : w5.cell? ⟨W.heap.size + 1, 3, none⟩ = some (.int .i64 hy) := cell_gr hw5 (by go_simp)
      have zw5_1 : W.heap.size + 1 < w5.heap.size := World.block_lt_of_cell? _ _ cw5_1_0
      have cw5_2_0 : w5.cell? ⟨W.heap.size + 1 + 1, 0, none⟩ = some (.int .i64 mx) := cell_gr hw5 (by go_simp)
      have cw5_2_1 : w5.cell? ⟨W.heap.size + 1 + 1, 1, none⟩ = some (.int .i64 my) := cell_gr hw5 (by go_simp)
      have cw5_2_2 : w5.cell? ⟨W.heap.size + 1 + 1, 2, none⟩ = some (.int .i64 nx) := cell_gr hw5 (by go_simp)
      have cw5_2_3 : w5.cell? ⟨W.heap.size + 1 + 1, 3, none⟩ = some (.int .i64 ny) := cell_gr hw5 (by go_simp)
      have zw5_2 : W.heap.size + 1 + 1 < w5.heap.size := World.block_lt_of_cell? _ _ cw5_2_0
      have cw5_3_0 : w5.cell? ⟨w3.heap.size, 0, none⟩ = some (.int .i64 lx) := cell_gr hw5 (by go_simp)
      have cw5_3_1 : w5.cell? ⟨w3.heap.size, 1, none⟩ = some (.int .i64 ly) := cell_gr hw5 (by go_simp)
      have cw5_3_2 : w5.cell? ⟨w3.heap.size, 2, none⟩ = some (.int .i64 hx) := cell_gr hw5 (by go_simp)
      have cw5_3_3 : w5.cell? ⟨w3.heap.size, 3, none⟩ = some (.int .i64 hy) := cell_gr hw5 (by go_simp)
      have cw5_3_4 : w5.cell? ⟨w3.heap.size, 4, none⟩ = some (.int .i64 mx) := cell_gr hw5 (by go_simp)
      have cw5_3_5 : w5.cell? ⟨w3.heap.size, 5, none⟩ = some (.int .i64 my) := cell_gr hw5 (by go_simp)
      have cw5_3_6 : w5.cell? ⟨w3.heap.size, 6, none⟩ = some (.int .i64 nx) := cell_gr hw5 (by go_simp)
      have cw5_3_7 : w5.cell? ⟨w3.heap.size, 7, none⟩ = some (.int .i64 ny) := cell_gr hw5 (by go_simp)
      have zw5_3 : w3.heap.size < w5.heap.size := World.block_lt_of_cell? _ _ cw5_3_0
      have gw5 : Gr W w5 := Gr.trans (by have gg := gw4; have gs := gg.size; go_grown) hw5
      clear hw5 gw4 zw4_0 cw4_0_0 cw4_0_1 zw4_1 cw4_1_0 cw4_1_1 cw4_1_2 cw4_1_3 zw4_2 cw4_2_0 cw4_2_1 cw4_2_2 cw4_2_3 zw4_3 cw4_3_0 cw4_3_1 cw4_3_2 cw4_3_3 cw4_3_4 cw4_3_5 cw4_3_6 cw4_3_7
      go_wp2_with fail
      generalize hhw6 : (w5.alloc (.cells #[.int .i64 ux, .int .i64 uy, .int .i64 vx, .int .i64 vy] 28)) = w6
      have cw6_0_0 : w6.cell? ⟨W.heap.size, 0, none⟩ = some (.int .i64 k) := by subst hhw6; go_simp
      have cw6_0_1 : w6.cell? ⟨W.heap.size, 1, none⟩ = some (.slice ad n cap) := by subst hhw6; go_simp
      have zw6_0 : W.heap.size < w6.heap.size := World.block_lt_of_cell? _ _ cw6_0_0
      have cw6_1_0 : w6.cell? ⟨W.heap.size + 1, 0, none⟩ = some (.int .i64 lx) := by subst hhw6; go_simp
      have cw6_1_1 : w6.cell? ⟨W.heap.size + 1, 1, none⟩ = some (.int .i64 ly) := by subst hhw6; go_simp
      have cw6_1_2 : w6.cell? ⟨W.heap.size + 1, 2, none⟩ = some (.int .i64 hx) := by subst hhw6; go_simp
      have cw6_1_3 : w6.cell? ⟨W.heap.size + 1, 3, none⟩ = some (.int .i64 hy) := by subst hhw6; go_simp
      have zw6_1 : W.heap.size + 1 < w6.heap.size := World.block_lt_of_cell? _ _ cw6_1_0
      have cw6_2_0 : w6.cell? ⟨W.heap.size + 1 + 1, 0, none⟩ = some (.int .i64 mx) := by subst hhw6; go_simp
      have cw6_2_1 : w6.cell? ⟨W.heap.size + 1 + 1, 1, none⟩ = some (.int .i64 my) := by subst hhw6; go_simp
      have cw6_2_2 : w6.cell? ⟨W.heap.size + 1 + 1, 2, none⟩ = some (.int .i64 nx) := by subst hhw6; go_simp
      have cw6_2_3 : w6.cell? ⟨W.heap.size + 1 + 1, 3, none⟩ = some (.int .i64 ny) := by subst hhw6; go_simp
      have zw6_2 : W.heap.size + 1 + 1 < w6.heap.size := World.block_lt_of_cell? _ _ cw6_2_0
      have cw6_3_0 : w6.cell? ⟨w5.heap.size, 0, none⟩ = some (.int .i64 ux) := by subst hhw6; go_simp
      have cw6_3_1 : w6.cell? ⟨w5.heap.size, 1, none⟩ = some (.int .i64 uy) := by subst hhw6; go_simp
      have cw6_3_2 : w6.cell? ⟨w5.heap.size, 2, none⟩ = some (.int .i64 vx) := by subst hhw6; go_simp
      have cw6_3_3 : w6.cell? ⟨w5.heap.size, 3, none⟩ = some (.int .i64 vy) := by subst hhw6; go_simp
      have zw6_3 : w5.heap.size < w6.heap.size := World.block_lt_of_cell? _ _ cw6_3_0
      have gw6 : Gr W w6 := by subst hhw6; have gg := gw5; have gs := gg.size; go_grown
      clear hhw6 gw5 zw5_0 cw5_0_0 cw5_0_1 zw5_1 cw5_1_0 cw5_1_1 cw5_1_2 cw5_1_3 zw5_2 cw5_2_0 cw5_2_1 cw5_2_2 cw5_2_3 zw5_3 cw5_3_0 cw5_3_1 cw5_3_2 cw5_3_3 cw5_3_4 cw5_3_5 cw5_3_6 cw5_3_7
      go_wp2_with fail
      go_at_call 9
      refine ((HN1.out _ gw6 cw6_0_0 cw6_0_1)).mono ?_
      rintro e w7 ⟨rfl, hw7⟩
      have cw7_0_0 : w7.cell? ⟨W.heap.size, 0, none⟩ = some (.int .i64 k) := cell_gr hw7 (by go_simp)
      have cw7_0_1 : w7.cell? ⟨W.heap.size, 1, none⟩ = some (.slice ad n cap) := cell_gr hw7 (by go_simp)
      have zw7_0 : W.heap.size < w7.heap.size := World.block_lt_of_cell? _ _ cw7_0_0
      have cw7_1_0 : w7.cell? ⟨W.heap.size + 1, 0, none⟩ = some (.int .i64 lx) := cell_gr hw7 (by go_simp)
      have cw7_1_1 : w7.cell? ⟨W.heap.size + 1, 1, none⟩ = some (.int .i64 ly) := cell_gr hw7 (by go_simp)
      have cw7_1_2 : w7.cell? ⟨W.heap.size + 1, 2, none⟩ = some (.int .i64 hx) := cell_gr hw7 (by go_simp)
      have cw7_1_3 : w7.cell? ⟨W.heap.size + 1, 3, none⟩ = some (.int .i64 hy) := cell_gr hw7 (by go_simp)
      have zw7_1 : W.heap.size + 1 < w7.heap.size := World.block_lt_of_cell? _ _ cw7_1_0
      have cw7_2_0 : w7.cell? ⟨W.heap.size + 1 + 1, 0, none⟩ = some (.int .i64 mx) := cell_gr hw7 (by go_simp)
      have cw7_2_1 : w7.cell? ⟨W.heap.size + 1 + 1, 1, none⟩ = some (.int .i64 my) := cell_gr hw7 (by go_simp)
      have cw7_2_2 : w7.cell? ⟨W.heap.size + 1 + 1, 2, none⟩ = some (.int .i64 nx) := cell_gr hw7 (by go_simp)
      have cw7_2_3 : w7.cell? ⟨W.heap.size + 1 + 1, 3, none⟩ = some (.int .i64 ny) := cell_gr hw7 (by go_simp)
      have zw7_2 : W.heap.size + 1 + 1 < w7.heap.size := World.block_lt_of_cell? _ _ cw7_2_0
      have cw7_3_0 : w7.cell? ⟨w5.heap.size, 0, none⟩ = some (.int .i64 ux) := cell_gr hw7 (by go_simp)
      have cw7_3_1 : w7.cell? ⟨w5.heap.size, 1, none⟩ = some (.int .i64 uy) := cell_gr hw7 (by go_simp)
      have cw7_3_2 : w7.cell? ⟨w5.heap.size, 2, none⟩ = some (.int .i64 vx) := cell_gr hw7 (by go_simp)
      have cw7_3_3 : w7.cell? ⟨w5.heap.size, 3, none⟩ = some (.int .i64 vy) := cell_gr hw7 (by go_simp)
      have zw7_3 : w5.heap.size < w7.heap.size := World.block_lt_of_cell? _ _ cw7_3_0
      have gw7 : Gr W w7 := Gr.trans (by have gg := gw6; have gs := gg.size; go_grown) hw7
      clear hw7 gw6 zw6_0 cw6_0_0 cw6_0_1 zw6_1 cw6_1_0 cw6_1_1 cw6_1_2 cw6_1_3 zw6_2 cw6_2_0 cw6_2_1 cw6_2_2 cw6_2_3 zw6_3 cw6_3_0 cw6_3_1 cw6_3_2 cw6_3_3
      go_wp2_with fail
      go_at_call 9
      refine ((HN2.out _ gw7 cw7_0_0 cw7_0_1)).mono ?_
      rintro e w8 ⟨rfl, hw8⟩
      have cw8_0_0 : w8.cell? ⟨W.heap.size, 0, none⟩ = some (.int .i64 k) := cell_gr hw8 (by go_simp)
      have cw8_0_1 : w8.cell? ⟨W.heap.size, 1, none⟩ = some (.slice ad n cap) := cell_gr hw8 (by go_simp)
      have zw8_0 : W.heap.size < w8.heap.size := World.block_lt_of_cell? _ _ cw8_0_0
      have cw8_1_0 : w8.cell? ⟨W.heap.size + 1, 0, none⟩ = some (.int .i64 lx) := cell_gr hw8 (by go_simp)
      have cw8_1_1 : w8.cell? ⟨W.heap.size + 1, 1, none⟩ = some (.int .i64 ly) := cell_gr hw8 (by go_simp)
      have cw8_1_2 : w8.cell? ⟨W.heap.size + 1, 2, none⟩ = some (.int .i64 hx) := cell_gr hw8 (by go_simp)
      have cw8_1_3 : w8.cell? ⟨W.heap.size + 1, 3, none⟩ = some (.int .i64 hy) := cell_gr hw8 (by go_simp)
      have zw8_1 : W.heap.size + 1 < w8.heap.size := World.block_lt_of_cell? _ _ cw8_1_0
      have cw8_2_0 : w8.cell? ⟨W.heap.size + 1 + 1, 0, none⟩ = some (.int .i64 mx) := cell_gr hw8 (by go_simp)
      have cw8_2_1 : w8.cell? ⟨W.heap.size + 1 + 1, 1, none⟩ = some (.int .i64 my) := cell_gr hw8 (by go_simp)
      have cw8_2_2 : w8.cell? ⟨W.heap.size + 1 + 1, 2, none⟩ = some (.int .i64 nx) := cell_gr hw8 (by go_simp)
      have cw8_2_3 : w8.cell? ⟨W.heap.size + 1 + 1, 3, none⟩ = some (.int .i64 ny) := cell_gr hw8 (by go_simp)
      have zw8_2 : W.heap.size + 1 + 1 < w8.heap.size := World.block_lt_of_cell? _ _ cw8_2_0
      have cw8_3_0 : w8.cell? ⟨w5.heap.size, 0, none⟩ = some (.int .i64 ux) := cell_gr hw8 (by go_simp)
      have cw8_3_1 : w8.cell? ⟨w5.heap.size, 1, none⟩ = some (.int .i64 uy) := cell_gr hw8 (by go_simp)
      have cw8_3_2 : w8.cell? ⟨w5.heap.size, 2, none⟩ = some (.int .i64 vx) := cell_gr hw8 (by go_simp)
      have cw8_3_3 : w8.cell? ⟨w5.heap.size, 3, none⟩ = some (.int .i64 vy) := cell_gr hw8 (by go_simp)
      have zw8_3 : w5.heap.size < w8.heap.size := World.block_lt_of_cell? _ _ cw8_3_0
      have gw8 : Gr W w8 := Gr.trans (by have gg := gw7; have gs := gg.size; go_grown) hw8
      clear hw8 gw7 zw7_0 cw7_0_0 cw7_0_1 zw7_1 cw7_1_0 cw7_1_1 cw7_1_2 cw7_1_3 zw7_2 cw7_2_0 cw7_2_1 cw7_2_2 cw7_2_3 zw7_3 cw7_3_0 cw7_3_1 cw7_3_2 cw7_3_3
      go_wp2_with fail
      go_at_call 11
      refine ((HN3.out _ gw8 cw8_0_0 cw8_0_1)).mono ?_
      rintro e w9 ⟨rfl, hw9⟩
      have cw9_0_0 : w9.cell? ⟨W.heap.size, 0, none⟩ = some (.int .i64 k) := cell_gr hw9 (by go_simp)
      have cw9_0_1 : w9.cell? ⟨W.heap.size, 1, none⟩ = some (.slice ad n cap) := cell_gr hw9 (by go_simp)
      have zw9_0 : W.heap.size < w9.heap.size := World.block_lt_of_cell? _ _ cw9_0_0
      have cw9_1_0 : w9.cell? ⟨W.heap.size + 1, 0, none⟩ = some (.int .i64 lx) := cell_gr hw9 (by go_simp)
      have cw9_1_1 : w9.cell? ⟨W.heap.size + 1, 1, none⟩ = some (.int .i64 ly) := cell_gr hw9 (by go_simp)
      have cw9_1_2 : w9.cell? ⟨W.heap.size + 1, 2, none⟩ = some (.int .i64 hx) := cell_gr hw9 (by go_simp)
      have cw9_1_3 : w9.cell? ⟨W.heap.size + 1, 3, none⟩ = some (.int .i64 hy) := cell_gr hw9 (by go_simp)
      have zw9_1 : W.heap.size + 1 < w9.heap.size := World.block_lt_of_cell? _ _ cw9_1_0
      have cw9_2_0 : w9.cell? ⟨W.heap.size + 1 + 1, 0, none⟩ = some (.int .i64 mx) := cell_gr hw9 (by go_simp)
      have cw9_2_1 : w9.cell? ⟨W.heap.size + 1 + 1, 1, none⟩ = some (.int .i64 my) := cell_gr hw9 (by go_simp)
      have cw9_2_2 : w9.cell? ⟨W.heap.size + 1 + 1, 2, none⟩ = some (.int .i64 nx) := cell_gr hw9 (by go_simp)
      have cw9_2_3 : w9.cell? ⟨W.heap.size + 1 + 1, 3, none⟩ = some (.int .i64 ny) := cell_gr hw9 (by go_simp)
      have zw9_2 : W.heap.size + 1 + 1 < w9.heap.size := World.block_lt_of_cell? _ _ cw9_2_0
      have cw9_3_0 : w9.cell? ⟨w5.heap.size, 0, none⟩ = some (.int .i64 ux) := cell_gr hw9 (by go_simp)
      have cw9_3_1 : w9.cell? ⟨w5.heap.size, 1, none⟩ = some (.int .i64 uy) := cell_gr hw9 (by go_simp)
      have cw9_3_2 : w9.cell? ⟨w5.heap.size, 2, none⟩ = some (.int .i64 vx) := cell_gr hw9 (by go_simp)
      have cw9_3_3 : w9.cell? ⟨w5.heap.size, 3, none⟩ = some (.int .i64 vy) := cell_gr hw9 (by go_simp)
      have zw9_3 : w5.heap.size < w9.heap.size := World.block_lt_of_cell? _ _ cw9_3_0
      have gw9 : Gr W w9 := Gr.trans (by have gg := gw8; have gs := gg.size; go_grown) hw9
      clear hw9 gw8 zw8_0 cw8_0_0 cw8_0_1 zw8_1 cw8_1_0 cw8_1_1 cw8_1_2 cw8_1_3 zw8_2 cw8_2_0 cw8_2_1 cw8_2_2 cw8_2_3 zw8_3 cw8_3_0 cw8_3_1 cw8_3_2 cw8_3_3
      go_wp2_with fail
      go_at_call 11
      refine ((HN3.out _ gw9 cw9_0_0 cw9_0_1)).mono ?_
      rintro e w10 ⟨rfl, hw10⟩
      have cw10_0_0 : w10.cell? ⟨W.heap.size, 0, none⟩ = some (.int .i64 k) := cell_gr hw10 (by go_simp)
      have cw10_0_1 : w10.cell? ⟨W.heap.size, 1, none⟩ = some (.slice ad n cap) := cell_gr hw10 (by go_simp)
      have zw10_0 : W.heap.size < w10.heap.size := World.block_lt_of_cell? _ _ cw10_0_0
      have cw10_1_0 : w10.cell? ⟨W.heap.size + 1, 0, none⟩ = some (.int .i64 lx) := cell_gr hw10 (by go_simp)
      have cw10_1_1 : w10.cell? ⟨W.heap.size + 1, 1, none⟩ = some (.int .i64 ly) := cell_gr hw10 (by go_simp)
      have cw10_1_2 : w10.cell? ⟨W.heap.size + 1, 2, none⟩ = some (.int .i64 hx) := cell_gr hw10 (by go_simp)
      have cw10_1_3 : w10.cell? ⟨W.heap.size + 1, 3, none⟩ = some (.int .i64 hy) := cell_gr hw10 (by go_simp)
      have zw10_1 : W.heap.size + 1 < w10.heap.size := World.block_lt_of_cell? _ _ cw10_1_0
      have cw10_2_0 : w10.cell? ⟨W.heap.size + 1 + 1, 0, none⟩ = some (.int .i64 mx) := cell_gr hw10 (by go_simp)
      have cw10_2_1 : w10.cell? ⟨W.heap.size + 1 + 1, 1, none⟩ = some (.int .i64 my) := cell_gr hw10 (by go_simp)
      have cw10_2_2 : w10.cell? ⟨W.heap.size + 1 + 1, 2, none⟩ = some (.int .i64 nx) := cell_gr hw10 (by go_simp)
      have cw10_2_3 : w10.cell? ⟨W.heap.size + 1 + 1, 3, none⟩ = some (.int .i64 ny) := cell_gr hw10 (by go_simp)
      have zw10_2 : W.heap.size + 1 + 1 < w10.heap.size := World.block_lt_of_cell? _ _ cw10_2_0
      have cw10_3_0 : w10.cell? ⟨w5.heap.size, 0, none⟩ = some (.int .i64 ux) := cell_gr hw10 (by go_simp)
      have cw10_3_1 : w10.cell? ⟨w5.heap.size, 1, none⟩ = some (.int .i64 uy) := cell_gr hw10 (by go_simp)
      have cw10_3_2 : w10.cell? ⟨w5.heap.size, 2, none⟩ = some (.int .i64 vx) := cell_gr hw10 (by go_simp)
      have cw10_3_3 : w10.cell? ⟨w5.heap.size, 3, none⟩ = some (.int .i64 vy) := cell_gr hw10 (by go_simp)
      have zw10_3 : w5.heap.size < w10.heap.size := World.block_lt_of_cell? _ _ cw10_3_0
      have gw10 : Gr W w10 := Gr.trans (by have gg := gw9; have gs := gg.size; go_grown) hw10
      clear hw10 gw9 zw9_0 cw9_0_0 cw9_0_1 zw9_1 cw9_1_0 cw9_1_1 cw9_1_2 cw9_1_3 zw9_2 cw9_2_0 cw9_2_1 cw9_2_2 cw9_2_3 zw9_3 cw9_3_0 cw9_3_1 cw9_3_2 cw9_3_3
      go_wp2_with fail
      go_at_call 13
      refine ((H6.out _ gw10)).mono ?_
      rintro e w11 ⟨rfl, hw11⟩
      have cw11_0_0 : w11.cell? ⟨W.heap.size, 0, none⟩ = some (.int .i64 k) := cell_gr hw11 (by go_simp)
      have cw11_0_1 : w11.cell? ⟨W.heap.size, 1, none⟩ = some (.slice ad n cap) := cell_gr hw11 (by go_simp)
      have zw11_0 : W.heap.size < w11.heap.size := World.block_lt_of_cell? _ _ cw11_0_0
      have cw11_1_0 : w11.cell? ⟨W.heap.size + 1, 0, none⟩ = some (.int .i64 lx) := cell_gr hw11 (by go_simp)
      have cw11_1_1 : w11.cell? ⟨W.heap.size + 1, 1, none⟩ = some (.int .i64 ly) := cell_gr hw11 (by go_simp)
      have cw11_1_2 : w11.cell? ⟨W.heap.size + 1, 2, none⟩ = some (.int .i64 hx) := cell_gr hw11 (by go_simp)
      have cw11_1_3 : w11.cell? ⟨W.heap.size + 1, 3, none⟩ = some (.int .i64 hy) := cell_gr hw11 (by go_simp)
      have zw11_1 : W.heap.size + 1 < w11.heap.size := World.block_lt_of_cell? _ _ cw11_1_0
      have cw11_2_0 : w11.cell? ⟨W.heap.size + 1 + 1, 0, none⟩ = some (.int .i64 mx) := cell_gr hw11 (by go_simp)
      have cw11_2_1 : w11.cell? ⟨W.heap.size + 1 + 1, 1, none⟩ = some (.int .i64 my) := cell_gr hw11 (by go_simp)
      have cw11_2_2 : w11.cell? ⟨W.heap.size + 1 + 1, 2, none⟩ = some (.int .i64 nx) := cell_gr hw11 (by go_simp)
      have cw11_2_3 : w11.cell? ⟨W.heap.size + 1 + 1, 3, none⟩ = some (.int .i64 ny) := cell_gr hw11 (by go_simp)
      have zw11_2 : W.heap.size + 1 + 1 < w11.heap.size := World.block_lt_of_cell? _ _ cw11_2_0
      have cw11_3_0 : w11.cell? ⟨w5.heap.size, 0, none⟩ = some (.int .i64 ux) := cell_gr hw11 (by go_simp)
      have cw11_3_1 : w11.cell? ⟨w5.heap.size, 1, none⟩ = some (.int .i64 uy) := cell_gr hw11 (by go_simp)
      have cw11_3_2 : w11.cell? ⟨w5.heap.size, 2, none⟩ = some (.int .i64 vx) := cell_gr hw11 (by go_simp)
      have cw11_3_3 : w11.cell? ⟨w5.heap.size, 3, none⟩ = some (.int .i64 vy) := cell_gr hw11 (by go_simp)
      have zw11_3 : w5.heap.size < w11.heap.size := World.block_lt_of_cell? _ _ cw11_3_0
      have gw11 : Gr W w11 := Gr.trans (by have gg := gw10; have gs := gg.size; go_grown) hw11
      clear hw11 gw10 zw10_0 cw10_0_0 cw10_0_1 zw10_1 cw10_1_0 cw10_1_1 cw10_1_2 cw10_1_3 zw10_2 cw10_2_0 cw10_2_1 cw10_2_2 cw10_2_3 zw10_3 cw10_3_0 cw10_3_1 cw10_3_2 cw10_3_3
      go_wp2_with fail
      generalize hhwx : (w11.alloc (.cells #[.int .i64 p1, .int .i64 p2, .int .i64 p3, .int .i64 p4] 28)) = wx
      have cwx_0_0 : wx.cell? ⟨W.heap.size, 0, none⟩ = some (.int .i64 k) := by subst hhwx; go_simp
      have cwx_0_1 : wx.cell? ⟨W.heap.size, 1, none⟩ = some (.slice ad n cap) := by subst hhwx; go_simp
      have zwx_0 : W.heap.size < wx.heap.size := World.block_lt_of_cell? _ _ cwx_0_0
      have cwx_1_0 : wx.cell? ⟨W.heap.size + 1, 0, none⟩ = some (.int .i64 lx) := by subst hhwx; go_simp
      have cwx_1_1 : wx.cell? ⟨W.heap.size + 1, 1, none⟩ = some (.int .i64 ly) := by subst hhwx; go_simp
      have cwx_1_2 : wx.cell? ⟨W.heap.size + 1, 2, none⟩ = some (.int .i64 hx) := by subst hhwx; go_simp
      have cwx_1_3 : wx.cell? ⟨W.heap.size + 1, 3, none⟩ = some (.int .i64 hy) := by subst hhwx; go_simp
      have zwx_1 : W.heap.size + 1 < wx.heap.size := World.block_lt_of_cell? _ _ cwx_1_0
      have cwx_2_0 : wx.cell? ⟨W.heap.size + 1 + 1, 0, none⟩ = some (.int .i64 mx) := by subst hhwx; go_simp
      have cwx_2_1 : wx.cell? ⟨W.heap.size + 1 + 1, 1, none⟩ = some (.int .i64 my) := by subst hhwx; go_simp
      have cwx_2_2 : wx.cell? ⟨W.heap.size + 1 + 1, 2, none⟩ = some (.int .i64 nx) := by subst hhwx; go_simp
      have cwx_2_3 : wx.cell? ⟨W.heap.size + 1 + 1, 3, none⟩ = some (.int .i64 ny) := by subst hhwx; go_simp
      have zwx_2 : W.heap.size + 1 + 1 < wx.heap.size := World.block_lt_of_cell? _ _ cwx_2_0
      have cwx_3_0 : wx.cell? ⟨w5.heap.size, 0, none⟩ = some (.int .i64 ux) := by subst hhwx; go_simp
      have cwx_3_1 : wx.cell? ⟨w5.heap.size, 1, none⟩ = some (.int .i64 uy) := by subst hhwx; go_simp
      have cwx_3_2 : wx.cell? ⟨w5.heap.size, 2, none⟩ = some (.int .i64 vx) := by subst hhwx; go_simp
      have cwx_3_3 : wx.cell? ⟨w5.heap.size, 3, none⟩ = some (.int .i64 vy) := by subst hhwx; go_simp
      have zwx_3 : w5.heap.size < wx.heap.size := World.block_lt_of_cell? _ _ cwx_3_0
      have cwx_4_0 : wx.cell? ⟨w11.heap.size, 0, none⟩ = some (.int .i64 p1) := by subst hhwx; go_simp
      have cwx_4_1 : wx.cell? ⟨w11.heap.size, 1, none⟩ = some (.int .i64 p2) := by subst hhwx; go_simp
      have cwx_4_2 : wx.cell? ⟨w11.heap.size, 2, none⟩ = some (.int .i64 p3) := by subst hhwx; go_simp
      have cwx_4_3 : wx.cell? ⟨w11.heap.size, 3, none⟩ = some (.int .i64 p4) := by subst hhwx; go_simp
      have zwx_4 : w11.heap.size < wx.heap.size := World.block_lt_of_cell? _ _ cwx_4_0
      have gwx : Gr W wx := by subst hhwx; have gg := gw11; have gs := gg.size; go_grown
      clear hhwx gw11 zw11_0 cw11_0_0 cw11_0_1 zw11_1 cw11_1_0 cw11_1_1 cw11_1_2 cw11_1_3 zw11_2 cw11_2_0 cw11_2_1 cw11_2_2 cw11_2_3 zw11_3 cw11_3_0 cw11_3_1 cw11_3_2 cw11_3_3
      go_wp2_with fail
      go_at_call 11
      refine ((HN6.out _ gwx cwx_0_0 cwx_0_1)).mono ?_
      rintro e w12 ⟨rfl, hw12⟩
      have cw12_0_0 : w12.cell? ⟨W.heap.size, 0, none⟩ = some (.int .i64 k) := cell_gr hw12 (by go_simp)
      have cw12_0_1 : w12.cell? ⟨W.heap.size, 1, none⟩ = some (.slice ad n cap) := cell_gr hw12 (by go_simp)
      have zw12_0 : W.heap.size < w12.heap.size := World.block_lt_of_cell? _ _ cw12_0_0
      have cw12_1_0 : w12.cell? ⟨W.heap.size + 1, 0, none⟩ = some (.int .i64 lx) := cell_gr hw12 (by go_simp)
      have cw12_1_1 : w12.cell? ⟨W.heap.size + 1, 1, none⟩ = some (.int .i64 ly) := cell_gr hw12 (by go_simp)
      have cw12_1_2 : w12.cell? ⟨W.heap.size + 1, 2, none⟩ = some (.int .i64 hx) := cell_gr hw12 (by go_simp)
      have cw12_1_3 : w12.cell? ⟨W.heap.size + 1, 3, none⟩ = some (.int .i64 hy) := cell_gr hw12 (by go_simp)
      have zw12_1 : W.heap.size + 1 < w12.heap.size := World.block_lt_of_cell? _ _ cw12_1_0
      have cw12_2_0 : w12.cell? ⟨W.heap.size + 1 + 1, 0, none⟩ = some (.int .i64 mx) := cell_gr hw12 (by go_simp)
      have cw12_2_1 : w12.cell? ⟨W.heap.size + 1 + 1, 1, none⟩ = some (.int .i64 my) := cell_gr hw12 (by go_simp)
      have cw12_2_2 : w12.cell? ⟨W.heap.size + 1 + 1, 2, none⟩ = some (.int .i64 nx) := cell_gr hw12 (by go_simp)
      have cw12_2_3 : w12.cell? ⟨W.heap.size + 1 + 1, 3, none⟩ = some (.int .i64 ny) := cell_gr hw12 (by go_simp)
      have zw12_2 : W.heap.size + 1 + 1 < w12.heap.size := World.block_lt_of_cell? _ _ cw12_2_0
      have cw12_3_0 : w12.cell? ⟨w5.heap.size, 0, none⟩ = some (.int .i64 ux) := cell_gr hw12 (by go_simp)
      have cw12_3_1 : w12.cell? ⟨w5.heap.size, 1, none⟩ = some (.int .i64 uy) := cell_gr hw12 (by go_simp)
      have cw12_3_2 : w12.cell? ⟨w5.heap.size, 2, none⟩ = some (.int .i64 vx) := cell_gr hw12 (by go_simp)
      have cw12_3_3 : w12.cell? ⟨w5.heap.size, 3, none⟩ = some (.int .i64 vy) := cell_gr hw12 (by go_simp)
      have zw12_3 : w5.heap.size < w12.heap.size := World.block_lt_of_cell? _ _ cw12_3_0
      have cw12_4_0 : w12.cell? ⟨w11.heap.size, 0, none⟩ = some (.int .i64 p1) := cell_gr hw12 (by go_simp)
      have cw12_4_1 : w12.cell? ⟨w11.heap.size, 1, none⟩ = some (.int .i64 p2) := cell_gr hw12 (by go_simp)
      have cw12_4_2 : w12.cell? ⟨w11.heap.size, 2, none⟩ = some (.int .i64 p3) := cell_gr hw12 (by go_simp)
      have cw12_4_3 : w12.cell? ⟨w11.heap.size, 3, none⟩ = some (.int .i64 p4) := cell_gr hw12 (by go_simp)
      have zw12_4 : w11.heap.size < w12.heap.size := World.block_lt_of_cell? _ _ cw12_4_0
      have gw12 : Gr W w12 := Gr.trans (by have gg := gwx; have gs := gg.size; go_grown) hw12
      clear hw12 gwx zwx_0 cwx_0_0 cwx_0_1 zwx_1 cwx_1_0 cwx_1_1 cwx_1_2 cwx_1_3 zwx_2 cwx_2_0 cwx_2_1 cwx_2_2 cwx_2_3 zwx_3 cwx_3_0 cwx_3_1 cwx_3_2 cwx_3_3 zwx_4 cwx_4_0 cwx_4_1 cwx_4_2 cwx_4_3
      go_wp2_with fail
      go_at_call 9
      refine ((HN7.out _ gw12 cw12_0_0 cw12_0_1)).mono ?_
      rintro e w13 ⟨rfl, hw13⟩
      have cw13_0_0 : w13.cell? ⟨W.heap.size, 0, none⟩ = some (.int .i64 k) := cell_gr hw13 (by go_simp)
      have cw13_0_1 : w13.cell? ⟨W.heap.size, 1, none⟩ = some (.slice ad n cap) := cell_gr hw13 (by go_simp)
      have zw13_0 : W.heap.size < w13.heap.size := World.block_lt_of_cell? _ _ cw13_0_0
      have cw13_1_0 : w13.cell? ⟨W.heap.size + 1, 0, none⟩ = some (.int .i64 lx) := cell_gr hw13 (by go_simp)
      have cw13_1_1 : w13.cell? ⟨W.heap.size + 1, 1, none⟩ = some (.int .i64 ly) := cell_gr hw13 (by go_simp)
      have cw13_1_2 : w13.cell? ⟨W.heap.size + 1, 2, none⟩ = some (.int .i64 hx) := cell_gr hw13 (by go_simp)
      have cw13_1_3 : w13.cell? ⟨W.heap.size + 1, 3, none⟩ = some (.int .i64 hy) := cell_gr hw13 (by go_simp)
      have zw13_1 : W.heap.size + 1 < w13.heap.size := World.block_lt_of_cell? _ _ cw13_1_0
      have cw13_2_0 : w13.cell? ⟨W.heap.size + 1 + 1, 0, none⟩ = some (.int .i64 mx) := cell_gr hw13 (by go_simp)
      have cw13_2_1 : w13.cell? ⟨W.heap.size + 1 + 1, 1, none⟩ = some (.int .i64 my) := cell_gr hw13 (by go_simp)
      have cw13_2_2 : w13.cell? ⟨W.heap.size + 1 + 1, 2, none⟩ = some (.int .i64 nx) := cell_gr hw13 (by go_simp)
      have cw13_2_3 : w13.cell? ⟨W.heap.size + 1 + 1, 3, none⟩ = some (.int .i64 ny) := cell_gr hw13 (by go_simp)
      have zw13_2 : W.heap.size + 1 + 1 < w13.heap.size := World.block_lt_of_cell? _ _ cw13_2_0
      have cw13_3_0 : w13.cell? ⟨w5.heap.size, 0, none⟩ = some (.int .i64 ux) := cell_gr hw13 (by go_simp)
      have cw13_3_1 : w13.cell? ⟨w5.heap.size, 1, none⟩ = some (.int .i64 uy) := cell_gr hw13 (by go_simp)
      have cw13_3_2 : w13.cell? ⟨w5.heap.size, 2, none⟩ = some (.int .i64 vx) := cell_gr hw13 (by go_simp)
      have cw13_3_3 : w13.cell? ⟨w5.heap.size, 3, none⟩ = some (.int .i64 vy) := cell_gr hw13 (by go_simp)
      have zw13_3 : w5.heap.size < w13.heap.size := World.block_lt_of_cell? _ _ cw13_3_0
      have cw13_4_0 : w13.cell? ⟨w11.heap.size, 0, none⟩ = some (.int .i64 p1) := cell_gr hw13 (by go_simp)
      have cw13_4_1 : w13.cell? ⟨w11.heap.size, 1, none⟩ = some (.int .i64 p2) := cell_gr hw13 (by go_simp)
      have cw13_4_2 : w13.cell? ⟨w11.heap.size, 2, none⟩ = some (.int .i64 p3) := cell_gr hw13 (by go_simp)
      have cw13_4_3 : w13.cell? ⟨w11.heap.size, 3, none⟩ = some (.int .i64 p4) := cell_gr hw13 (by go_simp)
      have zw13_4 : w11.heap.size < w13.heap.size := World.block_lt_of_cell? _ _ cw13_4_0
      have gw13 : Gr W w13 := Gr.trans (by have gg := gw12; have gs := gg.size; go_grown) hw13
      clear hw13 gw12 zw12_0 cw12_0_0 cw12_0_1 zw12_1 cw12_1_0 cw12_1_1 cw12_1_2 cw12_1_3 zw12_2 cw12_2_0 cw12_2_1 cw12_2_2 cw12_2_3 zw12_3 cw12_3_0 cw12_3_1 cw12_3_2 cw12_3_3 zw12_4 cw12_4_0 cw12_4_1 cw12_4_2 cw12_4_3
      go_wp2_with fail
      go_at_call 11
      refine ((HN3.out _ gw13 cw13_0_0 cw13_0_1)).mono ?_
      rintro e w14 ⟨rfl, hw14⟩
      have cw14_0_0 : w14.cell? ⟨W.heap.size, 0, none⟩ = some (.int .i64 k) := cell_gr hw14 (by go_simp)
      have cw14_0_1 : w14.cell? ⟨W.heap.size, 1, none⟩ = some (.slice ad n cap) := cell_gr hw14 (by go_simp)
      have zw14_0 : W.heap.size < w14.heap.size := World.block_lt_of_cell? _ _ cw14_0_0
      have cw14_1_0 : w14.cell? ⟨W.heap.size + 1, 0, none⟩ = some (.int .i64 lx) := cell_gr hw14 (by go_simp)
      have cw14_1_1 : w14.cell? ⟨W.heap.size + 1, 1, none⟩ = some (.int .i64 ly) := cell_gr hw14 (by go_simp)
      have cw14_1_2 : w14.cell? ⟨W.heap.size + 1, 2, none⟩ = some (.int .i64 hx) := cell_gr hw14 (by go_simp)
      have cw14_1_3 : w14.cell? ⟨W.heap.size + 1, 3, none⟩ = some (.int .i64 hy) := cell_gr hw14 (by go_simp)
      have zw14_1 : W.heap.size + 1 < w14.heap.size := World.block_lt_of_cell? _ _ cw14_1_0
      have cw14_2_0 : w14.cell? ⟨W.heap.size + 1 + 1, 0, none⟩ = some (.int .i64 mx) := cell_gr hw14 (by go_simp)
      have cw14_2_1 : w14.cell? ⟨W.heap.size + 1 + 1, 1, none⟩ = some (.int .i64 my) := cell_gr hw14 (by go_simp)
      have cw14_2_2 : w14.cell? ⟨W.heap.size + 1 + 1, 2, none⟩ = some (.int .i64 nx) := cell_gr hw14 (by go_simp)
      have cw14_2_3 : w14.cell? ⟨W.heap.size + 1 + 1, 3, none⟩ = some (.int .i64 ny) := cell_gr hw14 (by go_simp)
      have zw14_2 : W.heap.size + 1 + 1 < w14.heap.size := World.block_lt_of_cell? _ _ cw14_2_0
      have cw14_3_0 : w14.cell? ⟨w5.heap.size, 0, none⟩ = some (.int .i64 ux) := cell_gr hw14 (by go_simp)
      have cw14_3_1 : w14.cell? ⟨w5.heap.size, 1, none⟩ = some (.int .i64 uy) := cell_gr hw14 (by go_simp)
      have cw14_3_2 : w14.cell? ⟨w5.heap.size, 2, none⟩ = some (.int .i64 vx) := cell_gr hw14 (by go_simp)
      have cw14_3_3 : w14.cell? ⟨w5.heap.size, 3, none⟩ = some (.int .i64 vy) := cell_gr hw14 (by go_simp)
      have zw14_3 : w5.heap.size < w14.heap.size := World.block_lt_of_cell? _ _ cw14_3_0
      have cw14_4_0 : w14.cell? ⟨w11.heap.size, 0, none⟩ = some (.int .i64 p1) := cell_gr hw14 (by go_simp)
      have cw14_4_1 : w14.cell? ⟨w11.heap.size, 1, none⟩ = some (.int .i64 p2) := cell_gr hw14 (by go_simp)
      have cw14_4_2 : w14.cell? ⟨w11.heap.size, 2, none⟩ = some (.int .i64 p3) := cell_gr hw14 (by go_simp)
      have cw14_4_3 : w14.cell? ⟨w11.heap.size, 3, none⟩ = some (.int .i64 p4) := cell_gr hw14 (by go_simp)
      have zw14_4 : w11.heap.size < w14.heap.size := World.block_lt_of_cell? _ _ cw14_4_0
      have gw14 : Gr W w14 := Gr.trans (by have gg := gw13; have gs := gg.size; go_grown) hw14
      clear hw14 gw13 zw13_0 cw13_0_0 cw13_0_1 zw13_1 cw13_1_0 cw13_1_1 cw13_1_2 cw13_1_3 zw13_2 cw13_2_0 cw13_2_1 cw13_2_2 cw13_2_3 zw13_3 cw13_3_0 cw13_3_1 cw13_3_2 cw13_3_3 zw13_4 cw13_4_0 cw13_4_1 cw13_4_2 cw13_4_3
      go_wp2_with fail
      go_at_call 7
      refine ((H8.out _ gw14)).mono ?_
      rintro e w15 ⟨rfl, hw15⟩
      have cw15_0_0 : w15.cell? ⟨W.heap.size, 0, none⟩ = some (.int .i64 k) := cell_gr hw15 (by go_simp)
      have cw15_0_1 : w15.cell? ⟨W.heap.size, 1, none⟩ = some (.slice ad n cap) := cell_gr hw15 (by go_simp)
      have zw15_0 : W.heap.size < w15.heap.size := World.block_lt_of_cell? _ _ cw15_0_0
      have cw15_1_0 : w15.cell? ⟨W.heap.size + 1, 0, none⟩ = some (.int .i64 lx) := cell_gr hw15 (by go_simp)
      have cw15_1_1 : w15.cell? ⟨W.heap.size + 1, 1, none⟩ = some (.int .i64 ly) := cell_gr hw15 (by go_simp)
      have cw15_1_2 : w15.cell? ⟨W.heap.size + 1, 2, none⟩ = some (.int .i64 hx) := cell_gr hw15 (by go_simp)
      have cw15_1_3 : w15.cell? ⟨W.heap.size + 1, 3, none⟩ = some (.int .i64 hy) := cell_gr hw15 (by go_simp)
      have zw15_1 : W.heap.size + 1 < w15.heap.size := World.block_lt_of_cell? _ _ cw15_1_0
      have cw15_2_0 : w15.cell? ⟨W.heap.size + 1 + 1, 0, none⟩ = some (.int .i64 mx) := cell_gr hw15 (by go_simp)
      have cw15_2_1 : w15.cell? ⟨W.heap.size + 1 + 1, 1, none⟩ = some (.int .i64 my) := cell_gr hw15 (by go_simp)
      have cw15_2_2 : w15.cell? ⟨W.heap.size + 1 + 1, 2, none⟩ = some (.int .i64 nx) := cell_gr hw15 (by go_simp)
      have cw15_2_3 : w15.cell? ⟨W.heap.size + 1 + 1, 3, none⟩ = some (.int .i64 ny) := cell_gr hw15 (by go_simp)
      have zw15_2 : W.heap.size + 1 + 1 < w15.heap.size := World.block_lt_of_cell? _ _ cw15_2_0
      have cw15_3_0 : w15.cell? ⟨w5.heap.size, 0, none⟩ = some (.int .i64 ux) := cell_gr hw15 (by go_simp)
      have cw15_3_1 : w15.cell? ⟨w5.heap.size, 1, none⟩ = some (.int .i64 uy) := cell_gr hw15 (by go_simp)
      have cw15_3_2 : w15.cell? ⟨w5.heap.size, 2, none⟩ = some (.int .i64 vx) := cell_gr hw15 (by go_simp)
      have cw15_3_3 : w15.cell? ⟨w5.heap.size, 3, none⟩ = some (.int .i64 vy) := cell_gr hw15 (by go_simp)
      have zw15_3 : w5.heap.size < w15.heap.size := World.block_lt_of_cell? _ _ cw15_3_0
      have cw15_4_0 : w15.cell? ⟨w11.heap.size, 0, none⟩ = some (.int .i64 p1) := cell_gr hw15 (by go_simp)
      have cw15_4_1 : w15.cell? ⟨w11.heap.size, 1, none⟩ = some (.int .i64 p2) := cell_gr hw15 (by go_simp)
      have cw15_4_2 : w15.cell? ⟨w11.heap.size, 2, none⟩ = some (.int .i64 p3) := cell_gr hw15 (by go_simp)
      have cw15_4_3 : w15.cell? ⟨w11.heap.size, 3, none⟩ = some (.int .i64 p4) := cell_gr hw15 (by go_simp)
      have zw15_4 : w11.heap.size < w15.heap.size := World.block_lt_of_cell? _ _ cw15_4_0
      have gw15 : Gr W w15 := Gr.trans (by have gg := gw14; have gs := gg.size; go_grown) hw15
      clear hw15 gw14 zw14_0 cw14_0_0 cw14_0_1 zw14_1 cw14_1_0 cw14_1_1 cw14_1_2 cw14_1_3 zw14_2 cw14_2_0 cw14_2_1 cw14_2_2 cw14_2_3 zw14_3 cw14_3_0 cw14_3_1 cw14_3_2 cw14_3_3 zw14_4 cw14_4_0 cw14_4_1 cw14_4_2 cw14_4_3
      go_wp2_with fail
      go_ret
      exact ⟨rfl, gw15⟩
    · obtain rfl : iU = true := f2 rfl
      obtain rfl : bi = true := f4 rfl
      cases iB
      · clear f1 f2 f3 f4
        go_enter Tryd.func3, Tryd.ntmps3
        go_wp2_with fail
        go_at_call 5
        refine ((H1.out _ (by go_grown))).mono ?_
        rintro e w1 ⟨rfl, hw1⟩
        have cw1_0_0 : w1.cell? ⟨W.heap.size, 0, none⟩ = some (.int .i64 k) := cell_gr hw1 (by go_simp)
        have cw1_0_1 : w1.cell? ⟨W.heap.size, 1, none⟩ = some (.slice ad n cap) := cell_gr hw1 (by go_simp)
        have zw1_0 : W.heap.size < w1.heap.size := World.block_lt_of_cell? _ _ cw1_0_0
        have cw1_1_0 : w1.cell? ⟨W.heap.size + 1, 0, none⟩ = some (.int .i64 lx) := cell_gr hw1 (by go_simp)
        have cw1_1_1 : w1.cell? ⟨W.heap.size + 1, 1, none⟩ = some (.int .i64 ly) := cell_gr hw1 (by go_simp)
        have cw1_1_2 : w1.cell? ⟨W.heap.size + 1, 2, none⟩ = some (.int .i64 hx) := cell_gr hw1 (by go_simp)
        have cw1_1_3 : w1.cell? ⟨W.heap.size + 1, 3, none⟩ = some (.int .i64 hy) := cell_gr hw1 (by go_simp)
        have zw1_1 : W.heap.size + 1 < w1.heap.size := World.block_lt_of_cell? _ _ cw1_1_0
        have cw1_2_0 : w1.cell? ⟨W.heap.size + 1 + 1, 0, none⟩ = some (.int .i64 mx) := cell_gr hw1 (by go_simp)
        have cw1_2_1 : w1.cell? ⟨W.heap.size + 1 + 1, 1, none⟩ = some (.int .i64 my) := cell_gr hw1 (by go_simp)
        have cw1_2_2 : w1.cell? ⟨W.heap.size + 1 + 1, 2, none⟩ = some (.int .i64 nx) := cell_gr hw1 (by go_simp)
        have cw1_2_3 : w1.cell? ⟨W.heap.size + 1 + 1, 3, none⟩ = some (.int .i64 ny) := cell_gr hw1 (by go_simp)
        have zw1_2 : W.heap.size + 1 + 1 < w1.heap.size := World.block_lt_of_cell? _ _ cw1_2_0
        have gw1 : Gr W w1 := Gr.trans (by go_grown) hw1
        clear hw1
        go_wp2_with fail
        go_at_call 6
        refine ((H2.out _)).mono ?_
        rintro e w2 ⟨rfl, hw2⟩
        have cw2_0_0 : w2.cell? ⟨W.heap.size, 0, none⟩ = some (.int .i64 k) := cell_gr hw2 (by go_simp)
        have cw2_0_1 : w2.cell? ⟨W.heap.size, 1, none⟩ = some (.slice ad n cap) := cell_gr hw2 (by go_simp)
        have zw2_0 : W.heap.size < w2.heap.size := World.block_lt_of_cell? _ _ cw2_0_0
        have cw2_1_0 : w2.cell? ⟨W.heap.size + 1, 0, none⟩ = some (.int .i64 lx) := cell_gr hw2 (by go_simp)
        have cw2_1_1 : w2.cell? ⟨W.heap.size + 1, 1, none⟩ = some (.int .i64 ly) := cell_gr hw2 (by go_simp)
        have cw2_1_2 : w2.cell? ⟨W.heap.size + 1, 2, none⟩ = some (.int .i64 hx) := cell_gr hw2 (by go_simp)
        have cw2_1_3 : w2.cell? ⟨W.heap.size + 1, 3, none⟩ = some (.int .i64 hy) := cell_gr hw2 (by go_simp)
        have zw2_1 : W.heap.size + 1 < w2.heap.size := World.block_lt_of_cell? _ _ cw2_1_0
        have cw2_2_0 : w2.cell? ⟨W.heap.size + 1 + 1, 0, none⟩ = some (.int .i64 mx) := cell_gr hw2 (by go_simp)
        have cw2_2_1 : w2.cell? ⟨W.heap.size + 1 + 1, 1, none⟩ = some (.int .i64 my) := cell_gr hw2 (by go_simp)
        have cw2_2_2 : w2.cell? ⟨W.heap.size + 1 + 1, 2, none⟩ = some (.int .i64 nx) := cell_gr hw2 (by go_simp)
        have cw2_2_3 : w2.cell? ⟨W.heap.size + 1 + 1, 3, none⟩ = some (.int .i64 ny) := cell_gr hw2 (by go_simp)
        have zw2_2 : W.heap.size + 1 + 1 < w2.heap.size := World.block_lt_of_cell? _ _ cw2_2_0
        have gw2 : Gr W w2 := Gr.trans (by have gg := gw1; have gs := gg.size; go_grown) hw2
        clear hw2 gw1 zw1_0 cw1_0_0 cw1_0_1 zw1_1 cw1_1_0 cw1_1_1 cw1_1_2 cw1_1_3 zw1_2 cw1_2_0 cw1_2_1 cw1_2_2 cw1_2_3
        go_wp2_with fail
        go_at_call 6
        refine ((H3.out _)).mono ?_
        rintro e w3 ⟨rfl, hw3⟩
        have cw3_0_0 : w3.cell? ⟨W.heap.size, 0, none⟩ = some (.int .i64 k) := cell_gr hw3 (by go_simp)
        have cw3_0_1 : w3.cell? ⟨W.heap.size, 1, none⟩ = some (.slice ad n cap) := cell_gr hw3 (by go_simp)
        have zw3_0 : W.heap.size < w3.heap.size := World.block_lt_of_cell? _ _ cw3_0_0
        have cw3_1_0 : w3.cell? ⟨W.heap.size + 1, 0, none⟩ = some (.int .i64 lx) := cell_gr hw3 (by go_simp)
        have cw3_1_1 : w3.cell? ⟨W.heap.size + 1, 1, none⟩ = some (.int .i64 ly) := cell_gr hw3 (by go_simp)
        have cw3_1_2 : w3.cell? ⟨W.heap.size + 1, 2, none⟩ = some (.int .i64 hx) := cell_gr hw3 (by go_simp)
        have cw3_1_3 : w3.cell? ⟨W.heap.size + 1, 3, none⟩ = some (.int .i64 hy) := cell_gr hw3 (by go_simp)
        have zw3_1 : W.heap.size + 1 < w3.heap.size := World.block_lt_of_cell? _ _ cw3_1_0
        have cw3_2_0 : w3.cell? ⟨W.heap.size + 1 + 1, 0, none⟩ = some (.int .i64 mx) := cell_gr hw3 (by go_simp)
        have cw3_2_1 : w3.cell? ⟨W.heap.size + 1 + 1, 1, none⟩ = some (.int .i64 my) := cell_gr hw3 (by go_simp)
        have cw3_2_2 : w3.cell? ⟨W.heap.size + 1 + 1, 2, none⟩ = some (.int .i64 nx) := cell_gr hw3 (by go_simp)
        have cw3_2_3 : w3.cell? ⟨W.heap.size + 1 + 1, 3, none⟩ = some (.int .i64 ny) := cell_gr hw3 (by go_simp)
        have zw3_2 : W.heap.size + 1 + 1 < w3.heap.size := World.block_lt_of_cell? _ _ cw3_2_0
        have gw3 : Gr W w3 := Gr.trans (by have gg := gw2; have gs := gg.size; go_grown) hw3
        clear hw3 gw2 zw2_0 cw2_0_0 cw2_0_1 zw2_1 cw2_1_0 cw2_1_1 cw2_1_2 cw2_1_3 zw2_2 cw2_2_0 cw2_2_1 cw2_2_2 cw2_2_3
        go_wp2_with fail
        generalize hhw4 : (w3.alloc (.cells #[.int .i64 lx, .int .i64 ly, .int .i64 hx, .int .i64 hy, .int .i64 mx, .int .i64 my, .int .i64 nx, .int .i64 ny] 28)) = w4
        have cw4_0_0 : w4.cell? ⟨W.heap.size, 0, none⟩ = some (.int .i64 k) := by subst hhw4; go_simp
        have cw4_0_1 : w4.cell? ⟨W.heap.size, 1, none⟩ = some (.slice ad n cap) := by subst hhw4; go_simp
        have zw4_0 : W.heap.size < w4.heap.size := World.block_lt_of_cell? _ _ cw4_0_0
        have cw4_1_0 : w4.cell? ⟨W.heap.size + 1, 0, none⟩ = some (.int .i64 lx) := by subst hhw4; go_simp
        have cw4_1_1 : w4.cell? ⟨W.heap.size + 1, 1, none⟩ = some (.int .i64 ly) := by subst hhw4; go_simp
        have cw4_1_2 : w4.cell? ⟨W.heap.size + 1, 2, none⟩ = some (.int .i64 hx) := by subst hhw4; go_simp
        have cw4_1_3 : w4.cell? ⟨W.heap.size + 1, 3, none⟩ = some (.int .i64 hy) := by subst hhw4; go_simp
        have zw4_1 : W.heap.size + 1 < w4.heap.size := World.block_lt_of_cell? _ _ cw4_1_0
        have cw4_2_0 : w4.cell? ⟨W.heap.size + 1 + 1, 0, none⟩ = some (.int .i64 mx) := by subst hhw4; go_simp
        have cw4_2_1 : w4.cell? ⟨W.heap.size + 1 + 1, 1, none⟩ = some (.int .i64 my) := by subst hhw4; go_simp
        have cw4_2_2 : w4.cell? ⟨W.heap.size + 1 + 1, 2, none⟩ = some (.int .i64 nx) := by subst hhw4; go_simp
        have cw4_2_3 : w4.cell? ⟨W.heap.size + 1 + 1, 3, none⟩ = some (.int .i64 ny) := by subst hhw4; go_simp
        have zw4_2 : W.heap.size + 1 + 1 < w4.heap.size := World.block_lt_of_cell? _ _ cw4_2_0
        have cw4_3_0 : w4.cell? ⟨w3.heap.size, 0, none⟩ = some (.int .i64 lx) := by subst hhw4; go_simp
        have cw4_3_1 : w4.cell? ⟨w3.heap.size, 1, none⟩ = some (.int .i64 ly) := by subst hhw4; go_simp
        have cw4_3_2 : w4.cell? ⟨w3.heap.size, 2, none⟩ = some (.int .i64 hx) := by subst hhw4; go_simp
        have cw4_3_3 : w4.cell? ⟨w3.heap.size, 3, none⟩ = some (.int .i64 hy) := by subst hhw4; go_simp
        have cw4_3_4 : w4.cell? ⟨w3.heap.size, 4, none⟩ = some (.int .i64 mx) := by subst hhw4; go_simp
        have cw4_3_5 : w4.cell? ⟨w3.heap.size, 5, none⟩ = some (.int .i64 my) := by subst hhw4; go_simp
        have cw4_3_6 : w4.cell? ⟨w3.heap.size, 6, none⟩ = some (.int .i64 nx) := by subst hhw4; go_simp
        have cw4_3_7 : w4.cell? ⟨w3.heap.size, 7, none⟩ = some (.int .i64 ny) := by subst hhw4; go_simp
        have zw4_3 : w3.heap.size < w4.heap.size := World.block_lt_of_cell? _ _ cw4_3_0
        have gw4 : Gr W w4 := by subst hhw4; have gg := gw3; have gs := gg.size; go_grown
        clear hhw4 gw3 zw3_0 cw3_0_0 cw3_0_1 zw3_1 cw3_1_0 cw3_1_1 cw3_1_2 cw3_1_3 zw3_2 cw3_2_0 cw3_2_1 cw3_2_2 cw3_2_3
        go_wp2_with fail
        go_at_call 8
        refine ((H4.out _ _ cw4_3_0 cw4_3_1 cw4_3_2 cw4_3_3 cw4_3_4 cw4_3_5 cw4_3_6 cw4_3_7)).mono ?_
        rintro e w5 ⟨rfl, hw5⟩
        have cw5_0_0 : w5.cell? ⟨W.heap.size, 0, none⟩ = some (.int .i64 k) := cell_gr hw5 (by go_simp)
        have cw5_0_1 : w5.cell? ⟨W.heap.size, 1, none⟩ = some (.slice ad n cap) := cell_gr hw5 (by go_simp)
        have zw5_0 : W.heap.size < w5.heap.size := World.block_lt_of_cell? _ _ cw5_0_0
        have cw5_1_0 : w5.cell? ⟨W.heap.size + 1, 0, none⟩ = some (.int .i64 lx) := cell_gr hw5 (by go_simp)
        have cw5_1_1 : w5.cell? ⟨W.heap.size + 1, 1, none⟩ = some (.int .i64 ly) := cell_gr hw5 (by go_simp)
        have cw5_1_2 : w5.cell? ⟨W.heap.size + 1, 2, none⟩ = some (.int .i64 hx) := cell_gr hw5 (by go_simp)
        have cw5_1_3 : w5.cell? ⟨W.heap.size + 1, 3, none⟩ = some (.int .i64 hy) := cell_gr hw5 (by go_simp)
        have zw5_1 : W.heap.size + 1 < w5.heap.size := World.block_lt_of_cell? _ _ cw5_1_0
        have cw5_2_0 : w5.cell? ⟨W.heap.size + 1 + 1, 0, none⟩ = some (.int .i64 mx) := cell_gr hw5 (by go_simp)
        have cw5_2_1 : w5.cell? ⟨W.heap.size + 1 + 1, 1, none⟩ = some (.int .i64 my) := cell_gr hw5 (by go_simp)
        have cw5_2_2 : w5.cell? ⟨W.heap.size + 1 + 1, 2, none⟩ = some (.int .i64 nx) := cell_gr hw5 (by go_simp)
        have cw5_2_3 : w5.cell? ⟨W.heap.size + 1 + 1, 3, none⟩ = some (.int .i64 ny) := cell_gr hw5 (by go_simp)
        have zw5_2 : W.heap.size + 1 + 1 < w5.heap.size := World.block_lt_of_cell? _ _ cw5_2_0
        have cw5_3_0 : w5.cell? ⟨w3.heap.size, 0, none⟩ = some (.int .i64 lx) := cell_gr hw5 (by go_simp)
        have cw5_3_1 : w5.cell? ⟨w3.heap.size, 1, none⟩ = some (.int .i64 ly) := cell_gr hw5 (by go_simp)
        have cw5_3_2 : w5.cell? ⟨w3.heap.size, 2, none⟩ = some (.int .i64 hx) := cell_gr hw5 (by go_simp)
        have cw5_3_3 : w5.cell? ⟨w3.heap.size, 3, none⟩ = some (.int .i64 hy) := cell_gr hw5 (by go_simp)
        have cw5_3_4 : w5.cell? ⟨w3.heap.size, 4, none⟩ = some (.int .i64 mx) := cell_gr hw5 (by go_simp)
        have cw5_3_5 : w5.cell? ⟨w3.heap.size, 5, none⟩ = some (.int .i64 my) := cell_gr hw5 (by go_simp)
        have cw5_3_6 : w5.cell? ⟨w3.heap.size, 6, none⟩ = some (.int .i64 nx) := cell_gr hw5 (by go_simp)
        have cw5_3_7 : w5.cell? ⟨w3.heap.size, 7, none⟩ = some (.int .i64 ny) := cell_gr hw5 (by go_simp)
        have zw5_3 : w3.heap.size < w5.heap.size := World.block_lt_of_cell? _ _ cw5_3_0
        have gw5 : Gr W w5 := Gr.trans (by have gg := gw4; have gs := gg.size; go_grown) hw5
        clear hw5 gw4 zw4_0 cw4_0_0 cw4_0_1 zw4_1 cw4_1_0 cw4_1_1 cw4_1_2 cw4_1_3 zw4_2 cw4_2_0 cw4_2_1 cw4_2_2 cw4_2_3 zw4_3 cw4_3_0 cw4_3_1 cw4_3_2 cw4_3_3 cw4_3_4 cw4_3_5 cw4_3_6 cw4_3_7
        go_wp2_with fail
        generalize hhw6 : (w5.alloc (.cells #[.int .i64 ux, .int .i64 uy, .int .i64 vx, .int .i64 vy] 28)) = w6
        have cw6_0_0 : w6.cell? ⟨W.heap.size, 0, none⟩ = some (.int .i64 k) := by subst hhw6; go_simp
        have cw6_0_1 : w6.cell? ⟨W.heap.size, 1, none⟩ = some (.slice ad n cap) := by subst hhw6; go_simp
        have zw6_0 : W.heap.size < w6.heap.size := World.block_lt_of_cell? _ _ cw6_0_0
        have cw6_1_0 : w6.cell? ⟨W.heap.size + 1, 0, none⟩ = some (.int .i64 lx) := by subst hhw6; go_simp
        have cw6_1_1 : w6.cell? ⟨W.heap.size + 1, 1, none⟩ = some (.int .i64 ly) := by subst hhw6; go_simp
        have cw6_1_2 : w6.cell? ⟨W.heap.size + 1, 2, none⟩ = some (.int .i64 hx) := by subst hhw6; go_simp
        have cw6_1_3 : w6.cell? ⟨W.heap.size + 1, 3, none⟩ = some (.int .i64 hy) := by subst hhw6; go_simp
        have zw6_1 : W.heap.size + 1 < w6.heap.size := World.block_lt_of_cell? _ _ cw6_1_0
        have cw6_2_0 : w6.cell? ⟨W.heap.size + 1 + 1, 0, none⟩ = some (.int .i64 mx) := by subst hhw6; go_simp
        have cw6_2_1 : w6.cell? ⟨W.heap.size + 1 + 1, 1, none⟩ = some (.int .i64 my) := by subst hhw6; go_simp
        have cw6_2_2 : w6.cell? ⟨W.heap.size + 1 + 1, 2, none⟩ = some (.int .i64 nx) := by subst hhw6; go_simp
        have cw6_2_3 : w6.cell? ⟨W.heap.size + 1 + 1, 3, none⟩ = some (.int .i64 ny) := by subst hhw6; go_simp
        have zw6_2 : W.heap.size + 1 + 1 < w6.heap.size := World.block_lt_of_cell? _ _ cw6_2_0
        have cw6_3_0 : w6.cell? ⟨w5.heap.size, 0, none⟩ = some (.int .i64 ux) := by subst hhw6; go_simp
        have cw6_3_1 : w6.cell? ⟨w5.heap.size, 1, none⟩ = some (.int .i64 uy) := by subst hhw6; go_simp
        have cw6_3_2 : w6.cell? ⟨w5.heap.size, 2, none⟩ = some (.int .i64 vx) := by subst hhw6; go_simp
        have cw6_3_3 : w6.cell? ⟨w5.heap.size, 3, none⟩ = some (.int .i64 vy) := by subst hhw6; go_simp
        have zw6_3 : w5.heap.size < w6.heap.size := World.block_lt_of_cell? _ _ cw6_3_0
        have gw6 : Gr W w6 := by subst hhw6; have gg := gw5; have gs := gg.size; go_grown
        clear hhw6 gw5 zw5_0 cw5_0_0 cw5_0_1 zw5_1 cw5_1_0 cw5_1_1 cw5_1_2 cw5_1_3 zw5_2 cw5_2_0 cw5_2_1 cw5_2_2 cw5_2_3 zw5_3 cw5_3_0 cw5_3_1 cw5_3_2 cw5_3_3 cw5_3_4 cw5_3_5 cw5_3_6 cw5_3_7
        go_wp2_with fail
        go_at_call 9
        refine ((HN1.out _ gw6 cw6_0_0 cw6_0_1)).mono ?_
        rintro e w7 ⟨rfl, hw7⟩
        have cw7_0_0 : w7.cell? ⟨W.heap.size, 0, none⟩ = some (.int .i64 k) := cell_gr hw7 (by go_simp)
        have cw7_0_1 : w7.cell? ⟨W.heap.size, 1, none⟩ = some (.slice ad n cap) := cell_gr hw7 (by go_simp)
        have zw7_0 : W.heap.size < w7.heap.size := World.block_lt_of_cell? _ _ cw7_0_0
        have cw7_1_0 : w7.cell? ⟨W.heap.size + 1, 0, none⟩ = some (.int .i64 lx) := cell_gr hw7 (by go_simp)
        have cw7_1_1 : w7.cell? ⟨W.heap.size + 1, 1, none⟩ = some (.int .i64 ly) := cell_gr hw7 (by go_simp)
        have cw7_1_2 : w7.cell? ⟨W.heap.size + 1, 2, none⟩ = some (.int .i64 hx) := cell_gr hw7 (by go_simp)
        have cw7_1_3 : w7.cell? ⟨W.heap.size + 1, 3, none⟩ = some (.int .i64 hy) := cell_gr hw7 (by go_simp)
        have zw7_1 : W.heap.size + 1 < w7.heap.size := World.block_lt_of_cell? _ _ cw7_1_0
        have cw7_2_0 : w7.cell? ⟨W.heap.size + 1 + 1, 0, none⟩ = some (.int .i64 mx) := cell_gr hw7 (by go_simp)
        have cw7_2_1 : w7.cell? ⟨W.heap.size + 1 + 1, 1, none⟩ = some (.int .i64 my) := cell_gr hw7 (by go_simp)
        have cw7_2_2 : w7.cell? ⟨W.heap.size + 1 + 1, 2, none⟩ = some (.int .i64 nx) := cell_gr hw7 (by go_simp)
        have cw7_2_3 : w7.cell? ⟨W.heap.size + 1 + 1, 3, none⟩ = some (.int .i64 ny) := cell_gr hw7 (by go_simp)
        have zw7_2 : W.heap.size + 1 + 1 < w7.heap.size := World.block_lt_of_cell? _ _ cw7_2_0
        have cw7_3_0 : w7.cell? ⟨w5.heap.size, 0, none⟩ = some (.int .i64 ux) := cell_gr hw7 (by go_simp)
        have cw7_3_1 : w7.cell? ⟨w5.heap.size, 1, none⟩ = some (.int .i64 uy) := cell_gr hw7 (by go_simp)
        have cw7_3_2 : w7.cell? ⟨w5.heap.size, 2, none⟩ = some (.int .i64 vx) := cell_gr hw7 (by go_simp)
        have cw7_3_3 : w7.cell? ⟨w5.heap.size, 3, none⟩ = some (.int .i64 vy) := cell_gr hw7 (by go_simp)
        have zw7_3 : w5.heap.size < w7.heap.size := World.block_lt_of_cell? _ _ cw7_3_0
        have gw7 : Gr W w7 := Gr.trans (by have gg := gw6; have gs := gg.size; go_grown) hw7
        clear hw7 gw6 zw6_0 cw6_0_0 cw6_0_1 zw6_1 cw6_1_0 cw6_1_1 cw6_1_2 cw6_1_3 zw6_2 cw6_2_0 cw6_2_1 cw6_2_2 cw6_2_3 zw6_3 cw6_3_0 cw6_3_1 cw6_3_2 cw6_3_3
        go_wp2_with fail
        go_at_call 9
        refine ((HN2.out _ gw7 cw7_0_0 cw7_0_1)).mono ?_
        rintro e w8 ⟨rfl, hw8⟩
        have cw8_0_0 : w8.cell? ⟨W.heap.size, 0, none⟩ = some (.int .i64 k) := cell_gr hw8 (by go_simp)
        have cw8_0_1 : w8.cell? ⟨W.heap.size, 1, none⟩ = some (.slice ad n cap) := cell_gr hw8 (by go_simp)
        have zw8_0 : W.heap.size < w8.heap.size := World.block_lt_of_cell? _ _ cw8_0_0
        have cw8_1_0 : w8.cell? ⟨W.heap.size + 1, 0, none⟩ = some (.int .i64 lx) := cell_gr hw8 (by go_simp)
        have cw8_1_1 : w8.cell? ⟨W.heap.size + 1, 1, none⟩ = some (.int .i64 ly) := cell_gr hw8 (by go_simp)
        have cw8_1_2 : w8.cell? ⟨W.heap.size + 1, 2, none⟩ = some (.int .i64 hx) := cell_gr hw8 (by go_simp)
        have cw8_1_3 : w8.cell? ⟨W.heap.size + 1, 3, none⟩ = some (.int .i64 hy) := cell_gr hw8 (by go_simp)
        have zw8_1 : W.heap.size + 1 < w8.heap.size := World.block_lt_of_cell? _ _ cw8_1_0
        have cw8_2_0 : w8.cell? ⟨W.heap.size + 1 + 1, 0, none⟩ = some (.int .i64 mx) := cell_gr hw8 (by go_simp)
        have cw8_2_1 : w8.cell? ⟨W.heap.size + 1 + 1, 1, none⟩ = some (.int .i64 my) := cell_gr hw8 (by go_simp)
        have cw8_2_2 : w8.cell? ⟨W.heap.size + 1 + 1, 2, none⟩ = some (.int .i64 nx) := cell_gr hw8 (by go_simp)
        have cw8_2_3 : w8.cell? ⟨W.heap.size + 1 + 1, 3, none⟩ = some (.int .i64 ny) := cell_gr hw8 (by go_simp)
        have zw8_2 : W.heap.size + 1 + 1 < w8.heap.size := World.block_lt_of_cell? _ _ cw8_2_0
        have cw8_3_0 : w8.cell? ⟨w5.heap.size, 0, none⟩ = some (.int .i64 ux) := cell_gr hw8 (by go_simp)
        have cw8_3_1 : w8.cell? ⟨w5.heap.size, 1, none⟩ = some (.int .i64 uy) := cell_gr hw8 (by go_simp)
        have cw8_3_2 : w8.cell? ⟨w5.heap.size, 2, none⟩ = some (.int .i64 vx) := cell_gr hw8 (by go_simp)
        have cw8_3_3 : w8.cell? ⟨w5.heap.size, 3, none⟩ = some (.int .i64 vy) := cell_gr hw8 (by go_simp)
        have zw8_3 : w5.heap.size < w8.heap.size := World.block_lt_of_cell? _ _ cw8_3_0
        have gw8 : Gr W w8 := Gr.trans (by have gg := gw7; have gs := gg.size; go_grown) hw8
        clear hw8 gw7 zw7_0 cw7_0_0 cw7_0_1 zw7_1 cw7_1_0 cw7_1_1 cw7_1_2 cw7_1_3 zw7_2 cw7_2_0 cw7_2_1 cw7_2_2 cw7_2_3 zw7_3 cw7_3_0 cw7_3_1 cw7_3_2 cw7_3_3
        go_wp2_with fail
        go_at_call 11
        refine ((HN3.out _ gw8 cw8_0_0 cw8_0_1)).mono ?_
        rintro e w9 ⟨rfl, hw9⟩
        have cw9_0_0 : w9.cell? ⟨W.heap.size, 0, none⟩ = some (.int .i64 k) := cell_gr hw9 (by go_simp)
        have cw9_0_1 : w9.cell? ⟨W.heap.size, 1, none⟩ = some (.slice ad n cap) := cell_gr hw9 (by go_simp)
        have zw9_0 : W.heap.size < w9.heap.size := World.block_lt_of_cell? _ _ cw9_0_0
        have cw9_1_0 : w9.cell? ⟨W.heap.size + 1, 0, none⟩ = some (.int .i64 lx) := cell_gr hw9 (by go_simp)
        have cw9_1_1 : w9.cell? ⟨W.heap.size + 1, 1, none⟩ = some (.int .i64 ly) := cell_gr hw9 (by go_simp)
        have cw9_1_2 : w9.cell? ⟨W.heap.size + 1, 2, none⟩ = some (.int .i64 hx) := cell_gr hw9 (by go_simp)
        have cw9_1_3 : w9.cell? ⟨W.heap.size + 1, 3, none⟩ = some (.int .i64 hy) := cell_gr hw9 (by go_simp)
        have zw9_1 : W.heap.size + 1 < w9.heap.size := World.block_lt_of_cell? _ _ cw9_1_0
        have cw9_2_0 : w9.cell? ⟨W.heap.size + 1 + 1, 0, none⟩ = some (.int .i64 mx) := cell_gr hw9 (by go_simp)
        have cw9_2_1 : w9.cell? ⟨W.heap.size + 1 + 1, 1, none⟩ = some (.int .i64 my) := cell_gr hw9 (by go_simp)
        have cw9_2_2 : w9.cell? ⟨W.heap.size + 1 + 1, 2, none⟩ = some (.int .i64 nx) := cell_gr hw9 (by go_simp)
        have cw9_2_3 : w9.cell? ⟨W.heap.size + 1 + 1, 3, none⟩ = some (.int .i64 ny) := cell_gr hw9 (by go_simp)
        have zw9_2 : W.heap.size + 1 + 1 < w9.heap.size := World.block_lt_of_cell? _ _ cw9_2_0
        have cw9_3_0 : w9.cell? ⟨w5.heap.size, 0, none⟩ = some (.int .i64 ux) := cell_gr hw9 (by go_simp)
        have cw9_3_1 : w9.cell? ⟨w5.heap.size, 1, none⟩ = some (.int .i64 uy) := cell_gr hw9 (by go_simp)
        have cw9_3_2 : w9.cell? ⟨w5.heap.size, 2, none⟩ = some (.int .i64 vx) := cell_gr hw9 (by go_simp)
        have cw9_3_3 : w9.cell? ⟨w5.heap.size, 3, none⟩ = some (.int .i64 vy) := cell_gr hw9 (by go_simp)
        have zw9_3 : w5.heap.size < w9.heap.size := World.block_lt_of_cell? _ _ cw9_3_0
        have gw9 : Gr W w9 := Gr.trans (by have gg := gw8; have gs := gg.size; go_grown) hw9
        clear hw9 gw8 zw8_0 cw8_0_0 cw8_0_1 zw8_1 cw8_1_0 cw8_1_1 cw8_1_2 cw8_1_3 zw8_2 cw8_2_0 cw8_2_1 cw8_2_2 cw8_2_3 zw8_3 cw8_3_0 cw8_3_1 cw8_3_2 cw8_3_3
        go_wp2_with fail
        go_at_call 11
        refine ((HN4.out _ gw9 cw9_0_0 cw9_0_1)).mono ?_
        rintro e w10 ⟨rfl, hw10⟩
        have cw10_0_0 : w10.cell? ⟨W.heap.size, 0, none⟩ = some (.int .i64 k) := cell_gr hw10 (by go_simp)
        have cw10_0_1 : w10.cell? ⟨W.heap.size, 1, none⟩ = some (.slice ad n cap) := cell_gr hw10 (by go_simp)
        have zw10_0 : W.heap.size < w10.heap.size := World.block_lt_of_cell? _ _ cw10_0_0
        have cw10_1_0 : w10.cell? ⟨W.heap.size + 1, 0, none⟩ = some (.int .i64 lx) := cell_gr hw10 (by go_simp)
        have cw10_1_1 : w10.cell? ⟨W.heap.size + 1, 1, none⟩ = some (.int .i64 ly) := cell_gr hw10 (by go_simp)
        have cw10_1_2 : w10.cell? ⟨W.heap.size + 1, 2, none⟩ = some (.int .i64 hx) := cell_gr hw10 (by go_simp)
        have cw10_1_3 : w10.cell? ⟨W.heap.size + 1, 3, none⟩ = some (.int .i64 hy) := cell_gr hw10 (by go_simp)
        have zw10_1 : W.heap.size + 1 < w10.heap.size := World.block_lt_of_cell? _ _ cw10_1_0
        have cw10_2_0 : w10.cell? ⟨W.heap.size + 1 + 1, 0, none⟩ = some (.int .i64 mx) := cell_gr hw10 (by go_simp)
        have cw10_2_1 : w10.cell? ⟨W.heap.size + 1 + 1, 1, none⟩ = some (.int .i64 my) := cell_gr hw10 (by go_simp)
        have cw10_2_2 : w10.cell? ⟨W.heap.size + 1 + 1, 2, none⟩ = some (.int .i64 nx) := cell_gr hw10 (by go_simp)
        have cw10_2_3 : w10.cell? ⟨W.heap.size + 1 + 1, 3, none⟩ = some (.int .i64 ny) := cell_gr hw10 (by go_simp)
        have zw10_2 : W.heap.size + 1 + 1 < w10.heap.size := World.block_lt_of_cell? _ _ cw10_2_0
        have cw10_3_0 : w10.cell? ⟨w5.heap.size, 0, none⟩ = some (.int .i64 ux) := cell_gr hw10 (by go_simp)
        have cw10_3_1 : w10.cell? ⟨w5.heap.size, 1, none⟩ = some (.int .i64 uy) := cell_gr hw10 (by go_simp)
        have cw10_3_2 : w10.cell? ⟨w5.heap.size, 2, none⟩ = some (.int .i64 vx) := cell_gr hw10 (by go_simp)
        have cw10_3_3 : w10.cell? ⟨w5.heap.size, 3, none⟩ = some (.int .i64 vy) := cell_gr hw10 (by go_simp)
        have zw10_3 : w5.heap.size < w10.heap.size := World.block_lt_of_cell? _ _ cw10_3_0
        have gw10 : Gr W w10 := Gr.trans (by have gg := gw9; have gs := gg.size; go_grown) hw10
        clear hw10 gw9 zw9_0 cw9_0_0 cw9_0_1 zw9_1 cw9_1_0 cw9_1_1 cw9_1_2 cw9_1_3 zw9_2 cw9_2_0 cw9_2_1 cw9_2_2 cw9_2_3 zw9_3 cw9_3_0 cw9_3_1 cw9_3_2 cw9_3_3
        go_wp2_with fail
        go_at_call 11
        refine ((HN3.out _ gw10 cw10_0_0 cw10_0_1)).mono ?_
        rintro e w11 ⟨rfl, hw11⟩
        have cw11_0_0 : w11.cell? ⟨W.heap.size, 0, none⟩ = some (.int .i64 k) := cell_gr hw11 (by go_simp)
        have cw11_0_1 : w11.cell? ⟨W.heap.size, 1, none⟩ = some (.slice ad n cap) := cell_gr hw11 (by go_simp)
        have zw11_0 : W.heap.size < w11.heap.size := World.block_lt_of_cell? _ _ cw11_0_0
        have cw11_1_0 : w11.cell? ⟨W.heap.size + 1, 0, none⟩ = some (.int .i64 lx) := cell_gr hw11 (by go_simp)
        have cw11_1_1 : w11.cell? ⟨W.heap.size + 1, 1, none⟩ = some (.int .i64 ly) := cell_gr hw11 (by go_simp)
        have cw11_1_2 : w11.cell? ⟨W.heap.size + 1, 2, none⟩ = some (.int .i64 hx) := cell_gr hw11 (by go_simp)
        have cw11_1_3 : w11.cell? ⟨W.heap.size + 1, 3, none⟩ = some (.int .i64 hy) := cell_gr hw11 (by go_simp)
        have zw11_1 : W.heap.size + 1 < w11.heap.size := World.block_lt_of_cell? _ _ cw11_1_0
        have cw11_2_0 : w11.cell? ⟨W.heap.size + 1 + 1, 0, none⟩ = some (.int .i64 mx) := cell_gr hw11 (by go_simp)
        have cw11_2_1 : w11.cell? ⟨W.heap.size + 1 + 1, 1, none⟩ = some (.int .i64 my) := cell_gr hw11 (by go_simp)
        have cw11_2_2 : w11.cell? ⟨W.heap.size + 1 + 1, 2, none⟩ = some (.int .i64 nx) := cell_gr hw11 (by go_simp)
        have cw11_2_3 : w11.cell? ⟨W.heap.size + 1 + 1, 3, none⟩ = some (.int .i64 ny) := cell_gr hw11 (by go_simp)
        have zw11_2 : W.heap.size + 1 + 1 < w11.heap.size := World.block_lt_of_cell? _ _ cw11_2_0
        have cw11_3_0 : w11.cell? ⟨w5.heap.size, 0, none⟩ = some (.int .i64 ux) := cell_gr hw11 (by go_simp)
        have cw11_3_1 : w11.cell? ⟨w5.heap.size, 1, none⟩ = some (.int .i64 uy) := cell_gr hw11 (by go_simp)
        have cw11_3_2 : w11.cell? ⟨w5.heap.size, 2, none⟩ = some (.int .i64 vx) := cell_gr hw11 (by go_simp)
        have cw11_3_3 : w11.cell? ⟨w5.heap.size, 3, none⟩ = some (.int .i64 vy) := cell_gr hw11 (by go_simp)
        have zw11_3 : w5.heap.size < w11.heap.size := World.block_lt_of_cell? _ _ cw11_3_0
        have gw11 : Gr W w11 := Gr.trans (by have gg := gw10; have gs := gg.size; go_grown) hw11
        clear hw11 gw10 zw10_0 cw10_0_0 cw10_0_1 zw10_1 cw10_1_0 cw10_1_1 cw10_1_2 cw10_1_3 zw10_2 cw10_2_0 cw10_2_1 cw10_2_2 cw10_2_3 zw10_3 cw10_3_0 cw10_3_1 cw10_3_2 cw10_3_3
        go_wp2_with fail
        go_at_call 11
        refine ((HN5.out _ gw11 cw11_0_0 cw11_0_1)).mono ?_
        rintro e w12 ⟨rfl, hw12⟩
        have cw12_0_0 : w12.cell? ⟨W.heap.size, 0, none⟩ = some (.int .i64 k) := cell_gr hw12 (by go_simp)
        have cw12_0_1 : w12.cell? ⟨W.heap.size, 1, none⟩ = some (.slice ad n cap) := cell_gr hw12 (by go_simp)
        have zw12_0 : W.heap.size < w12.heap.size := World.block_lt_of_cell? _ _ cw12_0_0
        have cw12_1_0 : w12.cell? ⟨W.heap.size + 1, 0, none⟩ = some (.int .i64 lx) := cell_gr hw12 (by go_simp)
        have cw12_1_1 : w12.cell? ⟨W.heap.size + 1, 1, none⟩ = some (.int .i64 ly) := cell_gr hw12 (by go_simp)
        have cw12_1_2 : w12.cell? ⟨W.heap.size + 1, 2, none⟩ = some (.int .i64 hx) := cell_gr hw12 (by go_simp)
        have cw12_1_3 : w12.cell? ⟨W.heap.size + 1, 3, none⟩ = some (.int .i64 hy) := cell_gr hw12 (by go_simp)
        have zw12_1 : W.heap.size + 1 < w12.heap.size := World.block_lt_of_cell? _ _ cw12_1_0
        have cw12_2_0 : w12.cell? ⟨W.heap.size + 1 + 1, 0, none⟩ = some (.int .i64 mx) := cell_gr hw12 (by go_simp)
        have cw12_2_1 : w12.cell? ⟨W.heap.size + 1 + 1, 1, none⟩ = some (.int .i64 my) := cell_gr hw12 (by go_simp)
        have cw12_2_2 : w12.cell? ⟨W.heap.size + 1 + 1, 2, none⟩ = some (.int .i64 nx) := cell_gr hw12 (by go_simp)
        have cw12_2_3 : w12.cell? ⟨W.heap.size + 1 + 1, 3, none⟩ = some (.int .i64 ny) := cell_gr hw12 (by go_simp)
        have zw12_2 : W.heap.size + 1 + 1 < w12.heap.size := World.block_lt_of_cell? _ _ cw12_2_0
        have cw12_3_0 : w12.cell? ⟨w5.heap.size, 0, none⟩ = some (.int .i64 ux) := cell_gr hw12 (by go_simp)
        have cw12_3_1 : w12.cell? ⟨w5.heap.size, 1, none⟩ = some (.int .i64 uy) := cell_gr hw12 (by go_simp)
        have cw12_3_2 : w12.cell? ⟨w5.heap.size, 2, none⟩ = some (.int .i64 vx) := cell_gr hw12 (by go_simp)
        have cw12_3_3 : w12.cell? ⟨w5.heap.size, 3, none⟩ = some (.int .i64 vy) := cell_gr hw12 (by go_simp)
        have zw12_3 : w5.heap.size < w12.heap.size := World.block_lt_of_cell? _ _ cw12_3_0
        have gw12 : Gr W w12 := Gr.trans (by have gg := gw11; have gs := gg.size; go_grown) hw12
        clear hw12 gw11 zw11_0 cw11_0_0 cw11_0_1 zw11_1 cw11_1_0 cw11_1_1 cw11_1_2 cw11_1_3 zw11_2 cw11_2_0 cw11_2_1 cw11_2_2 cw11_2_3 zw11_3 cw11_3_0 cw11_3_1 cw11_3_2 cw11_3_3
        go_wp2_with fail
        go_at_call 13
        refine ((H6.out _ gw12)).mono ?_
        rintro e w13 ⟨rfl, hw13⟩
        have cw13_0_0 : w13.cell? ⟨W.heap.size, 0, none⟩ = some (.int .i64 k) := cell_gr hw13 (by go_simp)
        have cw13_0_1 : w13.cell? ⟨W.heap.size, 1, none⟩ = some (.slice ad n cap) := cell_gr hw13 (by go_simp)
        have zw13_0 : W.heap.size < w13.heap.size := World.block_lt_of_cell? _ _ cw13_0_0
        have cw13_1_0 : w13.cell? ⟨W.heap.size + 1, 0, none⟩ = some (.int .i64 lx) := cell_gr hw13 (by go_simp)
        have cw13_1_1 : w13.cell? ⟨W.heap.size + 1, 1, none⟩ = some (.int .i64 ly) := cell_gr hw13 (by go_simp)
        have cw13_1_2 : w13.cell? ⟨W.heap.size + 1, 2, none⟩ = some (.int .i64 hx) := cell_gr hw13 (by go_simp)
        have cw13_1_3 : w13.cell? ⟨W.heap.size + 1, 3, none⟩ = some (.int .i64 hy) := cell_gr hw13 (by go_simp)
        have zw13_1 : W.heap.size + 1 < w13.heap.size := World.block_lt_of_cell? _ _ cw13_1_0
        have cw13_2_0 : w13.cell? ⟨W.heap.size + 1 + 1, 0, none⟩ = some (.int .i64 mx) := cell_gr hw13 (by go_simp)
        have cw13_2_1 : w13.cell? ⟨W.heap.size + 1 + 1, 1, none⟩ = some (.int .i64 my) := cell_gr hw13 (by go_simp)
        have cw13_2_2 : w13.cell? ⟨W.heap.size + 1 + 1, 2, none⟩ = some (.int .i64 nx) := cell_gr hw13 (by go_simp)
        have cw13_2_3 : w13.cell? ⟨W.heap.size + 1 + 1, 3, none⟩ = some (.int .i64 ny) := cell_gr hw13 (by go_simp)
        have zw13_2 : W.heap.size + 1 + 1 < w13.heap.size := World.block_lt_of_cell? _ _ cw13_2_0
        have cw13_3_0 : w13.cell? ⟨w5.heap.size, 0, none⟩ = some (.int .i64 ux) := cell_gr hw13 (by go_simp)
        have cw13_3_1 : w13.cell? ⟨w5.heap.size, 1, none⟩ = some (.int .i64 uy) := cell_gr hw13 (by go_simp)
        have cw13_3_2 : w13.cell? ⟨w5.heap.size, 2, none⟩ = some (.int .i64 vx) := cell_gr hw13 (by go_simp)
        have cw13_3_3 : w13.cell? ⟨w5.heap.size, 3, none⟩ = some (.int .i64 vy) := cell_gr hw13 (by go_simp)
        have zw13_3 : w5.heap.size < w13.heap.size := World.block_lt_of_cell? _ _ cw13_3_0
        have gw13 : Gr W w13 := Gr.trans (by have gg := gw12; have gs := gg.size; go_grown) hw13
        clear hw13 gw12 zw12_0 cw12_0_0 cw12_0_1 zw12_1 cw12_1_0 cw12_1_1 cw12_1_2 cw12_1_3 zw12_2 cw12_2_0 cw12_2_1 cw12_2_2 cw12_2_3 zw12_3 cw12_3_0 cw12_3_1 cw12_3_2 cw12_3_3
        go_wp2_with fail
        generalize hhwx : (w13.alloc (.cells #[.int .i64 p1, .int .i64 p2, .int .i64 p3, .int .i64 p4] 28)) = wx
        have cwx_0_0 : wx.cell? ⟨W.heap.size, 0, none⟩ = some (.int .i64 k) := by subst hhwx; go_simp
        have cwx_0_1 : wx.cell? ⟨W.heap.size, 1, none⟩ = some (.slice ad n cap) := by subst hhwx; go_simp
        have zwx_0 : W.heap.size < wx.heap.size := World.block_lt_of_cell? _ _ cwx_0_0
        have cwx_1_0 : wx.cell? ⟨W.heap.size + 1, 0, none⟩ = some (.int .i64 lx) := by subst hhwx; go_simp
        have cwx_1_1 : wx.cell? ⟨W.heap.size + 1, 1, none⟩ = some (.int .i64 ly) := by subst hhwx; go_simp
        have cwx_1_2 : wx.cell? ⟨W.heap.size + 1, 2, none⟩ = some (.int .i64 hx) := by subst hhwx; go_simp
        have cwx_1_3 : wx.cell? ⟨W.heap.size + 1, 3, none⟩ = some (.int .i64 hy) := by subst hhwx; go_simp
        have zwx_1 : W.heap.size + 1 < wx.heap.size := World.block_lt_of_cell? _ _ cwx_1_0
        have cwx_2_0 : wx.cell? ⟨W.heap.size + 1 + 1, 0, none⟩ = some (.int .i64 mx) := by subst hhwx; go_simp
        have cwx_2_1 : wx.cell? ⟨W.heap.size + 1 + 1, 1, none⟩ = some (.int .i64 my) := by subst hhwx; go_simp
        have cwx_2_2 : wx.cell? ⟨W.heap.size + 1 + 1, 2, none⟩ = some (.int .i64 nx) := by subst hhwx; go_simp
        have cwx_2_3 : wx.cell? ⟨W.heap.size + 1 + 1, 3, none⟩ = some (.int .i64 ny) := by subst hhwx; go_simp
        have zwx_2 : W.heap.size + 1 + 1 < wx.heap.size := World.block_lt_of_cell? _ _ cwx_2_0
        have cwx_3_0 : wx.cell? ⟨w5.heap.size, 0, none⟩ = some (.int .i64 ux) := by subst hhwx; go_simp
        have cwx_3_1 : wx.cell? ⟨w5.heap.size, 1, none⟩ = some (.int .i64 uy) := by subst hhwx; go_simp
        have cwx_3_2 : wx.cell? ⟨w5.heap.size, 2, none⟩ = some (.int .i64 vx) := by subst hhwx; go_simp
        have cwx_3_3 : wx.cell? ⟨w5.heap.size, 3, none⟩ = some (.int .i64 vy) := by subst hhwx; go_simp
        have zwx_3 : w5.heap.size < wx.heap.size := World.block_lt_of_cell? _ _ cwx_3_0
        have cwx_4_0 : wx.cell? ⟨w13.heap.size, 0, none⟩ = some (.int .i64 p1) := by subst hhwx; go_simp
        have cwx_4_1 : wx.cell? ⟨w13.heap.size, 1, none⟩ = some (.int .i64 p2) := by subst hhwx; go_simp
        have cwx_4_2 : wx.cell? ⟨w13.heap.size, 2, none⟩ = some (.int .i64 p3) := by subst hhwx; go_simp
        have cwx_4_3 : wx.cell? ⟨w13.heap.size, 3, none⟩ = some (.int .i64 p4) := by subst hhwx; go_simp
        have zwx_4 : w13.heap.size < wx.heap.size := World.block_lt_of_cell? _ _ cwx_4_0
        have gwx : Gr W wx := by subst hhwx; have gg := gw13; have gs := gg.size; go_grown
        clear hhwx gw13 zw13_0 cw13_0_0 cw13_0_1 zw13_1 cw13_1_0 cw13_1_1 cw13_1_2 cw13_1_3 zw13_2 cw13_2_0 cw13_2_1 cw13_2_2 cw13_2_3 zw13_3 cw13_3_0 cw13_3_1 cw13_3_2 cw13_3_3
        go_wp2_with fail
        go_at_call 11
        refine ((HN6.out _ gwx cwx_0_0 cwx_0_1)).mono ?_
        rintro e w14 ⟨rfl, hw14⟩
        have cw14_0_0 : w14.cell? ⟨W.heap.size, 0, none⟩ = some (.int .i64 k) := cell_gr hw14 (by go_simp)
        have cw14_0_1 : w14.cell? ⟨W.heap.size, 1, none⟩ = some (.slice ad n cap) := cell_gr hw14 (by go_simp)
        have zw14_0 : W.heap.size < w14.heap.size := World.block_lt_of_cell? _ _ cw14_0_0
        have cw14_1_0 : w14.cell? ⟨W.heap.size + 1, 0, none⟩ = some (.int .i64 lx) := cell_gr hw14 (by go_simp)
        have cw14_1_1 : w14.cell? ⟨W.heap.size + 1, 1, none⟩ = some (.int .i64 ly) := cell_gr hw14 (by go_simp)
        have cw14_1_2 : w14.cell? ⟨W.heap.size + 1, 2, none⟩ = some (.int .i64 hx) := cell_gr hw14 (by go_simp)
        have cw14_1_3 : w14.cell? ⟨W.heap.size + 1, 3, none⟩ = some (.int .i64 hy) := cell_gr hw14 (by go_simp)
        have zw14_1 : W.heap.size + 1 < w14.heap.size := World.block_lt_of_cell? _ _ cw14_1_0
        have cw14_2_0 : w14.cell? ⟨W.heap.size + 1 + 1, 0, none⟩ = some (.int .i64 mx) := cell_gr hw14 (by go_simp)
        have cw14_2_1 : w14.cell? ⟨W.heap.size + 1 + 1, 1, none⟩ = some (.int .i64 my) := cell_gr hw14 (by go_simp)
        have cw14_2_2 : w14.cell? ⟨W.heap.size + 1 + 1, 2, none⟩ = some (.int .i64 nx) := cell_gr hw14 (by go_simp)
        have cw14_2_3 : w14.cell? ⟨W.heap.size + 1 + 1, 3, none⟩ = some (.int .i64 ny) := cell_gr hw14 (by go_simp)
        have zw14_2 : W.heap.size + 1 + 1 < w14.heap.size := World.block_lt_of_cell? _ _ cw14_2_0
        have cw14_3_0 : w14.cell? ⟨w5.heap.size, 0, none⟩ = some (.int .i64 ux) := cell_gr hw14 (by go_simp)
        have cw14_3_1 : w14.cell? ⟨w5.heap.size, 1, none⟩ = some (.int .i64 uy) := cell_gr hw14 (by go_simp)
        have cw14_3_2 : w14.cell? ⟨w5.heap.size, 2, none⟩ = some (.int .i64 vx) := cell_gr hw14 (by go_simp)
        have cw14_3_3 : w14.cell? ⟨w5.heap.size, 3, none⟩ = some (.int .i64 vy) := cell_gr hw14 (by go_simp)
        have zw14_3 : w5.heap.size < w14.heap.size := World.block_lt_of_cell? _ _ cw14_3_0
        have cw14_4_0 : w14.cell? ⟨w13.heap.size, 0, none⟩ = some (.int .i64 p1) := cell_gr hw14 (by go_simp)
        have cw14_4_1 : w14.cell? ⟨w13.heap.size, 1, none⟩ = some (.int .i64 p2) := cell_gr hw14 (by go_simp)
        have cw14_4_2 : w14.cell? ⟨w13.heap.size, 2, none⟩ = some (.int .i64 p3) := cell_gr hw14 (by go_simp)
        have cw14_4_3 : w14.cell? ⟨w13.heap.size, 3, none⟩ = some (.int .i64 p4) := cell_gr hw14 (by go_simp)
        have zw14_4 : w13.heap.size < w14.heap.size := World.block_lt_of_cell? _ _ cw14_4_0
        have gw14 : Gr W w14 := Gr.trans (by have gg := gwx; have gs := gg.size; go_grown) hw14
        clear hw14 gwx zwx_0 cwx_0_0 cwx_0_1 zwx_1 cwx_1_0 cwx_1_1 cwx_1_2 cwx_1_3 zwx_2 cwx_2_0 cwx_2_1 cwx_2_2 cwx_2_3 zwx_3 cwx_3_0 cwx_3_1 cwx_3_2 cwx_3_3 zwx_4 cwx_4_0 cwx_4_1 cwx_4_2 cwx_4_3
        go_wp2_with fail
        go_at_call 9
        refine ((HN7.out _ gw14 cw14_0_0 cw14_0_1)).mono ?_
        rintro e w15 ⟨rfl, hw15⟩
        have cw15_0_0 : w15.cell? ⟨W.heap.size, 0, none⟩ = some (.int .i64 k) := cell_gr hw15 (by go_simp)
        have cw15_0_1 : w15.cell? ⟨W.heap.size, 1, none⟩ = some (.slice ad n cap) := cell_gr hw15 (by go_simp)
        have zw15_0 : W.heap.size < w15.heap.size := World.block_lt_of_cell? _ _ cw15_0_0
        have cw15_1_0 : w15.cell? ⟨W.heap.size + 1, 0, none⟩ = some (.int .i64 lx) := cell_gr hw15 (by go_simp)
        have cw15_1_1 : w15.cell? ⟨W.heap.size + 1, 1, none⟩ = some (.int .i64 ly) := cell_gr hw15 (by go_simp)
        have cw15_1_2 : w15.cell? ⟨W.heap.size + 1, 2, none⟩ = some (.int .i64 hx) := cell_gr hw15 (by go_simp)
        have cw15_1_3 : w15.cell? ⟨W.heap.size + 1, 3, none⟩ = some (.int .i64 hy) := cell_gr hw15 (by go_simp)
        have zw15_1 : W.heap.size + 1 < w15.heap.size := World.block_lt_of_cell? _ _ cw15_1_0
        have cw15_2_0 : w15.cell? ⟨W.heap.size + 1 + 1, 0, none⟩ = some (.int .i64 mx) := cell_gr hw15 (by go_simp)
        have cw15_2_1 : w15.cell? ⟨W.heap.size + 1 + 1, 1, none⟩ = some (.int .i64 my) := cell_gr hw15 (by go_simp)
        have cw15_2_2 : w15.cell? ⟨W.heap.size + 1 + 1, 2, none⟩ = some (.int .i64 nx) := cell_gr hw15 (by go_simp)
        have cw15_2_3 : w15.cell? ⟨W.heap.size + 1 + 1, 3, none⟩ = some (.int .i64 ny) := cell_gr hw15 (by go_simp)
        have zw15_2 : W.heap.size + 1 + 1 < w15.heap.size := World.block_lt_of_cell? _ _ cw15_2_0
        have cw15_3_0 : w15.cell? ⟨w5.heap.size, 0, none⟩ = some (.int .i64 ux) := cell_gr hw15 (by go_simp)
        have cw15_3_1 : w15.cell? ⟨w5.heap.size, 1, none⟩ = some (.int .i64 uy) := cell_gr hw15 (by go_simp)
        have cw15_3_2 : w15.cell? ⟨w5.heap.size, 2, none⟩ = some (.int .i64 vx) := cell_gr hw15 (by go_simp)
        have cw15_3_3 : w15.cell? ⟨w5.heap.size, 3, none⟩ = some (.int .i64 vy) := cell_gr hw15 (by go_simp)
        have zw15_3 : w5.heap.size < w15.heap.size := World.block_lt_of_cell? _ _ cw15_3_0
        have cw15_4_0 : w15.cell? ⟨w13.heap.size, 0, none⟩ = some (.int .i64 p1) := cell_gr hw15 (by go_simp)
        have cw15_4_1 : w15.cell? ⟨w13.heap.size, 1, none⟩ = some (.int .i64 p2) := cell_gr hw15 (by go_simp)
        have cw15_4_2 : w15.cell? ⟨w13.heap.size, 2, none⟩ = some (.int .i64 p3) := cell_gr hw15 (by go_simp)
        have cw15_4_3 : w15.cell? ⟨w13.heap.size, 3, none⟩ = some (.int .i64 p4) := cell_gr hw15 (by go_simp)
        have zw15_4 : w13.heap.size < w15.heap.size := World.block_lt_of_cell? _ _ cw15_4_0
        have gw15 : Gr W w15 := Gr.trans (by have gg := gw14; have gs := gg.size; go_grown) hw15
        clear hw15 gw14 zw14_0 cw14_0_0 cw14_0_1 zw14_1 cw14_1_0 cw14_1_1 cw14_1_2 cw14_1_3 zw14_2 cw14_2_0 cw14_2_1 cw14_2_2 cw14_2_3 zw14_3 cw14_3_0 cw14_3_1 cw14_3_2 cw14_3_3 zw14_4 cw14_4_0 cw14_4_1 cw14_4_2 cw14_4_3
        go_wp2_with fail
        go_at_call 11
        refine ((HN3.out _ gw15 cw15_0_0 cw15_0_1)).mono ?_
        rintro e w16 ⟨rfl, hw16⟩
        have cw16_0_0 : w16.cell? ⟨W.heap.size, 0, none⟩ = some (.int .i64 k) := cell_gr hw16 (by go_simp)
        have cw16_0_1 : w16.cell? ⟨W.heap.size, 1, none⟩ = some (.slice ad n cap) := cell_gr hw16 (by go_simp)
        have zw16_0 : W.heap.size < w16.heap.size := World.block_lt_of_cell? _ _ cw16_0_0
        have cw16_1_0 : w16.cell? ⟨W.heap.size + 1, 0, none⟩ = some (.int .i64 lx) := cell_gr hw16 (by go_simp)
        have cw16_1_1 : w16.cell? ⟨W.heap.size + 1, 1, none⟩ = some (.int .i64 ly) := cell_gr hw16 (by go_simp)
        have cw16_1_2 : w16.cell? ⟨W.heap.size + 1, 2, none⟩ = some (.int .i64 hx) := cell_gr hw16 (by go_simp)
        have cw16_1_3 : w16.cell? ⟨W.heap.size + 1, 3, none⟩ = some (.int .i64 hy) := cell_gr hw16 (by go_simp)
        have zw16_1 : W.heap.size + 1 < w16.heap.size := World.block_lt_of_cell? _ _ cw16_1_0
        have cw16_2_0 : w16.cell? ⟨W.heap.size + 1 + 1, 0, none⟩ = some (.int .i64 mx) := cell_gr hw16 (by go_simp)
        have cw16_2_1 : w16.cell? ⟨W.heap.size + 1 + 1, 1, none⟩ = some (.int .i64 my) := cell_gr hw16 (by go_simp)
        have cw16_2_2 : w16.cell? ⟨W.heap.size + 1 + 1, 2, none⟩ = some (.int .i64 nx) := cell_gr hw16 (by go_simp)
        have cw16_2_3 : w16.cell? ⟨W.heap.size + 1 + 1, 3, none⟩ = some (.int .i64 ny) := cell_gr hw16 (by go_simp)
        have zw16_2 : W.heap.size + 1 + 1 < w16.heap.size := World.block_lt_of_cell? _ _ cw16_2_0
        have cw16_3_0 : w16.cell? ⟨w5.heap.size, 0, none⟩ = some (.int .i64 ux) := cell_gr hw16 (by go_simp)
        have cw16_3_1 : w16.cell? ⟨w5.heap.size, 1, none⟩ = some (.int .i64 uy) := cell_gr hw16 (by go_simp)
        have cw16_3_2 : w16.cell? ⟨w5.heap.size, 2, none⟩ = some (.int .i64 vx) := cell_gr hw16 (by go_simp)
        have cw16_3_3 : w16.cell? ⟨w5.heap.size, 3, none⟩ = some (.int .i64 vy) := cell_gr hw16 (by go_simp)
        have zw16_3 : w5.heap.size < w16.heap.size := World.block_lt_of_cell? _ _ cw16_3_0
        have cw16_4_0 : w16.cell? ⟨w13.heap.size, 0, none⟩ = some (.int .i64 p1) := cell_gr hw16 (by go_simp)
        have cw16_4_1 : w16.cell? ⟨w13.heap.size, 1, none⟩ = some (.int .i64 p2) := cell_gr hw16 (by go_simp)
        have cw16_4_2 : w16.cell? ⟨w13.heap.size, 2, none⟩ = some (.int .i64 p3) := cell_gr hw16 (by go_simp)
        have cw16_4_3 : w16.cell? ⟨w13.heap.size, 3, none⟩ = some (.int .i64 p4) := cell_gr hw16 (by go_simp)
        have zw16_4 : w13.heap.size < w16.heap.size := World.block_lt_of_cell? _ _ cw16_4_0
        have gw16 : Gr W w16 := Gr.trans (by have gg := gw15; have gs := gg.size; go_grown) hw16
        clear hw16 gw15 zw15_0 cw15_0_0 cw15_0_1 zw15_1 cw15_1_0 cw15_1_1 cw15_1_2 cw15_1_3 zw15_2 cw15_2_0 cw15_2_1 cw15_2_2 cw15_2_3 zw15_3 cw15_3_0 cw15_3_1 cw15_3_2 cw15_3_3 zw15_4 cw15_4_0 cw15_4_1 cw15_4_2 cw15_4_3
        go_wp2_with fail
        go_at_call 14
        refine ((H7.out _)).mono ?_
        rintro e w17 ⟨rfl, hw17⟩
        have cw17_0_0 : w17.cell? ⟨W.heap.size, 0, none⟩ = some (.int .i64 k) := cell_gr hw17 (by go_simp)
        have cw17_0_1 : w17.cell? ⟨W.heap.size, 1, none⟩ = some (.slice ad n cap) := cell_gr hw17 (by go_simp)
        have zw17_0 : W.heap.size < w17.heap.size := World.block_lt_of_cell? _ _ cw17_0_0
        have cw17_1_0 : w17.cell? ⟨W.heap.size + 1, 0, none⟩ = some (.int .i64 lx) := cell_gr hw17 (by go_simp)
        have cw17_1_1 : w17.cell? ⟨W.heap.size + 1, 1, none⟩ = some (.int .i64 ly) := cell_gr hw17 (by go_simp)
        have cw17_1_2 : w17.cell? ⟨W.heap.size + 1, 2, none⟩ = some (.int .i64 hx) := cell_gr hw17 (by go_simp)
        have cw17_1_3 : w17.cell? ⟨W.heap.size + 1, 3, none⟩ = some (.int .i64 hy) := cell_gr hw17 (by go_simp)
        have zw17_1 : W.heap.size + 1 < w17.heap.size := World.block_lt_of_cell? _ _ cw17_1_0
        have cw17_2_0 : w17.cell? ⟨W.heap.size + 1 + 1, 0, none⟩ = some (.int .i64 mx) := cell_gr hw17 (by go_simp)
        have cw17_2_1 : w17.cell? ⟨W.heap.size + 1 + 1, 1, none⟩ = some (.int .i64 my) := cell_gr hw17 (by go_simp)
        have cw17_2_2 : w17.cell? ⟨W.heap.size + 1 + 1, 2, none⟩ = some (.int .i64 nx) := cell_gr hw17 (by go_simp)
        have cw17_2_3 : w17.cell? ⟨W.heap.size + 1 + 1, 3, none⟩ = some (.int .i64 ny) := cell_gr hw17 (by go_simp)
        have zw17_2 : W.heap.size + 1 + 1 < w17.heap.size := World.block_lt_of_cell? _ _ cw17_2_0
        have cw17_3_0 : w17.cell? ⟨w5.heap.size, 0, none⟩ = some (.int .i64 ux) := cell_gr hw17 (by go_simp)
        have cw17_3_1 : w17.cell? ⟨w5.heap.size, 1, none⟩ = some (.int .i64 uy) := cell_gr hw17 (by go_simp)
        have cw17_3_2 : w17.cell? ⟨w5.heap.size, 2, none⟩ = some (.int .i64 vx) := cell_gr hw17 (by go_simp)
        have cw17_3_3 : w17.cell? ⟨w5.heap.size, 3, none⟩ = some (.int .i64 vy) := cell_gr hw17 (by go_simp)
        have zw17_3 : w5.heap.size < w17.heap.size := World.block_lt_of_cell? _ _ cw17_3_0
        have cw17_4_0 : w17.cell? ⟨w13.heap.size, 0, none⟩ = some (.int .i64 p1) := cell_gr hw17 (by go_simp)
        have cw17_4_1 : w17.cell? ⟨w13.heap.size, 1, none⟩ = some (.int .i64 p2) := cell_gr hw17 (by go_simp)
        have cw17_4_2 : w17.cell? ⟨w13.heap.size, 2, none⟩ = some (.int .i64 p3) := cell_gr hw17 (by go_simp)
        have cw17_4_3 : w17.cell? ⟨w13.heap.size, 3, none⟩ = some (.int .i64 p4) := cell_gr hw17 (by go_simp)
        have zw17_4 : w13.heap.size < w17.heap.size := World.block_lt_of_cell? _ _ cw17_4_0
        have gw17 : Gr W w17 := Gr.trans (by have gg := gw16; have gs := gg.size; go_grown) hw17
        clear hw17 gw16 zw16_0 cw16_0_0 cw16_0_1 zw16_1 cw16_1_0 cw16_1_1 cw16_1_2 cw16_1_3 zw16_2 cw16_2_0 cw16_2_1 cw16_2_2 cw16_2_3 zw16_3 cw16_3_0 cw16_3_1 cw16_3_2 cw16_3_3 zw16_4 cw16_4_0 cw16_4_1 cw16_4_2 cw16_4_3
        go_wp2_with fail
        go_at_call 7
        refine ((H8.out _ gw17)).mono ?_
        rintro e w18 ⟨rfl, hw18⟩
        have cw18_0_0 : w18.cell? ⟨W.heap.size, 0, none⟩ = some (.int .i64 k) := cell_gr hw18 (by go_simp)
        have cw18_0_1 : w18.cell? ⟨W.heap.size, 1, none⟩ = some (.slice ad n cap) := cell_gr hw18 (by go_simp)
        have zw18_0 : W.heap.size < w18.heap.size := World.block_lt_of_cell? _ _ cw18_0_0
        have cw18_1_0 : w18.cell? ⟨W.heap.size + 1, 0, none⟩ = some (.int .i64 lx) := cell_gr hw18 (by go_simp)
        have cw18_1_1 : w18.cell? ⟨W.heap.size + 1, 1, none⟩ = some (.int .i64 ly) := cell_gr hw18 (by go_simp)
        have cw18_1_2 : w18.cell? ⟨W.heap.size + 1, 2, none⟩ = some (.int .i64 hx) := cell_gr hw18 (by go_simp)
        have cw18_1_3 : w18.cell? ⟨W.heap.size + 1, 3, none⟩ = some (.int .i64 hy) := cell_gr hw18 (by go_simp)
        have zw18_1 : W.heap.size + 1 < w18.heap.size := World.block_lt_of_cell? _ _ cw18_1_0
        have cw18_2_0 : w18.cell? ⟨W.heap.size + 1 + 1, 0, none⟩ = some (.int .i64 mx) := cell_gr hw18 (by go_simp)
        have cw18_2_1 : w18.cell? ⟨W.heap.size + 1 + 1, 1, none⟩ = some (.int .i64 my) := cell_gr hw18 (by go_simp)
        have cw18_2_2 : w18.cell? ⟨W.heap.size + 1 + 1, 2, none⟩ = some (.int .i64 nx) := cell_gr hw18 (by go_simp)
        have cw18_2_3 : w18.cell? ⟨W.heap.size + 1 + 1, 3, none⟩ = some (.int .i64 ny) := cell_gr hw18 (by go_simp)
        have zw18_2 : W.heap.size + 1 + 1 < w18.heap.size := World.block_lt_of_cell? _ _ cw18_2_0
        have cw18_3_0 : w18.cell? ⟨w5.heap.size, 0, none⟩ = some (.int .i64 ux) := cell_gr hw18 (by go_simp)
        have cw18_3_1 : w18.cell? ⟨w5.heap.size, 1, none⟩ = some (.int .i64 uy) := cell_gr hw18 (by go_simp)
        have cw18_3_2 : w18.cell? ⟨w5.heap.size, 2, none⟩ = some (.int .i64 vx) := cell_gr hw18 (by go_simp)
        have cw18_3_3 : w18.cell? ⟨w5.heap.size, 3, none⟩ = some (.int .i64 vy) := cell_gr hw18 (by go_simp)
        have zw18_3 : w5.heap.size < w18.heap.size := World.block_lt_of_cell? _ _ cw18_3_0
        have cw18_4_0 : w18.cell? ⟨w13.heap.size, 0, none⟩ = some (.int .i64 p1) := cell_gr hw18 (by go_simp)
        have cw18_4_1 : w18.cell? ⟨w13.heap.size, 1, none⟩ = some (.int .i64 p2) := cell_gr hw18 (by go_simp)
        have cw18_4_2 : w18.cell? ⟨w13.heap.size, 2, none⟩ = some (.int .i64 p3) := cell_gr hw18 (by go_simp)
        have cw18_4_3 : w18.cell? ⟨w13.heap.size, 3, none⟩ = some (.int .i64 p4) := cell_gr hw18 (by go_simp)
        have zw18_4 : w13.heap.size < w18.heap.size := World.block_lt_of_cell? _ _ cw18_4_0
        have gw18 : Gr W w18 := Gr.trans (by have gg := gw17; have gs := gg.size; go_grown) hw18
        clear hw18 gw17 zw17_0 cw17_0_0 cw17_0_1 zw17_1 cw17_1_0 cw17_1_1 cw17_1_2 cw17_1_3 zw17_2 cw17_2_0 cw17_2_1 cw17_2_2 cw17_2_3 zw17_3 cw17_3_0 cw17_3_1 cw17_3_2 cw17_3_3 zw17_4 cw17_4_0 cw17_4_1 cw17_4_2 cw17_4_3
        go_wp2_with fail
        go_ret
        exact ⟨rfl, gw18⟩
      · obtain rfl : bm = true := f3 rfl rfl
        clear f1 f2 f3 f4
        go_enter Tryd.func3, Tryd.ntmps3
        go_wp2_with fail
        go_at_call 5
        refine ((H1.out _ (by go_grown))).mono ?_
        rintro e w1 ⟨rfl, hw1⟩
        have cw1_0_0 : w1.cell? ⟨W.heap.size, 0, none⟩ = some (.int .i64 k) := cell_gr hw1 (by go_simp)
        have cw1_0_1 : w1.cell? ⟨W.heap.size, 1, none⟩ = some (.slice ad n cap) := cell_gr hw1 (by go_simp)
        have zw1_0 : W.heap.size < w1.heap.size := World.block_lt_of_cell? _ _ cw1_0_0
        have cw1_1_0 : w1.cell? ⟨W.heap.size + 1, 0, none⟩ = some (.int .i64 lx) := cell_gr hw1 (by go_simp)
        have cw1_1_1 : w1.cell? ⟨W.heap.size + 1, 1, none⟩ = some (.int .i64 ly) := cell_gr hw1 (by go_simp)
        have cw1_1_2 : w1.cell? ⟨W.heap.size + 1, 2, none⟩ = some (.int .i64 hx) := cell_gr hw1 (by go_simp)
        have cw1_1_3 : w1.cell? ⟨W.heap.size + 1, 3, none⟩ = some (.int .i64 hy) := cell_gr hw1 (by go_simp)
        have zw1_1 : W.heap.size + 1 < w1.heap.size := World.block_lt_of_cell? _ _ cw1_1_0
        have cw1_2_0 : w1.cell? ⟨W.heap.size + 1 + 1, 0, none⟩ = some (.int .i64 mx) := cell_gr hw1 (by go_simp)
        have cw1_2_1 : w1.cell? ⟨W.heap.size + 1 + 1, 1, none⟩ = some (.int .i64 my) := cell_gr hw1 (by go_simp)
        have cw1_2_2 : w1.cell? ⟨W.heap.size + 1 + 1, 2, none⟩ = some (.int .i64 nx) := cell_gr hw1 (by go_simp)
        have cw1_2_3 : w1.cell? ⟨W.heap.size + 1 + 1, 3, none⟩ = some (.int .i64 ny) := cell_gr hw1 (by go_simp)
        have zw1_2 : W.heap.size + 1 + 1 < w1.heap.size := World.block_lt_of_cell? _ _ cw1_2_0
        have gw1 : Gr W w1 := Gr.trans (by go_grown) hw1
        clear hw1
        go_wp2_with fail
        go_at_call 6
        refine ((H2.out _)).mono ?_
        rintro e w2 ⟨rfl, hw2⟩
        have cw2_0_0 : w2.cell? ⟨W.heap.size, 0, none⟩ = some (.int .i64 k) := cell_gr hw2 (by go_simp)
        have cw2_0_1 : w2.cell? ⟨W.heap.size, 1, none⟩ = some (.slice ad n cap) := cell_gr hw2 (by go_simp)
        have zw2_0 : W.heap.size < w2.heap.size := World.block_lt_of_cell? _ _ cw2_0_0
        have cw2_1_0 : w2.cell? ⟨W.heap.size + 1, 0, none⟩ = some (.int .i64 lx) := cell_gr hw2 (by go_simp)
        have cw2_1_1 : w2.cell? ⟨W.heap.size + 1, 1, none⟩ = some (.int .i64 ly) := cell_gr hw2 (by go_simp)
        have cw2_1_2 : w2.cell? ⟨W.heap.size + 1, 2, none⟩ = some (.int .i64 hx) := cell_gr hw2 (by go_simp)
        have cw2_1_3 : w2.cell? ⟨W.heap.size + 1, 3, none⟩ = some (.int .i64 hy) := cell_gr hw2 (by go_simp)
        have zw2_1 : W.heap.size + 1 < w2.heap.size := World.block_lt_of_cell? _ _ cw2_1_0
        have cw2_2_0 : w2.cell? ⟨W.heap.size + 1 + 1, 0, none⟩ = some (.int .i64 mx) := cell_gr hw2 (by go_simp)
        have cw2_2_1 : w2.cell? ⟨W.heap.size + 1 + 1, 1, none⟩ = some (.int .i64 my) := cell_gr hw2 (by go_simp)
        have cw2_2_2 : w2.cell? ⟨W.heap.size + 1 + 1, 2, none⟩ = some (.int .i64 nx) := cell_gr hw2 (by go_simp)
        have cw2_2_3 : w2.cell? ⟨W.heap.size + 1 + 1, 3, none⟩ = some (.int .i64 ny) := cell_gr hw2 (by go_simp)
        have zw2_2 : W.heap.size + 1 + 1 < w2.heap.size := World.block_lt_of_cell? _ _ cw2_2_0
        have gw2 : Gr W w2 := Gr.trans (by have gg := gw1; have gs := gg.size; go_grown) hw2
        clear hw2 gw1 zw1_0 cw1_0_0 cw1_0_1 zw1_1 cw1_1_0 cw1_1_1 cw1_1_2 cw1_1_3 zw1_2 cw1_2_0 cw1_2_1 cw1_2_2 cw1_2_3
        go_wp2_with fail
        go_at_call 6
        refine ((H3.out _)).mono ?_
        rintro e w3 ⟨rfl, hw3⟩
        have cw3_0_0 : w3.cell? ⟨W.heap.size, 0, none⟩ = some (.int .i64 k) := cell_gr hw3 (by go_simp)
        have cw3_0_1 : w3.cell? ⟨W.heap.size, 1, none⟩ = some (.slice ad n cap) := cell_gr hw3 (by go_simp)
        have zw3_0 : W.heap.size < w3.heap.size := World.block_lt_of_cell? _ _ cw3_0_0
        have cw3_1_0 : w3.cell? ⟨W.heap.size + 1, 0, none⟩ = some (.int .i64 lx) := cell_gr hw3 (by go_simp)
        have cw3_1_1 : w3.cell? ⟨W.heap.size + 1, 1, none⟩ = some (.int .i64 ly) := cell_gr hw3 (by go_simp)
        have cw3_1_2 : w3.cell? ⟨W.heap.size + 1, 2, none⟩ = some (.int .i64 hx) := cell_gr hw3 (by go_simp)
        have cw3_1_3 : w3.cell? ⟨W.heap.size + 1, 3, none⟩ = some (.int .i64 hy) := cell_gr hw3 (by go_simp)
        have zw3_1 : W.heap.size + 1 < w3.heap.size := World.block_lt_of_cell? _ _ cw3_1_0
        have cw3_2_0 : w3.cell? ⟨W.heap.size + 1 + 1, 0, none⟩ = some (.int .i64 mx) := cell_gr hw3 (by go_simp)
        have cw3_2_1 : w3.cell? ⟨W.heap.size + 1 + 1, 1, none⟩ = some (.int .i64 my) := cell_gr hw3 (by go_simp)
        have cw3_2_2 : w3.cell? ⟨W.heap.size + 1 + 1, 2, none⟩ = some (.int .i64 nx) := cell_gr hw3 (by go_simp)
        have cw3_2_3 : w3.cell? ⟨W.heap.size + 1 + 1, 3, none⟩ = some (.int .i64 ny) := cell_gr hw3 (by go_simp)
        have zw3_2 : W.heap.size + 1 + 1 < w3.heap.size := World.block_lt_of_cell? _ _ cw3_2_0
        have gw3 : Gr W w3 := Gr.trans (by have gg := gw2; have gs := gg.size; go_grown) hw3
        clear hw3 gw2 zw2_0 cw2_0_0 cw2_0_1 zw2_1 cw2_1_0 cw2_1_1 cw2_1_2 cw2_1_3 zw2_2 cw2_2_0 cw2_2_1 cw2_2_2 cw2_2_3
        go_wp2_with fail
        generalize hhw4 : (w3.alloc (.cells #[.int .i64 lx, .int .i64 ly, .int .i64 hx, .int .i64 hy, .int .i64 mx, .int .i64 my, .int .i64 nx, .int .i64 ny] 28)) = w4
        have cw4_0_0 : w4.cell? ⟨W.heap.size, 0, none⟩ = some (.int .i64 k) := by subst hhw4; go_simp
        have cw4_0_1 : w4.cell? ⟨W.heap.size, 1, none⟩ = some (.slice ad n cap) := by subst hhw4; go_simp
        have zw4_0 : W.heap.size < w4.heap.size := World.block_lt_of_cell? _ _ cw4_0_0
        have cw4_1_0 : w4.cell? ⟨W.heap.size + 1, 0, none⟩ = some (.int .i64 lx) := by subst hhw4; go_simp
        have cw4_1_1 : w4.cell? ⟨W.heap.size + 1, 1, none⟩ = some (.int .i64 ly) := by subst hhw4; go_simp
        have cw4_1_2 : w4.cell? ⟨W.heap.size + 1, 2, none⟩ = some (.int .i64 hx) := by subst hhw4; go_simp
        have cw4_1_3 : w4.cell? ⟨W.heap.size + 1, 3, none⟩ = some (.int .i64 hy) := by subst hhw4; go_simp
        have zw4_1 : W.heap.size + 1 < w4.heap.size := World.block_lt_of_cell? _ _ cw4_1_0
        have cw4_2_0 : w4.cell? ⟨W.heap.size + 1 + 1, 0, none⟩ = some (.int .i64 mx) := by subst hhw4; go_simp
        have cw4_2_1 : w4.cell? ⟨W.heap.size + 1 + 1, 1, none⟩ = some (.int .i64 my) := by subst hhw4; go_simp
        have cw4_2_2 : w4.cell? ⟨W.heap.size + 1 + 1, 2, none⟩ = some (.int .i64 nx) := by subst hhw4; go_simp
        have cw4_2_3 : w4.cell? ⟨W.heap.size + 1 + 1, 3, none⟩ = some (.int .i64 ny) := by subst hhw4; go_simp
        have zw4_2 : W.heap.size + 1 + 1 < w4.heap.size := World.block_lt_of_cell? _ _ cw4_2_0
        have cw4_3_0 : w4.cell? ⟨w3.heap.size, 0, none⟩ = some (.int .i64 lx) := by subst hhw4; go_simp
        have cw4_3_1 : w4.cell? ⟨w3.heap.size, 1, none⟩ = some (.int .i64 ly) := by subst hhw4; go_simp
        have cw4_3_2 : w4.cell? ⟨w3.heap.size, 2, none⟩ = some (.int .i64 hx) := by subst hhw4; go_simp
        have cw4_3_3 : w4.cell? ⟨w3.heap.size, 3, none⟩ = some (.int .i64 hy) := by subst hhw4; go_simp
        have cw4_3_4 : w4.cell? ⟨w3.heap.size, 4, none⟩ = some (.int .i64 mx) := by subst hhw4; go_simp
        have cw4_3_5 : w4.cell? ⟨w3.heap.size, 5, none⟩ = some (.int .i64 my) := by subst hhw4; go_simp
        have cw4_3_6 : w4.cell? ⟨w3.heap.size, 6, none⟩ = some (.int .i64 nx) := by subst hhw4; go_simp
        have cw4_3_7 : w4.cell? ⟨w3.heap.size, 7, none⟩ = some (.int .i64 ny) := by subst hhw4; go_simp
        have zw4_3 : w3.heap.size < w4.heap.size := World.block_lt_of_cell? _ _ cw4_3_0
        have gw4 : Gr W w4 := by subst hhw4; have gg := gw3; have gs := gg.size; go_grown
        clear hhw4 gw3 zw3_0 cw3_0_0 cw3_0_1 zw3_1 cw3_1_0 cw3_1_1 cw3_1_2 cw3_1_3 zw3_2 cw3_2_0 cw3_2_1 cw3_2_2 cw3_2_3
        go_wp2_with fail
        go_at_call 8
        refine ((H4.out _ _ cw4_3_0 cw4_3_1 cw4_3_2 cw4_3_3 cw4_3_4 cw4_3_5 cw4_3_6 cw4_3_7)).mono ?_
        rintro e w5 ⟨rfl, hw5⟩
        have cw5_0_0 : w5.cell? ⟨W.heap.size, 0, none⟩ = some (.int .i64 k) := cell_gr hw5 (by go_simp)
        have cw5_0_1 : w5.cell? ⟨W.heap.size, 1, none⟩ = some (.slice ad n cap) := cell_gr hw5 (by go_simp)
        have zw5_0 : W.heap.size < w5.heap.size := World.block_lt_of_cell? _ _ cw5_0_0
        have cw5_1_0 : w5.cell? ⟨W.heap.size + 1, 0, none⟩ = some (.int .i64 lx) := cell_gr hw5 (by go_simp)
        have cw5_1_1 : w5.cell? ⟨W.heap.size + 1, 1, none⟩ = some (.int .i64 ly) := cell_gr hw5 (by go_simp)
        have cw5_1_2 : w5.cell? ⟨W.heap.size + 1, 2, none⟩ = some (.int .i64 hx) := cell_gr hw5 (by go_simp)
        have cw5_1_3 : w5.cell? ⟨W.heap.size + 1, 3, none⟩ = some (.int .i64 hy) := cell_gr hw5 (by go_simp)
        have zw5_1 : W.heap.size + 1 < w5.heap.size := World.block_lt_of_cell? _ _ cw5_1_0
        have cw5_2_0 : w5.cell? ⟨W.heap.size + 1 + 1, 0, none⟩ = some (.int .i64 mx) := cell_gr hw5 (by go_simp)
        have cw5_2_1 : w5.cell? ⟨W.heap.size + 1 + 1, 1, none⟩ = some (.int .i64 my) := cell_gr hw5 (by go_simp)
        have cw5_2_2 : w5.cell? ⟨W.heap.size + 1 + 1, 2, none⟩ = some (.int .i64 nx) := cell_gr hw5 (by go_simp)
        have cw5_2_3 : w5.cell? ⟨W.heap.size + 1 + 1, 3, none⟩ = some (.int .i64 ny) := cell_gr hw5 (by go_simp)
        have zw5_2 : W.heap.size + 1 + 1 < w5.heap.size := World.block_lt_of_cell? _ _ cw5_2_0
        have cw5_3_0 : w5.cell? ⟨w3.heap.size, 0, none⟩ = some (.int .i64 lx) := cell_gr hw5 (by go_simp)
        have cw5_3_1 : w5.cell? ⟨w3.heap.size, 1, none⟩ = some (.int .i64 ly) := cell_gr hw5 (by go_simp)
        have cw5_3_2 : w5.cell? ⟨w3.heap.size, 2, none⟩ = some (.int .i64 hx) := cell_gr hw5 (by go_simp)
        have cw5_3_3 : w5.cell? ⟨w3.heap.size, 3, none⟩ = some (.int .i64 hy) := cell_gr hw5 (by go_simp)
        have cw5_3_4 : w5.cell? ⟨w3.heap.size, 4, none⟩ = some (.int .i64 mx) := cell_gr hw5 (by go_simp)
        have cw5_3_5 : w5.cell? ⟨w3.heap.size, 5, none⟩ = some (.int .i64 my) := cell_gr hw5 (by go_simp)
        have cw5_3_6 : w5.cell? ⟨w3.heap.size, 6, none⟩ = some (.int .i64 nx) := cell_gr hw5 (by go_simp)
        have cw5_3_7 : w5.cell? ⟨w3.heap.size, 7, none⟩ = some (.int .i64 ny) := cell_gr hw5 (by go_simp)
        have zw5_3 : w3.heap.size < w5.heap.size := World.block_lt_of_cell? _ _ cw5_3_0
        have gw5 : Gr W w5 := Gr.trans (by have gg := gw4; have gs := gg.size; go_grown) hw5
        clear hw5 gw4 zw4_0 cw4_0_0 cw4_0_1 zw4_1 cw4_1_0 cw4_1_1 cw4_1_2 cw4_1_3 zw4_2 cw4_2_0 cw4_2_1 cw4_2_2 cw4_2_3 zw4_3 cw4_3_0 cw4_3_1 cw4_3_2 cw4_3_3 cw4_3_4 cw4_3_5 cw4_3_6 cw4_3_7
        go_wp2_with fail
        generalize hhw6 : (w5.alloc (.cells #[.int .i64 ux, .int .i64 uy, .int .i64 vx, .int .i64 vy] 28)) = w6
        have cw6_0_0 : w6.cell? ⟨W.heap.size, 0, none⟩ = some (.int .i64 k) := by subst hhw6; go_simp
        have cw6_0_1 : w6.cell? ⟨W.heap.size, 1, none⟩ = some (.slice ad n cap) := by subst hhw6; go_simp
        have zw6_0 : W.heap.size < w6.heap.size := World.block_lt_of_cell? _ _ cw6_0_0
        have cw6_1_0 : w6.cell? ⟨W.heap.size + 1, 0, none⟩ = some (.int .i64 lx) := by subst hhw6; go_simp
        have cw6_1_1 : w6.cell? ⟨W.heap.size + 1, 1, none⟩ = some (.int .i64 ly) := by subst hhw6; go_simp
        have cw6_1_2 : w6.cell? ⟨W.heap.size + 1, 2, none⟩ = some (.int .i64 hx) := by subst hhw6; go_simp
        have cw6_1_3 : w6.cell? ⟨W.heap.size + 1, 3, none⟩ = some (.int .i64 hy) := by subst hhw6; go_simp
        have zw6_1 : W.heap.size + 1 < w6.heap.size := World.block_lt_of_cell? _ _ cw6_1_0
        have cw6_2_0 : w6.cell? ⟨W.heap.size + 1 + 1, 0, none⟩ = some (.int .i64 mx) := by subst hhw6; go_simp
        have cw6_2_1 : w6.cell? ⟨W.heap.size + 1 + 1, 1, none⟩ = some (.int .i64 my) := by subst hhw6; go_simp
        have cw6_2_2 : w6.cell? ⟨W.heap.size + 1 + 1, 2, none⟩ = some (.int .i64 nx) := by subst hhw6; go_simp
        have cw6_2_3 : w6.cell? ⟨W.heap.size + 1 + 1, 3, none⟩ = some (.int .i64 ny) := by subst hhw6; go_simp
        have zw6_2 : W.heap.size + 1 + 1 < w6.heap.size := World.block_lt_of_cell? _ _ cw6_2_0
        have cw6_3_0 : w6.cell? ⟨w5.heap.size, 0, none⟩ = some (.int .i64 ux) := by subst hhw6; go_simp
        have cw6_3_1 : w6.cell? ⟨w5.heap.size, 1, none⟩ = some (.int .i64 uy) := by subst hhw6; go_simp
        have cw6_3_2 : w6.cell? ⟨w5.heap.size, 2, none⟩ = some (.int .i64 vx) := by subst hhw6; go_simp
        have cw6_3_3 : w6.cell? ⟨w5.heap.size, 3, none⟩ = some (.int .i64 vy) := by subst hhw6; go_simp
        have zw6_3 : w5.heap.size < w6.heap.size := World.block_lt_of_cell? _ _ cw6_3_0
        have gw6 : Gr W w6 := by subst hhw6; have gg := gw5; have gs := gg.size; go_grown
        clear hhw6 gw5 zw5_0 cw5_0_0 cw5_0_1 zw5_1 cw5_1_0 cw5_1_1 cw5_1_2 cw5_1_3 zw5_2 cw5_2_0 cw5_2_1 cw5_2_2 cw5_2_3 zw5_3 cw5_3_0 cw5_3_1 cw5_3_2 cw5_3_3 cw5_3_4 cw5_3_5 cw5_3_6 cw5_3_7
        go_wp2_with fail
        go_at_call 9
        refine ((HN1.out _ gw6 cw6_0_0 cw6_0_1)).mono ?_
        rintro e w7 ⟨rfl, hw7⟩
        have cw7_0_0 : w7.cell? ⟨W.heap.size, 0, none⟩ = some (.int .i64 k) := cell_gr hw7 (by go_simp)
        have cw7_0_1 : w7.cell? ⟨W.heap.size, 1, none⟩ = some (.slice ad n cap) := cell_gr hw7 (by go_simp)
        have zw7_0 : W.heap.size < w7.heap.size := World.block_lt_of_cell? _ _ cw7_0_0
        have cw7_1_0 : w7.cell? ⟨W.heap.size + 1, 0, none⟩ = some (.int .i64 lx) := cell_gr hw7 (by go_simp)
        have cw7_1_1 : w7.cell? ⟨W.heap.size + 1, 1, none⟩ = some (.int .i64 ly) := cell_gr hw7 (by go_simp)
        have cw7_1_2 : w7.cell? ⟨W.heap.size + 1, 2, none⟩ = some (.int .i64 hx) := cell_gr hw7 (by go_simp)
        have cw7_1_3 : w7.cell? ⟨W.heap.size + 1, 3, none⟩ = some (.int .i64 hy) := cell_gr hw7 (by go_simp)
        have zw7_1 : W.heap.size + 1 < w7.heap.size := World.block_lt_of_cell? _ _ cw7_1_0
        have cw7_2_0 : w7.cell? ⟨W.heap.size + 1 + 1, 0, none⟩ = some (.int .i64 mx) := cell_gr hw7 (by go_simp)
        have cw7_2_1 : w7.cell? ⟨W.heap.size + 1 + 1, 1, none⟩ = some (.int .i64 my) := cell_gr hw7 (by go_simp)
        have cw7_2_2 : w7.cell? ⟨W.heap.size + 1 + 1, 2, none⟩ = some (.int .i64 nx) := cell_gr hw7 (by go_simp)
        have cw7_2_3 : w7.cell? ⟨W.heap.size + 1 + 1, 3, none⟩ = some (.int .i64 ny) := cell_gr hw7 (by go_simp)
        have zw7_2 : W.heap.size + 1 + 1 < w7.heap.size := World.block_lt_of_cell? _ _ cw7_2_0
        have cw7_3_0 : w7.cell? ⟨w5.heap.size, 0, none⟩ = some (.int .i64 ux) := cell_gr hw7 (by go_simp)
        have cw7_3_1 : w7.cell? ⟨w5.heap.size, 1, none⟩ = some (.int .i64 uy) := cell_gr hw7 (by go_simp)
        have cw7_3_2 : w7.cell? ⟨w5.heap.size, 2, none⟩ = some (.int .i64 vx) := cell_gr hw7 (by go_simp)
        have cw7_3_3 : w7.cell? ⟨w5.heap.size, 3, none⟩ = some (.int .i64 vy) := cell_gr hw7 (by go_simp)
        have zw7_3 : w5.heap.size < w7.heap.size := World.block_lt_of_cell? _ _ cw7_3_0
        have gw7 : Gr W w7 := Gr.trans (by have gg := gw6; have gs := gg.size; go_grown) hw7
        clear hw7 gw6 zw6_0 cw6_0_0 cw6_0_1 zw6_1 cw6_1_0 cw6_1_1 cw6_1_2 cw6_1_3 zw6_2 cw6_2_0 cw6_2_1 cw6_2_2 cw6_2_3 zw6_3 cw6_3_0 cw6_3_1 cw6_3_2 cw6_3_3
        go_wp2_with fail
        go_at_call 9
        refine ((HN2.out _ gw7 cw7_0_0 cw7_0_1)).mono ?_
        rintro e w8 ⟨rfl, hw8⟩
        have cw8_0_0 : w8.cell? ⟨W.heap.size, 0, none⟩ = some (.int .i64 k) := cell_gr hw8 (by go_simp)
        have cw8_0_1 : w8.cell? ⟨W.heap.size, 1, none⟩ = some (.slice ad n cap) := cell_gr hw8 (by go_simp)
        have zw8_0 : W.heap.size < w8.heap.size := World.block_lt_of_cell? _ _ cw8_0_0
        have cw8_1_0 : w8.cell? ⟨W.heap.size + 1, 0, none⟩ = some (.int .i64 lx) := cell_gr hw8 (by go_simp)
        have cw8_1_1 : w8.cell? ⟨W.heap.size + 1, 1, none⟩ = some (.int .i64 ly) := cell_gr hw8 (by go_simp)
        have cw8_1_2 : w8.cell? ⟨W.heap.size + 1, 2, none⟩ = some (.int .i64 hx) := cell_gr hw8 (by go_simp)
        have cw8_1_3 : w8.cell? ⟨W.heap.size + 1, 3, none⟩ = some (.int .i64 hy) := cell_gr hw8 (by go_simp)
        have zw8_1 : W.heap.size + 1 < w8.heap.size := World.block_lt_of_cell? _ _ cw8_1_0
        have cw8_2_0 : w8.cell? ⟨W.heap.size + 1 + 1, 0, none⟩ = some (.int .i64 mx) := cell_gr hw8 (by go_simp)
        have cw8_2_1 : w8.cell? ⟨W.heap.size + 1 + 1, 1, none⟩ = some (.int .i64 my) := cell_gr hw8 (by go_simp)
        have cw8_2_2 : w8.cell? ⟨W.heap.size + 1 + 1, 2, none⟩ = some (.int .i64 nx) := cell_gr hw8 (by go_simp)
        have cw8_2_3 : w8.cell? ⟨W.heap.size + 1 + 1, 3, none⟩ = some (.int .i64 ny) := cell_gr hw8 (by go_simp)
        have zw8_2 : W.heap.size + 1 + 1 < w8.heap.size := World.block_lt_of_cell? _ _ cw8_2_0
        have cw8_3_0 : w8.cell? ⟨w5.heap.size, 0, none⟩ = some (.int .i64 ux) := cell_gr hw8 (by go_simp)
        have cw8_3_1 : w8.cell? ⟨w5.heap.size, 1, none⟩ = some (.int .i64 uy) := cell_gr hw8 (by go_simp)
        have cw8_3_2 : w8.cell? ⟨w5.heap.size, 2, none⟩ = some (.int .i64 vx) := cell_gr hw8 (by go_simp)
        have cw8_3_3 : w8.cell? ⟨w5.heap.size, 3, none⟩ = some (.int .i64 vy) := cell_gr hw8 (by go_simp)
        have zw8_3 : w5.heap.size < w8.heap.size := World.block_lt_of_cell? _ _ cw8_3_0
        have gw8 : Gr W w8 := Gr.trans (by have gg := gw7; have gs := gg.size; go_grown) hw8
        clear hw8 gw7 zw7_0 cw7_0_0 cw7_0_1 zw7_1 cw7_1_0 cw7_1_1 cw7_1_2 cw7_1_3 zw7_2 cw7_2_0 cw7_2_1 cw7_2_2 cw7_2_3 zw7_3 cw7_3_0 cw7_3_1 cw7_3_2 cw7_3_3
        go_wp2_with fail
        go_at_call 11
        refine ((HN3.out _ gw8 cw8_0_0 cw8_0_1)).mono ?_
        rintro e w9 ⟨rfl, hw9⟩
        have cw9_0_0 : w9.cell? ⟨W.heap.size, 0, none⟩ = some (.int .i64 k) := cell_gr hw9 (by go_simp)
        have cw9_0_1 : w9.cell? ⟨W.heap.size, 1, none⟩ = some (.slice ad n cap) := cell_gr hw9 (by go_simp)
        have zw9_0 : W.heap.size < w9.heap.size := World.block_lt_of_cell? _ _ cw9_0_0
        have cw9_1_0 : w9.cell? ⟨W.heap.size + 1, 0, none⟩ = some (.int .i64 lx) := cell_gr hw9 (by go_simp)
        have cw9_1_1 : w9.cell? ⟨W.heap.size + 1, 1, none⟩ = some (.int .i64 ly) := cell_gr hw9 (by go_simp)
        have cw9_1_2 : w9.cell? ⟨W.heap.size + 1, 2, none⟩ = some (.int .i64 hx) := cell_gr hw9 (by go_simp)
        have cw9_1_3 : w9.cell? ⟨W.heap.size + 1, 3, none⟩ = some (.int .i64 hy) := cell_gr hw9 (by go_simp)
        have zw9_1 : W.heap.size + 1 < w9.heap.size := World.block_lt_of_cell? _ _ cw9_1_0
        have cw9_2_0 : w9.cell? ⟨W.heap.size + 1 + 1, 0, none⟩ = some (.int .i64 mx) := cell_gr hw9 (by go_simp)
        have cw9_2_1 : w9.cell? ⟨W.heap.size + 1 + 1, 1, none⟩ = some (.int .i64 my) := cell_gr hw9 (by go_simp)
        have cw9_2_2 : w9.cell? ⟨W.heap.size + 1 + 1, 2, none⟩ = some (.int .i64 nx) := cell_gr hw9 (by go_simp)
        have cw9_2_3 : w9.cell? ⟨W.heap.size + 1 + 1, 3, none⟩ = some (.int .i64 ny) := cell_gr hw9 (by go_simp)
        have zw9_2 : W.heap.size + 1 + 1 < w9.heap.size := World.block_lt_of_cell? _ _ cw9_2_0
        have cw9_3_0 : w9.cell? ⟨w5.heap.size, 0, none⟩ = some (.int .i64 ux) := cell_gr hw9 (by go_simp)
        have cw9_3_1 : w9.cell? ⟨w5.heap.size, 1, none⟩ = some (.int .i64 uy) := cell_gr hw9 (by go_simp)
        have cw9_3_2 : w9.cell? ⟨w5.heap.size, 2, none⟩ = some (.int .i64 vx) := cell_gr hw9 (by go_simp)
        have cw9_3_3 : w9.cell? ⟨w5.heap.size, 3, none⟩ = some (.int .i64 vy) := cell_gr hw9 (by go_simp)
        have zw9_3 : w5.heap.size < w9.heap.size := World.block_lt_of_cell? _ _ cw9_3_0
        have gw9 : Gr W w9 := Gr.trans (by have gg := gw8; have gs := gg.size; go_grown) hw9
        clear hw9 gw8 zw8_0 cw8_0_0 cw8_0_1 zw8_1 cw8_1_0 cw8_1_1 cw8_1_2 cw8_1_3 zw8_2 cw8_2_0 cw8_2_1 cw8_2_2 cw8_2_3 zw8_3 cw8_3_0 cw8_3_1 cw8_3_2 cw8_3_3
        go_wp2_with fail
        go_at_call 11
        refine ((HN4.out _ gw9 cw9_0_0 cw9_0_1)).mono ?_
        rintro e w10 ⟨rfl, hw10⟩
        have cw10_0_0 : w10.cell? ⟨W.heap.size, 0, none⟩ = some (.int .i64 k) := cell_gr hw10 (by go_simp)
        have cw10_0_1 : w10.cell? ⟨W.heap.size, 1, none⟩ = some (.slice ad n cap) := cell_gr hw10 (by go_simp)
        have zw10_0 : W.heap.size < w10.heap.size := World.block_lt_of_cell? _ _ cw10_0_0
        have cw10_1_0 : w10.cell? ⟨W.heap.size + 1, 0, none⟩ = some (.int .i64 lx) := cell_gr hw10 (by go_simp)
        have cw10_1_1 : w10.cell? ⟨W.heap.size + 1, 1, none⟩ = some (.int .i64 ly) := cell_gr hw10 (by go_simp)
        have cw10_1_2 : w10.cell? ⟨W.heap.size + 1, 2, none⟩ = some (.int .i64 hx) := cell_gr hw10 (by go_simp)
        have cw10_1_3 : w10.cell? ⟨W.heap.size + 1, 3, none⟩ = some (.int .i64 hy) := cell_gr hw10 (by go_simp)
        have zw10_1 : W.heap.size + 1 < w10.heap.size := World.block_lt_of_cell? _ _ cw10_1_0
        have cw10_2_0 : w10.cell? ⟨W.heap.size + 1 + 1, 0, none⟩ = some (.int .i64 mx) := cell_gr hw10 (by go_simp)
        have cw10_2_1 : w10.cell? ⟨W.heap.size + 1 + 1, 1, none⟩ = some (.int .i64 my) := cell_gr hw10 (by go_simp)
        have cw10_2_2 : w10.cell? ⟨W.heap.size + 1 + 1, 2, none⟩ = some (.int .i64 nx) := cell_gr hw10 (by go_simp)
        have cw10_2_3 : w10.cell? ⟨W.heap.size + 1 + 1, 3, none⟩ = some (.int .i64 ny) := cell_gr hw10 (by go_simp)
        have zw10_2 : W.heap.size + 1 + 1 < w10.heap.size := World.block_lt_of_cell? _ _ cw10_2_0
        have cw10_3_0 : w10.cell? ⟨w5.heap.size, 0, none⟩ = some (.int .i64 ux) := cell_gr hw10 (by go_simp)
        have cw10_3_1 : w10.cell? ⟨w5.heap.size, 1, none⟩ = some (.int .i64 uy) := cell_gr hw10 (by go_simp)
        have cw10_3_2 : w10.cell? ⟨w5.heap.size, 2, none⟩ = some (.int .i64 vx) := cell_gr hw10 (by go_simp)
        have cw10_3_3 : w10.cell? ⟨w5.heap.size, 3, none⟩ = some (.int .i64 vy) := cell_gr hw10 (by go_simp)
        have zw10_3 : w5.heap.size < w10.heap.size := World.block_lt_of_cell? _ _ cw10_3_0
        have gw10 : Gr W w10 := Gr.trans (by have gg := gw9; have gs := gg.size; go_grown) hw10
        clear hw10 gw9 zw9_0 cw9_0_0 cw9_0_1 zw9_1 cw9_1_0 cw9_1_1 cw9_1_2 cw9_1_3 zw9_2 cw9_2_0 cw9_2_1 cw9_2_2 cw9_2_3 zw9_3 cw9_3_0 cw9_3_1 cw9_3_2 cw9_3_3
        go_wp2_with fail
        go_at_call 11
        refine ((HN3.out _ gw10 cw10_0_0 cw10_0_1)).mono ?_
        rintro e w11 ⟨rfl, hw11⟩
        have cw11_0_0 : w11.cell? ⟨W.heap.size, 0, none⟩ = some (.int .i64 k) := cell_gr hw11 (by go_simp)
        have cw11_0_1 : w11.cell? ⟨W.heap.size, 1, none⟩ = some (.slice ad n cap) := cell_gr hw11 (by go_simp)
        have zw11_0 : W.heap.size < w11.heap.size := World.block_lt_of_cell? _ _ cw11_0_0
        have cw11_1_0 : w11.cell? ⟨W.heap.size + 1, 0, none⟩ = some (.int .i64 lx) := cell_gr hw11 (by go_simp)
        have cw11_1_1 : w11.cell? ⟨W.heap.size + 1, 1, none⟩ = some (.int .i64 ly) := cell_gr hw11 (by go_simp)
        have cw11_1_2 : w11.cell? ⟨W.heap.size + 1, 2, none⟩ = some (.int .i64 hx) := cell_gr hw11 (by go_simp)
        have cw11_1_3 : w11.cell? ⟨W.heap.size + 1, 3, none⟩ = some (.int .i64 hy) := cell_gr hw11 (by go_simp)
        have zw11_1 : W.heap.size + 1 < w11.heap.size := World.block_lt_of_cell? _ _ cw11_1_0
        have cw11_2_0 : w11.cell? ⟨W.heap.size + 1 + 1, 0, none⟩ = some (.int .i64 mx) := cell_gr hw11 (by go_simp)
        have cw11_2_1 : w11.cell? ⟨W.heap.size + 1 + 1, 1, none⟩ = some (.int .i64 my) := cell_gr hw11 (by go_simp)
        have cw11_2_2 : w11.cell? ⟨W.heap.size + 1 + 1, 2, none⟩ = some (.int .i64 nx) := cell_gr hw11 (by go_simp)
        have cw11_2_3 : w11.cell? ⟨W.heap.size + 1 + 1, 3, none⟩ = some (.int .i64 ny) := cell_gr hw11 (by go_simp)
        have zw11_2 : W.heap.size + 1 + 1 < w11.heap.size := World.block_lt_of_cell? _ _ cw11_2_0
        have cw11_3_0 : w11.cell? ⟨w5.heap.size, 0, none⟩ = some (.int .i64 ux) := cell_gr hw11 (by go_simp)
        have cw11_3_1 : w11.cell? ⟨w5.heap.size, 1, none⟩ = some (.int .i64 uy) := cell_gr hw11 (by go_simp)
        have cw11_3_2 : w11.cell? ⟨w5.heap.size, 2, none⟩ = some (.int .i64 vx) := cell_gr hw11 (by go_simp)
        have cw11_3_3 : w11.cell? ⟨w5.heap.size, 3, none⟩ = some (.int .i64 vy) := cell_gr hw11 (by go_simp)
        have zw11_3 : w5.heap.size < w11.heap.size := World.block_lt_of_cell? _ _ cw11_3_0
        have gw11 : Gr W w11 := Gr.trans (by have gg := gw10; have gs := gg.size; go_grown) hw11
        clear hw11 gw10 zw10_0 cw10_0_0 cw10_0_1 zw10_1 cw10_1_0 cw10_1_1 cw10_1_2 cw10_1_3 zw10_2 cw10_2_0 cw10_2_1 cw10_2_2 cw10_2_3 zw10_3 cw10_3_0 cw10_3_1 cw10_3_2 cw10_3_3
        go_wp2_with fail
        go_at_call 11
        refine ((HN5.out _ gw11 cw11_0_0 cw11_0_1)).mono ?_
        rintro e w12 ⟨rfl, hw12⟩
        have cw12_0_0 : w12.cell? ⟨W.heap.size, 0, none⟩ = some (.int .i64 k) := cell_gr hw12 (by go_simp)
        have cw12_0_1 : w12.cell? ⟨W.heap.size, 1, none⟩ = some (.slice ad n cap) := cell_gr hw12 (by go_simp)
        have zw12_0 : W.heap.size < w12.heap.size := World.block_lt_of_cell? _ _ cw12_0_0
        have cw12_1_0 : w12.cell? ⟨W.heap.size + 1, 0, none⟩ = some (.int .i64 lx) := cell_gr hw12 (by go_simp)
        have cw12_1_1 : w12.cell? ⟨W.heap.size + 1, 1, none⟩ = some (.int .i64 ly) := cell_gr hw12 (by go_simp)
        have cw12_1_2 : w12.cell? ⟨W.heap.size + 1, 2, none⟩ = some (.int .i64 hx) := cell_gr hw12 (by go_simp)
        have cw12_1_3 : w12.cell? ⟨W.heap.size + 1, 3, none⟩ = some (.int .i64 hy) := cell_gr hw12 (by go_simp)
        have zw12_1 : W.heap.size + 1 < w12.heap.size := World.block_lt_of_cell? _ _ cw12_1_0
        have cw12_2_0 : w12.cell? ⟨W.heap.size + 1 + 1, 0, none⟩ = some (.int .i64 mx) := cell_gr hw12 (by go_simp)
        have cw12_2_1 : w12.cell? ⟨W.heap.size + 1 + 1, 1, none⟩ = some (.int .i64 my) := cell_gr hw12 (by go_simp)
        have cw12_2_2 : w12.cell? ⟨W.heap.size + 1 + 1, 2, none⟩ = some (.int .i64 nx) := cell_gr hw12 (by go_simp)
        have cw12_2_3 : w12.cell? ⟨W.heap.size + 1 + 1, 3, none⟩ = some (.int .i64 ny) := cell_gr hw12 (by go_simp)
        have zw12_2 : W.heap.size + 1 + 1 < w12.heap.size := World.block_lt_of_cell? _ _ cw12_2_0
        have cw12_3_0 : w12.cell? ⟨w5.heap.size, 0, none⟩ = some (.int .i64 ux) := cell_gr hw12 (by go_simp)
        have cw12_3_1 : w12.cell? ⟨w5.heap.size, 1, none⟩ = some (.int .i64 uy) := cell_gr hw12 (by go_simp)
        have cw12_3_2 : w12.cell? ⟨w5.heap.size, 2, none⟩ = some (.int .i64 vx) := cell_gr hw12 (by go_simp)
        have cw12_3_3 : w12.cell? ⟨w5.heap.size, 3, none⟩ = some (.int .i64 vy) := cell_gr hw12 (by go_simp)
        have zw12_3 : w5.heap.size < w12.heap.size := World.block_lt_of_cell? _ _ cw12_3_0
        have gw12 : Gr W w12 := Gr.trans (by have gg := gw11; have gs := gg.size; go_grown) hw12
        clear hw12 gw11 zw11_0 cw11_0_0 cw11_0_1 zw11_1 cw11_1_0 cw11_1_1 cw11_1_2 cw11_1_3 zw11_2 cw11_2_0 cw11_2_1 cw11_2_2 cw11_2_3 zw11_3 cw11_3_0 cw11_3_1 cw11_3_2 cw11_3_3
        go_wp2_with fail
        go_at_call 12
        refine ((H5.out _)).mono ?_
        rintro e w13 ⟨rfl, hw13⟩
        have cw13_0_0 : w13.cell? ⟨W.heap.size, 0, none⟩ = some (.int .i64 k) := cell_gr hw13 (by go_simp)
        have cw13_0_1 : w13.cell? ⟨W.heap.size, 1, none⟩ = some (.slice ad n cap) := cell_gr hw13 (by go_simp)
        have zw13_0 : W.heap.size < w13.heap.size := World.block_lt_of_cell? _ _ cw13_0_0
        have cw13_1_0 : w13.cell? ⟨W.heap.size + 1, 0, none⟩ = some (.int .i64 lx) := cell_gr hw13 (by go_simp)
        have cw13_1_1 : w13.cell? ⟨W.heap.size + 1, 1, none⟩ = some (.int .i64 ly) := cell_gr hw13 (by go_simp)
        have cw13_1_2 : w13.cell? ⟨W.heap.size + 1, 2, none⟩ = some (.int .i64 hx) := cell_gr hw13 (by go_simp)
        have cw13_1_3 : w13.cell? ⟨W.heap.size + 1, 3, none⟩ = some (.int .i64 hy) := cell_gr hw13 (by go_simp)
        have zw13_1 : W.heap.size + 1 < w13.heap.size := World.block_lt_of_cell? _ _ cw13_1_0
        have cw13_2_0 : w13.cell? ⟨W.heap.size + 1 + 1, 0, none⟩ = some (.int .i64 mx) := cell_gr hw13 (by go_simp)
        have cw13_2_1 : w13.cell? ⟨W.heap.size + 1 + 1, 1, none⟩ = some (.int .i64 my) := cell_gr hw13 (by go_simp)
        have cw13_2_2 : w13.cell? ⟨W.heap.size + 1 + 1, 2, none⟩ = some (.int .i64 nx) := cell_gr hw13 (by go_simp)
        have cw13_2_3 : w13.cell? ⟨W.heap.size + 1 + 1, 3, none⟩ = some (.int .i64 ny) := cell_gr hw13 (by go_simp)
        have zw13_2 : W.heap.size + 1 + 1 < w13.heap.size := World.block_lt_of_cell? _ _ cw13_2_0
        have cw13_3_0 : w13.cell? ⟨w5.heap.size, 0, none⟩ = some (.int .i64 ux) := cell_gr hw13 (by go_simp)
        have cw13_3_1 : w13.cell? ⟨w5.heap.size, 1, none⟩ = some (.int .i64 uy) := cell_gr hw13 (by go_simp)
        have cw13_3_2 : w13.cell? ⟨w5.heap.size, 2, none⟩ = some (.int .i64 vx) := cell_gr hw13 (by go_simp)
        have cw13_3_3 : w13.cell? ⟨w5.heap.size, 3, none⟩ = some (.int .i64 vy) := cell_gr hw13 (by go_simp)
        have zw13_3 : w5.heap.size < w13.heap.size := World.block_lt_of_cell? _ _ cw13_3_0
        have gw13 : Gr W w13 := Gr.trans (by have gg := gw12; have gs := gg.size; go_grown) hw13
        clear hw13 gw12 zw12_0 cw12_0_0 cw12_0_1 zw12_1 cw12_1_0 cw12_1_1 cw12_1_2 cw12_1_3 zw12_2 cw12_2_0 cw12_2_1 cw12_2_2 cw12_2_3 zw12_3 cw12_3_0 cw12_3_1 cw12_3_2 cw12_3_3
        go_wp2_with fail
        go_at_call 13
        refine ((H6.out _ gw13)).mono ?_
        rintro e w14 ⟨rfl, hw14⟩
        have cw14_0_0 : w14.cell? ⟨W.heap.size, 0, none⟩ = some (.int .i64 k) := cell_gr hw14 (by go_simp)
        have cw14_0_1 : w14.cell? ⟨W.heap.size, 1, none⟩ = some (.slice ad n cap) := cell_gr hw14 (by go_simp)
        have zw14_0 : W.heap.size < w14.heap.size := World.block_lt_of_cell? _ _ cw14_0_0
        have cw14_1_0 : w14.cell? ⟨W.heap.size + 1, 0, none⟩ = some (.int .i64 lx) := cell_gr hw14 (by go_simp)
        have cw14_1_1 : w14.cell? ⟨W.heap.size + 1, 1, none⟩ = some (.int .i64 ly) := cell_gr hw14 (by go_simp)
        have cw14_1_2 : w14.cell? ⟨W.heap.size + 1, 2, none⟩ = some (.int .i64 hx) := cell_gr hw14 (by go_simp)
        have cw14_1_3 : w14.cell? ⟨W.heap.size + 1, 3, none⟩ = some (.int .i64 hy) := cell_gr hw14 (by go_simp)
        have zw14_1 : W.heap.size + 1 < w14.heap.size := World.block_lt_of_cell? _ _ cw14_1_0
        have cw14_2_0 : w14.cell? ⟨W.heap.size + 1 + 1, 0, none⟩ = some (.int .i64 mx) := cell_gr hw14 (by go_simp)
        have cw14_2_1 : w14.cell? ⟨W.heap.size + 1 + 1, 1, none⟩ = some (.int .i64 my) := cell_gr hw14 (by go_simp)
        have cw14_2_2 : w14.cell? ⟨W.heap.size + 1 + 1, 2, none⟩ = some (.int .i64 nx) := cell_gr hw14 (by go_simp)
        have cw14_2_3 : w14.cell? ⟨W.heap.size + 1 + 1, 3, none⟩ = some (.int .i64 ny) := cell_gr hw14 (by go_simp)
        have zw14_2 : W.heap.size + 1 + 1 < w14.heap.size := World.block_lt_of_cell? _ _ cw14_2_0
        have cw14_3_0 : w14.cell? ⟨w5.heap.size, 0, none⟩ = some (.int .i64 ux) := cell_gr hw14 (by go_simp)
        have cw14_3_1 : w14.cell? ⟨w5.heap.size, 1, none⟩ = some (.int .i64 uy) := cell_gr hw14 (by go_simp)
        have cw14_3_2 : w14.cell? ⟨w5.heap.size, 2, none⟩ = some (.int .i64 vx) := cell_gr hw14 (by go_simp)
        have cw14_3_3 : w14.cell? ⟨w5.heap.size, 3, none⟩ = some (.int .i64 vy) := cell_gr hw14 (by go_simp)
        have zw14_3 : w5.heap.size < w14.heap.size := World.block_lt_of_cell? _ _ cw14_3_0
        have gw14 : Gr W w14 := Gr.trans (by have gg := gw13; have gs := gg.size; go_grown) hw14
        clear hw14 gw13 zw13_0 cw13_0_0 cw13_0_1 zw13_1 cw13_1_0 cw13_1_1 cw13_1_2 cw13_1_3 zw13_2 cw13_2_0 cw13_2_1 cw13_2_2 cw13_2_3 zw13_3 cw13_3_0 cw13_3_1 cw13_3_2 cw13_3_3
        go_wp2_with fail
        generalize hhwx : (w14.alloc (.cells #[.int .i64 p1, .int .i64 p2, .int .i64 p3, .int .i64 p4] 28)) = wx
        have cwx_0_0 : wx.cell? ⟨W.heap.size, 0, none⟩ = some (.int .i64 k) := by subst hhwx; go_simp
        have cwx_0_1 : wx.cell? ⟨W.heap.size, 1, none⟩ = some (.slice ad n cap) := by subst hhwx; go_simp
        have zwx_0 : W.heap.size < wx.heap.size := World.block_lt_of_cell? _ _ cwx_0_0
        have cwx_1_0 : wx.cell? ⟨W.heap.size + 1, 0, none⟩ = some (.int .i64 lx) := by subst hhwx; go_simp
        have cwx_1_1 : wx.cell? ⟨W.heap.size + 1, 1, none⟩ = some (.int .i64 ly) := by subst hhwx; go_simp
        have cwx_1_2 : wx.cell? ⟨W.heap.size + 1, 2, none⟩ = some (.int .i64 hx) := by subst hhwx; go_simp
        have cwx_1_3 : wx.cell? ⟨W.heap.size + 1, 3, none⟩ = some (.int .i64 hy) := by subst hhwx; go_simp
        have zwx_1 : W.heap.size + 1 < wx.heap.size := World.block_lt_of_cell? _ _ cwx_1_0
        have cwx_2_0 : wx.cell? ⟨W.heap.size + 1 + 1, 0, none⟩ = some (.int .i64 mx) := by subst hhwx; go_simp
        have cwx_2_1 : wx.cell? ⟨W.heap.size + 1 + 1, 1, none⟩ = some (.int .i64 my) := by subst hhwx; go_simp
        have cwx_2_2 : wx.cell? ⟨W.heap.size + 1 + 1, 2, none⟩ = some (.int .i64 nx) := by subst hhwx; go_simp
        have cwx_2_3 : wx.cell? ⟨W.heap.size + 1 + 1, 3, none⟩ = some (.int .i64 ny) := by subst hhwx; go_simp
        have zwx_2 : W.heap.size + 1 + 1 < wx.heap.size := World.block_lt_of_cell? _ _ cwx_2_0
        have cwx_3_0 : wx.cell? ⟨w5.heap.size, 0, none⟩ = some (.int .i64 ux) := by subst hhwx; go_simp
        have cwx_3_1 : wx.cell? ⟨w5.heap.size, 1, none⟩ = some (.int .i64 uy) := by subst hhwx; go_simp
        have cwx_3_2 : wx.cell? ⟨w5.heap.size, 2, none⟩ = some (.int .i64 vx) := by subst hhwx; go_simp
        have cwx_3_3 : wx.cell? ⟨w5.heap.size, 3, none⟩ = some (.int .i64 vy) := by subst hhwx; go_simp
        have zwx_3 : w5.heap.size < wx.heap.size := World.block_lt_of_cell? _ _ cwx_3_0
        have cwx_4_0 : wx.cell? ⟨w14.heap.size, 0, none⟩ = some (.int .i64 p1) := by subst hhwx; go_simp
        have cwx_4_1 : wx.cell? ⟨w14.heap.size, 1, none⟩ = some (.int .i64 p2) := by subst hhwx; go_simp
        have cwx_4_2 : wx.cell? ⟨w14.heap.size, 2, none⟩ = some (.int .i64 p3) := by subst hhwx; go_simp
        have cwx_4_3 : wx.cell? ⟨w14.heap.size, 3, none⟩ = some (.int .i64 p4) := by subst hhwx; go_simp
        have zwx_4 : w14.heap.size < wx.heap.size := World.block_lt_of_cell? _ _ cwx_4_0
        have gwx : Gr W wx := by subst hhwx; have gg := gw14; have gs := gg.size; go_grown
        clear hhwx gw14 zw14_0 cw14_0_0 cw14_0_1 zw14_1 cw14_1_0 cw14_1_1 cw14_1_2 cw14_1_3 zw14_2 cw14_2_0 cw14_2_1 cw14_2_2 cw14_2_3 zw14_3 cw14_3_0 cw14_3_1 cw14_3_2 cw14_3_3
        go_wp2_with fail
        go_at_call 11
        refine ((HN6.out _ gwx cwx_0_0 cwx_0_1)).mono ?_
        rintro e w15 ⟨rfl, hw15⟩
        have cw15_0_0 : w15.cell? ⟨W.heap.size, 0, none⟩ = some (.int .i64 k) := cell_gr hw15 (by go_simp)
        have cw15_0_1 : w15.cell? ⟨W.heap.size, 1, none⟩ = some (.slice ad n cap) := cell_gr hw15 (by go_simp)
        have zw15_0 : W.heap.size < w15.heap.size := World.block_lt_of_cell? _ _ cw15_0_0
        have cw15_1_0 : w15.cell? ⟨W.heap.size + 1, 0, none⟩ = some (.int .i64 lx) := cell_gr hw15 (by go_simp)
        have cw15_1_1 : w15.cell? ⟨W.heap.size + 1, 1, none⟩ = some (.int .i64 ly) := cell_gr hw15 (by go_simp)
        have cw15_1_2 : w15.cell? ⟨W.heap.size + 1, 2, none⟩ = some (.int .i64 hx) := cell_gr hw15 (by go_simp)
        have cw15_1_3 : w15.cell? ⟨W.heap.size + 1, 3, none⟩ = some (.int .i64 hy) := cell_gr hw15 (by go_simp)
        have zw15_1 : W.heap.size + 1 < w15.heap.size := World.block_lt_of_cell? _ _ cw15_1_0
        have cw15_2_0 : w15.cell? ⟨W.heap.size + 1 + 1, 0, none⟩ = some (.int .i64 mx) := cell_gr hw15 (by go_simp)
        have cw15_2_1 : w15.cell? ⟨W.heap.size + 1 + 1, 1, none⟩ = some (.int .i64 my) := cell_gr hw15 (by go_simp)
        have cw15_2_2 : w15.cell? ⟨W.heap.size + 1 + 1, 2, none⟩ = some (.int .i64 nx) := cell_gr hw15 (by go_simp)
        have cw15_2_3 : w15.cell? ⟨W.heap.size + 1 + 1, 3, none⟩ = some (.int .i64 ny) := cell_gr hw15 (by go_simp)
        have zw15_2 : W.heap.size + 1 + 1 < w15.heap.size := World.block_lt_of_cell? _ _ cw15_2_0
        have cw15_3_0 : w15.cell? ⟨w5.heap.size, 0, none⟩ = some (.int .i64 ux) := cell_gr hw15 (by go_simp)
        have cw15_3_1 : w15.cell? ⟨w5.heap.size, 1, none⟩ = some (.int .i64 uy) := cell_gr hw15 (by go_simp)
        have cw15_3_2 : w15.cell? ⟨w5.heap.size, 2, none⟩ = some (.int .i64 vx) := cell_gr hw15 (by go_simp)
        have cw15_3_3 : w15.cell? ⟨w5.heap.size, 3, none⟩ = some (.int .i64 vy) := cell_gr hw15 (by go_simp)
        have zw15_3 : w5.heap.size < w15.heap.size := World.block_lt_of_cell? _ _ cw15_3_0
        have cw15_4_0 : w15.cell? ⟨w14.heap.size, 0, none⟩ = some (.int .i64 p1) := cell_gr hw15 (by go_simp)
        have cw15_4_1 : w15.cell? ⟨w14.heap.size, 1, none⟩ = some (.int .i64 p2) := cell_gr hw15 (by go_simp)
        have cw15_4_2 : w15.cell? ⟨w14.heap.size, 2, none⟩ = some (.int .i64 p3) := cell_gr hw15 (by go_simp)
        have cw15_4_3 : w15.cell? ⟨w14.heap.size, 3, none⟩ = some (.int .i64 p4) := cell_gr hw15 (by go_simp)
        have zw15_4 : w14.heap.size < w15.heap.size := World.block_lt_of_cell? _ _ cw15_4_0
        have gw15 : Gr W w15 := Gr.trans (by have gg := gwx; have gs := gg.size; go_grown) hw15
        clear hw15 gwx zwx_0 cwx_0_0 cwx_0_1 zwx_1 cwx_1_0 cwx_1_1 cwx_1_2 cwx_1_3 zwx_2 cwx_2_0 cwx_2_1 cwx_2_2 cwx_2_3 zwx_3 cwx_3_0 cwx_3_1 cwx_3_2 cwx_3_3 zwx_4 cwx_4_0 cwx_4_1 cwx_4_2 cwx_4_3
        go_wp2_with fail
        go_at_call 9
        refine ((HN7.out _ gw15 cw15_0_0 cw15_0_1)).mono ?_
        rintro e w16 ⟨rfl, hw16⟩
        have cw16_0_0 : w16.cell? ⟨W.heap.size, 0, none⟩ = some (.int .i64 k) := cell_gr hw16 (by go_simp)
        have cw16_0_1 : w16.cell? ⟨W.heap.size, 1, none⟩ = some (.slice ad n cap) := cell_gr hw16 (by go_simp)
        have zw16_0 : W.heap.size < w16.heap.size := World.block_lt_of_cell? _ _ cw16_0_0
        have cw16_1_0 : w16.cell? ⟨W.heap.size + 1, 0, none⟩ = some (.int .i64 lx) := cell_gr hw16 (by go_simp)
        have cw16_1_1 : w16.cell? ⟨W.heap.size + 1, 1, none⟩ = some (.int .i64 ly) := cell_gr hw16 (by go_simp)
        have cw16_1_2 : w16.cell? ⟨W.heap.size + 1, 2, none⟩ = some (.int .i64 hx) := cell_gr hw16 (by go_simp)
        have cw16_1_3 : w16.cell? ⟨W.heap.size + 1, 3, none⟩ = some (.int .i64 hy) := cell_gr hw16 (by go_simp)
        have zw16_1 : W.heap.size + 1 < w16.heap.size := World.block_lt_of_cell? _ _ cw16_1_0
        have cw16_2_0 : w16.cell? ⟨W.heap.size + 1 + 1, 0, none⟩ = some (.int .i64 mx) := cell_gr hw16 (by go_simp)
        have cw16_2_1 : w16.cell? ⟨W.heap.size + 1 + 1, 1, none⟩ = some (.int .i64 my) := cell_gr hw16 (by go_simp)
        have cw16_2_2 : w16.cell? ⟨W.heap.size + 1 + 1, 2, none⟩ = some (.int .i64 nx) := cell_gr hw16 (by go_simp)
        have cw16_2_3 : w16.cell? ⟨W.heap.size + 1 + 1, 3, none⟩ = some (.int .i64 ny) := cell_gr hw16 (by go_simp)
        have zw16_2 : W.heap.size + 1 + 1 < w16.heap.size := World.block_lt_of_cell? _ _ cw16_2_0
        have cw16_3_0 : w16.cell? ⟨w5.heap.size, 0, none⟩ = some (.int .i64 ux) := cell_gr hw16 (by go_simp)
        have cw16_3_1 : w16.cell? ⟨w5.heap.size, 1, none⟩ = some (.int .i64 uy) := cell_gr hw16 (by go_simp)
        have cw16_3_2 : w16.cell? ⟨w5.heap.size, 2, none⟩ = some (.int .i64 vx) := cell_gr hw16 (by go_simp)
        have cw16_3_3 : w16.cell? ⟨w5.heap.size, 3, none⟩ = some (.int .i64 vy) := cell_gr hw16 (by go_simp)
        have zw16_3 : w5.heap.size < w16.heap.size := World.block_lt_of_cell? _ _ cw16_3_0
        have cw16_4_0 : w16.cell? ⟨w14.heap.size, 0, none⟩ = some (.int .i64 p1) := cell_gr hw16 (by go_simp)
        have cw16_4_1 : w16.cell? ⟨w14.heap.size, 1, none⟩ = some (.int .i64 p2) := cell_gr hw16 (by go_simp)
        have cw16_4_2 : w16.cell? ⟨w14.heap.size, 2, none⟩ = some (.int .i64 p3) := cell_gr hw16 (by go_simp)
        have cw16_4_3 : w16.cell? ⟨w14.heap.size, 3, none⟩ = some (.int .i64 p4) := cell_gr hw16 (by go_simp)
        have zw16_4 : w14.heap.size < w16.heap.size := World.block_lt_of_cell? _ _ cw16_4_0
        have gw16 : Gr W w16 := Gr.trans (by have gg := gw15; have gs := gg.size; go_grown) hw16
        clear hw16 gw15 zw15_0 cw15_0_0 cw15_0_1 zw15_1 cw15_1_0 cw15_1_1 cw15_1_2 cw15_1_3 zw15_2 cw15_2_0 cw15_2_1 cw15_2_2 cw15_2_3 zw15_3 cw15_3_0 cw15_3_1 cw15_3_2 cw15_3_3 zw15_4 cw15_4_0 cw15_4_1 cw15_4_2 cw15_4_3
        go_wp2_with fail
        go_at_call 11
        refine ((HN3.out _ gw16 cw16_0_0 cw16_0_1)).mono ?_
        rintro e w17 ⟨rfl, hw17⟩
        have cw17_0_0 : w17.cell? ⟨W.heap.size, 0, none⟩ = some (.int .i64 k) := cell_gr hw17 (by go_simp)
        have cw17_0_1 : w17.cell? ⟨W.heap.size, 1, none⟩ = some (.slice ad n cap) := cell_gr hw17 (by go_simp)
        have zw17_0 : W.heap.size < w17.heap.size := World.block_lt_of_cell? _ _ cw17_0_0
        have cw17_1_0 : w17.cell? ⟨W.heap.size + 1, 0, none⟩ = some (.int .i64 lx) := cell_gr hw17 (by go_simp)
        have cw17_1_1 : w17.cell? ⟨W.heap.size + 1, 1, none⟩ = some (.int .i64 ly) := cell_gr hw17 (by go_simp)
        have cw17_1_2 : w17.cell? ⟨W.heap.size + 1, 2, none⟩ = some (.int .i64 hx) := cell_gr hw17 (by go_simp)
        have cw17_1_3 : w17.cell? ⟨W.heap.size + 1, 3, none⟩ = some (.int .i64 hy) := cell_gr hw17 (by go_simp)
        have zw17_1 : W.heap.size + 1 < w17.heap.size := World.block_lt_of_cell? _ _ cw17_1_0
        have cw17_2_0 : w17.cell? ⟨W.heap.size + 1 + 1, 0, none⟩ = some (.int .i64 mx) := cell_gr hw17 (by go_simp)
        have cw17_2_1 : w17.cell? ⟨W.heap.size + 1 + 1, 1, none⟩ = some (.int .i64 my) := cell_gr hw17 (by go_simp)
        have cw17_2_2 : w17.cell? ⟨W.heap.size + 1 + 1, 2, none⟩ = some (.int .i64 nx) := cell_gr hw17 (by go_simp)
        have cw17_2_3 : w17.cell? ⟨W.heap.size + 1 + 1, 3, none⟩ = some (.int .i64 ny) := cell_gr hw17 (by go_simp)
        have zw17_2 : W.heap.size + 1 + 1 < w17.heap.size := World.block_lt_of_cell? _ _ cw17_2_0
        have cw17_3_0 : w17.cell? ⟨w5.heap.size, 0, none⟩ = some (.int .i64 ux) := cell_gr hw17 (by go_simp)
        have cw17_3_1 : w17.cell? ⟨w5.heap.size, 1, none⟩ = some (.int .i64 uy) := cell_gr hw17 (by go_simp)
        have cw17_3_2 : w17.cell? ⟨w5.heap.size, 2, none⟩ = some (.int .i64 vx) := cell_gr hw17 (by go_simp)
        have cw17_3_3 : w17.cell? ⟨w5.heap.size, 3, none⟩ = some (.int .i64 vy) := cell_gr hw17 (by go_simp)
        have zw17_3 : w5.heap.size < w17.heap.size := World.block_lt_of_cell? _ _ cw17_3_0
        have cw17_4_0 : w17.cell? ⟨w14.heap.size, 0, none⟩ = some (.int .i64 p1) := cell_gr hw17 (by go_simp)
        have cw17_4_1 : w17.cell? ⟨w14.heap.size, 1, none⟩ = some (.int .i64 p2) := cell_gr hw17 (by go_simp)
        have cw17_4_2 : w17.cell? ⟨w14.heap.size, 2, none⟩ = some (.int .i64 p3) := cell_gr hw17 (by go_simp)
        have cw17_4_3 : w17.cell? ⟨w14.heap.size, 3, none⟩ = some (.int .i64 p4) := cell_gr hw17 (by go_simp)
        have zw17_4 : w14.heap.size < w17.heap.size := World.block_lt_of_cell? _ _ cw17_4_0
        have gw17 : Gr W w17 := Gr.trans (by have gg := gw16; have gs := gg.size; go_grown) hw17
        clear hw17 gw16 zw16_0 cw16_0_0 cw16_0_1 zw16_1 cw16_1_0 cw16_1_1 cw16_1_2 cw16_1_3 zw16_2 cw16_2_0 cw16_2_1 cw16_2_2 cw16_2_3 zw16_3 cw16_3_0 cw16_3_1 cw16_3_2 cw16_3_3 zw16_4 cw16_4_0 cw16_4_1 cw16_4_2 cw16_4_3
        go_wp2_with fail
        go_at_call 14
        refine ((H7.out _)).mono ?_
        rintro e w18 ⟨rfl, hw18⟩
        have cw18_0_0 : w18.cell? ⟨W.heap.size, 0, none⟩ = some (.int .i64 k) := cell_gr hw18 (by go_simp)
        have cw18_0_1 : w18.cell? ⟨W.heap.size, 1, none⟩ = some (.slice ad n cap) := cell_gr hw18 (by go_simp)
        have zw18_0 : W.heap.size < w18.heap.size := World.block_lt_of_cell? _ _ cw18_0_0
        have cw18_1_0 : w18.cell? ⟨W.heap.size + 1, 0, none⟩ = some (.int .i64 lx) := cell_gr hw18 (by go_simp)
        have cw18_1_1 : w18.cell? ⟨W.heap.size + 1, 1, none⟩ = some (.int .i64 ly) := cell_gr hw18 (by go_simp)
        have cw18_1_2 : w18.cell? ⟨W.heap.size + 1, 2, none⟩ = some (.int .i64 hx) := cell_gr hw18 (by go_simp)
        have cw18_1_3 : w18.cell? ⟨W.heap.size + 1, 3, none⟩ = some (.int .i64 hy) := cell_gr hw18 (by go_simp)
        have zw18_1 : W.heap.size + 1 < w18.heap.size := World.block_lt_of_cell? _ _ cw18_1_0
        have cw18_2_0 : w18.cell? ⟨W.heap.size + 1 + 1, 0, none⟩ = some (.int .i64 mx) := cell_gr hw18 (by go_simp)
        have cw18_2_1 : w18.cell? ⟨W.heap.size + 1 + 1, 1, none⟩ = some (.int .i64 my) := cell_gr hw18 (by go_simp)
        have cw18_2_2 : w18.cell? ⟨W.heap.size + 1 + 1, 2, none⟩ = some (.int .i64 nx) := cell_gr hw18 (by go_simp)
        have cw18_2_3 : w18.cell? ⟨W.heap.size + 1 + 1, 3, none⟩ = some (.int .i64 ny) := cell_gr hw18 (by go_simp)
        have zw18_2 : W.heap.size + 1 + 1 < w18.heap.size := World.block_lt_of_cell? _ _ cw18_2_0
        have cw18_3_0 : w18.cell? ⟨w5.heap.size, 0, none⟩ = some (.int .i64 ux) := cell_gr hw18 (by go_simp)
        have cw18_3_1 : w18.cell? ⟨w5.heap.size, 1, none⟩ = some (.int .i64 uy) := cell_gr hw18 (by go_simp)
        have cw18_3_2 : w18.cell? ⟨w5.heap.size, 2, none⟩ = some (.int .i64 vx) := cell_gr hw18 (by go_simp)
        have cw18_3_3 : w18.cell? ⟨w5.heap.size, 3, none⟩ = some (.int .i64 vy) := cell_gr hw18 (by go_simp)
        have zw18_3 : w5.heap.size < w18.heap.size := World.block_lt_of_cell? _ _ cw18_3_0
        have cw18_4_0 : w18.cell? ⟨w14.heap.size, 0, none⟩ = some (.int .i64 p1) := cell_gr hw18 (by go_simp)
        have cw18_4_1 : w18.cell? ⟨w14.heap.size, 1, none⟩ = some (.int .i64 p2) := cell_gr hw18 (by go_simp)
        have cw18_4_2 : w18.cell? ⟨w14.heap.size, 2, none⟩ = some (.int .i64 p3) := cell_gr hw18 (by go_simp)
        have cw18_4_3 : w18.cell? ⟨w14.heap.size, 3, none⟩ = some (.int .i64 p4) := cell_gr hw18 (by go_simp)
        have zw18_4 : w14.heap.size < w18.heap.size := World.block_lt_of_cell? _ _ cw18_4_0
        have gw18 : Gr W w18 := Gr.trans (by have gg := gw17; have gs := gg.size; go_grown) hw18
        clear hw18 gw17 zw17_0 cw17_0_0 cw17_0_1 zw17_1 cw17_1_0 cw17_1_1 cw17_1_2 cw17_1_3 zw17_2 cw17_2_0 cw17_2_1 cw17_2_2 cw17_2_3 zw17_3 cw17_3_0 cw17_3_1 cw17_3_2 cw17_3_3 zw17_4 cw17_4_0 cw17_4_1 cw17_4_2 cw17_4_3
        go_wp2_with fail
        go_at_call 7
        refine ((H8.out _ gw18)).mono ?_
        rintro e w19 ⟨rfl, hw19⟩
        have cw19_0_0 : w19.cell? ⟨W.heap.size, 0, none⟩ = some (.int .i64 k) := cell_gr hw19 (by go_simp)
        have cw19_0_1 : w19.cell? ⟨W.heap.size, 1, none⟩ = some (.slice ad n cap) := cell_gr hw19 (by go_simp)
        have zw19_0 : W.heap.size < w19.heap.size := World.block_lt_of_cell? _ _ cw19_0_0
        have cw19_1_0 : w19.cell? ⟨W.heap.size + 1, 0, none⟩ = some (.int .i64 lx) := cell_gr hw19 (by go_simp)
        have cw19_1_1 : w19.cell? ⟨W.heap.size + 1, 1, none⟩ = some (.int .i64 ly) := cell_gr hw19 (by go_simp)
        have cw19_1_2 : w19.cell? ⟨W.heap.size + 1, 2, none⟩ = some (.int .i64 hx) := cell_gr hw19 (by go_simp)
        have cw19_1_3 : w19.cell? ⟨W.heap.size + 1, 3, none⟩ = some (.int .i64 hy) := cell_gr hw19 (by go_simp)
        have zw19_1 : W.heap.size + 1 < w19.heap.size := World.block_lt_of_cell? _ _ cw19_1_0
        have cw19_2_0 : w19.cell? ⟨W.heap.size + 1 + 1, 0, none⟩ = some (.int .i64 mx) := cell_gr hw19 (by go_simp)
        have cw19_2_1 : w19.cell? ⟨W.heap.size + 1 + 1, 1, none⟩ = some (.int .i64 my) := cell_gr hw19 (by go_simp)
        have cw19_2_2 : w19.cell? ⟨W.heap.size + 1 + 1, 2, none⟩ = some (.int .i64 nx) := cell_gr hw19 (by go_simp)
        have cw19_2_3 : w19.cell? ⟨W.heap.size + 1 + 1, 3, none⟩ = some (.int .i64 ny) := cell_gr hw19 (by go_simp)
        have zw19_2 : W.heap.size + 1 + 1 < w19.heap.size := World.block_lt_of_cell? _ _ cw19_2_0
        have cw19_3_0 : w19.cell? ⟨w5.heap.size, 0, none⟩ = some (.int .i64 ux) := cell_gr hw19 (by go_simp)
        have cw19_3_1 : w19.cell? ⟨w5.heap.size, 1, none⟩ = some (.int .i64 uy) := cell_gr hw19 (by go_simp)
        have cw19_3_2 : w19.cell? ⟨w5.heap.size, 2, none⟩ = some (.int .i64 vx) := cell_gr hw19 (by go_simp)
        have cw19_3_3 : w19.cell? ⟨w5.heap.size, 3, none⟩ = some (.int .i64 vy) := cell_gr hw19 (by go_simp)
        have zw19_3 : w5.heap.size < w19.heap.size := World.block_lt_of_cell? _ _ cw19_3_0
        have cw19_4_0 : w19.cell? ⟨w14.heap.size, 0, none⟩ = some (.int .i64 p1) := cell_gr hw19 (by go_simp)
        have cw19_4_1 : w19.cell? ⟨w14.heap.size, 1, none⟩ = some (.int .i64 p2) := cell_gr hw19 (by go_simp)
        have cw19_4_2 : w19.cell? ⟨w14.heap.size, 2, none⟩ = some (.int .i64 p3) := cell_gr hw19 (by go_simp)
        have cw19_4_3 : w19.cell? ⟨w14.heap.size, 3, none⟩ = some (.int .i64 p4) := cell_gr hw19 (by go_simp)
        have zw19_4 : w14.heap.size < w19.heap.size := World.block_lt_of_cell? _ _ cw19_4_0
        have gw19 : Gr W w19 := Gr.trans (by have gg := gw18; have gs := gg.size; go_grown) hw19
        clear hw19 gw18 zw18_0 cw18_0_0 cw18_0_1 zw18_1 cw18_1_0 cw18_1_1 cw18_1_2 cw18_1_3 zw18_2 cw18_2_0 cw18_2_1 cw18_2_2 cw18_2_3 zw18_3 cw18_3_0 cw18_3_1 cw18_3_2 cw18_3_3 zw18_4 cw18_4_0 cw18_4_1 cw18_4_2 cw18_4_3
        go_wp2_with fail
        go_ret
        exact ⟨rfl, gw19⟩
set_option maxHeartbeats 4000000 in
set_option maxRecDepth 100000 in
theorem nested_no {n cap c d : Nat} {ad : Option Addr} (k lx ly hx hy mx my nx ny : Int) (t : Bool) (W : World) (hc : t = false ∨ c ≠ 0 ∨ d ≠ 0)
    (A1 : ∀ w, Gr W w → Calls Tryd.prog 5 #[.agg #[.int .i64 k, .slice ad n cap]] w fun e w' => e = .returned (.bool t) ∧ Gr w w')
    (A2 : ∀ w, Calls Tryd.prog 6 #[.agg #[.int .i64 lx, .int .i64 ly, .int .i64 hx, .int .i64 hy]] w fun e w' => e = .returned (.int .i64 (c : Nat)) ∧ Gr w w')
    (A3 : ∀ w, Calls Tryd.prog 6 #[.agg #[.int .i64 mx, .int .i64 my, .int .i64 nx, .int .i64 ny]] w fun e w' => e = .returned (.int .i64 (d : Nat)) ∧ Gr w w')
    (A8 : ∀ w, Gr W w → Calls Tryd.prog 7 #[] w fun e w' => e = .returned (.bool true) ∧ Gr w w') :
    Calls Tryd.prog 3 #[.agg #[.int .i64 k, .slice ad n cap], .agg #[.int .i64 lx, .int .i64 ly, .int .i64 hx, .int .i64 hy], .agg #[.int .i64 mx, .int .i64 my, .int .i64 nx, .int .i64 ny]] W fun e w' => e = .returned (.bool true) ∧ Gr W w' := by
  have H1 := Lib.hid A1
  have H2 := Lib.hid A2
  have H3 := Lib.hid A3
  have H8 := Lib.hid A8
  clear A1 A2 A3 A8
  cases t
  · clear hc
    go_enter Tryd.func3, Tryd.ntmps3
    go_wp2_with fail
    go_at_call 5
    refine ((H1.out _ (by go_grown))).mono ?_
    rintro e w1 ⟨rfl, hw1⟩
    have cw1_0_0 : w1.cell? ⟨W.heap.size, 0, none⟩ = some (.int .i64 k) := cell_gr hw1 (by go_simp)
    have cw1_0_1 : w1.cell? ⟨W.heap.size, 1, none⟩ = some (.slice ad n cap) := cell_gr hw1 (by go_simp)
    have zw1_0 : W.heap.size < w1.heap.size := World.block_lt_of_cell? _ _ cw1_0_0
    have gw1 : Gr W w1 := Gr.trans (by go_grown) hw1
    clear hw1
    go_wp2_with fail
    go_at_call 7
    refine ((H8.out _ gw1)).mono ?_
    rintro e w2 ⟨rfl, hw2⟩
    have cw2_0_0 : w2.cell? ⟨W.heap.size, 0, none⟩ = some (.int .i64 k) := cell_gr hw2 (by go_simp)
    have cw2_0_1 : w2.cell? ⟨W.heap.size, 1, none⟩ = some (.slice ad n cap) := cell_gr hw2 (by go_simp)
    have zw2_0 : W.heap.size < w2.heap.size := World.block_lt_of_cell? _ _ cw2_0_0
    have gw2 : Gr W w2 := Gr.trans (by have gg := gw1; have gs := gg.size; go_grown) hw2
    clear hw2 gw1 zw1_0 cw1_0_0 cw1_0_1
    go_wp2_with fail
    go_ret
    exact ⟨rfl, gw2⟩
  · replace hc : c ≠ 0 ∨ d ≠ 0 := by
      rcases hc with h | h
      · cases h
      · exact h
    by_cases h : c = 0
    · have e1 : ((d : Int) != 0) = true := by simp; omega
      have e2 : (d != 0) = true := by simp; omega
      subst h
      clear hc
      go_enter Tryd.func3, Tryd.ntmps3
      go_wp2_with fail
      go_at_call 5
      refine ((H1.out _ (by go_grown))).mono ?_
      rintro e w1 ⟨rfl, hw1⟩
      have cw1_0_0 : w1.cell? ⟨W.heap.size, 0, none⟩ = some (.int .i64 k) := cell_gr hw1 (by go_simp)
      have cw1_0_1 : w1.cell? ⟨W.heap.size, 1, none⟩ = some (.slice ad n cap) := cell_gr hw1 (by go_simp)
      have zw1_0 : W.heap.size < w1.heap.size := World.block_lt_of_cell? _ _ cw1_0_0
      have cw1_1_0 : w1.cell? ⟨W.heap.size + 1, 0, none⟩ = some (.int .i64 lx) := cell_gr hw1 (by go_simp)
      have cw1_1_1 : w1.cell? ⟨W.heap.size + 1, 1, none⟩ = some (.int .i64 ly) := cell_gr hw1 (by go_simp)
      have cw1_1_2 : w1.cell? ⟨W.heap.size + 1, 2, none⟩ = some (.int .i64 hx) := cell_gr hw1 (by go_simp)
      have cw1_1_3 : w1.cell? ⟨W.heap.size + 1, 3, none⟩ = some (.int .i64 hy) := cell_gr hw1 (by go_simp)
      have zw1_1 : W.heap.size + 1 < w1.heap.size := World.block_lt_of_cell? _ _ cw1_1_0
      have cw1_2_0 : w1.cell? ⟨W.heap.size + 1 + 1, 0, none⟩ = some (.int .i64 mx) := cell_gr hw1 (by go_simp)
      have cw1_2_1 : w1.cell? ⟨W.heap.size + 1 + 1, 1, none⟩ = some (.int .i64 my) := cell_gr hw1 (by go_simp)
      have cw1_2_2 : w1.cell? ⟨W.heap.size + 1 + 1, 2, none⟩ = some (.int .i64 nx) := cell_gr hw1 (by go_simp)
      have cw1_2_3 : w1.cell? ⟨W.heap.size + 1 + 1, 3, none⟩ = some (.int .i64 ny) := cell_gr hw1 (by go_simp)
      have zw1_2 : W.heap.size + 1 + 1 < w1.heap.size := World.block_lt_of_cell? _ _ cw1_2_0
      have gw1 : Gr W w1 := Gr.trans (by go_grown) hw1
      clear hw1
      go_wp2_with fail
      go_at_call 6
      refine ((H2.out _)).mono ?_
      rintro e w2 ⟨rfl, hw2⟩
      have cw2_0_0 : w2.cell? ⟨W.heap.size, 0, none⟩ = some (.int .i64 k) := cell_gr hw2 (by go_simp)
      have cw2_0_1 : w2.cell? ⟨W.heap.size, 1, none⟩ = some (.slice ad n cap) := cell_gr hw2 (by go_simp)
      have zw2_0 : W.heap.size < w2.heap.size := World.block_lt_of_cell? _ _ cw2_0_0
      have cw2_1_0 : w2.cell? ⟨W.heap.size + 1, 0, none⟩ = some (.int .i64 lx) := cell_gr hw2 (by go_simp)
      have cw2_1_1 : w2.cell? ⟨W.heap.size + 1, 1, none⟩ = some (.int .i64 ly) := cell_gr hw2 (by go_simp)
      have cw2_1_2 : w2.cell? ⟨W.heap.size + 1, 2, none⟩ = some (.int .i64 hx) := cell_gr hw2 (by go_simp)
      have cw2_1_3 : w2.cell? ⟨W.heap.size + 1, 3, none⟩ = some (.int .i64 hy) := cell_gr hw2 (by go_simp)
      have zw2_1 : W.heap.size + 1 < w2.heap.size := World.block_lt_of_cell? _ _ cw2_1_0
      have cw2_2_0 : w2.cell? ⟨W.heap.size + 1 + 1, 0, none⟩ = some (.int .i64 mx) := cell_gr hw2 (by go_simp)
      have cw2_2_1 : w2.cell? ⟨W.heap.size + 1 + 1, 1, none⟩ = some (.int .i64 my) := cell_gr hw2 (by go_simp)
      have cw2_2_2 : w2.cell? ⟨W.heap.size + 1 + 1, 2, none⟩ = some (.int .i64 nx) := cell_gr hw2 (by go_simp)
      have cw2_2_3 : w2.cell? ⟨W.heap.size + 1 + 1, 3, none⟩ = some (.int .i64 ny) := cell_gr hw2 (by go_simp)
      have zw2_2 : W.heap.size + 1 + 1 < w2.heap.size := World.block_lt_of_cell? _ _ cw2_2_0
      have gw2 : Gr W w2 := Gr.trans (by have gg := gw1; have gs := gg.size; go_grown) hw2
      clear hw2 gw1 zw1_0 cw1_0_0 cw1_0_1 zw1_1 cw1_1_0 cw1_1_1 cw1_1_2 cw1_1_3 zw1_2 cw1_2_0 cw1_2_1 cw1_2_2 cw1_2_3
      go_wp2_with fail
      go_at_call 6
      refine ((H3.out _)).mono ?_
      rintro e w3 ⟨rfl, hw3⟩
      have cw3_0_0 : w3.cell? ⟨W.heap.size, 0, none⟩ = some (.int .i64 k) := cell_gr hw3 (by go_simp)
      have cw3_0_1 : w3.cell? ⟨W.heap.size, 1, none⟩ = some (.slice ad n cap) := cell_gr hw3 (by go_simp)
      have zw3_0 : W.heap.size < w3.heap.size := World.block_lt_of_cell? _ _ cw3_0_0
      have cw3_1_0 : w3.cell? ⟨W.heap.size + 1, 0, none⟩ = some (.int .i64 lx) := cell_gr hw3 (by go_simp)
      have cw3_1_1 : w3.cell? ⟨W.heap.size + 1, 1, none⟩ = some (.int .i64 ly) := cell_gr hw3 (by go_simp)
      have cw3_1_2 : w3.cell? ⟨W.heap.size + 1, 2, none⟩ = some (.int .i64 hx) := cell_gr hw3 (by go_simp)
      have cw3_1_3 : w3.cell? ⟨W.heap.size + 1, 3, none⟩ = some (.int .i64 hy) := cell_gr hw3 (by go_simp)
      have zw3_1 : W.heap.size + 1 < w3.heap.size := World.block_lt_of_cell? _ _ cw3_1_0
      have cw3_2_0 : w3.cell? ⟨W.heap.size + 1 + 1, 0, none⟩ = some (.int .i64 mx) := cell_gr hw3 (by go_simp)
      have cw3_2_1 : w3.cell? ⟨W.heap.size + 1 + 1, 1, none⟩ = some (.int .i64 my) := cell_gr hw3 (by go_simp)
      have cw3_2_2 : w3.cell? ⟨W.heap.size + 1 + 1, 2, none⟩ = some (.int .i64 nx) := cell_gr hw3 (by go_simp)
      have cw3_2_3 : w3.cell? ⟨W.heap.size + 1 + 1, 3, none⟩ = some (.int .i64 ny) := cell_gr hw3 (by go_simp)
      have zw3_2 : W.heap.size + 1 + 1 < w3.heap.size := World.block_lt_of_cell? _ _ cw3_2_0
      have gw3 : Gr W w3 := Gr.trans (by have gg := gw2; have gs := gg.size; go_grown) hw3
      clear hw3 gw2 zw2_0 cw2_0_0 cw2_0_1 zw2_1 cw2_1_0 cw2_1_1 cw2_1_2 cw2_1_3 zw2_2 cw2_2_0 cw2_2_1 cw2_2_2 cw2_2_3
      go_wp2_with fail
      go_at_call 7
      refine ((H8.out _ gw3)).mono ?_
      rintro e w4 ⟨rfl, hw4⟩
      have cw4_0_0 : w4.cell? ⟨W.heap.size, 0, none⟩ = some (.int .i64 k) := cell_gr hw4 (by go_simp)
      have cw4_0_1 : w4.cell? ⟨W.heap.size, 1, none⟩ = some (.slice ad n cap) := cell_gr hw4 (by go_simp)
      have zw4_0 : W.heap.size < w4.heap.size := World.block_lt_of_cell? _ _ cw4_0_0
      have cw4_1_0 : w4.cell? ⟨W.heap.size + 1, 0, none⟩ = some (.int .i64 lx) := cell_gr hw4 (by go_simp)
      have cw4_1_1 : w4.cell? ⟨W.heap.size + 1, 1, none⟩ = some (.int .i64 ly) := cell_gr hw4 (by go_simp)
      have cw4_1_2 : w4.cell? ⟨W.heap.size + 1, 2, none⟩ = some (.int .i64 hx) := cell_gr hw4 (by go_simp)
      have cw4_1_3 : w4.cell? ⟨W.heap.size + 1, 3, none⟩ = some (.int .i64 hy) := cell_gr hw4 (by go_simp)
      have zw4_1 : W.heap.size + 1 < w4.heap.size := World.block_lt_of_cell? _ _ cw4_1_0
      have cw4_2_0 : w4.cell? ⟨W.heap.size + 1 + 1, 0, none⟩ = some (.int .i64 mx) := cell_gr hw4 (by go_simp)
      have cw4_2_1 : w4.cell? ⟨W.heap.size + 1 + 1, 1, none⟩ = some (.int .i64 my) := cell_gr hw4 (by go_simp)
      have cw4_2_2 : w4.cell? ⟨W.heap.size + 1 + 1, 2, none⟩ = some (.int .i64 nx) := cell_gr hw4 (by go_simp)
      have cw4_2_3 : w4.cell? ⟨W.heap.size + 1 + 1, 3, none⟩ = some (.int .i64 ny) := cell_gr hw4 (by go_simp)
      have zw4_2 : W.heap.size + 1 + 1 < w4.heap.size := World.block_lt_of_cell? _ _ cw4_2_0
      have gw4 : Gr W w4 := Gr.trans (by have gg := gw3; have gs := gg.size; go_grown) hw4
      clear hw4 gw3 zw3_0 cw3_0_0 cw3_0_1 zw3_1 cw3_1_0 cw3_1_1 cw3_1_2 cw3_1_3 zw3_2 cw3_2_0 cw3_2_1 cw3_2_2 cw3_2_3
      go_wp2_with fail
      go_ret
      exact ⟨rfl, gw4⟩
    · have e1 : ((c : Int) != 0) = true := by simp; omega
      have e2 : (c != 0) = true := by simp; omega
      clear hc h
      go_enter Tryd.func3, Tryd.ntmps3
      go_wp2_with fail
      go_at_call 5
      refine ((H1.out _ (by go_grown))).mono ?_
      rintro e w1 ⟨rfl, hw1⟩
      have cw1_0_0 : w1.cell? ⟨W.heap.size, 0, none⟩ = some (.int .i64 k) := cell_gr hw1 (by go_simp)
      have cw1_0_1 : w1.cell? ⟨W.heap.size, 1, none⟩ = some (.slice ad n cap) := cell_gr hw1 (by go_simp)
      have zw1_0 : W.heap.size < w1.heap.size := World.block_lt_of_cell? _ _ cw1_0_0
      have cw1_1_0 : w1.cell? ⟨W.heap.size + 1, 0, none⟩ = some (.int .i64 lx) := cell_gr hw1 (by go_simp)
      have cw1_1_1 : w1.cell? ⟨W.heap.size + 1, 1, none⟩ = some (.int .i64 ly) := cell_gr hw1 (by go_simp)
      have cw1_1_2 : w1.cell? ⟨W.heap.size + 1, 2, none⟩ = some (.int .i64 hx) := cell_gr hw1 (by go_simp)
      have cw1_1_3 : w1.cell? ⟨W.heap.size + 1, 3, none⟩ = some (.int .i64 hy) := cell_gr hw1 (by go_simp)
      have zw1_1 : W.heap.size + 1 < w1.heap.size := World.block_lt_of_cell? _ _ cw1_1_0
      have gw1 : Gr W w1 := Gr.trans (by go_grown) hw1
      clear hw1
      go_wp2_with fail
      go_at_call 6
      refine ((H2.out _)).mono ?_
      rintro e w2 ⟨rfl, hw2⟩
      have cw2_0_0 : w2.cell? ⟨W.heap.size, 0, none⟩ = some (.int .i64 k) := cell_gr hw2 (by go_simp)
      have cw2_0_1 : w2.cell? ⟨W.heap.size, 1, none⟩ = some (.slice ad n cap) := cell_gr hw2 (by go_simp)
      have zw2_0 : W.heap.size < w2.heap.size := World.block_lt_of_cell? _ _ cw2_0_0
      have cw2_1_0 : w2.cell? ⟨W.heap.size + 1, 0, none⟩ = some (.int .i64 lx) := cell_gr hw2 (by go_simp)
      have cw2_1_1 : w2.cell? ⟨W.heap.size + 1, 1, none⟩ = some (.int .i64 ly) := cell_gr hw2 (by go_simp)
      have cw2_1_2 : w2.cell? ⟨W.heap.size + 1, 2, none⟩ = some (.int .i64 hx) := cell_gr hw2 (by go_simp)
      have cw2_1_3 : w2.cell? ⟨W.heap.size + 1, 3, none⟩ = some (.int .i64 hy) := cell_gr hw2 (by go_simp)
      have zw2_1 : W.heap.size + 1 < w2.heap.size := World.block_lt_of_cell? _ _ cw2_1_0
      have gw2 : Gr W w2 := Gr.trans (by have gg := gw1; have gs := gg.size; go_grown) hw2
      clear hw2 gw1 zw1_0 cw1_0_0 cw1_0_1 zw1_1 cw1_1_0 cw1_1_1 cw1_1_2 cw1_1_3
      go_wp2_with fail
      go_at_call 7
      refine ((H8.out _ gw2)).mono ?_
      rintro e w4 ⟨rfl, hw4⟩
      have cw4_0_0 : w4.cell? ⟨W.heap.size, 0, none⟩ = some (.int .i64 k) := cell_gr hw4 (by go_simp)
      have cw4_0_1 : w4.cell? ⟨W.heap.size, 1, none⟩ = some (.slice ad n cap) := cell_gr hw4 (by go_simp)
      have zw4_0 : W.heap.size < w4.heap.size := World.block_lt_of_cell? _ _ cw4_0_0
      have cw4_1_0 : w4.cell? ⟨W.heap.size + 1, 0, none⟩ = some (.int .i64 lx) := cell_gr hw4 (by go_simp)
      have cw4_1_1 : w4.cell? ⟨W.heap.size + 1, 1, none⟩ = some (.int .i64 ly) := cell_gr hw4 (by go_simp)
      have cw4_1_2 : w4.cell? ⟨W.heap.size + 1, 2, none⟩ = some (.int .i64 hx) := cell_gr hw4 (by go_simp)
      have cw4_1_3 : w4.cell? ⟨W.heap.size + 1, 3, none⟩ = some (.int .i64 hy) := cell_gr hw4 (by go_simp)
      have zw4_1 : W.heap.size + 1 < w4.heap.size := World.block_lt_of_cell? _ _ cw4_1_0
      have gw4 : Gr W w4 := Gr.trans (by have gg := gw2; have gs := gg.size; go_grown) hw4
      clear hw4 gw2 zw2_0 cw2_0_0 cw2_0_1 zw2_1 cw2_1_0 cw2_1_1 cw2_1_2 cw2_1_3
      go_wp2_with fail
      go_ret
      exact ⟨rfl, gw4⟩
theorem qC_box {kq : Int} (hq : kq = 1 ∨ kq = 2) {a b c d : Int} (h : boxB a b c d = true) : qC kq a b c d 0 (fun _ => 0) (fun _ => 0) = 0 := by
  unfold qC; rw [if_pos hq]; exact boxN_0.2 h
section
variable {k : Int} {n : Nat} {X Y : Nat → Int}
theorem ma1 (a b c d : Int) : maA k n X Y 1 a b c d 0 (fun _ => 0) (fun _ => 0) = if k = 4 then rmV n X Y a b c d else meV (X 0) (oLy k Y) (oHx k X Y) (oHy k Y) a b c d := by
  unfold maA mpV msV
  by_cases k4 : k = 4
  · rw [if_pos k4, if_pos k4, if_neg (by decide), if_neg (by decide), if_neg (by decide)]
  · rw [if_neg k4, if_neg k4, if_neg (by decide), if_neg (by decide), if_neg (by decide)]
theorem ma2 (a b c d : Int) : maA k n X Y 2 a b c d 0 (fun _ => 0) (fun _ => 0) = inV (bLx k n X) (bLy k n Y) (bHx k n X Y) (bHy k n Y) a b c d := by
  unfold maA mpV msV bLx bLy bHx bHy
  by_cases k4 : k = 4
  · simp only [if_pos k4]; rfl
  · simp only [if_neg k4]; rfl
theorem in_iff {a b c d p q r s : Int} (h : boxB a b c d = true) (g : boxB p q r s = true) : inV a b c d p q r s = true ↔ p ≤ a ∧ q ≤ b ∧ c ≤ r ∧ d ≤ s := by
  have h1 := (boxB_iff.1 h).2
  unfold inV
  rw [h, g, Bool.and_eq_true, Bool.and_eq_true, inB_P, inB_P]
  unfold inP
  constructor
  · rintro ⟨⟨-, k1⟩, k2⟩; omega
  · intro k; exact ⟨⟨rfl, by omega⟩, by omega⟩
theorem me_iff {a b c d p q r s : Int} (h : boxB a b c d = true) (g : boxB p q r s = true) : meV a b c d p q r s = true ↔ a ≤ r ∧ p ≤ c ∧ b ≤ s ∧ q ≤ d := by
  unfold meV
  rw [h, g]
  simp only [Bool.and_eq_true, decide_eq_true_eq, Bool.true_and, and_assoc, true_and]
theorem bx_ok' (hc : objC k n X Y = 0) : boxB (bLx k n X) (bLy k n Y) (bHx k n X Y) (bHy k n Y) = true := by
  unfold bLx bLy bHx bHy
  by_cases k4 : k = 4
  · simp only [if_pos k4]
    subst k4
    rw [objC_4] at hc
    exact ring_box hc
  · simp only [if_neg k4]
    exact boxN_0.1 (obj_box hc k4).2.2
theorem ma1_mono (hc : objC k n X Y = 0) {a b c d p q r s : Int} (h : boxB a b c d = true) (g : boxB p q r s = true) (hl : p ≤ a ∧ q ≤ b ∧ c ≤ r ∧ d ≤ s) (hz : maA k n X Y 1 a b c d 0 (fun _ => 0) (fun _ => 0) = true) : maA k n X Y 1 p q r s 0 (fun _ => 0) (fun _ => 0) = true := by
  rw [ma1] at hz ⊢
  have bo := bx_ok' hc
  unfold bLx bLy bHx bHy at bo
  by_cases k4 : k = 4
  · rw [if_pos k4] at hz ⊢
    subst k4
    rw [objC_4] at hc
    rw [rm_doc hc h] at hz
    rw [rm_doc hc g]
    exact rmD_mono hc h g hl hz
  · rw [if_neg k4] at hz ⊢
    simp only [if_neg k4] at bo
    rw [me_iff bo h] at hz
    rw [me_iff bo g]
    omega
theorem ma1_self (hc : objC k n X Y = 0) : maA k n X Y 1 (bLx k n X) (bLy k n Y) (bHx k n X Y) (bHy k n Y) 0 (fun _ => 0) (fun _ => 0) = true := by
  rw [ma1]
  have bo := bx_ok' hc
  unfold bLx bLy bHx bHy at bo ⊢
  by_cases k4 : k = 4
  · simp only [if_pos k4] at bo ⊢
    subst k4
    rw [objC_4] at hc
    rw [rm_doc hc bo]
    have h1 := (Rg.ringC_ok hc).1
    have b0 := bd_mm n X Y 0 (by omega)
    exact rmD_vert hc bo (by omega : 0 < n) (by unfold inP; omega)
  · simp only [if_neg k4] at bo ⊢
    have := (boxB_iff.1 bo).2
    rw [me_iff bo bo]
    omega
end
theorem mn2_le (a b : Int) : mn2 a b ≤ a ∧ mn2 a b ≤ b ∧ (mn2 a b = a ∨ mn2 a b = b) := by unfold mn2; split <;> omega
theorem le_mx2 (a b : Int) : a ≤ mx2 a b ∧ b ≤ mx2 a b ∧ (mx2 a b = a ∨ mx2 a b = b) := by unfold mx2; split <;> omega
theorem un_box {a b c d p q r s : Int} (h : boxB a b c d = true) (g : boxB p q r s = true) : boxB (mn2 a p) (mn2 b q) (mx2 c r) (mx2 d s) = true := by
  have h' := boxB_iff.1 h
  have g' := boxB_iff.1 g
  have n1 := Rg.nearB_iff'.1 h'.1.1
  have n2 := Rg.nearB_iff'.1 h'.1.2
  have n3 := Rg.nearB_iff'.1 g'.1.1
  have n4 := Rg.nearB_iff'.1 g'.1.2
  have a1 := mn2_le a p
  have a2 := mn2_le b q
  have a3 := le_mx2 c r
  have a4 := le_mx2 d s
  rw [boxB_iff, Rg.nearB_iff', Rg.nearB_iff']
  omega
theorem walk_RelNested (W : World) (k : Int) (v : Value) (lx ly hx hy mx my nx ny : Int) (h : (-9223372036854775808 ≤ k ∧ k ≤ 9223372036854775807) ∧ ∃ (n : Nat) (X Y : Nat → Int), Pts W v n X Y) {p1 p2 : Prop} (_ : p1) (_ : p2)
    (hE : ErrT W) :
    Calls Tryd.prog 3 #[.agg #[.int .i64 k, v], .agg #[.int .i64 lx, .int .i64 ly, .int .i64 hx, .int .i64 hy], .agg #[.int .i64 mx, .int .i64 my, .int .i64 nx, .int .i64 ny]] W fun e w' => e = .returned (.bool true) ∧ Gr W w' := by
  obtain ⟨-, n, X, Y, h⟩ := h
  have hh := h
  have A8 : ∀ w, Gr W w → Calls Tryd.prog 7 #[] w fun e w' => e = .returned (.bool true) ∧ Gr w w' := fun w g => p6_awake w (errT_gr hE g)
  have A1 := fun w (g : Gr W w) => c_May6 k w (pts_gr h g)
  have A2 := fun w => c_rCheckBox lx ly hx hy w
  have A3 := fun w => c_rCheckBox mx my nx ny w
  rw [boxN_code] at A2 A3
  by_cases far : decide (objC k n X Y = 0) = false ∨ boxN lx ly hx hy ≠ 0 ∨ boxN mx my nx ny ≠ 0
  · obtain ⟨ad, cap, B, off, rfl, _⟩ := h
    exact nested_no k lx ly hx hy mx my nx ny _ W far A1 A2 A3 A8
  have hc : objC k n X Y = 0 := by
    by_cases c : objC k n X Y = 0
    · exact c
    · exact absurd (Or.inl (decide_eq_false c)) far
  have b1 : boxN lx ly hx hy = 0 := by
    by_cases c : boxN lx ly hx hy = 0
    · exact c
    · exact absurd (Or.inr (Or.inl c)) far
  have b2 : boxN mx my nx ny = 0 := by
    by_cases c : boxN mx my nx ny = 0
    · exact c
    · exact absurd (Or.inr (Or.inr c)) far
  rw [decide_eq_true hc] at A1
  rw [b1] at A2
  rw [b2] at A3
  replace b1 := boxN_0.1 b1
  replace b2 := boxN_0.1 b2
  have hz : Pts W (.slice none 0 0) 0 (fun _ => 0) (fun _ => 0) := nil_pts W
  have MM : ∀ (kq a b c d : Int), (kq = 1 ∨ kq = 2) → boxB a b c d = true → ∀ w, Gr W w → Calls Tryd.prog 10 #[.agg #[.int .i64 k, v], qryV kq a b c d (.slice none 0 0)] w fun e w' => e = .returned (.bool (maA k n X Y kq a b c d 0 (fun _ => 0) (fun _ => 0))) ∧ Gr w w' := fun kq a b c d hq hb w g =>
    c_MatchAny kq a b c d w (errT_gr hE g) (pts_gr h g) hc (pts_gr hz g) (qC_box hq hb)
  have bo := bx_ok' hc
  have bu := un_box b1 b2
  have l1 := mn2_le lx mx
  have l2 := mn2_le ly my
  have l3 := le_mx2 hx nx
  have l4 := le_mx2 hy ny
  have M1 := MM 1 lx ly hx hy (Or.inl rfl) b1
  have M2 := MM 1 _ _ _ _ (Or.inl rfl) bu
  have M3 := MM 2 lx ly hx hy (Or.inr rfl) b1
  have M4 := MM 2 _ _ _ _ (Or.inr rfl) bu
  have M5 := MM 2 mx my nx ny (Or.inr rfl) b2
  have M6 := MM 2 _ _ _ _ (Or.inr rfl) bo
  have M7 := MM 1 _ _ _ _ (Or.inl rfl) bo
  rw [ma2, (in_iff bo bo).2 ⟨Int.le_refl _, Int.le_refl _, Int.le_refl _, Int.le_refl _⟩] at M6
  rw [ma1_self hc] at M7
  have A4 := fun (w : World) (D : Nat) c0 c1 c2 c3 c4 c5 c6 c7 => c_rUnion2 (D := D) (cap := 2) w b1 b2 c0 c1 c2 c3 c4 c5 c6 c7
  have A5 := fun w => c_rBoxMeets lx ly hx hy mx my nx ny w
  have A6 := fun w (g : Gr W w) => c_BoundsOk w (pts_gr h g) hc
  have A7 := fun w => c_rBoxInside (bLx k n X) (bLy k n Y) (bHx k n X Y) (bHy k n Y) lx ly hx hy w
  have f1 : maA k n X Y 1 lx ly hx hy 0 (fun _ => 0) (fun _ => 0) = true → maA k n X Y 1 (mn2 lx mx) (mn2 ly my) (mx2 hx nx) (mx2 hy ny) 0 (fun _ => 0) (fun _ => 0) = true := ma1_mono hc b1 bu (by omega)
  have f2 : maA k n X Y 2 lx ly hx hy 0 (fun _ => 0) (fun _ => 0) = true → maA k n X Y 2 (mn2 lx mx) (mn2 ly my) (mx2 hx nx) (mx2 hy ny) 0 (fun _ => 0) (fun _ => 0) = true := by
    rw [ma2, ma2, in_iff bo b1, in_iff bo bu]; omega
  have f3 : maA k n X Y 2 lx ly hx hy 0 (fun _ => 0) (fun _ => 0) = true → maA k n X Y 2 mx my nx ny 0 (fun _ => 0) (fun _ => 0) = true → (boxB lx ly hx hy && boxB mx my nx ny && meetB lx ly hx hy mx my nx ny) = true := by
    have bb := (boxB_iff.1 bo).2
    have em : (boxB lx ly hx hy && boxB mx my nx ny && meetB lx ly hx hy mx my nx ny) = meV lx ly hx hy mx my nx ny := by unfold meV meetB; simp only [Bool.and_assoc]
    rw [ma2, ma2, in_iff bo b1, in_iff bo b2, em, me_iff b1 b2]; omega
  have f4 : maA k n X Y 2 lx ly hx hy 0 (fun _ => 0) (fun _ => 0) = true → (boxB (bLx k n X) (bLy k n Y) (bHx k n X Y) (bHy k n Y) && boxB lx ly hx hy && inB lx ly hx hy (bLx k n X) (bLy k n Y) && inB lx ly hx hy (bHx k n X Y) (bHy k n Y)) = true := by
    rw [ma2]; exact fun q => q
  obtain ⟨ad, cap, B, off, rfl, _⟩ := h
  exact nested_core k _ _ _ _ _ _ _ _ _ _ _ _ _ _ _ _ _ _ _ _ _ _ _ W f1 f2 f3 f4 A1 A2 A3 A4 M1 M2 M3 M4 M5 M6 M7 A5 A6 A7 A8
end Go.Proofs.YtfobmlgpjhghdaaDoor
