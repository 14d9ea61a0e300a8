/- the document's own sums, against the program's: WideAdds -/
import Derived.Test.YtihfkecigkmfjaaDoorE
import Derived.Test.YtihfkecigkmfjaaDoorI
namespace Go.Proofs.YtihfkecigkmfjaaDoor
set_option linter.unusedVariables false
open Go.ChangeShapes Go.WideShapes Go.ChangeAt Go.RowKit

theorem c_rAdd (ah al bh bl : Nat) (h1 : Wd ah) (h2 : Wd al) (h3 : Wd bh) (h4 : Wd bl) (w : World) :
    Calls Tryd.prog 13 #[.agg #[.int .u64 ah, .int .u64 al], .agg #[.int .u64 bh, .int .u64 bl]] w fun e w' => e = .returned (.tuple #[.agg #[.int .u64 (((val ah al + val bh bl) / 18446744073709551616 % 18446744073709551616 : Nat) : Int), .int .u64 (((val ah al + val bh bl) % 18446744073709551616 : Nat) : Int)], .bool (decide (18446744073709551616 ≤ (val ah al + val bh bl) / 18446744073709551616))]) ∧ Gr w w' := by
  obtain ⟨s0, hs0⟩ : ∃ s, s = (ah + bh) % 18446744073709551616 := ⟨_, rfl⟩
  obtain ⟨sl, hsl⟩ : ∃ s, s = (val ah al + val bh bl) % 18446744073709551616 := ⟨_, rfl⟩
  obtain ⟨sh, hsh⟩ : ∃ s, s = (val ah al + val bh bl) / 18446744073709551616 % 18446744073709551616 := ⟨_, rfl⟩
  have hsl' : sl = (al + bl) % 18446744073709551616 := by rw [hsl]; unfold val; omega
  have w3 : Wd sh := by rw [hsh]; exact wd_mod _
  have w4 : Wd sl := by rw [hsl]; exact wd_mod _
  have hv : val sh sl = (val ah al + val bh bl) % 340282366920938463463374607431768211456 := by rw [hsh, hsl]; generalize val ah al + val bh bl = X; unfold val; omega
  have hA := val_lt h1 h2
  have hB := val_lt h3 h4
  have ho : decide (cmpN (val sh sl) (val ah al) < 0) = decide (18446744073709551616 ≤ (val ah al + val bh bl) / 18446744073709551616) := by
    rw [cmp_lt0, decide_eq_decide, hv]; omega
  rw [← hsl, ← hsh, ← ho]
  refine radd_core ah al bh bl s0 sh sl _ _ (decide (sl < al)) w ?_ ?_ rfl ?_ ?_ rfl (fun w => c_rCompare sh sl ah al w3 w4 h1 h2 w)
  · rw [IntKind.wrap_u64]; unfold Wd at *; omega
  · rw [IntKind.wrap_u64]; unfold Wd at *; omega
  · intro hc
    have hc := of_decide_eq_true hc
    rw [IntKind.wrap_u64]; unfold Wd val at *; omega
  · intro hc
    have hc := of_decide_eq_false hc
    unfold Wd val at *; omega

theorem c_rSub (ah al bh bl : Nat) (h1 : Wd ah) (h2 : Wd al) (h3 : Wd bh) (h4 : Wd bl) (w : World) :
    Calls Tryd.prog 16 #[.agg #[.int .u64 ah, .int .u64 al], .agg #[.int .u64 bh, .int .u64 bl]] w fun e w' => e = .returned (.tuple #[.agg #[.int .u64 (((val ah al + 340282366920938463463374607431768211456 - val bh bl) / 18446744073709551616 % 18446744073709551616 : Nat) : Int), .int .u64 (((val ah al + 340282366920938463463374607431768211456 - val bh bl) % 18446744073709551616 : Nat) : Int)], .bool (decide (val ah al < val bh bl))]) ∧ Gr w w' := by
  obtain ⟨s0, hs0⟩ : ∃ s, s = (ah + 18446744073709551616 - bh) % 18446744073709551616 := ⟨_, rfl⟩
  obtain ⟨sl, hsl⟩ : ∃ s, s = (val ah al + 340282366920938463463374607431768211456 - val bh bl) % 18446744073709551616 := ⟨_, rfl⟩
  obtain ⟨sh, hsh⟩ : ∃ s, s = (val ah al + 340282366920938463463374607431768211456 - val bh bl) / 18446744073709551616 % 18446744073709551616 := ⟨_, rfl⟩
  have hA := val_lt h1 h2
  have hB := val_lt h3 h4
  have hsl' : sl = (al + 18446744073709551616 - bl) % 18446744073709551616 := by rw [hsl]; unfold val Wd at *; omega
  rw [← hsl, ← hsh, ← cmp_lt0]
  refine rsub_core ah al bh bl s0 sh sl _ _ (decide (al < bl)) w ?_ ?_ rfl ?_ ?_ rfl (fun w => c_rCompare ah al bh bl h1 h2 h3 h4 w)
  · rw [IntKind.wrap_u64]; unfold Wd at *; omega
  · rw [IntKind.wrap_u64]; unfold Wd at *; omega
  · intro hc
    have hc := of_decide_eq_true hc
    rw [IntKind.wrap_u64]; unfold Wd val at *; omega
  · intro hc
    have hc := of_decide_eq_false hc
    unfold Wd val at *; omega

set_option maxHeartbeats 1000000 in
set_option maxRecDepth 100000 in
theorem adds_core (ah al bh bl sh sl dh dl : Nat) (ov un : Bool) (k : Int) (W : World) (hp : Lib.TabIs Tryd.prog W "internal/strconv.uint64pow10" .u64 Lib.pow10Tab)
    (A1 : ∀ w, Calls Tryd.prog 12 #[.agg #[.int .u64 ah, .int .u64 al], .agg #[.int .u64 bh, .int .u64 bl]] w fun e w' => e = .returned (.tuple #[.agg #[.int .u64 sh, .int .u64 sl], .bool ov]) ∧ Gr w w')
    (A2 : ∀ w, Calls Tryd.prog 13 #[.agg #[.int .u64 ah, .int .u64 al], .agg #[.int .u64 bh, .int .u64 bl]] w fun e w' => e = .returned (.tuple #[.agg #[.int .u64 sh, .int .u64 sl], .bool ov]) ∧ Gr w w')
    (A3 : ∀ w, Calls Tryd.prog 15 #[.agg #[.int .u64 ah, .int .u64 al], .agg #[.int .u64 bh, .int .u64 bl]] w fun e w' => e = .returned (.tuple #[.agg #[.int .u64 dh, .int .u64 dl], .bool un]) ∧ Gr w w')
    (A4 : ∀ w, Calls Tryd.prog 16 #[.agg #[.int .u64 ah, .int .u64 al], .agg #[.int .u64 bh, .int .u64 bl]] w fun e w' => e = .returned (.tuple #[.agg #[.int .u64 dh, .int .u64 dl], .bool un]) ∧ Gr w w')
    (A5 : ∀ w, Calls Tryd.prog 17 #[.agg #[.int .u64 ah, .int .u64 al], .agg #[.int .u64 bh, .int .u64 bl]] w fun e w' => e = .returned (.int .i64 k) ∧ Gr w w')
    (A6 : ∀ w, Calls Tryd.prog 18 #[.agg #[.int .u64 ah, .int .u64 al], .agg #[.int .u64 bh, .int .u64 bl]] w fun e w' => e = .returned (.int .i64 k) ∧ Gr w w') :
    Calls Tryd.prog 3 #[.int .u64 ah, .int .u64 al, .int .u64 bh, .int .u64 bl] W fun e w' => e = .returned (.bool true) ∧ Gr W w' := by
  have H1 := Lib.hid A1
  have H2 := Lib.hid A2
  have H3 := Lib.hid A3
  have H4 := Lib.hid A4
  have H5 := Lib.hid A5
  have H6 := Lib.hid A6
  have AW : ∀ w, Gr W w → Calls Tryd.prog 19 #[] w fun e w' => e = .returned (.bool true) ∧ Gr w w' := fun w g => c_awake w (tab_below hp g)
  have HAW := Lib.hid AW
  clear A1 A2 A3 A4 A5 A6 AW hp
  go_enter Tryd.func3, Tryd.ntmps3
  go_wp2_with fail
  go_at_call 11
  refine ((c_w ah al _)).mono ?_
  rintro e w1 ⟨rfl, hw1⟩
  have gw1 : Gr W w1 := Gr.trans (by go_grown) hw1
  clear hw1
  go_wp2_with fail
  go_at_call 11
  refine ((c_w bh bl _)).mono ?_
  rintro e w2 ⟨rfl, hw2⟩
  have cw2_0_0 : w2.cell? ⟨w1.heap.size, 0, none⟩ = some (.int .u64 ah) := cell_gr hw2 (by go_simp)
  have cw2_0_1 : w2.cell? ⟨w1.heap.size, 1, none⟩ = some (.int .u64 al) := cell_gr hw2 (by go_simp)
  have zw2_0 : w1.heap.size < w2.heap.size := World.block_lt_of_cell? _ _ cw2_0_0
  have gw2 : Gr W w2 := Gr.trans (by have gg := gw1; have gs := gg.size; go_grown) hw2
  clear hw2 gw1
  go_wp2_with fail
  go_at_call 12
  refine ((H1.out _)).mono ?_
  rintro e w3 ⟨rfl, hw3⟩
  have cw3_0_0 : w3.cell? ⟨w1.heap.size, 0, none⟩ = some (.int .u64 ah) := cell_gr hw3 (by go_simp)
  have cw3_0_1 : w3.cell? ⟨w1.heap.size, 1, none⟩ = some (.int .u64 al) := cell_gr hw3 (by go_simp)
  have zw3_0 : w1.heap.size < w3.heap.size := World.block_lt_of_cell? _ _ cw3_0_0
  have cw3_1_0 : w3.cell? ⟨w2.heap.size, 0, none⟩ = some (.int .u64 bh) := cell_gr hw3 (by go_simp)
  have cw3_1_1 : w3.cell? ⟨w2.heap.size, 1, none⟩ = some (.int .u64 bl) := cell_gr hw3 (by go_simp)
  have zw3_1 : w2.heap.size < w3.heap.size := World.block_lt_of_cell? _ _ cw3_1_0
  have gw3 : Gr W w3 := Gr.trans (by have gg := gw2; have gs := gg.size; go_grown) hw3
  clear hw3 gw2 zw2_0 cw2_0_0 cw2_0_1
  go_wp2_with fail
  refine Hm.wp_region_made 10 8 9 13 #[.int .u64 0, .int .u64 0] #[.int .u64 sh, .int .u64 sl] 28 (by kernel_rfl) (by simp only [List.getElem?_toArray, List.getElem?_cons_succ, List.getElem?_cons_zero] <;> rfl) (by simp only [List.getElem?_toArray, List.getElem?_cons_succ, List.getElem?_cons_zero] <;> rfl) (by kernel_rfl) (fun _ _ => ?_) ?_
  · unfold Oper.wp; go_simp
  intro KQ hKQ
  repeat (first | (refine Hm.wpG_sp (by decide) ?_ ?_; (· (try dsimp only); first | (rw [if_neg (by decide)]; trivial) | (rw [if_pos rfl]; (intro B w' g hB hw; have c0 : w'.cell? ⟨B, 0, none⟩ = some (.int .u64 0) := Hm.cell_of_heap hw 0; have f0 := Hm.frozen_of_heap hw 0; have c1 : w'.cell? ⟨B, 1, none⟩ = some (.int .u64 0) := Hm.cell_of_heap hw 1; have f1 := Hm.frozen_of_heap hw 1; unfold Oper.wp; go_simp; exact ⟨((g.setCell hB _).setCell hB _), (Hm.heap_set_same (Hm.heap_set_same hw))⟩)))) | (refine Hm.wpG_skip (by decide) rfl ?_; simp only [Act.put, List.setIfInBounds_toArray, List.set_cons_zero, List.set_cons_succ]) | (refine Hm.wpG_want (by decide) rfl ?_; apply Exists.intro; refine ⟨?_, ?_⟩; (· intro wx gx; (obtain ⟨mx, rfl⟩ := spread_of_gr gx; clear gx); all_goals (apply Hd.gAt_of_quiet; intro K hK; go_big_quiet_op; first | exact hK _ rfl | (apply Exists.intro; refine ⟨fun _ => ?_, ?_⟩; (· (first | (go_at_call 14; first | ((with_reducible refine ((c_u _ _ _)).mono ?_); rintro e w' ⟨rfl, hg⟩; exact ⟨rfl, spread_gr hg⟩)) | (go_at_call 13; first | ((with_reducible refine ((H2.out _)).mono ?_); rintro e w' ⟨rfl, hg⟩; exact ⟨rfl, spread_gr hg⟩)))); exact hK _ rfl))); try simp only [Act.put, List.setIfInBounds_toArray, List.set_cons_zero, List.set_cons_succ]))
  refine Hm.wpG_nil (hKQ _ ?_)
  clear hKQ KQ
  intro B4 w4 hw4 hBw4 hhw4
  have cw4_0_0 : w4.cell? ⟨w1.heap.size, 0, none⟩ = some (.int .u64 ah) := cell_gr hw4 (by go_simp)
  have cw4_0_1 : w4.cell? ⟨w1.heap.size, 1, none⟩ = some (.int .u64 al) := cell_gr hw4 (by go_simp)
  have zw4_0 : w1.heap.size < w4.heap.size := World.block_lt_of_cell? _ _ cw4_0_0
  have cw4_1_0 : w4.cell? ⟨w2.heap.size, 0, none⟩ = some (.int .u64 bh) := cell_gr hw4 (by go_simp)
  have cw4_1_1 : w4.cell? ⟨w2.heap.size, 1, none⟩ = some (.int .u64 bl) := cell_gr hw4 (by go_simp)
  have zw4_1 : w2.heap.size < w4.heap.size := World.block_lt_of_cell? _ _ cw4_1_0
  have cw4_2_0 : w4.cell? ⟨w3.heap.size, 0, none⟩ = some (.int .u64 sh) := cell_gr hw4 (by go_simp)
  have cw4_2_1 : w4.cell? ⟨w3.heap.size, 1, none⟩ = some (.int .u64 sl) := cell_gr hw4 (by go_simp)
  have zw4_2 : w3.heap.size < w4.heap.size := World.block_lt_of_cell? _ _ cw4_2_0
  have cw4_3_0 : w4.cell? ⟨B4, 0, none⟩ = some (.int .u64 sh) := Hm.cell_of_heap hhw4 0
  have cw4_3_1 : w4.cell? ⟨B4, 1, none⟩ = some (.int .u64 sl) := Hm.cell_of_heap hhw4 1
  have zw4_3 : B4 < w4.heap.size := World.block_lt_of_cell? _ _ cw4_3_0
  have gw4 : Gr W w4 := Gr.trans (by have gg := gw3; have gs := gg.size; go_grown) hw4
  clear hw4 hBw4 hhw4 gw3 zw3_0 cw3_0_0 cw3_0_1 zw3_1 cw3_1_0 cw3_1_1
  go_wp2_with fail
  go_at_call 15
  refine ((H3.out _)).mono ?_
  rintro e w5 ⟨rfl, hw5⟩
  have cw5_0_0 : w5.cell? ⟨w1.heap.size, 0, none⟩ = some (.int .u64 ah) := cell_gr hw5 (by go_simp)
  have cw5_0_1 : w5.cell? ⟨w1.heap.size, 1, none⟩ = some (.int .u64 al) := cell_gr hw5 (by go_simp)
  have zw5_0 : w1.heap.size < w5.heap.size := World.block_lt_of_cell? _ _ cw5_0_0
  have cw5_1_0 : w5.cell? ⟨w2.heap.size, 0, none⟩ = some (.int .u64 bh) := cell_gr hw5 (by go_simp)
  have cw5_1_1 : w5.cell? ⟨w2.heap.size, 1, none⟩ = some (.int .u64 bl) := cell_gr hw5 (by go_simp)
  have zw5_1 : w2.heap.size < w5.heap.size := World.block_lt_of_cell? _ _ cw5_1_0
  have cw5_2_0 : w5.cell? ⟨w3.heap.size, 0, none⟩ = some (.int .u64 sh) := cell_gr hw5 (by go_simp)
  have cw5_2_1 : w5.cell? ⟨w3.heap.size, 1, none⟩ = some (.int .u64 sl) := cell_gr hw5 (by go_simp)
  have zw5_2 : w3.heap.size < w5.heap.size := World.block_lt_of_cell? _ _ cw5_2_0
  have cw5_3_0 : w5.cell? ⟨B4, 0, none⟩ = some (.int .u64 sh) := cell_gr hw5 (by go_simp)
  have cw5_3_1 : w5.cell? ⟨B4, 1, none⟩ = some (.int .u64 sl) := cell_gr hw5 (by go_simp)
  have zw5_3 : B4 < w5.heap.size := World.block_lt_of_cell? _ _ cw5_3_0
  have gw5 : Gr W w5 := Gr.trans (by have gg := gw4; have gs := gg.size; go_grown) hw5
  clear hw5 gw4 zw4_0 cw4_0_0 cw4_0_1 zw4_1 cw4_1_0 cw4_1_1 zw4_2 cw4_2_0 cw4_2_1 zw4_3 cw4_3_0 cw4_3_1
  go_wp2_with fail
  go_wp2_with fail
  refine Hm.wp_region_made 10 8 9 17 #[.int .u64 0, .int .u64 0] #[.int .u64 dh, .int .u64 dl] 28 (by kernel_rfl) (by simp only [List.getElem?_toArray, List.getElem?_cons_succ, List.getElem?_cons_zero] <;> rfl) (by simp only [List.getElem?_toArray, List.getElem?_cons_succ, List.getElem?_cons_zero] <;> rfl) (by kernel_rfl) (fun _ _ => ?_) ?_
  · unfold Oper.wp; go_simp
  intro KQ hKQ
  repeat (first | (refine Hm.wpG_sp (by decide) ?_ ?_; (· (try dsimp only); first | (rw [if_neg (by decide)]; trivial) | (rw [if_pos rfl]; (intro B w' g hB hw; have c0 : w'.cell? ⟨B, 0, none⟩ = some (.int .u64 0) := Hm.cell_of_heap hw 0; have f0 := Hm.frozen_of_heap hw 0; have c1 : w'.cell? ⟨B, 1, none⟩ = some (.int .u64 0) := Hm.cell_of_heap hw 1; have f1 := Hm.frozen_of_heap hw 1; unfold Oper.wp; go_simp; exact ⟨((g.setCell hB _).setCell hB _), (Hm.heap_set_same (Hm.heap_set_same hw))⟩)))) | (refine Hm.wpG_skip (by decide) rfl ?_; simp only [Act.put, List.setIfInBounds_toArray, List.set_cons_zero, List.set_cons_succ]) | (refine Hm.wpG_want (by decide) rfl ?_; apply Exists.intro; refine ⟨?_, ?_⟩; (· intro wx gx; (obtain ⟨mx, rfl⟩ := spread_of_gr gx; clear gx); all_goals (apply Hd.gAt_of_quiet; intro K hK; go_big_quiet_op; first | exact hK _ rfl | (apply Exists.intro; refine ⟨fun _ => ?_, ?_⟩; (· (first | (go_at_call 14; first | ((with_reducible refine ((c_u _ _ _)).mono ?_); rintro e w' ⟨rfl, hg⟩; exact ⟨rfl, spread_gr hg⟩)) | (go_at_call 16; first | ((with_reducible refine ((H4.out _)).mono ?_); rintro e w' ⟨rfl, hg⟩; exact ⟨rfl, spread_gr hg⟩)))); exact hK _ rfl))); try simp only [Act.put, List.setIfInBounds_toArray, List.set_cons_zero, List.set_cons_succ]))
  refine Hm.wpG_nil (hKQ _ ?_)
  clear hKQ KQ
  intro B6 w6 hw6 hBw6 hhw6
  have cw6_0_0 : w6.cell? ⟨w1.heap.size, 0, none⟩ = some (.int .u64 ah) := cell_gr hw6 (by go_simp)
  have cw6_0_1 : w6.cell? ⟨w1.heap.size, 1, none⟩ = some (.int .u64 al) := cell_gr hw6 (by go_simp)
  have zw6_0 : w1.heap.size < w6.heap.size := World.block_lt_of_cell? _ _ cw6_0_0
  have cw6_1_0 : w6.cell? ⟨w2.heap.size, 0, none⟩ = some (.int .u64 bh) := cell_gr hw6 (by go_simp)
  have cw6_1_1 : w6.cell? ⟨w2.heap.size, 1, none⟩ = some (.int .u64 bl) := cell_gr hw6 (by go_simp)
  have zw6_1 : w2.heap.size < w6.heap.size := World.block_lt_of_cell? _ _ cw6_1_0
  have cw6_2_0 : w6.cell? ⟨w3.heap.size, 0, none⟩ = some (.int .u64 sh) := cell_gr hw6 (by go_simp)
  have cw6_2_1 : w6.cell? ⟨w3.heap.size, 1, none⟩ = some (.int .u64 sl) := cell_gr hw6 (by go_simp)
  have zw6_2 : w3.heap.size < w6.heap.size := World.block_lt_of_cell? _ _ cw6_2_0
  have cw6_3_0 : w6.cell? ⟨B4, 0, none⟩ = some (.int .u64 sh) := cell_gr hw6 (by go_simp)
  have cw6_3_1 : w6.cell? ⟨B4, 1, none⟩ = some (.int .u64 sl) := cell_gr hw6 (by go_simp)
  have zw6_3 : B4 < w6.heap.size := World.block_lt_of_cell? _ _ cw6_3_0
  have cw6_4_0 : w6.cell? ⟨w5.heap.size, 0, none⟩ = some (.int .u64 dh) := cell_gr hw6 (by go_simp)
  have cw6_4_1 : w6.cell? ⟨w5.heap.size, 1, none⟩ = some (.int .u64 dl) := cell_gr hw6 (by go_simp)
  have zw6_4 : w5.heap.size < w6.heap.size := World.block_lt_of_cell? _ _ cw6_4_0
  have cw6_5_0 : w6.cell? ⟨B6, 0, none⟩ = some (.int .u64 dh) := Hm.cell_of_heap hhw6 0
  have cw6_5_1 : w6.cell? ⟨B6, 1, none⟩ = some (.int .u64 dl) := Hm.cell_of_heap hhw6 1
  have zw6_5 : B6 < w6.heap.size := World.block_lt_of_cell? _ _ cw6_5_0
  have gw6 : Gr W w6 := Gr.trans (by have gg := gw5; have gs := gg.size; go_grown) hw6
  clear hw6 hBw6 hhw6 gw5 zw5_0 cw5_0_0 cw5_0_1 zw5_1 cw5_1_0 cw5_1_1 zw5_2 cw5_2_0 cw5_2_1 zw5_3 cw5_3_0 cw5_3_1
  go_wp2_with fail
  refine wp_region_spread (by kernel_rfl) (by kernel_rfl) ?_
  repeat (first | go_big_quiet_skip | (go_big_quiet_want; go_big_quiet_op; (first | go_big_quiet_on | (apply Exists.intro; refine ⟨fun _ => ?_, ?_⟩; (· (first | (go_at_call 14; first | ((with_reducible refine ((c_u _ _ _)).mono ?_); rintro e w' ⟨rfl, hg⟩; exact ⟨rfl, spread_gr hg⟩)) | (go_at_call 17; first | ((with_reducible refine ((H5.out _)).mono ?_); rintro e w' ⟨rfl, hg⟩; exact ⟨rfl, spread_gr hg⟩)) | (go_at_call 18; first | ((with_reducible refine ((H6.out _)).mono ?_); rintro e w' ⟨rfl, hg⟩; exact ⟨rfl, spread_gr hg⟩)) | (go_at_call 19; first | ((with_reducible refine ((HAW.out _ (Gr.trans (by have gg := gw6; have gs := gg.size; go_grown) (gr_spread _ _)))).mono ?_); rintro e w' ⟨rfl, hg⟩; exact ⟨rfl, spread_gr hg⟩)))); go_big_quiet_on))))
  refine wpQuiet_nil ?_
  intro wr hr
  obtain ⟨mr, rfl⟩ := hr
  go_wp2_with fail
  go_ret
  exact ⟨rfl, Gr.trans (by have gg := gw6; have gs := gg.size; go_grown) (gr_spread _ _)⟩

theorem walk_WideAdds (ah al bh bl : Nat) (h1 : Wd ah) (h2 : Wd al) (h3 : Wd bh) (h4 : Wd bl) (W : World) (hp : Lib.TabIs Tryd.prog W "internal/strconv.uint64pow10" .u64 Lib.pow10Tab) :
    Calls Tryd.prog 3 #[.int .u64 ah, .int .u64 al, .int .u64 bh, .int .u64 bl] W fun e w' => e = .returned (.bool true) ∧ Gr W w' := by
  have hM : val 18446744073709551616 0 = 340282366920938463463374607431768211456 := rfl
  have C3 := c_Sub ah al bh bl h1 h2 h3 h4
  rw [hM] at C3
  exact adds_core ah al bh bl _ _ _ _ _ _ _ W hp (c_Add ah al bh bl h1 h2 h3 h4) (c_rAdd ah al bh bl h1 h2 h3 h4) C3 (c_rSub ah al bh bl h1 h2 h3 h4) (c_Compare ah al bh bl h1 h2 h3 h4) (c_rCompare ah al bh bl h1 h2 h3 h4)
end Go.Proofs.YtihfkecigkmfjaaDoor
