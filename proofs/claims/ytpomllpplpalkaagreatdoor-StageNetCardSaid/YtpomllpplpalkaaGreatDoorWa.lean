/- model: nothing, and a zero one; shapes; a copy of an object -/
import Derived.Test.YtpomllpplpalkaaGreatDoorDc
import Derived.Test.YtpomllpplpalkaaGreatDoorBk
import Derived.Test.YtpomllpplpalkaaGreatDoorShk
import Derived.OwnWalkIn
import Derived.TacticsInMore
namespace Go.Proofs.YtpomllpplpalkaaGreatDoor
set_option linter.unusedVariables false
set_option linter.unusedSimpArgs false
open Go.ChangeShapes Go.WideShapes Go.ChangeAt Go.RowKit Go.Maps Go.Sort Go.Shelf

abbrev modelS : ByteArray := ⟨#[109, 111, 100, 101, 108]⟩
theorem md_R1 (W : World) : Calls Tryz.prog 23 #[.int .i64 1, .int .i64 1000] W fun e w' => e = .returned (.int .i64 1) ∧ Gr W w' := c_RoundE 1 (by decide) (by decide) 1000 (by decide) (by decide) W
theorem md_R50 (W : World) : Calls Tryz.prog 23 #[.int .i64 1, .int .i64 50] W fun e w' => e = .returned (.int .i64 1) ∧ Gr W w' := c_RoundE 1 (by decide) (by decide) 50 (by decide) (by decide) W
theorem md_R0 (W : World) : Calls Tryz.prog 23 #[.int .i64 0, .int .i64 4] W fun e w' => e = .returned (.int .i64 0) ∧ Gr W w' := c_RoundE 0 (by decide) (by decide) 4 (by decide) (by decide) W
theorem res_obj {F : Func} {p : Tmp} {tmps : Array Value} {w : World} {N : Nat} {k : Int} {u : Value} (hF : F.results = #[.cell p 34]) (h2 : tmps.getD p undef = .pointer (some ⟨N, 0, none⟩)) (c0 : w.cell? ⟨N, 0, none⟩ = some (.int .i64 k)) (c1 : w.cell? ⟨N, 1, none⟩ = some u) :
    (results F tmps).run Tryz.prog w = .ok (.agg #[.int .i64 k, u]) w := by
  have g2 : tmps[p]?.getD undef = .pointer (some ⟨N, 0, none⟩) := by simpa using h2
  simp [results, hF, go_sem, g2, c0, c1]
set_option maxHeartbeats 1000000 in
set_option maxRecDepth 100000 in
theorem md_shape0 (W : World) : Calls Tryz.prog 16 #[.int .i64 0, .int .i64 1, .int .i64 1, .int .i64 1] W fun e w' => ∃ B, e = .returned (.agg #[.int .i64 1, .slice (some ⟨B, 0, none⟩) 1 1]) ∧ w'.cell? ⟨B, 0, none⟩ = some (.int .i64 1) ∧ w'.cell? ⟨B, 1, none⟩ = some (.int .i64 1) ∧ W.heap.size ≤ B ∧ Gr W w' := by
  go_enter Tryz.func16, Tryz.ntmps16
  go_wp2_with fail
  go_at_call 23
  refine ((md_R1 _)).mono ?_
  rintro e w1 ⟨rfl, hw1⟩
  have cw1_0_0 : w1.cell? ⟨W.heap.size, 0, none⟩ = some (.int .i64 0) := cell_gr hw1 (by go_simp)
  have fw1_0_0 : w1.frozen? ⟨W.heap.size, 0, none⟩ = false := frozen_gr (v := .int .i64 0) hw1 (by go_simp) (by go_simp)
  have cw1_0_1 : w1.cell? ⟨W.heap.size, 1, none⟩ = some (.slice none 0 0) := cell_gr hw1 (by go_simp)
  have fw1_0_1 : w1.frozen? ⟨W.heap.size, 1, none⟩ = false := frozen_gr (v := .slice none 0 0) hw1 (by go_simp) (by go_simp)
  have zw1_0 : W.heap.size < w1.heap.size := World.block_lt_of_cell? _ _ cw1_0_0
  have gw1 : Gr W w1 := Gr.trans (by go_grown) hw1
  clear hw1
  go_wp2_with fail
  go_at_call 23
  refine ((md_R1 _)).mono ?_
  rintro e w2 ⟨rfl, hw2⟩
  have cw2_0_0 : w2.cell? ⟨W.heap.size, 0, none⟩ = some (.int .i64 0) := cell_gr hw2 (by go_simp)
  have fw2_0_0 : w2.frozen? ⟨W.heap.size, 0, none⟩ = false := frozen_gr (v := .int .i64 0) hw2 (by go_simp) (by go_simp)
  have cw2_0_1 : w2.cell? ⟨W.heap.size, 1, none⟩ = some (.slice none 0 0) := cell_gr hw2 (by go_simp)
  have fw2_0_1 : w2.frozen? ⟨W.heap.size, 1, none⟩ = false := frozen_gr (v := .slice none 0 0) hw2 (by go_simp) (by go_simp)
  have zw2_0 : W.heap.size < w2.heap.size := World.block_lt_of_cell? _ _ cw2_0_0
  have gw2 : Gr W w2 := Gr.trans (by have gg := gw1; have gs := gg.size; go_grown) hw2
  clear hw2 gw1 zw1_0 cw1_0_0 fw1_0_0 cw1_0_1 fw1_0_1
  go_wp2_with fail
  go_at_call 23
  refine ((md_R50 _)).mono ?_
  rintro e w3 ⟨rfl, hw3⟩
  have cw3_0_0 : w3.cell? ⟨W.heap.size, 0, none⟩ = some (.int .i64 0) := cell_gr hw3 (by go_simp)
  have fw3_0_0 : w3.frozen? ⟨W.heap.size, 0, none⟩ = false := frozen_gr (v := .int .i64 0) hw3 (by go_simp) (by go_simp)
  have cw3_0_1 : w3.cell? ⟨W.heap.size, 1, none⟩ = some (.slice none 0 0) := cell_gr hw3 (by go_simp)
  have fw3_0_1 : w3.frozen? ⟨W.heap.size, 1, none⟩ = false := frozen_gr (v := .slice none 0 0) hw3 (by go_simp) (by go_simp)
  have zw3_0 : W.heap.size < w3.heap.size := World.block_lt_of_cell? _ _ cw3_0_0
  have gw3 : Gr W w3 := Gr.trans (by have gg := gw2; have gs := gg.size; go_grown) hw3
  clear hw3 gw2 zw2_0 cw2_0_0 fw2_0_0 cw2_0_1 fw2_0_1
  go_wp2_with fail
  go_at_call 23
  refine ((md_R0 _)).mono ?_
  rintro e w4 ⟨rfl, hw4⟩
  have cw4_0_0 : w4.cell? ⟨W.heap.size, 0, none⟩ = some (.int .i64 0) := cell_gr hw4 (by go_simp)
  have fw4_0_0 : w4.frozen? ⟨W.heap.size, 0, none⟩ = false := frozen_gr (v := .int .i64 0) hw4 (by go_simp) (by go_simp)
  have cw4_0_1 : w4.cell? ⟨W.heap.size, 1, none⟩ = some (.slice none 0 0) := cell_gr hw4 (by go_simp)
  have fw4_0_1 : w4.frozen? ⟨W.heap.size, 1, none⟩ = false := frozen_gr (v := .slice none 0 0) hw4 (by go_simp) (by go_simp)
  have zw4_0 : W.heap.size < w4.heap.size := World.block_lt_of_cell? _ _ cw4_0_0
  have gw4 : Gr W w4 := Gr.trans (by have gg := gw3; have gs := gg.size; go_grown) hw4
  clear hw4 gw3 zw3_0 cw3_0_0 fw3_0_0 cw3_0_1 fw3_0_1
  have s4 := gw4.size
  have HG := Lib.hid gw4
  go_wp2_with fail
  refine bodyPost_ret (res_obj (p := 8) (N := W.heap.size) (k := 1) (u := .slice (some ⟨w4.heap.size, 0, none⟩) 1 1) rfl rfl (by go_simp) (by go_simp)) rfl ?_
  exact ⟨_, rfl, by go_simp, by go_simp, s4, by have gg := HG.out; have gs := gg.size; go_grown⟩
theorem md_New (W : World) : Calls Tryz.prog 12 #[] W fun e w' => e = .returned (.pointer (some ⟨W.heap.size, 0, none⟩)) ∧ w' = W.alloc (.cells #[.map none] 105) := by
  go_enter Tryz.func12, Tryz.ntmps12
  go_wp2_with fail
  go_ret
  exact ⟨rfl, rfl⟩
theorem md_len_0 {Q : Nat} (W : World) (c0 : W.cell? ⟨Q, 0, none⟩ = some (.map none)) : Calls Tryz.prog 28 #[.pointer (some ⟨Q, 0, none⟩)] W fun e w' => e = .returned (.int .i64 0) ∧ Gr W w' := by
  have z := World.block_lt_of_cell? _ _ c0
  go_enter Tryz.func28, Tryz.ntmps28
  go_wp2_with fail
  go_ret
  exact ⟨rfl, by go_grown⟩
theorem md_len_m {Q m n : Nat} {D : DataW Value} (W : World) (c0 : W.cell? ⟨Q, 0, none⟩ = some (.map (some m))) (hm : W.ownsMap Tryz.prog 3 heldE m n D) : Calls Tryz.prog 28 #[.pointer (some ⟨Q, 0, none⟩)] W fun e w' => e = .returned (.int .i64 (Maps.size D)) ∧ Gr W w' := by
  have z := World.block_lt_of_cell? _ _ c0
  go_enter Tryz.func28, Tryz.ntmps28
  go_wp2_with (at_len; (refine wpList_len_own _ rfl _ 103 rfl 3 34 Tryz.underlying103 heldE m n D rfl hm ?_))
  go_ret
  exact ⟨rfl, by go_grown⟩
theorem zeroO (w : World) : (zeroValue 34).run Tryz.prog w = .ok (.agg #[.int .i64 0, .slice none 0 0]) w := by kernel_rfl
theorem sortsK (m : Nat) : AnyZI.SortsIn Tryz.prog Tryz.sortedK_ren Fence.wide m :=
  ⟨fun blk off cap ss W hH hblk hsz => callsIn_wide.2 (AnyM.slices_Sort_int Tryz.sortK blk off cap ss W hH hblk hsz),
   fun p cap W => callsIn_wide.2 (AnyM.slices_Sort_int_none Tryz.sortK p cap W)⟩
set_option maxHeartbeats 1000000 in
theorem md_ids_0 {Q : Nat} (W : World) (c0 : W.cell? ⟨Q, 0, none⟩ = some (.map none)) : Calls Tryz.prog 70 #[.pointer (some ⟨Q, 0, none⟩)] W fun e w' => e = .returned (.slice none 0 0) ∧ Gr W w' := by
  refine (callsIn_wide (n := 6)).1 ?_
  have z := World.block_lt_of_cell? _ _ c0
  have hseq : SeqGives Fence.wide 2 Tryz.prog 145 #[.pointer (some ⟨W.heap.size, 0, none⟩)] encZ (fun ss : List Int => ss = []) 0 (W.alloc (.cells #[.map none] 103)) :=
    AnyZI.keys_gives_nil (ρ := Tryz.keysK105_ren) { Tryz.keysK105 with } Fence.wide _ trivial rfl W.heap.size _ (by simp) (by simp)
  have cK : ∀ mb W, CallsIn Fence.wide 5 Tryz.prog 105 #[.map mb] W fun e w' => e = .returned (.func (.func 145) #[] #[.pointer (some ⟨W.heap.size, 0, none⟩)]) ∧ w' = W.alloc (.cells #[.map mb] 103) := fun mb W => AnyZI.keys_in Tryz.keysK105 Fence.wide 5 trivial rfl mb W
  have cS := AnyZI.sorted_in Tryz.sortedK Fence.wide 5 trivial trivial trivial trivial rfl (by omega) (sortsK _) (enters_of Tryz.func101 (by kernel_rfl) rfl) 145 #[.pointer (some ⟨W.heap.size, 0, none⟩)] trivial (enters_of Tryz.func145 (by kernel_rfl) rfl) _ 0 (Nat.zero_le _) (by omega) _ hseq
  change CallsIn _ _ Tryz.prog 64 _ _ _ at cS
  have hfK : Fence.wide.fn 105 := trivial
  have hfS : Fence.wide.fn 64 := trivial
  refine callsIn_of_wp Tryz.func70 rfl trivial ?_ rfl
  simp only [Tryz.ntmps70, List.size_toArray, List.length_cons, List.length_nil, Nat.reduceAdd, Nat.reduceSub, Array.replicate_succ, Array.replicate_zero, List.push_toArray, List.append_toArray, List.nil_append, List.cons_append]
  gi_wp2_with (first
    | (gi_at_call 105; refine (cK _ _).mono ?_; rintro e w' ⟨rfl, rfl⟩)
    | (gi_at_call 64; refine cS.mono ?_; rintro e w' ⟨v, ss, rfl, rfl, hrow, hnil, hb⟩; obtain rfl : v = .slice none 0 0 := hnil.2 rfl))
  go_ret
  exact ⟨rfl, ((Below.refl _ W).alloc (Nat.le_refl _) _).trans (hb.mono (by simp))⟩
end Go.Proofs.YtpomllpplpalkaaGreatDoor
