/- HeapNothing -/
import Derived.Test.YtldlpbfncgcimaaHj
namespace Go.Proofs.Ytldlpbfncgcimaa
set_option linter.unusedVariables false
open Go.ChangeShapes Go.WideShapes Go.ChangeAt Go.RowKit

set_option maxHeartbeats 2000000 in
set_option maxRecDepth 100000 in
theorem c_Push_nil (ai ah al ad : Int) (ab : Bool) (an : Int) (W : World) : Calls Try.prog 22 #[.pointer none, .agg #[.int .i64 ai, .int .u64 ah, .int .u64 al, .int .u64 ad, .bool ab, .int .i64 an]] W fun e w' => e = .returned (.tuple #[]) ∧ Gr W w' := by
  go_enter Try.func22, Try.ntmps22
  go_wp2_with fail
  go_returns
  exact ⟨rfl, by go_grown⟩
set_option maxHeartbeats 4000000 in
set_option maxRecDepth 100000 in
theorem walk_HeapNothing (id : Int) (B0 : -9223372036854775808 ≤ id ∧ id ≤ 9223372036854775807) (W : World) : Calls Try.prog 8 #[.int .i64 id] W fun e w' => e = .returned (.bool true) ∧ Gr W w' := by
  have A1 := fun w => c_Push_nil 0 0 0 0 true 0 w
  have A2 : ∀ (p : Nat) (w : World), HeapAt w W.heap.size p (.slice none 0 0) [] 0 → W.heap.size ≤ w.heap.size →
      Calls Try.prog 22 #[.pointer (some ⟨p, 0, none⟩), .agg #[.int .i64 id, .int .u64 0, .int .u64 0, .int .u64 0, .bool true, .int .i64 0]] w fun e w' => e = .returned (.tuple #[]) ∧ PushAt W.heap.size p (.slice none 0 0) [] 0 ⟨id, 0, 0, 0, true, 0⟩ w w' :=
    fun p w H hs => c_Push [] ⟨id, 0, 0, 0, true, 0⟩ W.heap.size p 0 (.slice none 0 0) (by simp) (by omega) w hs H (fun y hy => by cases hy) (by unfold En.ok Wd; simp; omega) Hp.hp_nil
  have A3 : ∀ w, Calls Try.prog 24 #[.pointer none] w fun e w' => e = .returned (.tuple #[.agg #[.int .i64 0, .int .u64 0, .int .u64 0, .int .u64 0, .bool false, .int .i64 0], .bool false]) ∧ Gr w w' :=
    fun w => pop_none (.pointer none) w (fun w _ => c_hTop_nil w)
  have A4 := fun w => c_hLen_nil w
  have A5 := fun w => p15_awake w
  have bi : (id == id) = true := by simp
  clear B0
  have H1 := Lib.hid A1
  have H2 := Lib.hid A2
  have H3 := Lib.hid A3
  have H4 := Lib.hid A4
  have H5 := Lib.hid A5
  clear A1 A2 A3 A4 A5
  go_enter Try.func8, Try.ntmps8
  go_wp2_with fail
  go_at_call 22
  (with_reducible refine (H1.out _).mono ?_)
  rintro e w1 ⟨rfl, g1⟩
  have gs := g1.size
  simp at gs
  have hH : HeapAt w1 W.heap.size W.heap.size (.slice none 0 0) [] 0 := heapAt_gr ⟨Nat.le_refl _, heap_alloc_new W _, World.ownsRow_nil _ _ _ _, by simp [Value.ownBlock]⟩ g1
  have hs1 : W.heap.size ≤ w1.heap.size := by omega
  have G1 := Lib.hid (show Gr W w1 from Gr.trans (by go_grown) g1)
  have HH := Lib.hid hH
  clear g1 hH
  go_wp2_with fail
  go_at_call 22
  (with_reducible refine (H2.out _ _ HH.out hs1).mono ?_)
  rintro e w2 ⟨rfl, v2, M, m1, m2, m3, m4⟩
  have hM : M = [⟨⟨id, 0, 0, 0, true, 0⟩, 0⟩] := List.perm_singleton.1 (by simpa using m3)
  subst hM
  have G2 := Lib.hid (m2.gr G1.out (Nat.le_refl _) (fun k h => by cases h))
  have M1 := Lib.hid m1
  have hpos : W.heap.size < w2.heap.size := (Array.getElem?_eq_some_iff.1 m1.2.1).1
  clear m1 m2 m3 m4 G1 HH gs hs1
  go_wp2_with fail
  go_at_call 24
  (with_reducible refine (H3.out _).mono ?_)
  rintro e w3 ⟨rfl, g3⟩
  have G3 := Lib.hid (Gr.trans G2.out g3)
  have M3 := Lib.hid (heapAt_gr M1.out g3)
  clear g3 G2 M1
  go_wp2_with fail
  have A6 : ∀ w, Gr w3 w → Calls Try.prog 27 #[.pointer (some ⟨W.heap.size, 0, none⟩)] w fun e w' => e = .returned (.tuple #[.agg #[.int .i64 id, .int .u64 0, .int .u64 0, .int .u64 0, .bool true, .int .i64 0], .bool true]) ∧ Gr w w' :=
    fun w g => c_hTop w (heapAt_gr M3.out g) (by simp)
  have A7 : ∀ w, Gr w3 w → Calls Try.prog 29 #[.pointer (some ⟨W.heap.size, 0, none⟩)] w fun e w' => e = .returned (.int .i64 1) ∧ Gr w w' :=
    fun w g => c_hLen w (heapAt_gr M3.out g)
  have H6 := Lib.hid A6
  have H7 := Lib.hid A7
  clear A6 A7
  go_at_call 27
  (with_reducible refine (H6.out _ (by go_grown)).mono ?_)
  rintro e w4 ⟨rfl, g4⟩
  have G4 := Lib.hid (Gr.trans (show Gr w3 _ by go_grown) g4)
  clear g4
  go_wp2_with fail
  go_at_call 29
  (with_reducible refine (H4.out _).mono ?_)
  rintro e w5 ⟨rfl, g5⟩
  have c0 : w5.cell? ⟨w4.heap.size, 0, none⟩ = some (.int .i64 id) := cell_gr g5 (by go_simp)
  have z5 : w4.heap.size < w5.heap.size := World.block_lt_of_cell? _ _ c0
  have G5 := Lib.hid (Gr.trans (Gr.trans G4.out (by go_grown)) g5)
  clear g5
  go_wp2_with fail
  go_at_call 29
  (with_reducible refine (H7.out _ G5.out).mono ?_)
  rintro e w6 ⟨rfl, g6⟩
  have G6 := Lib.hid (Gr.trans G5.out g6)
  clear g6 c0
  go_wp2_with fail
  go_at_call 20
  (with_reducible refine (H5.out _).mono ?_)
  rintro e w7 ⟨rfl, g7⟩
  go_wp2_with fail
  go_ret
  exact ⟨rfl, Gr.trans G3.out (Gr.trans G6.out g7)⟩
end Go.Proofs.Ytldlpbfncgcimaa
