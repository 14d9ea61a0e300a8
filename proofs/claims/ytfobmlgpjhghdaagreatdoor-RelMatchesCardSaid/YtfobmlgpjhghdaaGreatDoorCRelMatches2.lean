/- What RelMatches leans on: Zd Ga Gc Gi Gk Rv Od Eq Ze Zl Zm -/
import Derived.Test.YtfobmlgpjhghdaaGreatDoorCRelMatches1
import Derived.RangeFuncNested
import Derived.RangeFuncBound
import Derived.RangeFuncCalls
import Derived.RangeFuncLeaves
import Derived.Shelf.Abstract
import Derived.Shelf.RegionOpen
import Derived.OwnWalkIn
import Derived.TacticsInMore
import Derived.LoopNIn
import Derived.LoopIn
import Derived.Deep.RegionWith
import Derived.BigRegion
namespace Go.Proofs.YtfobmlgpjhghdaaGreatDoor
set_option linter.unusedVariables false
open Go.ChangeShapes Go.WideShapes Go.ChangeAt Go.RowKit
def all4 (ax ay bx by' cx cy dx dy : Int) : Bool := nearB ax ay && nearB bx by' && nearB cx cy && nearB dx dy
def meG (ax ay bx by' cx cy dx dy : Int) : Bool := all4 ax ay bx by' cx cy dx dy && meF ax ay bx by' cx cy dx dy
set_option maxHeartbeats 4000000 in
set_option maxRecDepth 100000 in
theorem meet_core (ax ay bx by' cx cy dx dy s1 s2 : Int) (ap q o1 o2 o3 o4 r : Bool) (W : World)
    (hc : (ap = true ∧ r = false) ∨ (ap = false ∧ q = false ∧ r = false) ∨ (ap = false ∧ q = true ∧ s1 = 0 ∧ r = false) ∨ (ap = false ∧ q = true ∧ s1 = 1 ∧ s2 = 1 ∧ r = true)
      ∨ (ap = false ∧ q = true ∧ s1 = 1 ∧ (s2 == 1) = false ∧ ((o1 = true ∧ r = true) ∨ (o1 = false ∧ o2 = true ∧ r = true) ∨ (o1 = false ∧ o2 = false ∧ o3 = true ∧ r = true) ∨ (o1 = false ∧ o2 = false ∧ o3 = false ∧ r = o4)))
      ∨ (ap = false ∧ q = true ∧ s1 = 2 ∧ ((o1 = true ∧ r = true) ∨ (o1 = false ∧ o2 = true ∧ r = true) ∨ (o1 = false ∧ o2 = false ∧ o3 = true ∧ r = true) ∨ (o1 = false ∧ o2 = false ∧ o3 = false ∧ r = o4))))
    (A1 : ∀ w, Calls Tryz.prog 142 #[.agg #[.int .i64 ax, .int .i64 ay], .agg #[.int .i64 bx, .int .i64 by'], .agg #[.int .i64 cx, .int .i64 cy], .agg #[.int .i64 dx, .int .i64 dy]] w fun e w' => e = .returned (.bool ap) ∧ Gr w w')
    (A2 : ∀ b w, b < w.heap.size → w.cell? ⟨b, 0, none⟩ = some (.int .i64 ax) → w.cell? ⟨b, 1, none⟩ = some (.int .i64 ay) → w.cell? ⟨b, 2, none⟩ = some (.int .i64 bx) → w.cell? ⟨b, 3, none⟩ = some (.int .i64 by') → w.cell? ⟨b, 4, none⟩ = some (.int .i64 cx) → w.cell? ⟨b, 5, none⟩ = some (.int .i64 cy) → w.cell? ⟨b, 6, none⟩ = some (.int .i64 dx) → w.cell? ⟨b, 7, none⟩ = some (.int .i64 dy) →
      Calls Tryz.prog 116 #[.slice (some ⟨b, 0, none⟩) 4 4] w fun e w' => e = .returned (.bool q) ∧ Gr w w')
    (A3 : ∀ w, Calls Tryz.prog 143 #[.agg #[.int .i64 ax, .int .i64 ay], .agg #[.int .i64 bx, .int .i64 by'], .agg #[.int .i64 cx, .int .i64 cy], .agg #[.int .i64 dx, .int .i64 dy]] w fun e w' => e = .returned (.int .i64 s1) ∧ Gr w w')
    (A4 : ∀ w, Calls Tryz.prog 143 #[.agg #[.int .i64 cx, .int .i64 cy], .agg #[.int .i64 dx, .int .i64 dy], .agg #[.int .i64 ax, .int .i64 ay], .agg #[.int .i64 bx, .int .i64 by']] w fun e w' => e = .returned (.int .i64 s2) ∧ Gr w w')
    (A5 : ∀ w, Calls Tryz.prog 134 #[.agg #[.int .i64 ax, .int .i64 ay], .agg #[.int .i64 bx, .int .i64 by'], .agg #[.int .i64 cx, .int .i64 cy]] w fun e w' => e = .returned (.bool o1) ∧ Gr w w')
    (A6 : ∀ w, Calls Tryz.prog 134 #[.agg #[.int .i64 ax, .int .i64 ay], .agg #[.int .i64 bx, .int .i64 by'], .agg #[.int .i64 dx, .int .i64 dy]] w fun e w' => e = .returned (.bool o2) ∧ Gr w w')
    (A7 : ∀ w, Calls Tryz.prog 134 #[.agg #[.int .i64 cx, .int .i64 cy], .agg #[.int .i64 dx, .int .i64 dy], .agg #[.int .i64 ax, .int .i64 ay]] w fun e w' => e = .returned (.bool o3) ∧ Gr w w')
    (A8 : ∀ w, Calls Tryz.prog 134 #[.agg #[.int .i64 cx, .int .i64 cy], .agg #[.int .i64 dx, .int .i64 dy], .agg #[.int .i64 bx, .int .i64 by']] w fun e w' => e = .returned (.bool o4) ∧ Gr w w') :
    Calls Tryz.prog 125 #[.agg #[.int .i64 ax, .int .i64 ay], .agg #[.int .i64 bx, .int .i64 by'], .agg #[.int .i64 cx, .int .i64 cy], .agg #[.int .i64 dx, .int .i64 dy]] W fun e w' => e = .returned (.bool r) ∧ Gr W w' := by
  have H1 := Lib.hid A1
  have H2 := Lib.hid A2
  have H3 := Lib.hid A3
  have H4 := Lib.hid A4
  have H5 := Lib.hid A5
  have H6 := Lib.hid A6
  have H7 := Lib.hid A7
  have H8 := Lib.hid A8
  clear A1 A2 A3 A4 A5 A6 A7 A8
  rcases hc with ⟨rfl, rfl⟩ | ⟨rfl, rfl, rfl⟩ | ⟨rfl, rfl, rfl, rfl⟩ | ⟨rfl, rfl, rfl, rfl, rfl⟩ | ⟨rfl, rfl, rfl, hs, ⟨rfl, rfl⟩ | ⟨rfl, rfl, rfl⟩ | ⟨rfl, rfl, rfl, rfl⟩ | ⟨rfl, rfl, rfl, rfl⟩⟩ | ⟨rfl, rfl, rfl, ⟨rfl, rfl⟩ | ⟨rfl, rfl, rfl⟩ | ⟨rfl, rfl, rfl, rfl⟩ | ⟨rfl, rfl, rfl, rfl⟩⟩
  · go_enter Tryz.func125, Tryz.ntmps125
    go_wp2_with fail
    go_at_call 142
    refine ((H1.out _)).mono ?_
    rintro e w1 ⟨rfl, hw1⟩
    have cw1_0_0 := ci hw1 (W.heap.size) 0 ax (by go_simp)
    have cw1_0_1 := ci hw1 (W.heap.size) 1 ay (by go_simp)
    have zw1_0 := zb cw1_0_0
    have cw1_1_0 := ci hw1 (W.heap.size + 1) 0 bx (by go_simp)
    have cw1_1_1 := ci hw1 (W.heap.size + 1) 1 by' (by go_simp)
    have zw1_1 := zb cw1_1_0
    have cw1_2_0 := ci hw1 (W.heap.size + 1 + 1) 0 cx (by go_simp)
    have cw1_2_1 := ci hw1 (W.heap.size + 1 + 1) 1 cy (by go_simp)
    have zw1_2 := zb cw1_2_0
    have cw1_3_0 := ci hw1 (W.heap.size + 1 + 1 + 1) 0 dx (by go_simp)
    have cw1_3_1 := ci hw1 (W.heap.size + 1 + 1 + 1) 1 dy (by go_simp)
    have zw1_3 := zb cw1_3_0
    have gw1 : Gr W w1 := Gr.trans (by go_grown) hw1
    clear hw1
    go_wp2_with fail
    go_ret
    exact ⟨rfl, by go_grown⟩
  · go_enter Tryz.func125, Tryz.ntmps125
    go_wp2_with fail
    go_at_call 142
    refine ((H1.out _)).mono ?_
    rintro e w1 ⟨rfl, hw1⟩
    have cw1_0_0 := ci hw1 (W.heap.size) 0 ax (by go_simp)
    have cw1_0_1 := ci hw1 (W.heap.size) 1 ay (by go_simp)
    have zw1_0 := zb cw1_0_0
    have cw1_1_0 := ci hw1 (W.heap.size + 1) 0 bx (by go_simp)
    have cw1_1_1 := ci hw1 (W.heap.size + 1) 1 by' (by go_simp)
    have zw1_1 := zb cw1_1_0
    have cw1_2_0 := ci hw1 (W.heap.size + 1 + 1) 0 cx (by go_simp)
    have cw1_2_1 := ci hw1 (W.heap.size + 1 + 1) 1 cy (by go_simp)
    have zw1_2 := zb cw1_2_0
    have cw1_3_0 := ci hw1 (W.heap.size + 1 + 1 + 1) 0 dx (by go_simp)
    have cw1_3_1 := ci hw1 (W.heap.size + 1 + 1 + 1) 1 dy (by go_simp)
    have zw1_3 := zb cw1_3_0
    have gw1 : Gr W w1 := Gr.trans (by go_grown) hw1
    clear hw1
    go_wp2_with fail
    go_at_call 116
    refine ((H2.out _ _ (by go_simp) (by go_simp) (by go_simp) (by go_simp) (by go_simp) (by go_simp) (by go_simp) (by go_simp) (by go_simp))).mono ?_
    rintro e w2 ⟨rfl, hw2⟩
    have cw2_0_0 := ci hw2 (W.heap.size) 0 ax (by go_simp)
    have cw2_0_1 := ci hw2 (W.heap.size) 1 ay (by go_simp)
    have cw2_1_0 := ci hw2 (W.heap.size + 1) 0 bx (by go_simp)
    have cw2_1_1 := ci hw2 (W.heap.size + 1) 1 by' (by go_simp)
    have cw2_2_0 := ci hw2 (W.heap.size + 1 + 1) 0 cx (by go_simp)
    have cw2_2_1 := ci hw2 (W.heap.size + 1 + 1) 1 cy (by go_simp)
    have cw2_3_0 := ci hw2 (W.heap.size + 1 + 1 + 1) 0 dx (by go_simp)
    have cw2_3_1 := ci hw2 (W.heap.size + 1 + 1 + 1) 1 dy (by go_simp)
    have gw2 : Gr W w2 := Gr.trans (by have gg := gw1; have gs := gg.size; go_grown) hw2
    clear hw2 gw1 zw1_0 cw1_0_0 cw1_0_1 zw1_1 cw1_1_0 cw1_1_1 zw1_2 cw1_2_0 cw1_2_1 zw1_3 cw1_3_0 cw1_3_1
    go_wp2_with fail
    go_ret
    exact ⟨rfl, by go_grown⟩
  · go_enter Tryz.func125, Tryz.ntmps125
    go_wp2_with fail
    go_at_call 142
    refine ((H1.out _)).mono ?_
    rintro e w1 ⟨rfl, hw1⟩
    have cw1_0_0 := ci hw1 (W.heap.size) 0 ax (by go_simp)
    have cw1_0_1 := ci hw1 (W.heap.size) 1 ay (by go_simp)
    have zw1_0 := zb cw1_0_0
    have cw1_1_0 := ci hw1 (W.heap.size + 1) 0 bx (by go_simp)
    have cw1_1_1 := ci hw1 (W.heap.size + 1) 1 by' (by go_simp)
    have zw1_1 := zb cw1_1_0
    have cw1_2_0 := ci hw1 (W.heap.size + 1 + 1) 0 cx (by go_simp)
    have cw1_2_1 := ci hw1 (W.heap.size + 1 + 1) 1 cy (by go_simp)
    have zw1_2 := zb cw1_2_0
    have cw1_3_0 := ci hw1 (W.heap.size + 1 + 1 + 1) 0 dx (by go_simp)
    have cw1_3_1 := ci hw1 (W.heap.size + 1 + 1 + 1) 1 dy (by go_simp)
    have zw1_3 := zb cw1_3_0
    have gw1 : Gr W w1 := Gr.trans (by go_grown) hw1
    clear hw1
    go_wp2_with fail
    go_at_call 116
    refine ((H2.out _ _ (by go_simp) (by go_simp) (by go_simp) (by go_simp) (by go_simp) (by go_simp) (by go_simp) (by go_simp) (by go_simp))).mono ?_
    rintro e w2 ⟨rfl, hw2⟩
    have cw2_0_0 := ci hw2 (W.heap.size) 0 ax (by go_simp)
    have cw2_0_1 := ci hw2 (W.heap.size) 1 ay (by go_simp)
    have cw2_1_0 := ci hw2 (W.heap.size + 1) 0 bx (by go_simp)
    have cw2_1_1 := ci hw2 (W.heap.size + 1) 1 by' (by go_simp)
    have cw2_2_0 := ci hw2 (W.heap.size + 1 + 1) 0 cx (by go_simp)
    have cw2_2_1 := ci hw2 (W.heap.size + 1 + 1) 1 cy (by go_simp)
    have cw2_3_0 := ci hw2 (W.heap.size + 1 + 1 + 1) 0 dx (by go_simp)
    have cw2_3_1 := ci hw2 (W.heap.size + 1 + 1 + 1) 1 dy (by go_simp)
    have gw2 : Gr W w2 := Gr.trans (by have gg := gw1; have gs := gg.size; go_grown) hw2
    clear hw2 gw1 zw1_0 cw1_0_0 cw1_0_1 zw1_1 cw1_1_0 cw1_1_1 zw1_2 cw1_2_0 cw1_2_1 zw1_3 cw1_3_0 cw1_3_1
    go_wp2_with fail
    go_at_call 143
    refine ((H3.out _)).mono ?_
    rintro e w3 ⟨rfl, hw3⟩
    have cw3_0_0 := ci hw3 (W.heap.size) 0 ax (by go_simp)
    have cw3_0_1 := ci hw3 (W.heap.size) 1 ay (by go_simp)
    have cw3_1_0 := ci hw3 (W.heap.size + 1) 0 bx (by go_simp)
    have cw3_1_1 := ci hw3 (W.heap.size + 1) 1 by' (by go_simp)
    have cw3_2_0 := ci hw3 (W.heap.size + 1 + 1) 0 cx (by go_simp)
    have cw3_2_1 := ci hw3 (W.heap.size + 1 + 1) 1 cy (by go_simp)
    have cw3_3_0 := ci hw3 (W.heap.size + 1 + 1 + 1) 0 dx (by go_simp)
    have cw3_3_1 := ci hw3 (W.heap.size + 1 + 1 + 1) 1 dy (by go_simp)
    have gw3 : Gr W w3 := Gr.trans (by have gg := gw2; have gs := gg.size; go_grown) hw3
    clear hw3 gw2 cw2_0_0 cw2_0_1 cw2_1_0 cw2_1_1 cw2_2_0 cw2_2_1 cw2_3_0 cw2_3_1
    go_wp2_with fail
    go_ret
    exact ⟨rfl, by go_grown⟩
  · go_enter Tryz.func125, Tryz.ntmps125
    go_wp2_with fail
    go_at_call 142
    refine ((H1.out _)).mono ?_
    rintro e w1 ⟨rfl, hw1⟩
    have cw1_0_0 := ci hw1 (W.heap.size) 0 ax (by go_simp)
    have cw1_0_1 := ci hw1 (W.heap.size) 1 ay (by go_simp)
    have zw1_0 := zb cw1_0_0
    have cw1_1_0 := ci hw1 (W.heap.size + 1) 0 bx (by go_simp)
    have cw1_1_1 := ci hw1 (W.heap.size + 1) 1 by' (by go_simp)
    have zw1_1 := zb cw1_1_0
    have cw1_2_0 := ci hw1 (W.heap.size + 1 + 1) 0 cx (by go_simp)
    have cw1_2_1 := ci hw1 (W.heap.size + 1 + 1) 1 cy (by go_simp)
    have zw1_2 := zb cw1_2_0
    have cw1_3_0 := ci hw1 (W.heap.size + 1 + 1 + 1) 0 dx (by go_simp)
    have cw1_3_1 := ci hw1 (W.heap.size + 1 + 1 + 1) 1 dy (by go_simp)
    have zw1_3 := zb cw1_3_0
    have gw1 : Gr W w1 := Gr.trans (by go_grown) hw1
    clear hw1
    go_wp2_with fail
    go_at_call 116
    refine ((H2.out _ _ (by go_simp) (by go_simp) (by go_simp) (by go_simp) (by go_simp) (by go_simp) (by go_simp) (by go_simp) (by go_simp))).mono ?_
    rintro e w2 ⟨rfl, hw2⟩
    have cw2_0_0 := ci hw2 (W.heap.size) 0 ax (by go_simp)
    have cw2_0_1 := ci hw2 (W.heap.size) 1 ay (by go_simp)
    have cw2_1_0 := ci hw2 (W.heap.size + 1) 0 bx (by go_simp)
    have cw2_1_1 := ci hw2 (W.heap.size + 1) 1 by' (by go_simp)
    have cw2_2_0 := ci hw2 (W.heap.size + 1 + 1) 0 cx (by go_simp)
    have cw2_2_1 := ci hw2 (W.heap.size + 1 + 1) 1 cy (by go_simp)
    have cw2_3_0 := ci hw2 (W.heap.size + 1 + 1 + 1) 0 dx (by go_simp)
    have cw2_3_1 := ci hw2 (W.heap.size + 1 + 1 + 1) 1 dy (by go_simp)
    have gw2 : Gr W w2 := Gr.trans (by have gg := gw1; have gs := gg.size; go_grown) hw2
    clear hw2 gw1 zw1_0 cw1_0_0 cw1_0_1 zw1_1 cw1_1_0 cw1_1_1 zw1_2 cw1_2_0 cw1_2_1 zw1_3 cw1_3_0 cw1_3_1
    go_wp2_with fail
    go_at_call 143
    refine ((H3.out _)).mono ?_
    rintro e w3 ⟨rfl, hw3⟩
    have cw3_0_0 := ci hw3 (W.heap.size) 0 ax (by go_simp)
    have cw3_0_1 := ci hw3 (W.heap.size) 1 ay (by go_simp)
    have cw3_1_0 := ci hw3 (W.heap.size + 1) 0 bx (by go_simp)
    have cw3_1_1 := ci hw3 (W.heap.size + 1) 1 by' (by go_simp)
    have cw3_2_0 := ci hw3 (W.heap.size + 1 + 1) 0 cx (by go_simp)
    have cw3_2_1 := ci hw3 (W.heap.size + 1 + 1) 1 cy (by go_simp)
    have cw3_3_0 := ci hw3 (W.heap.size + 1 + 1 + 1) 0 dx (by go_simp)
    have cw3_3_1 := ci hw3 (W.heap.size + 1 + 1 + 1) 1 dy (by go_simp)
    have gw3 : Gr W w3 := Gr.trans (by have gg := gw2; have gs := gg.size; go_grown) hw3
    clear hw3 gw2 cw2_0_0 cw2_0_1 cw2_1_0 cw2_1_1 cw2_2_0 cw2_2_1 cw2_3_0 cw2_3_1
    go_wp2_with fail
    go_at_call 143
    refine ((H4.out _)).mono ?_
    rintro e w4 ⟨rfl, hw4⟩
    have cw4_0_0 := ci hw4 (W.heap.size) 0 ax (by go_simp)
    have cw4_0_1 := ci hw4 (W.heap.size) 1 ay (by go_simp)
    have cw4_1_0 := ci hw4 (W.heap.size + 1) 0 bx (by go_simp)
    have cw4_1_1 := ci hw4 (W.heap.size + 1) 1 by' (by go_simp)
    have cw4_2_0 := ci hw4 (W.heap.size + 1 + 1) 0 cx (by go_simp)
    have cw4_2_1 := ci hw4 (W.heap.size + 1 + 1) 1 cy (by go_simp)
    have cw4_3_0 := ci hw4 (W.heap.size + 1 + 1 + 1) 0 dx (by go_simp)
    have cw4_3_1 := ci hw4 (W.heap.size + 1 + 1 + 1) 1 dy (by go_simp)
    have gw4 : Gr W w4 := Gr.trans (by have gg := gw3; have gs := gg.size; go_grown) hw4
    clear hw4 gw3 cw3_0_0 cw3_0_1 cw3_1_0 cw3_1_1 cw3_2_0 cw3_2_1 cw3_3_0 cw3_3_1
    go_wp2_with fail
    go_ret
    exact ⟨rfl, by go_grown⟩
  · go_enter Tryz.func125, Tryz.ntmps125
    go_wp2_with fail
    go_at_call 142
    refine ((H1.out _)).mono ?_
    rintro e w1 ⟨rfl, hw1⟩
    have cw1_0_0 := ci hw1 (W.heap.size) 0 ax (by go_simp)
    have cw1_0_1 := ci hw1 (W.heap.size) 1 ay (by go_simp)
    have zw1_0 := zb cw1_0_0
    have cw1_1_0 := ci hw1 (W.heap.size + 1) 0 bx (by go_simp)
    have cw1_1_1 := ci hw1 (W.heap.size + 1) 1 by' (by go_simp)
    have zw1_1 := zb cw1_1_0
    have cw1_2_0 := ci hw1 (W.heap.size + 1 + 1) 0 cx (by go_simp)
    have cw1_2_1 := ci hw1 (W.heap.size + 1 + 1) 1 cy (by go_simp)
    have zw1_2 := zb cw1_2_0
    have cw1_3_0 := ci hw1 (W.heap.size + 1 + 1 + 1) 0 dx (by go_simp)
    have cw1_3_1 := ci hw1 (W.heap.size + 1 + 1 + 1) 1 dy (by go_simp)
    have zw1_3 := zb cw1_3_0
    have gw1 : Gr W w1 := Gr.trans (by go_grown) hw1
    clear hw1
    go_wp2_with fail
    go_at_call 116
    refine ((H2.out _ _ (by go_simp) (by go_simp) (by go_simp) (by go_simp) (by go_simp) (by go_simp) (by go_simp) (by go_simp) (by go_simp))).mono ?_
    rintro e w2 ⟨rfl, hw2⟩
    have cw2_0_0 := ci hw2 (W.heap.size) 0 ax (by go_simp)
    have cw2_0_1 := ci hw2 (W.heap.size) 1 ay (by go_simp)
    have cw2_1_0 := ci hw2 (W.heap.size + 1) 0 bx (by go_simp)
    have cw2_1_1 := ci hw2 (W.heap.size + 1) 1 by' (by go_simp)
    have cw2_2_0 := ci hw2 (W.heap.size + 1 + 1) 0 cx (by go_simp)
    have cw2_2_1 := ci hw2 (W.heap.size + 1 + 1) 1 cy (by go_simp)
    have cw2_3_0 := ci hw2 (W.heap.size + 1 + 1 + 1) 0 dx (by go_simp)
    have cw2_3_1 := ci hw2 (W.heap.size + 1 + 1 + 1) 1 dy (by go_simp)
    have gw2 : Gr W w2 := Gr.trans (by have gg := gw1; have gs := gg.size; go_grown) hw2
    clear hw2 gw1 zw1_0 cw1_0_0 cw1_0_1 zw1_1 cw1_1_0 cw1_1_1 zw1_2 cw1_2_0 cw1_2_1 zw1_3 cw1_3_0 cw1_3_1
    go_wp2_with fail
    go_at_call 143
    refine ((H3.out _)).mono ?_
    rintro e w3 ⟨rfl, hw3⟩
    have cw3_0_0 := ci hw3 (W.heap.size) 0 ax (by go_simp)
    have cw3_0_1 := ci hw3 (W.heap.size) 1 ay (by go_simp)
    have cw3_1_0 := ci hw3 (W.heap.size + 1) 0 bx (by go_simp)
    have cw3_1_1 := ci hw3 (W.heap.size + 1) 1 by' (by go_simp)
    have cw3_2_0 := ci hw3 (W.heap.size + 1 + 1) 0 cx (by go_simp)
    have cw3_2_1 := ci hw3 (W.heap.size + 1 + 1) 1 cy (by go_simp)
    have cw3_3_0 := ci hw3 (W.heap.size + 1 + 1 + 1) 0 dx (by go_simp)
    have cw3_3_1 := ci hw3 (W.heap.size + 1 + 1 + 1) 1 dy (by go_simp)
    have gw3 : Gr W w3 := Gr.trans (by have gg := gw2; have gs := gg.size; go_grown) hw3
    clear hw3 gw2 cw2_0_0 cw2_0_1 cw2_1_0 cw2_1_1 cw2_2_0 cw2_2_1 cw2_3_0 cw2_3_1
    go_wp2_with fail
    go_at_call 143
    refine ((H4.out _)).mono ?_
    rintro e w4 ⟨rfl, hw4⟩
    have cw4_0_0 := ci hw4 (W.heap.size) 0 ax (by go_simp)
    have cw4_0_1 := ci hw4 (W.heap.size) 1 ay (by go_simp)
    have cw4_1_0 := ci hw4 (W.heap.size + 1) 0 bx (by go_simp)
    have cw4_1_1 := ci hw4 (W.heap.size + 1) 1 by' (by go_simp)
    have cw4_2_0 := ci hw4 (W.heap.size + 1 + 1) 0 cx (by go_simp)
    have cw4_2_1 := ci hw4 (W.heap.size + 1 + 1) 1 cy (by go_simp)
    have cw4_3_0 := ci hw4 (W.heap.size + 1 + 1 + 1) 0 dx (by go_simp)
    have cw4_3_1 := ci hw4 (W.heap.size + 1 + 1 + 1) 1 dy (by go_simp)
    have gw4 : Gr W w4 := Gr.trans (by have gg := gw3; have gs := gg.size; go_grown) hw4
    clear hw4 gw3 cw3_0_0 cw3_0_1 cw3_1_0 cw3_1_1 cw3_2_0 cw3_2_1 cw3_3_0 cw3_3_1
    go_wp2_with fail
    go_at_call 134
    refine ((H5.out _)).mono ?_
    rintro e w5 ⟨rfl, hw5⟩
    have cw5_0_0 := ci hw5 (W.heap.size) 0 ax (by go_simp)
    have cw5_0_1 := ci hw5 (W.heap.size) 1 ay (by go_simp)
    have cw5_1_0 := ci hw5 (W.heap.size + 1) 0 bx (by go_simp)
    have cw5_1_1 := ci hw5 (W.heap.size + 1) 1 by' (by go_simp)
    have cw5_2_0 := ci hw5 (W.heap.size + 1 + 1) 0 cx (by go_simp)
    have cw5_2_1 := ci hw5 (W.heap.size + 1 + 1) 1 cy (by go_simp)
    have cw5_3_0 := ci hw5 (W.heap.size + 1 + 1 + 1) 0 dx (by go_simp)
    have cw5_3_1 := ci hw5 (W.heap.size + 1 + 1 + 1) 1 dy (by go_simp)
    have gw5 : Gr W w5 := Gr.trans (by have gg := gw4; have gs := gg.size; go_grown) hw5
    clear hw5 gw4 cw4_0_0 cw4_0_1 cw4_1_0 cw4_1_1 cw4_2_0 cw4_2_1 cw4_3_0 cw4_3_1
    go_wp2_with fail
    go_ret
    exact ⟨rfl, by go_grown⟩
  · go_enter Tryz.func125, Tryz.ntmps125
    go_wp2_with fail
    go_at_call 142
    refine ((H1.out _)).mono ?_
    rintro e w1 ⟨rfl, hw1⟩
    have cw1_0_0 := ci hw1 (W.heap.size) 0 ax (by go_simp)
    have cw1_0_1 := ci hw1 (W.heap.size) 1 ay (by go_simp)
    have zw1_0 := zb cw1_0_0
    have cw1_1_0 := ci hw1 (W.heap.size + 1) 0 bx (by go_simp)
    have cw1_1_1 := ci hw1 (W.heap.size + 1) 1 by' (by go_simp)
    have zw1_1 := zb cw1_1_0
    have cw1_2_0 := ci hw1 (W.heap.size + 1 + 1) 0 cx (by go_simp)
    have cw1_2_1 := ci hw1 (W.heap.size + 1 + 1) 1 cy (by go_simp)
    have zw1_2 := zb cw1_2_0
    have cw1_3_0 := ci hw1 (W.heap.size + 1 + 1 + 1) 0 dx (by go_simp)
    have cw1_3_1 := ci hw1 (W.heap.size + 1 + 1 + 1) 1 dy (by go_simp)
    have zw1_3 := zb cw1_3_0
    have gw1 : Gr W w1 := Gr.trans (by go_grown) hw1
    clear hw1
    go_wp2_with fail
    go_at_call 116
    refine ((H2.out _ _ (by go_simp) (by go_simp) (by go_simp) (by go_simp) (by go_simp) (by go_simp) (by go_simp) (by go_simp) (by go_simp))).mono ?_
    rintro e w2 ⟨rfl, hw2⟩
    have cw2_0_0 := ci hw2 (W.heap.size) 0 ax (by go_simp)
    have cw2_0_1 := ci hw2 (W.heap.size) 1 ay (by go_simp)
    have cw2_1_0 := ci hw2 (W.heap.size + 1) 0 bx (by go_simp)
    have cw2_1_1 := ci hw2 (W.heap.size + 1) 1 by' (by go_simp)
    have cw2_2_0 := ci hw2 (W.heap.size + 1 + 1) 0 cx (by go_simp)
    have cw2_2_1 := ci hw2 (W.heap.size + 1 + 1) 1 cy (by go_simp)
    have cw2_3_0 := ci hw2 (W.heap.size + 1 + 1 + 1) 0 dx (by go_simp)
    have cw2_3_1 := ci hw2 (W.heap.size + 1 + 1 + 1) 1 dy (by go_simp)
    have gw2 : Gr W w2 := Gr.trans (by have gg := gw1; have gs := gg.size; go_grown) hw2
    clear hw2 gw1 zw1_0 cw1_0_0 cw1_0_1 zw1_1 cw1_1_0 cw1_1_1 zw1_2 cw1_2_0 cw1_2_1 zw1_3 cw1_3_0 cw1_3_1
    go_wp2_with fail
    go_at_call 143
    refine ((H3.out _)).mono ?_
    rintro e w3 ⟨rfl, hw3⟩
    have cw3_0_0 := ci hw3 (W.heap.size) 0 ax (by go_simp)
    have cw3_0_1 := ci hw3 (W.heap.size) 1 ay (by go_simp)
    have cw3_1_0 := ci hw3 (W.heap.size + 1) 0 bx (by go_simp)
    have cw3_1_1 := ci hw3 (W.heap.size + 1) 1 by' (by go_simp)
    have cw3_2_0 := ci hw3 (W.heap.size + 1 + 1) 0 cx (by go_simp)
    have cw3_2_1 := ci hw3 (W.heap.size + 1 + 1) 1 cy (by go_simp)
    have cw3_3_0 := ci hw3 (W.heap.size + 1 + 1 + 1) 0 dx (by go_simp)
    have cw3_3_1 := ci hw3 (W.heap.size + 1 + 1 + 1) 1 dy (by go_simp)
    have gw3 : Gr W w3 := Gr.trans (by have gg := gw2; have gs := gg.size; go_grown) hw3
    clear hw3 gw2 cw2_0_0 cw2_0_1 cw2_1_0 cw2_1_1 cw2_2_0 cw2_2_1 cw2_3_0 cw2_3_1
    go_wp2_with fail
    go_at_call 143
    refine ((H4.out _)).mono ?_
    rintro e w4 ⟨rfl, hw4⟩
    have cw4_0_0 := ci hw4 (W.heap.size) 0 ax (by go_simp)
    have cw4_0_1 := ci hw4 (W.heap.size) 1 ay (by go_simp)
    have cw4_1_0 := ci hw4 (W.heap.size + 1) 0 bx (by go_simp)
    have cw4_1_1 := ci hw4 (W.heap.size + 1) 1 by' (by go_simp)
    have cw4_2_0 := ci hw4 (W.heap.size + 1 + 1) 0 cx (by go_simp)
    have cw4_2_1 := ci hw4 (W.heap.size + 1 + 1) 1 cy (by go_simp)
    have cw4_3_0 := ci hw4 (W.heap.size + 1 + 1 + 1) 0 dx (by go_simp)
    have cw4_3_1 := ci hw4 (W.heap.size + 1 + 1 + 1) 1 dy (by go_simp)
    have gw4 : Gr W w4 := Gr.trans (by have gg := gw3; have gs := gg.size; go_grown) hw4
    clear hw4 gw3 cw3_0_0 cw3_0_1 cw3_1_0 cw3_1_1 cw3_2_0 cw3_2_1 cw3_3_0 cw3_3_1
    go_wp2_with fail
    go_at_call 134
    refine ((H5.out _)).mono ?_
    rintro e w5 ⟨rfl, hw5⟩
    have cw5_0_0 := ci hw5 (W.heap.size) 0 ax (by go_simp)
    have cw5_0_1 := ci hw5 (W.heap.size) 1 ay (by go_simp)
    have cw5_1_0 := ci hw5 (W.heap.size + 1) 0 bx (by go_simp)
    have cw5_1_1 := ci hw5 (W.heap.size + 1) 1 by' (by go_simp)
    have cw5_2_0 := ci hw5 (W.heap.size + 1 + 1) 0 cx (by go_simp)
    have cw5_2_1 := ci hw5 (W.heap.size + 1 + 1) 1 cy (by go_simp)
    have cw5_3_0 := ci hw5 (W.heap.size + 1 + 1 + 1) 0 dx (by go_simp)
    have cw5_3_1 := ci hw5 (W.heap.size + 1 + 1 + 1) 1 dy (by go_simp)
    have gw5 : Gr W w5 := Gr.trans (by have gg := gw4; have gs := gg.size; go_grown) hw5
    clear hw5 gw4 cw4_0_0 cw4_0_1 cw4_1_0 cw4_1_1 cw4_2_0 cw4_2_1 cw4_3_0 cw4_3_1
    go_wp2_with fail
    go_at_call 134
    refine ((H6.out _)).mono ?_
    rintro e w6 ⟨rfl, hw6⟩
    have cw6_0_0 := ci hw6 (W.heap.size) 0 ax (by go_simp)
    have cw6_0_1 := ci hw6 (W.heap.size) 1 ay (by go_simp)
    have cw6_1_0 := ci hw6 (W.heap.size + 1) 0 bx (by go_simp)
    have cw6_1_1 := ci hw6 (W.heap.size + 1) 1 by' (by go_simp)
    have cw6_2_0 := ci hw6 (W.heap.size + 1 + 1) 0 cx (by go_simp)
    have cw6_2_1 := ci hw6 (W.heap.size + 1 + 1) 1 cy (by go_simp)
    have cw6_3_0 := ci hw6 (W.heap.size + 1 + 1 + 1) 0 dx (by go_simp)
    have cw6_3_1 := ci hw6 (W.heap.size + 1 + 1 + 1) 1 dy (by go_simp)
    have gw6 : Gr W w6 := Gr.trans (by have gg := gw5; have gs := gg.size; go_grown) hw6
    clear hw6 gw5 cw5_0_0 cw5_0_1 cw5_1_0 cw5_1_1 cw5_2_0 cw5_2_1 cw5_3_0 cw5_3_1
    go_wp2_with fail
    go_ret
    exact ⟨rfl, by go_grown⟩
  · go_enter Tryz.func125, Tryz.ntmps125
    go_wp2_with fail
    go_at_call 142
    refine ((H1.out _)).mono ?_
    rintro e w1 ⟨rfl, hw1⟩
    have cw1_0_0 := ci hw1 (W.heap.size) 0 ax (by go_simp)
    have cw1_0_1 := ci hw1 (W.heap.size) 1 ay (by go_simp)
    have zw1_0 := zb cw1_0_0
    have cw1_1_0 := ci hw1 (W.heap.size + 1) 0 bx (by go_simp)
    have cw1_1_1 := ci hw1 (W.heap.size + 1) 1 by' (by go_simp)
    have zw1_1 := zb cw1_1_0
    have cw1_2_0 := ci hw1 (W.heap.size + 1 + 1) 0 cx (by go_simp)
    have cw1_2_1 := ci hw1 (W.heap.size + 1 + 1) 1 cy (by go_simp)
    have zw1_2 := zb cw1_2_0
    have cw1_3_0 := ci hw1 (W.heap.size + 1 + 1 + 1) 0 dx (by go_simp)
    have cw1_3_1 := ci hw1 (W.heap.size + 1 + 1 + 1) 1 dy (by go_simp)
    have zw1_3 := zb cw1_3_0
    have gw1 : Gr W w1 := Gr.trans (by go_grown) hw1
    clear hw1
    go_wp2_with fail
    go_at_call 116
    refine ((H2.out _ _ (by go_simp) (by go_simp) (by go_simp) (by go_simp) (by go_simp) (by go_simp) (by go_simp) (by go_simp) (by go_simp))).mono ?_
    rintro e w2 ⟨rfl, hw2⟩
    have cw2_0_0 := ci hw2 (W.heap.size) 0 ax (by go_simp)
    have cw2_0_1 := ci hw2 (W.heap.size) 1 ay (by go_simp)
    have cw2_1_0 := ci hw2 (W.heap.size + 1) 0 bx (by go_simp)
    have cw2_1_1 := ci hw2 (W.heap.size + 1) 1 by' (by go_simp)
    have cw2_2_0 := ci hw2 (W.heap.size + 1 + 1) 0 cx (by go_simp)
    have cw2_2_1 := ci hw2 (W.heap.size + 1 + 1) 1 cy (by go_simp)
    have cw2_3_0 := ci hw2 (W.heap.size + 1 + 1 + 1) 0 dx (by go_simp)
    have cw2_3_1 := ci hw2 (W.heap.size + 1 + 1 + 1) 1 dy (by go_simp)
    have gw2 : Gr W w2 := Gr.trans (by have gg := gw1; have gs := gg.size; go_grown) hw2
    clear hw2 gw1 zw1_0 cw1_0_0 cw1_0_1 zw1_1 cw1_1_0 cw1_1_1 zw1_2 cw1_2_0 cw1_2_1 zw1_3 cw1_3_0 cw1_3_1
    go_wp2_with fail
    go_at_call 143
    refine ((H3.out _)).mono ?_
    rintro e w3 ⟨rfl, hw3⟩
    have cw3_0_0 := ci hw3 (W.heap.size) 0 ax (by go_simp)
    have cw3_0_1 := ci hw3 (W.heap.size) 1 ay (by go_simp)
    have cw3_1_0 := ci hw3 (W.heap.size + 1) 0 bx (by go_simp)
    have cw3_1_1 := ci hw3 (W.heap.size + 1) 1 by' (by go_simp)
    have cw3_2_0 := ci hw3 (W.heap.size + 1 + 1) 0 cx (by go_simp)
    have cw3_2_1 := ci hw3 (W.heap.size + 1 + 1) 1 cy (by go_simp)
    have cw3_3_0 := ci hw3 (W.heap.size + 1 + 1 + 1) 0 dx (by go_simp)
    have cw3_3_1 := ci hw3 (W.heap.size + 1 + 1 + 1) 1 dy (by go_simp)
    have gw3 : Gr W w3 := Gr.trans (by have gg := gw2; have gs := gg.size; go_grown) hw3
    clear hw3 gw2 cw2_0_0 cw2_0_1 cw2_1_0 cw2_1_1 cw2_2_0 cw2_2_1 cw2_3_0 cw2_3_1
    go_wp2_with fail
    go_at_call 143
    refine ((H4.out _)).mono ?_
    rintro e w4 ⟨rfl, hw4⟩
    have cw4_0_0 := ci hw4 (W.heap.size) 0 ax (by go_simp)
    have cw4_0_1 := ci hw4 (W.heap.size) 1 ay (by go_simp)
    have cw4_1_0 := ci hw4 (W.heap.size + 1) 0 bx (by go_simp)
    have cw4_1_1 := ci hw4 (W.heap.size + 1) 1 by' (by go_simp)
    have cw4_2_0 := ci hw4 (W.heap.size + 1 + 1) 0 cx (by go_simp)
    have cw4_2_1 := ci hw4 (W.heap.size + 1 + 1) 1 cy (by go_simp)
    have cw4_3_0 := ci hw4 (W.heap.size + 1 + 1 + 1) 0 dx (by go_simp)
    have cw4_3_1 := ci hw4 (W.heap.size + 1 + 1 + 1) 1 dy (by go_simp)
    have gw4 : Gr W w4 := Gr.trans (by have gg := gw3; have gs := gg.size; go_grown) hw4
    clear hw4 gw3 cw3_0_0 cw3_0_1 cw3_1_0 cw3_1_1 cw3_2_0 cw3_2_1 cw3_3_0 cw3_3_1
    go_wp2_with fail
    go_at_call 134
    refine ((H5.out _)).mono ?_
    rintro e w5 ⟨rfl, hw5⟩
    have cw5_0_0 := ci hw5 (W.heap.size) 0 ax (by go_simp)
    have cw5_0_1 := ci hw5 (W.heap.size) 1 ay (by go_simp)
    have cw5_1_0 := ci hw5 (W.heap.size + 1) 0 bx (by go_simp)
    have cw5_1_1 := ci hw5 (W.heap.size + 1) 1 by' (by go_simp)
    have cw5_2_0 := ci hw5 (W.heap.size + 1 + 1) 0 cx (by go_simp)
    have cw5_2_1 := ci hw5 (W.heap.size + 1 + 1) 1 cy (by go_simp)
    have cw5_3_0 := ci hw5 (W.heap.size + 1 + 1 + 1) 0 dx (by go_simp)
    have cw5_3_1 := ci hw5 (W.heap.size + 1 + 1 + 1) 1 dy (by go_simp)
    have gw5 : Gr W w5 := Gr.trans (by have gg := gw4; have gs := gg.size; go_grown) hw5
    clear hw5 gw4 cw4_0_0 cw4_0_1 cw4_1_0 cw4_1_1 cw4_2_0 cw4_2_1 cw4_3_0 cw4_3_1
    go_wp2_with fail
    go_at_call 134
    refine ((H6.out _)).mono ?_
    rintro e w6 ⟨rfl, hw6⟩
    have cw6_0_0 := ci hw6 (W.heap.size) 0 ax (by go_simp)
    have cw6_0_1 := ci hw6 (W.heap.size) 1 ay (by go_simp)
    have cw6_1_0 := ci hw6 (W.heap.size + 1) 0 bx (by go_simp)
    have cw6_1_1 := ci hw6 (W.heap.size + 1) 1 by' (by go_simp)
    have cw6_2_0 := ci hw6 (W.heap.size + 1 + 1) 0 cx (by go_simp)
    have cw6_2_1 := ci hw6 (W.heap.size + 1 + 1) 1 cy (by go_simp)
    have cw6_3_0 := ci hw6 (W.heap.size + 1 + 1 + 1) 0 dx (by go_simp)
    have cw6_3_1 := ci hw6 (W.heap.size + 1 + 1 + 1) 1 dy (by go_simp)
    have gw6 : Gr W w6 := Gr.trans (by have gg := gw5; have gs := gg.size; go_grown) hw6
    clear hw6 gw5 cw5_0_0 cw5_0_1 cw5_1_0 cw5_1_1 cw5_2_0 cw5_2_1 cw5_3_0 cw5_3_1
    go_wp2_with fail
    go_at_call 134
    refine ((H7.out _)).mono ?_
    rintro e w7 ⟨rfl, hw7⟩
    have cw7_1_0 := ci hw7 (W.heap.size + 1) 0 bx (by go_simp)
    have cw7_1_1 := ci hw7 (W.heap.size + 1) 1 by' (by go_simp)
    have cw7_2_0 := ci hw7 (W.heap.size + 1 + 1) 0 cx (by go_simp)
    have cw7_2_1 := ci hw7 (W.heap.size + 1 + 1) 1 cy (by go_simp)
    have cw7_3_0 := ci hw7 (W.heap.size + 1 + 1 + 1) 0 dx (by go_simp)
    have cw7_3_1 := ci hw7 (W.heap.size + 1 + 1 + 1) 1 dy (by go_simp)
    have gw7 : Gr W w7 := Gr.trans (by have gg := gw6; have gs := gg.size; go_grown) hw7
    clear hw7 gw6 cw6_0_0 cw6_0_1 cw6_1_0 cw6_1_1 cw6_2_0 cw6_2_1 cw6_3_0 cw6_3_1
    go_wp2_with fail
    go_ret
    exact ⟨rfl, by go_grown⟩
  · go_enter Tryz.func125, Tryz.ntmps125
    go_wp2_with fail
    go_at_call 142
    refine ((H1.out _)).mono ?_
    rintro e w1 ⟨rfl, hw1⟩
    have cw1_0_0 := ci hw1 (W.heap.size) 0 ax (by go_simp)
    have cw1_0_1 := ci hw1 (W.heap.size) 1 ay (by go_simp)
    have zw1_0 := zb cw1_0_0
    have cw1_1_0 := ci hw1 (W.heap.size + 1) 0 bx (by go_simp)
    have cw1_1_1 := ci hw1 (W.heap.size + 1) 1 by' (by go_simp)
    have zw1_1 := zb cw1_1_0
    have cw1_2_0 := ci hw1 (W.heap.size + 1 + 1) 0 cx (by go_simp)
    have cw1_2_1 := ci hw1 (W.heap.size + 1 + 1) 1 cy (by go_simp)
    have zw1_2 := zb cw1_2_0
    have cw1_3_0 := ci hw1 (W.heap.size + 1 + 1 + 1) 0 dx (by go_simp)
    have cw1_3_1 := ci hw1 (W.heap.size + 1 + 1 + 1) 1 dy (by go_simp)
    have zw1_3 := zb cw1_3_0
    have gw1 : Gr W w1 := Gr.trans (by go_grown) hw1
    clear hw1
    go_wp2_with fail
    go_at_call 116
    refine ((H2.out _ _ (by go_simp) (by go_simp) (by go_simp) (by go_simp) (by go_simp) (by go_simp) (by go_simp) (by go_simp) (by go_simp))).mono ?_
    rintro e w2 ⟨rfl, hw2⟩
    have cw2_0_0 := ci hw2 (W.heap.size) 0 ax (by go_simp)
    have cw2_0_1 := ci hw2 (W.heap.size) 1 ay (by go_simp)
    have cw2_1_0 := ci hw2 (W.heap.size + 1) 0 bx (by go_simp)
    have cw2_1_1 := ci hw2 (W.heap.size + 1) 1 by' (by go_simp)
    have cw2_2_0 := ci hw2 (W.heap.size + 1 + 1) 0 cx (by go_simp)
    have cw2_2_1 := ci hw2 (W.heap.size + 1 + 1) 1 cy (by go_simp)
    have cw2_3_0 := ci hw2 (W.heap.size + 1 + 1 + 1) 0 dx (by go_simp)
    have cw2_3_1 := ci hw2 (W.heap.size + 1 + 1 + 1) 1 dy (by go_simp)
    have gw2 : Gr W w2 := Gr.trans (by have gg := gw1; have gs := gg.size; go_grown) hw2
    clear hw2 gw1 zw1_0 cw1_0_0 cw1_0_1 zw1_1 cw1_1_0 cw1_1_1 zw1_2 cw1_2_0 cw1_2_1 zw1_3 cw1_3_0 cw1_3_1
    go_wp2_with fail
    go_at_call 143
    refine ((H3.out _)).mono ?_
    rintro e w3 ⟨rfl, hw3⟩
    have cw3_0_0 := ci hw3 (W.heap.size) 0 ax (by go_simp)
    have cw3_0_1 := ci hw3 (W.heap.size) 1 ay (by go_simp)
    have cw3_1_0 := ci hw3 (W.heap.size + 1) 0 bx (by go_simp)
    have cw3_1_1 := ci hw3 (W.heap.size + 1) 1 by' (by go_simp)
    have cw3_2_0 := ci hw3 (W.heap.size + 1 + 1) 0 cx (by go_simp)
    have cw3_2_1 := ci hw3 (W.heap.size + 1 + 1) 1 cy (by go_simp)
    have cw3_3_0 := ci hw3 (W.heap.size + 1 + 1 + 1) 0 dx (by go_simp)
    have cw3_3_1 := ci hw3 (W.heap.size + 1 + 1 + 1) 1 dy (by go_simp)
    have gw3 : Gr W w3 := Gr.trans (by have gg := gw2; have gs := gg.size; go_grown) hw3
    clear hw3 gw2 cw2_0_0 cw2_0_1 cw2_1_0 cw2_1_1 cw2_2_0 cw2_2_1 cw2_3_0 cw2_3_1
    go_wp2_with fail
    go_at_call 143
    refine ((H4.out _)).mono ?_
    rintro e w4 ⟨rfl, hw4⟩
    have cw4_0_0 := ci hw4 (W.heap.size) 0 ax (by go_simp)
    have cw4_0_1 := ci hw4 (W.heap.size) 1 ay (by go_simp)
    have cw4_1_0 := ci hw4 (W.heap.size + 1) 0 bx (by go_simp)
    have cw4_1_1 := ci hw4 (W.heap.size + 1) 1 by' (by go_simp)
    have cw4_2_0 := ci hw4 (W.heap.size + 1 + 1) 0 cx (by go_simp)
    have cw4_2_1 := ci hw4 (W.heap.size + 1 + 1) 1 cy (by go_simp)
    have cw4_3_0 := ci hw4 (W.heap.size + 1 + 1 + 1) 0 dx (by go_simp)
    have cw4_3_1 := ci hw4 (W.heap.size + 1 + 1 + 1) 1 dy (by go_simp)
    have gw4 : Gr W w4 := Gr.trans (by have gg := gw3; have gs := gg.size; go_grown) hw4
    clear hw4 gw3 cw3_0_0 cw3_0_1 cw3_1_0 cw3_1_1 cw3_2_0 cw3_2_1 cw3_3_0 cw3_3_1
    go_wp2_with fail
    go_at_call 134
    refine ((H5.out _)).mono ?_
    rintro e w5 ⟨rfl, hw5⟩
    have cw5_0_0 := ci hw5 (W.heap.size) 0 ax (by go_simp)
    have cw5_0_1 := ci hw5 (W.heap.size) 1 ay (by go_simp)
    have cw5_1_0 := ci hw5 (W.heap.size + 1) 0 bx (by go_simp)
    have cw5_1_1 := ci hw5 (W.heap.size + 1) 1 by' (by go_simp)
    have cw5_2_0 := ci hw5 (W.heap.size + 1 + 1) 0 cx (by go_simp)
    have cw5_2_1 := ci hw5 (W.heap.size + 1 + 1) 1 cy (by go_simp)
    have cw5_3_0 := ci hw5 (W.heap.size + 1 + 1 + 1) 0 dx (by go_simp)
    have cw5_3_1 := ci hw5 (W.heap.size + 1 + 1 + 1) 1 dy (by go_simp)
    have gw5 : Gr W w5 := Gr.trans (by have gg := gw4; have gs := gg.size; go_grown) hw5
    clear hw5 gw4 cw4_0_0 cw4_0_1 cw4_1_0 cw4_1_1 cw4_2_0 cw4_2_1 cw4_3_0 cw4_3_1
    go_wp2_with fail
    go_at_call 134
    refine ((H6.out _)).mono ?_
    rintro e w6 ⟨rfl, hw6⟩
    have cw6_0_0 := ci hw6 (W.heap.size) 0 ax (by go_simp)
    have cw6_0_1 := ci hw6 (W.heap.size) 1 ay (by go_simp)
    have cw6_1_0 := ci hw6 (W.heap.size + 1) 0 bx (by go_simp)
    have cw6_1_1 := ci hw6 (W.heap.size + 1) 1 by' (by go_simp)
    have cw6_2_0 := ci hw6 (W.heap.size + 1 + 1) 0 cx (by go_simp)
    have cw6_2_1 := ci hw6 (W.heap.size + 1 + 1) 1 cy (by go_simp)
    have cw6_3_0 := ci hw6 (W.heap.size + 1 + 1 + 1) 0 dx (by go_simp)
    have cw6_3_1 := ci hw6 (W.heap.size + 1 + 1 + 1) 1 dy (by go_simp)
    have gw6 : Gr W w6 := Gr.trans (by have gg := gw5; have gs := gg.size; go_grown) hw6
    clear hw6 gw5 cw5_0_0 cw5_0_1 cw5_1_0 cw5_1_1 cw5_2_0 cw5_2_1 cw5_3_0 cw5_3_1
    go_wp2_with fail
    go_at_call 134
    refine ((H7.out _)).mono ?_
    rintro e w7 ⟨rfl, hw7⟩
    have cw7_1_0 := ci hw7 (W.heap.size + 1) 0 bx (by go_simp)
    have cw7_1_1 := ci hw7 (W.heap.size + 1) 1 by' (by go_simp)
    have cw7_2_0 := ci hw7 (W.heap.size + 1 + 1) 0 cx (by go_simp)
    have cw7_2_1 := ci hw7 (W.heap.size + 1 + 1) 1 cy (by go_simp)
    have cw7_3_0 := ci hw7 (W.heap.size + 1 + 1 + 1) 0 dx (by go_simp)
    have cw7_3_1 := ci hw7 (W.heap.size + 1 + 1 + 1) 1 dy (by go_simp)
    have gw7 : Gr W w7 := Gr.trans (by have gg := gw6; have gs := gg.size; go_grown) hw7
    clear hw7 gw6 cw6_0_0 cw6_0_1 cw6_1_0 cw6_1_1 cw6_2_0 cw6_2_1 cw6_3_0 cw6_3_1
    go_wp2_with fail
    go_at_call 134
    refine ((H8.out _)).mono ?_
    rintro e w8 ⟨rfl, hw8⟩
    have gw8 : Gr W w8 := Gr.trans (by have gg := gw7; have gs := gg.size; go_grown) hw8
    clear hw8 gw7 cw7_1_0 cw7_1_1 cw7_2_0 cw7_2_1 cw7_3_0 cw7_3_1
    go_wp2_with fail
    go_ret
    exact ⟨rfl, by go_grown⟩
  · go_enter Tryz.func125, Tryz.ntmps125
    go_wp2_with fail
    go_at_call 142
    refine ((H1.out _)).mono ?_
    rintro e w1 ⟨rfl, hw1⟩
    have cw1_0_0 := ci hw1 (W.heap.size) 0 ax (by go_simp)
    have cw1_0_1 := ci hw1 (W.heap.size) 1 ay (by go_simp)
    have zw1_0 := zb cw1_0_0
    have cw1_1_0 := ci hw1 (W.heap.size + 1) 0 bx (by go_simp)
    have cw1_1_1 := ci hw1 (W.heap.size + 1) 1 by' (by go_simp)
    have zw1_1 := zb cw1_1_0
    have cw1_2_0 := ci hw1 (W.heap.size + 1 + 1) 0 cx (by go_simp)
    have cw1_2_1 := ci hw1 (W.heap.size + 1 + 1) 1 cy (by go_simp)
    have zw1_2 := zb cw1_2_0
    have cw1_3_0 := ci hw1 (W.heap.size + 1 + 1 + 1) 0 dx (by go_simp)
    have cw1_3_1 := ci hw1 (W.heap.size + 1 + 1 + 1) 1 dy (by go_simp)
    have zw1_3 := zb cw1_3_0
    have gw1 : Gr W w1 := Gr.trans (by go_grown) hw1
    clear hw1
    go_wp2_with fail
    go_at_call 116
    refine ((H2.out _ _ (by go_simp) (by go_simp) (by go_simp) (by go_simp) (by go_simp) (by go_simp) (by go_simp) (by go_simp) (by go_simp))).mono ?_
    rintro e w2 ⟨rfl, hw2⟩
    have cw2_0_0 := ci hw2 (W.heap.size) 0 ax (by go_simp)
    have cw2_0_1 := ci hw2 (W.heap.size) 1 ay (by go_simp)
    have cw2_1_0 := ci hw2 (W.heap.size + 1) 0 bx (by go_simp)
    have cw2_1_1 := ci hw2 (W.heap.size + 1) 1 by' (by go_simp)
    have cw2_2_0 := ci hw2 (W.heap.size + 1 + 1) 0 cx (by go_simp)
    have cw2_2_1 := ci hw2 (W.heap.size + 1 + 1) 1 cy (by go_simp)
    have cw2_3_0 := ci hw2 (W.heap.size + 1 + 1 + 1) 0 dx (by go_simp)
    have cw2_3_1 := ci hw2 (W.heap.size + 1 + 1 + 1) 1 dy (by go_simp)
    have gw2 : Gr W w2 := Gr.trans (by have gg := gw1; have gs := gg.size; go_grown) hw2
    clear hw2 gw1 zw1_0 cw1_0_0 cw1_0_1 zw1_1 cw1_1_0 cw1_1_1 zw1_2 cw1_2_0 cw1_2_1 zw1_3 cw1_3_0 cw1_3_1
    go_wp2_with fail
    go_at_call 143
    refine ((H3.out _)).mono ?_
    rintro e w3 ⟨rfl, hw3⟩
    have cw3_0_0 := ci hw3 (W.heap.size) 0 ax (by go_simp)
    have cw3_0_1 := ci hw3 (W.heap.size) 1 ay (by go_simp)
    have cw3_1_0 := ci hw3 (W.heap.size + 1) 0 bx (by go_simp)
    have cw3_1_1 := ci hw3 (W.heap.size + 1) 1 by' (by go_simp)
    have cw3_2_0 := ci hw3 (W.heap.size + 1 + 1) 0 cx (by go_simp)
    have cw3_2_1 := ci hw3 (W.heap.size + 1 + 1) 1 cy (by go_simp)
    have cw3_3_0 := ci hw3 (W.heap.size + 1 + 1 + 1) 0 dx (by go_simp)
    have cw3_3_1 := ci hw3 (W.heap.size + 1 + 1 + 1) 1 dy (by go_simp)
    have gw3 : Gr W w3 := Gr.trans (by have gg := gw2; have gs := gg.size; go_grown) hw3
    clear hw3 gw2 cw2_0_0 cw2_0_1 cw2_1_0 cw2_1_1 cw2_2_0 cw2_2_1 cw2_3_0 cw2_3_1
    go_wp2_with fail
    go_at_call 134
    refine ((H5.out _)).mono ?_
    rintro e w4 ⟨rfl, hw4⟩
    have cw4_0_0 := ci hw4 (W.heap.size) 0 ax (by go_simp)
    have cw4_0_1 := ci hw4 (W.heap.size) 1 ay (by go_simp)
    have cw4_1_0 := ci hw4 (W.heap.size + 1) 0 bx (by go_simp)
    have cw4_1_1 := ci hw4 (W.heap.size + 1) 1 by' (by go_simp)
    have cw4_2_0 := ci hw4 (W.heap.size + 1 + 1) 0 cx (by go_simp)
    have cw4_2_1 := ci hw4 (W.heap.size + 1 + 1) 1 cy (by go_simp)
    have cw4_3_0 := ci hw4 (W.heap.size + 1 + 1 + 1) 0 dx (by go_simp)
    have cw4_3_1 := ci hw4 (W.heap.size + 1 + 1 + 1) 1 dy (by go_simp)
    have gw4 : Gr W w4 := Gr.trans (by have gg := gw3; have gs := gg.size; go_grown) hw4
    clear hw4 gw3 cw3_0_0 cw3_0_1 cw3_1_0 cw3_1_1 cw3_2_0 cw3_2_1 cw3_3_0 cw3_3_1
    go_wp2_with fail
    go_ret
    exact ⟨rfl, by go_grown⟩
  · go_enter Tryz.func125, Tryz.ntmps125
    go_wp2_with fail
    go_at_call 142
    refine ((H1.out _)).mono ?_
    rintro e w1 ⟨rfl, hw1⟩
    have cw1_0_0 := ci hw1 (W.heap.size) 0 ax (by go_simp)
    have cw1_0_1 := ci hw1 (W.heap.size) 1 ay (by go_simp)
    have zw1_0 := zb cw1_0_0
    have cw1_1_0 := ci hw1 (W.heap.size + 1) 0 bx (by go_simp)
    have cw1_1_1 := ci hw1 (W.heap.size + 1) 1 by' (by go_simp)
    have zw1_1 := zb cw1_1_0
    have cw1_2_0 := ci hw1 (W.heap.size + 1 + 1) 0 cx (by go_simp)
    have cw1_2_1 := ci hw1 (W.heap.size + 1 + 1) 1 cy (by go_simp)
    have zw1_2 := zb cw1_2_0
    have cw1_3_0 := ci hw1 (W.heap.size + 1 + 1 + 1) 0 dx (by go_simp)
    have cw1_3_1 := ci hw1 (W.heap.size + 1 + 1 + 1) 1 dy (by go_simp)
    have zw1_3 := zb cw1_3_0
    have gw1 : Gr W w1 := Gr.trans (by go_grown) hw1
    clear hw1
    go_wp2_with fail
    go_at_call 116
    refine ((H2.out _ _ (by go_simp) (by go_simp) (by go_simp) (by go_simp) (by go_simp) (by go_simp) (by go_simp) (by go_simp) (by go_simp))).mono ?_
    rintro e w2 ⟨rfl, hw2⟩
    have cw2_0_0 := ci hw2 (W.heap.size) 0 ax (by go_simp)
    have cw2_0_1 := ci hw2 (W.heap.size) 1 ay (by go_simp)
    have cw2_1_0 := ci hw2 (W.heap.size + 1) 0 bx (by go_simp)
    have cw2_1_1 := ci hw2 (W.heap.size + 1) 1 by' (by go_simp)
    have cw2_2_0 := ci hw2 (W.heap.size + 1 + 1) 0 cx (by go_simp)
    have cw2_2_1 := ci hw2 (W.heap.size + 1 + 1) 1 cy (by go_simp)
    have cw2_3_0 := ci hw2 (W.heap.size + 1 + 1 + 1) 0 dx (by go_simp)
    have cw2_3_1 := ci hw2 (W.heap.size + 1 + 1 + 1) 1 dy (by go_simp)
    have gw2 : Gr W w2 := Gr.trans (by have gg := gw1; have gs := gg.size; go_grown) hw2
    clear hw2 gw1 zw1_0 cw1_0_0 cw1_0_1 zw1_1 cw1_1_0 cw1_1_1 zw1_2 cw1_2_0 cw1_2_1 zw1_3 cw1_3_0 cw1_3_1
    go_wp2_with fail
    go_at_call 143
    refine ((H3.out _)).mono ?_
    rintro e w3 ⟨rfl, hw3⟩
    have cw3_0_0 := ci hw3 (W.heap.size) 0 ax (by go_simp)
    have cw3_0_1 := ci hw3 (W.heap.size) 1 ay (by go_simp)
    have cw3_1_0 := ci hw3 (W.heap.size + 1) 0 bx (by go_simp)
    have cw3_1_1 := ci hw3 (W.heap.size + 1) 1 by' (by go_simp)
    have cw3_2_0 := ci hw3 (W.heap.size + 1 + 1) 0 cx (by go_simp)
    have cw3_2_1 := ci hw3 (W.heap.size + 1 + 1) 1 cy (by go_simp)
    have cw3_3_0 := ci hw3 (W.heap.size + 1 + 1 + 1) 0 dx (by go_simp)
    have cw3_3_1 := ci hw3 (W.heap.size + 1 + 1 + 1) 1 dy (by go_simp)
    have gw3 : Gr W w3 := Gr.trans (by have gg := gw2; have gs := gg.size; go_grown) hw3
    clear hw3 gw2 cw2_0_0 cw2_0_1 cw2_1_0 cw2_1_1 cw2_2_0 cw2_2_1 cw2_3_0 cw2_3_1
    go_wp2_with fail
    go_at_call 134
    refine ((H5.out _)).mono ?_
    rintro e w4 ⟨rfl, hw4⟩
    have cw4_0_0 := ci hw4 (W.heap.size) 0 ax (by go_simp)
    have cw4_0_1 := ci hw4 (W.heap.size) 1 ay (by go_simp)
    have cw4_1_0 := ci hw4 (W.heap.size + 1) 0 bx (by go_simp)
    have cw4_1_1 := ci hw4 (W.heap.size + 1) 1 by' (by go_simp)
    have cw4_2_0 := ci hw4 (W.heap.size + 1 + 1) 0 cx (by go_simp)
    have cw4_2_1 := ci hw4 (W.heap.size + 1 + 1) 1 cy (by go_simp)
    have cw4_3_0 := ci hw4 (W.heap.size + 1 + 1 + 1) 0 dx (by go_simp)
    have cw4_3_1 := ci hw4 (W.heap.size + 1 + 1 + 1) 1 dy (by go_simp)
    have gw4 : Gr W w4 := Gr.trans (by have gg := gw3; have gs := gg.size; go_grown) hw4
    clear hw4 gw3 cw3_0_0 cw3_0_1 cw3_1_0 cw3_1_1 cw3_2_0 cw3_2_1 cw3_3_0 cw3_3_1
    go_wp2_with fail
    go_at_call 134
    refine ((H6.out _)).mono ?_
    rintro e w5 ⟨rfl, hw5⟩
    have cw5_0_0 := ci hw5 (W.heap.size) 0 ax (by go_simp)
    have cw5_0_1 := ci hw5 (W.heap.size) 1 ay (by go_simp)
    have cw5_1_0 := ci hw5 (W.heap.size + 1) 0 bx (by go_simp)
    have cw5_1_1 := ci hw5 (W.heap.size + 1) 1 by' (by go_simp)
    have cw5_2_0 := ci hw5 (W.heap.size + 1 + 1) 0 cx (by go_simp)
    have cw5_2_1 := ci hw5 (W.heap.size + 1 + 1) 1 cy (by go_simp)
    have cw5_3_0 := ci hw5 (W.heap.size + 1 + 1 + 1) 0 dx (by go_simp)
    have cw5_3_1 := ci hw5 (W.heap.size + 1 + 1 + 1) 1 dy (by go_simp)
    have gw5 : Gr W w5 := Gr.trans (by have gg := gw4; have gs := gg.size; go_grown) hw5
    clear hw5 gw4 cw4_0_0 cw4_0_1 cw4_1_0 cw4_1_1 cw4_2_0 cw4_2_1 cw4_3_0 cw4_3_1
    go_wp2_with fail
    go_ret
    exact ⟨rfl, by go_grown⟩
  · go_enter Tryz.func125, Tryz.ntmps125
    go_wp2_with fail
    go_at_call 142
    refine ((H1.out _)).mono ?_
    rintro e w1 ⟨rfl, hw1⟩
    have cw1_0_0 := ci hw1 (W.heap.size) 0 ax (by go_simp)
    have cw1_0_1 := ci hw1 (W.heap.size) 1 ay (by go_simp)
    have zw1_0 := zb cw1_0_0
    have cw1_1_0 := ci hw1 (W.heap.size + 1) 0 bx (by go_simp)
    have cw1_1_1 := ci hw1 (W.heap.size + 1) 1 by' (by go_simp)
    have zw1_1 := zb cw1_1_0
    have cw1_2_0 := ci hw1 (W.heap.size + 1 + 1) 0 cx (by go_simp)
    have cw1_2_1 := ci hw1 (W.heap.size + 1 + 1) 1 cy (by go_simp)
    have zw1_2 := zb cw1_2_0
    have cw1_3_0 := ci hw1 (W.heap.size + 1 + 1 + 1) 0 dx (by go_simp)
    have cw1_3_1 := ci hw1 (W.heap.size + 1 + 1 + 1) 1 dy (by go_simp)
    have zw1_3 := zb cw1_3_0
    have gw1 : Gr W w1 := Gr.trans (by go_grown) hw1
    clear hw1
    go_wp2_with fail
    go_at_call 116
    refine ((H2.out _ _ (by go_simp) (by go_simp) (by go_simp) (by go_simp) (by go_simp) (by go_simp) (by go_simp) (by go_simp) (by go_simp))).mono ?_
    rintro e w2 ⟨rfl, hw2⟩
    have cw2_0_0 := ci hw2 (W.heap.size) 0 ax (by go_simp)
    have cw2_0_1 := ci hw2 (W.heap.size) 1 ay (by go_simp)
    have cw2_1_0 := ci hw2 (W.heap.size + 1) 0 bx (by go_simp)
    have cw2_1_1 := ci hw2 (W.heap.size + 1) 1 by' (by go_simp)
    have cw2_2_0 := ci hw2 (W.heap.size + 1 + 1) 0 cx (by go_simp)
    have cw2_2_1 := ci hw2 (W.heap.size + 1 + 1) 1 cy (by go_simp)
    have cw2_3_0 := ci hw2 (W.heap.size + 1 + 1 + 1) 0 dx (by go_simp)
    have cw2_3_1 := ci hw2 (W.heap.size + 1 + 1 + 1) 1 dy (by go_simp)
    have gw2 : Gr W w2 := Gr.trans (by have gg := gw1; have gs := gg.size; go_grown) hw2
    clear hw2 gw1 zw1_0 cw1_0_0 cw1_0_1 zw1_1 cw1_1_0 cw1_1_1 zw1_2 cw1_2_0 cw1_2_1 zw1_3 cw1_3_0 cw1_3_1
    go_wp2_with fail
    go_at_call 143
    refine ((H3.out _)).mono ?_
    rintro e w3 ⟨rfl, hw3⟩
    have cw3_0_0 := ci hw3 (W.heap.size) 0 ax (by go_simp)
    have cw3_0_1 := ci hw3 (W.heap.size) 1 ay (by go_simp)
    have cw3_1_0 := ci hw3 (W.heap.size + 1) 0 bx (by go_simp)
    have cw3_1_1 := ci hw3 (W.heap.size + 1) 1 by' (by go_simp)
    have cw3_2_0 := ci hw3 (W.heap.size + 1 + 1) 0 cx (by go_simp)
    have cw3_2_1 := ci hw3 (W.heap.size + 1 + 1) 1 cy (by go_simp)
    have cw3_3_0 := ci hw3 (W.heap.size + 1 + 1 + 1) 0 dx (by go_simp)
    have cw3_3_1 := ci hw3 (W.heap.size + 1 + 1 + 1) 1 dy (by go_simp)
    have gw3 : Gr W w3 := Gr.trans (by have gg := gw2; have gs := gg.size; go_grown) hw3
    clear hw3 gw2 cw2_0_0 cw2_0_1 cw2_1_0 cw2_1_1 cw2_2_0 cw2_2_1 cw2_3_0 cw2_3_1
    go_wp2_with fail
    go_at_call 134
    refine ((H5.out _)).mono ?_
    rintro e w4 ⟨rfl, hw4⟩
    have cw4_0_0 := ci hw4 (W.heap.size) 0 ax (by go_simp)
    have cw4_0_1 := ci hw4 (W.heap.size) 1 ay (by go_simp)
    have cw4_1_0 := ci hw4 (W.heap.size + 1) 0 bx (by go_simp)
    have cw4_1_1 := ci hw4 (W.heap.size + 1) 1 by' (by go_simp)
    have cw4_2_0 := ci hw4 (W.heap.size + 1 + 1) 0 cx (by go_simp)
    have cw4_2_1 := ci hw4 (W.heap.size + 1 + 1) 1 cy (by go_simp)
    have cw4_3_0 := ci hw4 (W.heap.size + 1 + 1 + 1) 0 dx (by go_simp)
    have cw4_3_1 := ci hw4 (W.heap.size + 1 + 1 + 1) 1 dy (by go_simp)
    have gw4 : Gr W w4 := Gr.trans (by have gg := gw3; have gs := gg.size; go_grown) hw4
    clear hw4 gw3 cw3_0_0 cw3_0_1 cw3_1_0 cw3_1_1 cw3_2_0 cw3_2_1 cw3_3_0 cw3_3_1
    go_wp2_with fail
    go_at_call 134
    refine ((H6.out _)).mono ?_
    rintro e w5 ⟨rfl, hw5⟩
    have cw5_0_0 := ci hw5 (W.heap.size) 0 ax (by go_simp)
    have cw5_0_1 := ci hw5 (W.heap.size) 1 ay (by go_simp)
    have cw5_1_0 := ci hw5 (W.heap.size + 1) 0 bx (by go_simp)
    have cw5_1_1 := ci hw5 (W.heap.size + 1) 1 by' (by go_simp)
    have cw5_2_0 := ci hw5 (W.heap.size + 1 + 1) 0 cx (by go_simp)
    have cw5_2_1 := ci hw5 (W.heap.size + 1 + 1) 1 cy (by go_simp)
    have cw5_3_0 := ci hw5 (W.heap.size + 1 + 1 + 1) 0 dx (by go_simp)
    have cw5_3_1 := ci hw5 (W.heap.size + 1 + 1 + 1) 1 dy (by go_simp)
    have gw5 : Gr W w5 := Gr.trans (by have gg := gw4; have gs := gg.size; go_grown) hw5
    clear hw5 gw4 cw4_0_0 cw4_0_1 cw4_1_0 cw4_1_1 cw4_2_0 cw4_2_1 cw4_3_0 cw4_3_1
    go_wp2_with fail
    go_at_call 134
    refine ((H7.out _)).mono ?_
    rintro e w6 ⟨rfl, hw6⟩
    have cw6_0_0 := ci hw6 (W.heap.size) 0 ax (by go_simp)
    have cw6_0_1 := ci hw6 (W.heap.size) 1 ay (by go_simp)
    have cw6_1_0 := ci hw6 (W.heap.size + 1) 0 bx (by go_simp)
    have cw6_1_1 := ci hw6 (W.heap.size + 1) 1 by' (by go_simp)
    have cw6_2_0 := ci hw6 (W.heap.size + 1 + 1) 0 cx (by go_simp)
    have cw6_2_1 := ci hw6 (W.heap.size + 1 + 1) 1 cy (by go_simp)
    have cw6_3_0 := ci hw6 (W.heap.size + 1 + 1 + 1) 0 dx (by go_simp)
    have cw6_3_1 := ci hw6 (W.heap.size + 1 + 1 + 1) 1 dy (by go_simp)
    have gw6 : Gr W w6 := Gr.trans (by have gg := gw5; have gs := gg.size; go_grown) hw6
    clear hw6 gw5 cw5_0_0 cw5_0_1 cw5_1_0 cw5_1_1 cw5_2_0 cw5_2_1 cw5_3_0 cw5_3_1
    go_wp2_with fail
    go_ret
    exact ⟨rfl, by go_grown⟩
  · go_enter Tryz.func125, Tryz.ntmps125
    go_wp2_with fail
    go_at_call 142
    refine ((H1.out _)).mono ?_
    rintro e w1 ⟨rfl, hw1⟩
    have cw1_0_0 := ci hw1 (W.heap.size) 0 ax (by go_simp)
    have cw1_0_1 := ci hw1 (W.heap.size) 1 ay (by go_simp)
    have zw1_0 := zb cw1_0_0
    have cw1_1_0 := ci hw1 (W.heap.size + 1) 0 bx (by go_simp)
    have cw1_1_1 := ci hw1 (W.heap.size + 1) 1 by' (by go_simp)
    have zw1_1 := zb cw1_1_0
    have cw1_2_0 := ci hw1 (W.heap.size + 1 + 1) 0 cx (by go_simp)
    have cw1_2_1 := ci hw1 (W.heap.size + 1 + 1) 1 cy (by go_simp)
    have zw1_2 := zb cw1_2_0
    have cw1_3_0 := ci hw1 (W.heap.size + 1 + 1 + 1) 0 dx (by go_simp)
    have cw1_3_1 := ci hw1 (W.heap.size + 1 + 1 + 1) 1 dy (by go_simp)
    have zw1_3 := zb cw1_3_0
    have gw1 : Gr W w1 := Gr.trans (by go_grown) hw1
    clear hw1
    go_wp2_with fail
    go_at_call 116
    refine ((H2.out _ _ (by go_simp) (by go_simp) (by go_simp) (by go_simp) (by go_simp) (by go_simp) (by go_simp) (by go_simp) (by go_simp))).mono ?_
    rintro e w2 ⟨rfl, hw2⟩
    have cw2_0_0 := ci hw2 (W.heap.size) 0 ax (by go_simp)
    have cw2_0_1 := ci hw2 (W.heap.size) 1 ay (by go_simp)
    have cw2_1_0 := ci hw2 (W.heap.size + 1) 0 bx (by go_simp)
    have cw2_1_1 := ci hw2 (W.heap.size + 1) 1 by' (by go_simp)
    have cw2_2_0 := ci hw2 (W.heap.size + 1 + 1) 0 cx (by go_simp)
    have cw2_2_1 := ci hw2 (W.heap.size + 1 + 1) 1 cy (by go_simp)
    have cw2_3_0 := ci hw2 (W.heap.size + 1 + 1 + 1) 0 dx (by go_simp)
    have cw2_3_1 := ci hw2 (W.heap.size + 1 + 1 + 1) 1 dy (by go_simp)
    have gw2 : Gr W w2 := Gr.trans (by have gg := gw1; have gs := gg.size; go_grown) hw2
    clear hw2 gw1 zw1_0 cw1_0_0 cw1_0_1 zw1_1 cw1_1_0 cw1_1_1 zw1_2 cw1_2_0 cw1_2_1 zw1_3 cw1_3_0 cw1_3_1
    go_wp2_with fail
    go_at_call 143
    refine ((H3.out _)).mono ?_
    rintro e w3 ⟨rfl, hw3⟩
    have cw3_0_0 := ci hw3 (W.heap.size) 0 ax (by go_simp)
    have cw3_0_1 := ci hw3 (W.heap.size) 1 ay (by go_simp)
    have cw3_1_0 := ci hw3 (W.heap.size + 1) 0 bx (by go_simp)
    have cw3_1_1 := ci hw3 (W.heap.size + 1) 1 by' (by go_simp)
    have cw3_2_0 := ci hw3 (W.heap.size + 1 + 1) 0 cx (by go_simp)
    have cw3_2_1 := ci hw3 (W.heap.size + 1 + 1) 1 cy (by go_simp)
    have cw3_3_0 := ci hw3 (W.heap.size + 1 + 1 + 1) 0 dx (by go_simp)
    have cw3_3_1 := ci hw3 (W.heap.size + 1 + 1 + 1) 1 dy (by go_simp)
    have gw3 : Gr W w3 := Gr.trans (by have gg := gw2; have gs := gg.size; go_grown) hw3
    clear hw3 gw2 cw2_0_0 cw2_0_1 cw2_1_0 cw2_1_1 cw2_2_0 cw2_2_1 cw2_3_0 cw2_3_1
    go_wp2_with fail
    go_at_call 134
    refine ((H5.out _)).mono ?_
    rintro e w4 ⟨rfl, hw4⟩
    have cw4_0_0 := ci hw4 (W.heap.size) 0 ax (by go_simp)
    have cw4_0_1 := ci hw4 (W.heap.size) 1 ay (by go_simp)
    have cw4_1_0 := ci hw4 (W.heap.size + 1) 0 bx (by go_simp)
    have cw4_1_1 := ci hw4 (W.heap.size + 1) 1 by' (by go_simp)
    have cw4_2_0 := ci hw4 (W.heap.size + 1 + 1) 0 cx (by go_simp)
    have cw4_2_1 := ci hw4 (W.heap.size + 1 + 1) 1 cy (by go_simp)
    have cw4_3_0 := ci hw4 (W.heap.size + 1 + 1 + 1) 0 dx (by go_simp)
    have cw4_3_1 := ci hw4 (W.heap.size + 1 + 1 + 1) 1 dy (by go_simp)
    have gw4 : Gr W w4 := Gr.trans (by have gg := gw3; have gs := gg.size; go_grown) hw4
    clear hw4 gw3 cw3_0_0 cw3_0_1 cw3_1_0 cw3_1_1 cw3_2_0 cw3_2_1 cw3_3_0 cw3_3_1
    go_wp2_with fail
    go_at_call 134
    refine ((H6.out _)).mono ?_
    rintro e w5 ⟨rfl, hw5⟩
    have cw5_0_0 := ci hw5 (W.heap.size) 0 ax (by go_simp)
    have cw5_0_1 := ci hw5 (W.heap.size) 1 ay (by go_simp)
    have cw5_1_0 := ci hw5 (W.heap.size + 1) 0 bx (by go_simp)
    have cw5_1_1 := ci hw5 (W.heap.size + 1) 1 by' (by go_simp)
    have cw5_2_0 := ci hw5 (W.heap.size + 1 + 1) 0 cx (by go_simp)
    have cw5_2_1 := ci hw5 (W.heap.size + 1 + 1) 1 cy (by go_simp)
    have cw5_3_0 := ci hw5 (W.heap.size + 1 + 1 + 1) 0 dx (by go_simp)
    have cw5_3_1 := ci hw5 (W.heap.size + 1 + 1 + 1) 1 dy (by go_simp)
    have gw5 : Gr W w5 := Gr.trans (by have gg := gw4; have gs := gg.size; go_grown) hw5
    clear hw5 gw4 cw4_0_0 cw4_0_1 cw4_1_0 cw4_1_1 cw4_2_0 cw4_2_1 cw4_3_0 cw4_3_1
    go_wp2_with fail
    go_at_call 134
    refine ((H7.out _)).mono ?_
    rintro e w6 ⟨rfl, hw6⟩
    have cw6_0_0 := ci hw6 (W.heap.size) 0 ax (by go_simp)
    have cw6_0_1 := ci hw6 (W.heap.size) 1 ay (by go_simp)
    have cw6_1_0 := ci hw6 (W.heap.size + 1) 0 bx (by go_simp)
    have cw6_1_1 := ci hw6 (W.heap.size + 1) 1 by' (by go_simp)
    have cw6_2_0 := ci hw6 (W.heap.size + 1 + 1) 0 cx (by go_simp)
    have cw6_2_1 := ci hw6 (W.heap.size + 1 + 1) 1 cy (by go_simp)
    have cw6_3_0 := ci hw6 (W.heap.size + 1 + 1 + 1) 0 dx (by go_simp)
    have cw6_3_1 := ci hw6 (W.heap.size + 1 + 1 + 1) 1 dy (by go_simp)
    have gw6 : Gr W w6 := Gr.trans (by have gg := gw5; have gs := gg.size; go_grown) hw6
    clear hw6 gw5 cw5_0_0 cw5_0_1 cw5_1_0 cw5_1_1 cw5_2_0 cw5_2_1 cw5_3_0 cw5_3_1
    go_wp2_with fail
    go_at_call 134
    refine ((H8.out _)).mono ?_
    rintro e w7 ⟨rfl, hw7⟩
    have cw7_1_0 := ci hw7 (W.heap.size + 1) 0 bx (by go_simp)
    have cw7_1_1 := ci hw7 (W.heap.size + 1) 1 by' (by go_simp)
    have cw7_2_0 := ci hw7 (W.heap.size + 1 + 1) 0 cx (by go_simp)
    have cw7_2_1 := ci hw7 (W.heap.size + 1 + 1) 1 cy (by go_simp)
    have cw7_3_0 := ci hw7 (W.heap.size + 1 + 1 + 1) 0 dx (by go_simp)
    have cw7_3_1 := ci hw7 (W.heap.size + 1 + 1 + 1) 1 dy (by go_simp)
    have gw7 : Gr W w7 := Gr.trans (by have gg := gw6; have gs := gg.size; go_grown) hw7
    clear hw7 gw6 cw6_0_0 cw6_0_1 cw6_1_0 cw6_1_1 cw6_2_0 cw6_2_1 cw6_3_0 cw6_3_1
    go_wp2_with fail
    go_ret
    exact ⟨rfl, by go_grown⟩
theorem orZ_sg {ax ay bx by' cx cy : Int} (h : nearB ax ay = true ∧ nearB bx by' = true ∧ nearB cx cy = true) : orZ ax ay bx by' cx cy = sg ax ay bx by' cx cy := by
  unfold orZ sg cr crossZ
  rw [if_pos (by simp [h])]
theorem c_gMeet (ax ay bx by' cx cy dx dy : Int) (W : World) : Calls Tryz.prog 125 #[.agg #[.int .i64 ax, .int .i64 ay], .agg #[.int .i64 bx, .int .i64 by'], .agg #[.int .i64 cx, .int .i64 cy], .agg #[.int .i64 dx, .int .i64 dy]] W fun e w' => e = .returned (.bool (meG ax ay bx by' cx cy dx dy)) ∧ Gr W w' := by
  refine meet_core ax ay bx by' cx cy dx dy _ _ _ _ _ _ _ _ _ W ?_ (c_apart ax ay bx by' cx cy dx dy) (fun b w => c_gMayBe4 ax ay bx by' cx cy dx dy _ rfl b w) (c_sides ax ay bx by' cx cy dx dy) (c_sides cx cy dx dy ax ay bx by') (c_gon ax ay bx by' cx cy) (c_gon ax ay bx by' dx dy) (c_gon cx cy dx dy ax ay) (c_gon cx cy dx dy bx by')
  unfold meG
  rw [← meC_eq]
  unfold meC
  have hq0 : all4 ax ay bx by' cx cy dx dy = (nearB ax ay && nearB bx by' && nearB cx cy && nearB dx dy) := rfl
  rw [← hq0]
  cases hap : apF ax ay bx by' cx cy dx dy
  · cases hq : all4 ax ay bx by' cx cy dx dy
    · exact Or.inr (Or.inl ⟨rfl, rfl, rfl⟩)
    · have hn : nearB ax ay = true ∧ nearB bx by' = true ∧ nearB cx cy = true ∧ nearB dx dy = true := by
        unfold all4 at hq
        simpa [and_assoc] using hq
      obtain ⟨n1, n2, n3, n4⟩ := hn
      rw [orZ_sg ⟨n1, n2, n3⟩, orZ_sg ⟨n1, n2, n4⟩, orZ_sg ⟨n3, n4, n1⟩, orZ_sg ⟨n3, n4, n2⟩]
      rw [onC_eq (by simp [*]), onC_eq (by simp [*]), onC_eq (by simp [*]), onC_eq (by simp [*])]
      rw [if_neg (by simp)]
      unfold enF
      generalize onF ax ay bx by' cx cy = o1
      generalize onF ax ay bx by' dx dy = o2
      generalize onF cx cy dx dy ax ay = o3
      generalize onF cx cy dx dy bx by' = o4
      have hs : ∀ k, sdZ k = 0 ∨ sdZ k = 1 ∨ sdZ k = 2 := fun k => by unfold sdZ; split <;> (try split) <;> simp
      have t1 := hs (sg ax ay bx by' cx cy * sg ax ay bx by' dx dy)
      generalize sdZ (sg ax ay bx by' cx cy * sg ax ay bx by' dx dy) = s1 at *
      generalize sdZ (sg cx cy dx dy ax ay * sg cx cy dx dy bx by') = s2 at *
      rcases t1 with rfl | rfl | rfl
      · exact Or.inr (Or.inr (Or.inl ⟨rfl, rfl, rfl, rfl⟩))
      · by_cases h2 : s2 = 1
        · subst h2
          exact Or.inr (Or.inr (Or.inr (Or.inl ⟨rfl, rfl, rfl, rfl, rfl⟩)))
        · refine Or.inr (Or.inr (Or.inr (Or.inr (Or.inl ⟨rfl, rfl, rfl, by simpa using h2, ?_⟩))))
          rw [if_neg (by decide), if_neg (by simp [h2])]
          cases o1 <;> cases o2 <;> cases o3 <;> simp
      · refine Or.inr (Or.inr (Or.inr (Or.inr (Or.inr ⟨rfl, rfl, rfl, ?_⟩))))
        rw [if_neg (by decide), if_neg (by simp)]
        cases o1 <;> cases o2 <;> cases o3 <;> simp
  · left
    refine ⟨rfl, ?_⟩
    rw [if_pos rfl, Bool.and_false]
def prG (ax ay bx by' cx cy dx dy : Int) : Bool := all4 ax ay bx by' cx cy dx dy && prF ax ay bx by' cx cy dx dy
end Go.Proofs.YtfobmlgpjhghdaaGreatDoor
namespace Go.Proofs.YtfobmlgpjhghdaaGreatDoor.Rg
set_option linter.unusedVariables false
def foF (ax ay bx by' cx cy : Int) : Bool := (!(decide (cx = bx) && decide (cy = by')) && onG ax ay bx by' cx cy) || (!(decide (ax = bx) && decide (ay = by')) && onG bx by' cx cy ax ay)
def ovF (ax ay cx cy bx by' : Int) : Bool := !(decide (ax = cx) && decide (ay = cy)) && (!(decide (bx = cx) && decide (by' = cy)) && (decide (cr cx cy ax ay bx by' = 0) && decide (0 < (ax - cx) * (bx - cx) + (ay - cy) * (by' - cy))))
theorem pos_of_mul {a b : Int} (ha : 0 < a) (h : 0 ≤ a * b) : 0 ≤ b := by
  rcases Int.lt_or_le b 0 with h1 | h1
  · have := Int.mul_neg_of_pos_of_neg ha h1; omega
  · exact h1
theorem neg_of_mul {a b : Int} (ha : a < 0) (h : 0 ≤ a * b) : b ≤ 0 := by
  rcases Int.lt_or_le 0 b with h1 | h1
  · have := Int.mul_neg_of_neg_of_pos ha h1; omega
  · exact h1
theorem same_dir {u1 u2 v1 v2 : Int} (hc : u1 * v2 = u2 * v1) (hd : 0 < u1 * v1 + u2 * v2) : 0 ≤ u1 * v1 ∧ 0 ≤ u2 * v2 := by
  have e : (u1 * v1) * (u2 * v2) = (u1 * v2) * (u1 * v2) := by
    have : (u1 * v1) * (u2 * v2) = (u1 * v2) * (u2 * v1) := by grind
    rw [this, ← hc]
  have h0 : 0 ≤ (u1 * v2) * (u1 * v2) := by
    rcases Int.le_total 0 (u1 * v2) with h | h
    · exact Int.mul_nonneg h h
    · exact Int.mul_nonneg_of_nonpos_of_nonpos h h
  constructor
  · rcases Int.lt_or_le (u1 * v1) 0 with h | h
    · have : 0 < u2 * v2 := by omega
      have := Int.mul_neg_of_neg_of_pos h this
      omega
    · exact h
  · rcases Int.lt_or_le (u2 * v2) 0 with h | h
    · have : 0 < u1 * v1 := by omega
      have := Int.mul_neg_of_pos_of_neg this h
      omega
    · exact h
theorem bet0 {u v : Int} (h : 0 ≤ u * v) (hv : v.natAbs ≤ u.natAbs) : (0 ≤ v ∧ v ≤ u) ∨ (u ≤ v ∧ v ≤ 0) := by
  rcases Int.lt_trichotomy u 0 with h1 | h1 | h1
  · have := neg_of_mul h1 h; omega
  · omega
  · have := pos_of_mul h1 h; omega
theorem prop_abs {u1 u2 v1 v2 : Int} (hc : u1 * v2 = u2 * v1) (h : v1.natAbs ≤ u1.natAbs) (h0 : u1 ≠ 0) : v2.natAbs ≤ u2.natAbs := by
  have e : u1.natAbs * v2.natAbs = u2.natAbs * v1.natAbs := by rw [← Int.natAbs_mul, ← Int.natAbs_mul, hc]
  have h2 : u2.natAbs * v1.natAbs ≤ u2.natAbs * u1.natAbs := Nat.mul_le_mul_left _ h
  rw [← e, Nat.mul_comm] at h2
  exact Nat.le_of_mul_le_mul_right h2 (by omega)
theorem dir_within {u1 u2 v1 v2 : Int} (hc : u1 * v2 = u2 * v1) (hd : 0 < u1 * v1 + u2 * v2) :
    (v1.natAbs ≤ u1.natAbs ∧ v2.natAbs ≤ u2.natAbs) ∨ (u1.natAbs ≤ v1.natAbs ∧ u2.natAbs ≤ v2.natAbs) := by
  by_cases hu : u1 = 0
  · subst hu
    have h1 : u2 * v1 = 0 := by rw [← hc]; simp
    have h2 : u2 ≠ 0 := by rintro rfl; simp at hd
    have h3 : v1 = 0 := by
      rcases Int.mul_eq_zero.1 h1 with h | h
      · exact absurd h h2
      · exact h
    subst h3
    rcases Nat.le_total v2.natAbs u2.natAbs with h | h
    · exact Or.inl ⟨Nat.le_refl _, h⟩
    · exact Or.inr ⟨Nat.le_refl _, h⟩
  by_cases hv : v1 = 0
  · subst hv
    have h1 : u1 * v2 = 0 := by rw [hc]; simp
    have h3 : v2 = 0 := by
      rcases Int.mul_eq_zero.1 h1 with h | h
      · exact absurd h hu
      · exact h
    subst h3
    simp at hd
  rcases Nat.le_total v1.natAbs u1.natAbs with h | h
  · exact Or.inl ⟨h, prop_abs hc h hu⟩
  · exact Or.inr ⟨h, prop_abs (u1 := v1) (u2 := v2) (v1 := u1) (v2 := u2) (by rw [Int.mul_comm, ← hc, Int.mul_comm]) h hv⟩
theorem onG_near {ax ay bx by' px py : Int} (h1 : nearB ax ay = true) (h2 : nearB bx by' = true) (h3 : nearB px py = true) : onG ax ay bx by' px py = onF ax ay bx by' px py := by
  unfold onG; rw [h1, h2, h3]; rfl
theorem bet_mul {a b p : Int} (h : (a ≤ p ∧ p ≤ b) ∨ (b ≤ p ∧ p ≤ a)) : 0 ≤ (a - b) * (p - b) := by
  rcases h with h | h
  · exact Int.mul_nonneg_of_nonpos_of_nonpos (by omega) (by omega)
  · exact Int.mul_nonneg (by omega) (by omega)
theorem bet_pos {a b p : Int} (h : (a ≤ p ∧ p ≤ b) ∨ (b ≤ p ∧ p ≤ a)) (hp : p ≠ b) : 0 < (a - b) * (p - b) := by
  rcases h with h | h
  · exact Int.mul_pos_of_neg_of_neg (by omega) (by omega)
  · exact Int.mul_pos (by omega) (by omega)
theorem ov_of_on {ax ay bx by' px py : Int} (h : onF ax ay bx by' px py = true) (hp : ¬ (px = bx ∧ py = by')) :
    ¬ (ax = bx ∧ ay = by') ∧ cr bx by' ax ay px py = 0 ∧ 0 < (ax - bx) * (px - bx) + (ay - by') * (py - by') := by
  rw [onF_iff, btw_iff] at h
  obtain ⟨⟨h1, h2⟩, h3⟩ := h
  refine ⟨?_, ?_, ?_⟩
  · rintro ⟨e1, e2⟩; exact hp ⟨by omega, by omega⟩
  · unfold cr at *; grind
  · by_cases hx : px = bx
    · have hy : py ≠ by' := fun e => hp ⟨hx, e⟩
      have := bet_mul h1
      have := bet_pos h2 hy
      omega
    · have := bet_pos h1 hx
      have := bet_mul h2
      omega
theorem on_of_ov {ax ay bx by' px py : Int} (hc : cr bx by' ax ay px py = 0) (h1 : 0 ≤ (ax - bx) * (px - bx)) (h2 : 0 ≤ (ay - by') * (py - by')) (h3 : (px - bx).natAbs ≤ (ax - bx).natAbs) (h4 : (py - by').natAbs ≤ (ay - by').natAbs) :
    onF ax ay bx by' px py = true := by
  rw [onF_iff, btw_iff]
  have k1 := bet0 h1 h3
  have k2 := bet0 h2 h4
  refine ⟨⟨by omega, by omega⟩, ?_⟩
  unfold cr at *; grind
theorem fo_ov {ax ay bx by' cx cy : Int} (h1 : nearB ax ay = true) (h2 : nearB bx by' = true) (h3 : nearB cx cy = true) : foF ax ay bx by' cx cy = ovF ax ay bx by' cx cy := by
  unfold foF
  rw [onG_near h1 h2 h3, onG_near h2 h3 h1, Bool.eq_iff_iff]
  unfold ovF
  simp only [Bool.or_eq_true, Bool.and_eq_true, Bool.not_eq_true', decide_eq_true_eq, ← Bool.not_eq_true]
  constructor
  · rintro (⟨k1, k2⟩ | ⟨k1, k2⟩)
    · obtain ⟨j1, j2, j3⟩ := ov_of_on k2 k1
      exact ⟨j1, k1, j2, j3⟩
    · have k2' : onF cx cy bx by' ax ay = true := by
        rw [onF_iff, btw_iff] at k2 ⊢
        refine ⟨⟨by omega, by omega⟩, ?_⟩
        have := k2.2
        unfold cr at *; grind
      obtain ⟨j1, j2, j3⟩ := ov_of_on k2' k1
      refine ⟨k1, j1, ?_, ?_⟩
      · unfold cr at *; grind
      · grind
  · rintro ⟨k1, k2, k3, k4⟩
    have hc : (ax - bx) * (cy - by') = (ay - by') * (cx - bx) := by unfold cr at k3; grind
    obtain ⟨s1, s2⟩ := same_dir hc k4
    rcases dir_within hc k4 with ⟨w1, w2⟩ | ⟨w1, w2⟩
    · left
      exact ⟨k2, on_of_ov k3 s1 s2 w1 w2⟩
    · right
      refine ⟨k1, ?_⟩
      have k3' : cr bx by' cx cy ax ay = 0 := by unfold cr at *; grind
      have := on_of_ov k3' (by rw [Int.mul_comm]; exact s1) (by rw [Int.mul_comm]; exact s2) w1 w2
      rw [onF_iff, btw_iff] at this ⊢
      refine ⟨⟨by omega, by omega⟩, ?_⟩
      have := this.2
      unfold cr at *; grind
theorem fo_flip (ax ay bx by' cx cy : Int) : foF cx cy bx by' ax ay = foF ax ay bx by' cx cy := by
  have e : ∀ ax ay bx by' px py, onG bx by' ax ay px py = onG ax ay bx by' px py := by
    intro ax ay bx by' px py
    have h : onF bx by' ax ay px py = onF ax ay bx by' px py := by
      rw [Bool.eq_iff_iff, onF_iff, onF_iff, btw_iff, btw_iff]
      unfold cr
      constructor
      · rintro ⟨⟨h1, h2⟩, h3⟩; exact ⟨⟨by omega, by omega⟩, by grind⟩
      · rintro ⟨⟨h1, h2⟩, h3⟩; exact ⟨⟨by omega, by omega⟩, by grind⟩
    unfold onG
    rw [h]
    cases nearB ax ay <;> cases nearB bx by' <;> cases nearB px py <;> rfl
  unfold foF
  rw [e bx by' cx cy ax ay, e ax ay bx by' cx cy, Bool.or_comm]
def nx1 (n i : Nat) : Nat := if i + 1 = n then 0 else i + 1
def clF (n : Nat) (X Y : Nat → Int) (i j : Nat) : Bool :=
  if j = i + 1 then foF (X i) (Y i) (X j) (Y j) (X (nx1 n j)) (Y (nx1 n j))
  else if i = 0 ∧ j + 1 = n then foF (X j) (Y j) (X 0) (Y 0) (X 1) (Y 1)
  else meG (X i) (Y i) (X (i + 1)) (Y (i + 1)) (X j) (Y j) (X (nx1 n j)) (Y (nx1 n j))
def bdF (n : Nat) (X Y : Nat → Int) (i j : Nat) : Bool := (decide (X i = X j) && decide (Y i = Y j)) || clF n X Y i j
def rowF (n : Nat) (X Y : Nat → Int) (i : Nat) : Bool := (List.range n).any fun j => decide (i < j) && bdF n X Y i j
def ringC (n : Nat) (X Y : Nat → Int) : Nat × Nat :=
  if n < 3 ∨ 64 < n then (3, n)
  else match (List.range n).find? (fun i => !nearB (X i) (Y i)) with
    | some i => (2, i)
    | none => match (List.range n).find? (rowF n X Y) with
      | some i => (4, i)
      | none => (0, 0)
theorem find_some {p : Nat → Bool} {n i : Nat} (hi : i < n) (h1 : p i = true) (h2 : ∀ k, k < i → p k = false) : (List.range n).find? p = some i := by
  rw [List.find?_range_eq_some]
  exact ⟨h1, List.mem_range.2 hi, fun k hk => by rw [h2 k hk]; rfl⟩
theorem find_none {p : Nat → Bool} {n : Nat} (h : ∀ k, k < n → p k = false) : (List.range n).find? p = none := by
  rw [List.find?_range_eq_none]
  intro k hk
  rw [h k hk]; rfl
theorem rowF_iff {n : Nat} {X Y : Nat → Int} {i : Nat} : rowF n X Y i = true ↔ ∃ j, i < j ∧ j < n ∧ bdF n X Y i j = true := by
  unfold rowF
  rw [List.any_eq_true]
  constructor
  · rintro ⟨j, h1, h2⟩
    rw [Bool.and_eq_true, decide_eq_true_eq] at h2
    exact ⟨j, h2.1, List.mem_range.1 h1, h2.2⟩
  · rintro ⟨j, h1, h2, h3⟩
    exact ⟨j, List.mem_range.2 h2, by rw [h3, decide_eq_true h1]; rfl⟩
theorem rowF_no {n : Nat} {X Y : Nat → Int} {i : Nat} (h : ∀ j, i < j → j < n → bdF n X Y i j = false) : rowF n X Y i = false := by
  rw [← Bool.not_eq_true, rowF_iff]
  rintro ⟨j, h1, h2, h3⟩
  rw [h j h1 h2] at h3
  cases h3
theorem ringC_3 {n : Nat} {X Y : Nat → Int} (h : n < 3 ∨ 64 < n) : ringC n X Y = (3, n) := by unfold ringC; rw [if_pos h]
theorem ringC_2 {n : Nat} {X Y : Nat → Int} (h : ¬ (n < 3 ∨ 64 < n)) {i : Nat} (hi : i < n) (h1 : nearB (X i) (Y i) = false) (h2 : ∀ k, k < i → nearB (X k) (Y k) = true) : ringC n X Y = (2, i) := by
  unfold ringC; rw [if_neg h, find_some hi (by rw [h1]; rfl) (fun k hk => by rw [h2 k hk]; rfl)]
theorem ringC_4 {n : Nat} {X Y : Nat → Int} (h : ¬ (n < 3 ∨ 64 < n)) (hn : ∀ k, k < n → nearB (X k) (Y k) = true) {i j : Nat} (hi : i < j) (hj : j < n) (h1 : bdF n X Y i j = true) (h2 : ∀ k, k < i → ∀ m, k < m → m < n → bdF n X Y k m = false) : ringC n X Y = (4, i) := by
  unfold ringC
  rw [if_neg h, find_none (fun k hk => by rw [hn k hk]; rfl)]
  show (match (List.range n).find? (rowF n X Y) with | some i => (4, i) | none => (0, 0)) = (4, i)
  rw [find_some (by omega) (rowF_iff.2 ⟨j, hi, hj, h1⟩) (fun k hk => rowF_no (h2 k hk))]
theorem ringC_0 {n : Nat} {X Y : Nat → Int} (h : ¬ (n < 3 ∨ 64 < n)) (hn : ∀ k, k < n → nearB (X k) (Y k) = true) (h2 : ∀ k, k < n → ∀ m, k < m → m < n → bdF n X Y k m = false) : ringC n X Y = (0, 0) := by
  unfold ringC
  rw [if_neg h, find_none (fun k hk => by rw [hn k hk]; rfl)]
  show (match (List.range n).find? (rowF n X Y) with | some i => (4, i) | none => (0, 0)) = (0, 0)
  rw [find_none (fun k hk => rowF_no (h2 k hk))]
theorem ringC_ok {n : Nat} {X Y : Nat → Int} (h : (ringC n X Y).1 = 0) : ¬ (n < 3 ∨ 64 < n) ∧ (∀ k, k < n → nearB (X k) (Y k) = true) ∧ (∀ k m, k < m → m < n → bdF n X Y k m = false) ∧ ringC n X Y = (0, 0) := by
  unfold ringC at h
  by_cases h0 : n < 3 ∨ 64 < n
  · rw [if_pos h0] at h; cases h
  rw [if_neg h0] at h
  have key : (∀ k, k < n → nearB (X k) (Y k) = true) ∧ (∀ k m, k < m → m < n → bdF n X Y k m = false) := by
    cases e1 : (List.range n).find? (fun i => !nearB (X i) (Y i)) with
    | some i => rw [e1] at h; cases h
    | none =>
      rw [e1] at h
      replace h : (match (List.range n).find? (rowF n X Y) with | some i => (4, i) | none => (0, 0)).1 = 0 := h
      cases e2 : (List.range n).find? (rowF n X Y) with
      | some i => rw [e2] at h; cases h
      | none =>
        rw [List.find?_range_eq_none] at e1 e2
        refine ⟨fun k hk => ?_, fun k m hkm hm => ?_⟩
        · have := e1 k hk; simpa using this
        · have h3 := e2 k (by omega)
          rw [← Bool.not_eq_true]
          intro h4
          rw [rowF_iff.2 ⟨m, hkm, hm, h4⟩] at h3
          cases h3
  exact ⟨h0, key.1, key.2, ringC_0 h0 key.1 (fun k hk m => key.2 k m)⟩
def ovR (ax ay bx by' px py : Int) : Bool :=
  if by' ≤ py ∧ py < ay then decide (0 < cr bx by' ax ay px py)
  else if ay ≤ py ∧ py < by' then decide (0 < cr ax ay bx by' px py) else false
def onN (n : Nat) (X Y : Nat → Int) (px py : Int) : Nat → Bool
  | 0 => false
  | k + 1 => onN n X Y px py k || onG (X k) (Y k) (X (nx1 n k)) (Y (nx1 n k)) px py
def odN (n : Nat) (X Y : Nat → Int) (px py : Int) : Nat → Bool
  | 0 => false
  | k + 1 => odN n X Y px py k != ovR (X k) (Y k) (X (nx1 n k)) (Y (nx1 n k)) px py
def hasN (n : Nat) (X Y : Nat → Int) (px py : Int) : Bool := onN n X Y px py n || odN n X Y px py n
theorem onN_iff {n : Nat} {X Y : Nat → Int} {px py : Int} : ∀ k, onN n X Y px py k = true ↔ ∃ i, i < k ∧ onG (X i) (Y i) (X (nx1 n i)) (Y (nx1 n i)) px py = true := by
  intro k
  induction k with
  | zero => simp [onN]
  | succ k ih =>
    simp only [onN, Bool.or_eq_true, ih]
    constructor
    · rintro (⟨i, h1, h2⟩ | h)
      · exact ⟨i, by omega, h2⟩
      · exact ⟨k, by omega, h⟩
    · rintro ⟨i, h1, h2⟩
      rcases Nat.lt_succ_iff_lt_or_eq.1 h1 with h | rfl
      · exact Or.inl ⟨i, h, h2⟩
      · exact Or.inr h2
theorem nearB_iff' {x y : Int} : nearB x y = true ↔ -1073741823 ≤ x ∧ x ≤ 1073741823 ∧ -1073741823 ≤ y ∧ y ≤ 1073741823 := by
  unfold nearB; simp [and_assoc]
end Go.Proofs.YtfobmlgpjhghdaaGreatDoor.Rg
namespace Go.Proofs.YtfobmlgpjhghdaaGreatDoor
set_option linter.unusedVariables false
open Go.ChangeShapes Go.WideShapes Go.ChangeAt Go.RowKit
def Pts (w : World) (v : Value) (n : Nat) (X Y : Nat → Int) : Prop :=
  ∃ (ad : Option Addr) (cap B off : Nat), v = .slice ad n cap ∧ n ≤ cap ∧ cap ≤ 9223372036854775807 ∧ (0 < n → ad = some ⟨B, off, none⟩) ∧ ∀ k, k < n → w.cell? ⟨B, off + k * 2, none⟩ = some (.int .i64 (X k)) ∧ w.cell? ⟨B, off + k * 2 + 1, none⟩ = some (.int .i64 (Y k))
theorem pts_gr {a b : World} {v : Value} {n : Nat} {X Y : Nat → Int} (h : Pts a v n X Y) (g : Gr a b) : Pts b v n X Y := by
  obtain ⟨ad, cap, B, off, h1, h2, h3, h4, h5⟩ := h
  exact ⟨ad, cap, B, off, h1, h2, h3, h4, fun k hk => ⟨cell_gr g (h5 k hk).1, cell_gr g (h5 k hk).2⟩⟩
abbrev ringS : ByteArray := ⟨#[114, 105, 110, 103]⟩
set_option maxRecDepth 100000 in
theorem c_blame (id k : Int) (W : World) : Calls Tryz.prog 85 #[.int .i64 id, .iface 66 (.int .i64 k)] W fun e w' => ∃ B, e = .returned (.iface 84 (.pointer (some ⟨B, 0, none⟩))) ∧ W.heap.size ≤ B ∧ FaultAt w' B ringS id k ∧ Gr W w' := by
  go_enter Tryz.func85, Tryz.ntmps85
  go_wp2_with fail
  go_ret
  exact ⟨_, rfl, Nat.le_refl _, ⟨by go_simp, by go_simp, by go_simp⟩, by go_grown⟩
set_option maxHeartbeats 1000000 in
set_option maxRecDepth 100000 in
theorem c_next {n : Nat} {X Y : Nat → Int} {v : Value} (W : World) (h : Pts W v n X Y) (i : Nat) (hi : i < n) (hn : n ≤ 1000000) :
    Calls Tryz.prog 115 #[v, .int .i64 i] W fun e w' => e = .returned (.agg #[.int .i64 (X (Rg.nx1 n i)), .int .i64 (Y (Rg.nx1 n i))]) ∧ Gr W w' := by
  obtain ⟨ad, cap, B, off, rfl, h1, h2, h3, h4⟩ := h
  obtain rfl := h3 (by omega)
  have hib : (i : Int) ≤ 1000000 := by omega
  by_cases c : i + 1 = n
  · have e : Rg.nx1 n i = 0 := by unfold Rg.nx1; rw [if_pos c]
    obtain ⟨k0, k1⟩ := h4 0 (by omega)
    rw [Nat.zero_mul, Nat.add_zero] at k0 k1
    rw [e]
    obtain ⟨x, ex⟩ : ∃ x, x = X 0 := ⟨_, rfl⟩
    obtain ⟨y, ey⟩ : ∃ x, x = Y 0 := ⟨_, rfl⟩
    rw [← ex] at k0 ⊢
    rw [← ey] at k1 ⊢
    have t1 : ((i : Int) + 1 == (n : Int)) = true := by simp; omega
    have t2 : (0 : Int) < (n : Int) := by omega
    have t3 : 0 < n := by omega
    have hB := World.block_lt_of_cell? _ _ k0
    clear h3 h4 e ex ey c
    go_enter Tryz.func115, Tryz.ntmps115
    go_wp2_with fail
    refine bodyPost_ret (v := .agg #[.int .i64 x, .int .i64 y]) (by simp [results, Tryz.results115, go_sem, *]) rfl ⟨rfl, by go_grown⟩
  · have e : Rg.nx1 n i = i + 1 := by unfold Rg.nx1; rw [if_neg c]
    obtain ⟨k0, k1⟩ := h4 (i + 1) (by omega)
    rw [e]
    obtain ⟨x, ex⟩ : ∃ x, x = X (i + 1) := ⟨_, rfl⟩
    obtain ⟨y, ey⟩ : ∃ x, x = Y (i + 1) := ⟨_, rfl⟩
    rw [← ex] at k0 ⊢
    rw [← ey] at k1 ⊢
    have t1 : ((i : Int) + 1 == (n : Int)) = false := by simp; omega
    have t2 : (i : Int) + 1 < (n : Int) := by omega
    have hB := World.block_lt_of_cell? _ _ k0
    clear h3 h4 e ex ey c
    go_enter Tryz.func115, Tryz.ntmps115
    go_wp2_with fail
    refine bodyPost_ret (v := .agg #[.int .i64 x, .int .i64 y]) (by simp [results, Tryz.results115, go_sem, *]) rfl ⟨rfl, by go_grown⟩
theorem nePt (ax ay bx by' : Int) (w : World) : (binOp .neq 26 (.agg #[.int .i64 ax, .int .i64 ay]) (.agg #[.int .i64 bx, .int .i64 by'])).run Tryz.prog w = .ok (.bool (!(decide (ax = bx) && decide (ay = by')))) w := by
  by_cases h1 : ax = bx <;> by_cases h2 : ay = by' <;> simp [go_sem, h1, h2]
set_option maxHeartbeats 2000000 in
set_option maxRecDepth 100000 in
theorem folds_core (ax ay bx by' cx cy : Int) (q1 o1 q2 o2 r : Bool) (W : World)
    (E1 : ∀ w, (binOp .neq 26 (.agg #[.int .i64 cx, .int .i64 cy]) (.agg #[.int .i64 bx, .int .i64 by'])).run Tryz.prog w = .ok (.bool q1) w)
    (E2 : ∀ w, (binOp .neq 26 (.agg #[.int .i64 ax, .int .i64 ay]) (.agg #[.int .i64 bx, .int .i64 by'])).run Tryz.prog w = .ok (.bool q2) w)
    (A1 : ∀ w, Calls Tryz.prog 110 #[.agg #[.int .i64 ax, .int .i64 ay], .agg #[.int .i64 bx, .int .i64 by'], .agg #[.int .i64 cx, .int .i64 cy]] w fun e w' => e = .returned (.bool o1) ∧ Gr w w')
    (A2 : ∀ w, Calls Tryz.prog 110 #[.agg #[.int .i64 bx, .int .i64 by'], .agg #[.int .i64 cx, .int .i64 cy], .agg #[.int .i64 ax, .int .i64 ay]] w fun e w' => e = .returned (.bool o2) ∧ Gr w w')
    (hr : r = ((q1 && o1) || (q2 && o2))) :
    Calls Tryz.prog 124 #[.agg #[.int .i64 ax, .int .i64 ay], .agg #[.int .i64 bx, .int .i64 by'], .agg #[.int .i64 cx, .int .i64 cy]] W fun e w' => e = .returned (.bool r) ∧ Gr W w' := by
  have H1 := Lib.hid A1
  have H2 := Lib.hid A2
  clear A1 A2
  subst hr
  cases q1
  · cases q2
    · go_enter Tryz.func124, Tryz.ntmps124
      go_wp2_with fail
      go_ret
      exact ⟨rfl, by go_grown⟩
    · simp only [Bool.false_and, Bool.true_and, Bool.false_or]
      go_enter Tryz.func124, Tryz.ntmps124
      go_wp2_with fail
      go_at_call 110
      (with_reducible refine ((H2.out _)).mono ?_)
      rintro e w1 ⟨rfl, hw1⟩
      have cw1_0_0 := ci hw1 (W.heap.size) 0 ax (by go_simp)
      have cw1_0_1 := ci hw1 (W.heap.size) 1 ay (by go_simp)
      have cw1_1_0 := ci hw1 (W.heap.size + 1) 0 bx (by go_simp)
      have cw1_1_1 := ci hw1 (W.heap.size + 1) 1 by' (by go_simp)
      have cw1_2_0 := ci hw1 (W.heap.size + 1 + 1) 0 cx (by go_simp)
      have cw1_2_1 := ci hw1 (W.heap.size + 1 + 1) 1 cy (by go_simp)
      have gw1 : Gr W w1 := Gr.trans (by go_grown) hw1
      clear hw1
      go_wp2_with fail
      go_ret
      exact ⟨rfl, by go_grown⟩
  · cases o1
    · cases q2
      · go_enter Tryz.func124, Tryz.ntmps124
        go_wp2_with fail
        go_at_call 110
        (with_reducible refine ((H1.out _)).mono ?_)
        rintro e w1 ⟨rfl, hw1⟩
        have cw1_0_0 := ci hw1 (W.heap.size) 0 ax (by go_simp)
        have cw1_0_1 := ci hw1 (W.heap.size) 1 ay (by go_simp)
        have cw1_1_0 := ci hw1 (W.heap.size + 1) 0 bx (by go_simp)
        have cw1_1_1 := ci hw1 (W.heap.size + 1) 1 by' (by go_simp)
        have cw1_2_0 := ci hw1 (W.heap.size + 1 + 1) 0 cx (by go_simp)
        have cw1_2_1 := ci hw1 (W.heap.size + 1 + 1) 1 cy (by go_simp)
        have gw1 : Gr W w1 := Gr.trans (by go_grown) hw1
        clear hw1
        go_wp2_with fail
        go_ret
        exact ⟨rfl, by go_grown⟩
      · simp only [Bool.and_false, Bool.true_and, Bool.false_or]
        go_enter Tryz.func124, Tryz.ntmps124
        go_wp2_with fail
        go_at_call 110
        (with_reducible refine ((H1.out _)).mono ?_)
        rintro e w1 ⟨rfl, hw1⟩
        have cw1_0_0 := ci hw1 (W.heap.size) 0 ax (by go_simp)
        have cw1_0_1 := ci hw1 (W.heap.size) 1 ay (by go_simp)
        have cw1_1_0 := ci hw1 (W.heap.size + 1) 0 bx (by go_simp)
        have cw1_1_1 := ci hw1 (W.heap.size + 1) 1 by' (by go_simp)
        have cw1_2_0 := ci hw1 (W.heap.size + 1 + 1) 0 cx (by go_simp)
        have cw1_2_1 := ci hw1 (W.heap.size + 1 + 1) 1 cy (by go_simp)
        have gw1 : Gr W w1 := Gr.trans (by go_grown) hw1
        clear hw1
        go_wp2_with fail
        go_at_call 110
        (with_reducible refine ((H2.out _)).mono ?_)
        rintro e w2 ⟨rfl, hw2⟩
        have gw2 : Gr W w2 := Gr.trans (by have gg := gw1; have gs := gg.size; go_grown) hw2
        clear hw2 gw1 cw1_0_0 cw1_0_1 cw1_1_0 cw1_1_1 cw1_2_0 cw1_2_1
        go_wp2_with fail
        go_ret
        exact ⟨rfl, by go_grown⟩
    · simp only [Bool.and_true, Bool.true_or]
      go_enter Tryz.func124, Tryz.ntmps124
      go_wp2_with fail
      go_at_call 110
      (with_reducible refine ((H1.out _)).mono ?_)
      rintro e w1 ⟨rfl, hw1⟩
      have cw1_0_0 := ci hw1 (W.heap.size) 0 ax (by go_simp)
      have cw1_0_1 := ci hw1 (W.heap.size) 1 ay (by go_simp)
      have cw1_1_0 := ci hw1 (W.heap.size + 1) 0 bx (by go_simp)
      have cw1_1_1 := ci hw1 (W.heap.size + 1) 1 by' (by go_simp)
      have cw1_2_0 := ci hw1 (W.heap.size + 1 + 1) 0 cx (by go_simp)
      have cw1_2_1 := ci hw1 (W.heap.size + 1 + 1) 1 cy (by go_simp)
      have gw1 : Gr W w1 := Gr.trans (by go_grown) hw1
      clear hw1
      go_wp2_with fail
      go_ret
      exact ⟨rfl, by go_grown⟩
theorem c_folds (ax ay bx by' cx cy : Int) (W : World) : Calls Tryz.prog 124 #[.agg #[.int .i64 ax, .int .i64 ay], .agg #[.int .i64 bx, .int .i64 by'], .agg #[.int .i64 cx, .int .i64 cy]] W fun e w' => e = .returned (.bool (Rg.foF ax ay bx by' cx cy)) ∧ Gr W w' :=
  folds_core ax ay bx by' cx cy _ _ _ _ _ W (nePt cx cy bx by') (nePt ax ay bx by') (c_gOn ax ay bx by' cx cy) (c_gOn bx by' cx cy ax ay) rfl
set_option maxHeartbeats 4000000 in
set_option maxRecDepth 100000 in
theorem c_clash {n : Nat} {X Y : Nat → Int} {v : Value} (W : World) (h : Pts W v n X Y) (i j : Nat) (hij : i < j) (hj : j < n) (hn3 : 3 ≤ n) (hn : n ≤ 1000000) :
    Calls Tryz.prog 86 #[v, .int .i64 i, .int .i64 j] W fun e w' => e = .returned (.bool (Rg.clF n X Y i j)) ∧ Gr W w' := by
  have HP := Lib.hid h
  have NX := Lib.hid (fun w (g : Gr W w) => c_next w (pts_gr h g) j hj hn)
  obtain ⟨ad, cap, B, off, rfl, h1, h2, h3, h4⟩ := h
  obtain rfl := h3 (by omega)
  obtain ⟨i0, i1⟩ := h4 i (by omega)
  obtain ⟨j0, j1⟩ := h4 j hj
  obtain ⟨z0, z1⟩ := h4 0 (by omega)
  obtain ⟨o0, o1⟩ := h4 1 (by omega)
  obtain ⟨s0, s1⟩ := h4 (i + 1) (by omega)
  rw [Nat.zero_mul, Nat.add_zero] at z0 z1
  rw [Nat.one_mul] at o0 o1
  have hib : (i : Int) ≤ 1000000 := by omega
  have hjb : (j : Int) ≤ 1000000 := by omega
  have b1 : (i : Int) < (n : Int) := by omega
  have b2 : (j : Int) < (n : Int) := by omega
  have b3 : (1 : Int) < (n : Int) := by omega
  have b4 : (0 : Int) < (n : Int) := by omega
  have b5 : (i : Int) + 1 < (n : Int) := by omega
  unfold Rg.clF
  generalize X (Rg.nx1 n j) = nxx at NX ⊢
  generalize Y (Rg.nx1 n j) = nxy at NX ⊢
  generalize X i = xi at i0 ⊢
  generalize Y i = yi at i1 ⊢
  generalize X j = xj at j0 ⊢
  generalize Y j = yj at j1 ⊢
  generalize X 0 = x0 at z0 ⊢
  generalize Y 0 = y0 at z1 ⊢
  generalize X 1 = x1 at o0 ⊢
  generalize Y 1 = y1 at o1 ⊢
  generalize X (i + 1) = xs at s0 ⊢
  generalize Y (i + 1) = ys at s1 ⊢
  clear h3 h4 HP
  by_cases c1 : j = i + 1
  · have t1 : ((j : Int) == (i : Int) + 1) = true := by simp; omega
    rw [if_pos c1]
    have F := Lib.hid (c_folds xi yi xj yj nxx nxy)
    generalize Rg.foF xi yi xj yj nxx nxy = q at F ⊢
    clear c1 z0 z1 o0 o1 s0 s1
    go_enter Tryz.func86, Tryz.ntmps86
    go_wp2_with fail
    refine wp_region_spread (by kernel_rfl) (by kernel_rfl) ?_
    try simp only [List.append]
    repeat (first | go_big_quiet_skip | (go_big_quiet_want; go_big_quiet_op; (first | go_big_quiet_on | (apply Exists.intro; refine ⟨fun _ => ?_, ?_⟩; (· (first | (go_at_call 115; first | ((with_reducible refine ((NX.out _ (gr_spread _ _))).mono ?_); rintro e w' ⟨rfl, hg⟩; exact ⟨rfl, spread_gr hg⟩)) | (go_at_call 124; first | ((with_reducible refine ((F.out _)).mono ?_); rintro e w' ⟨rfl, hg⟩; exact ⟨rfl, spread_gr hg⟩)))); go_big_quiet_on))))
    refine wpQuiet_nil ?_
    intro wr hr
    obtain ⟨mr, rfl⟩ := hr
    go_wp2_with fail
    go_ret
    exact ⟨rfl, gr_spread _ _⟩
  have t1 : ((j : Int) == (i : Int) + 1) = false := by simp; omega
  rw [if_neg c1]
  by_cases c2 : i = 0 ∧ j + 1 = n
  · rw [if_pos c2]
    have t2 : ((i : Int) == 0) = true := by simp [c2.1]
    have t3 : ((j : Int) == (n : Int) - 1) = true := by simp; omega
    have F := Lib.hid (c_folds xj yj x0 y0 x1 y1)
    generalize Rg.foF xj yj x0 y0 x1 y1 = q at F ⊢
    clear c2 s0 s1 i0 i1 NX c1
    go_enter Tryz.func86, Tryz.ntmps86
    go_wp2_with fail
    refine wp_region_spread (by kernel_rfl) (by kernel_rfl) ?_
    try simp only [List.append]
    repeat (first | go_big_quiet_skip | (go_big_quiet_want; go_big_quiet_op; (first | go_big_quiet_on | (apply Exists.intro; refine ⟨fun _ => ?_, ?_⟩; (· (first | (go_at_call 124; first | ((with_reducible refine ((F.out _)).mono ?_); rintro e w' ⟨rfl, hg⟩; exact ⟨rfl, spread_gr hg⟩)))); go_big_quiet_on))))
    refine wpQuiet_nil ?_
    intro wr hr
    obtain ⟨mr, rfl⟩ := hr
    go_wp2_with fail
    go_ret
    exact ⟨rfl, gr_spread _ _⟩
  rw [if_neg c2]
  have F := Lib.hid (c_gMeet xi yi xs ys xj yj nxx nxy)
  generalize meG xi yi xs ys xj yj nxx nxy = q at F ⊢
  by_cases c3 : i = 0
  · have t2 : ((i : Int) == 0) = true := by simp [c3]
    have t3 : ((j : Int) == (n : Int) - 1) = false := by simp; omega
    clear c2 c3 c1 z0 z1 o0 o1
    go_enter Tryz.func86, Tryz.ntmps86
    go_wp2_with fail
    refine wp_region_spread (by kernel_rfl) (by kernel_rfl) ?_
    try simp only [List.append]
    repeat (first | go_big_quiet_skip | (go_big_quiet_want; go_big_quiet_op; (first | go_big_quiet_on | (apply Exists.intro; refine ⟨fun _ => ?_, ?_⟩; (· (first | (go_at_call 115; first | ((with_reducible refine ((NX.out _ (gr_spread _ _))).mono ?_); rintro e w' ⟨rfl, hg⟩; exact ⟨rfl, spread_gr hg⟩)) | (go_at_call 125; first | ((with_reducible refine ((F.out _)).mono ?_); rintro e w' ⟨rfl, hg⟩; exact ⟨rfl, spread_gr hg⟩)))); go_big_quiet_on))))
    refine wpQuiet_nil ?_
    intro wr hr
    obtain ⟨mr, rfl⟩ := hr
    go_wp2_with fail
    go_ret
    exact ⟨rfl, gr_spread _ _⟩
  · have t2 : ((i : Int) == 0) = false := by simp [c3]
    clear c2 c3 c1 z0 z1 o0 o1
    go_enter Tryz.func86, Tryz.ntmps86
    go_wp2_with fail
    refine wp_region_spread (by kernel_rfl) (by kernel_rfl) ?_
    try simp only [List.append]
    repeat (first | go_big_quiet_skip | (go_big_quiet_want; go_big_quiet_op; (first | go_big_quiet_on | (apply Exists.intro; refine ⟨fun _ => ?_, ?_⟩; (· (first | (go_at_call 115; first | ((with_reducible refine ((NX.out _ (gr_spread _ _))).mono ?_); rintro e w' ⟨rfl, hg⟩; exact ⟨rfl, spread_gr hg⟩)) | (go_at_call 125; first | ((with_reducible refine ((F.out _)).mono ?_); rintro e w' ⟨rfl, hg⟩; exact ⟨rfl, spread_gr hg⟩)))); go_big_quiet_on))))
    refine wpQuiet_nil ?_
    intro wr hr
    obtain ⟨mr, rfl⟩ := hr
    go_wp2_with fail
    go_ret
    exact ⟨rfl, gr_spread _ _⟩
end Go.Proofs.YtfobmlgpjhghdaaGreatDoor
namespace Go.Proofs.YtfobmlgpjhghdaaGreatDoor
set_option linter.unusedVariables false
open Go.ChangeShapes Go.WideShapes Go.ChangeAt Go.RowKit
def AErr (op : ByteArray) (w : World) (v : Value) (id k : Nat) : Prop := (v = .nilIface ∧ k = 0) ∨ ∃ B, v = .iface 84 (.pointer (some ⟨B, 0, none⟩)) ∧ 1 ≤ k ∧ k ≤ 15 ∧ FaultAt w B op id k
theorem eqPt2 (ax ay bx by' : Int) (w : World) : (binOp .eql 26 (.agg #[.int .i64 ax, .int .i64 ay]) (.agg #[.int .i64 bx, .int .i64 by'])).run Tryz.prog w = .ok (.bool (decide (ax = bx) && decide (ay = by'))) w := by
  rw [eqPt, Bool.decide_and]
def RingTo (W : World) (n : Nat) (X Y : Nat → Int) (e : Ending) (w' : World) : Prop := ∃ x, e = .returned x ∧ AErr ringS w' x (Rg.ringC n X Y).2 (Rg.ringC n X Y).1 ∧ Gr W w'
theorem ringTo_err {W w' : World} {n : Nat} {X Y : Nat → Int} {k id B : Nat} (e : Rg.ringC n X Y = (k, id)) (h1 : 1 ≤ k ∧ k ≤ 15) (hF : FaultAt w' B ringS id k) (g : Gr W w') :
    RingTo W n X Y (.returned (.iface 84 (.pointer (some ⟨B, 0, none⟩)))) w' := by
  refine ⟨_, rfl, ?_, g⟩
  rw [e]
  exact Or.inr ⟨B, rfl, h1.1, h1.2, hF⟩
set_option maxHeartbeats 8000000 in
set_option maxRecDepth 100000 in
theorem c_ringCheck {n : Nat} {X Y : Nat → Int} {v : Value} (W : World) (h : Pts W v n X Y) :
    Calls Tryz.prog 52 #[v] W (RingTo W n X Y) := by
  have HP := Lib.hid h
  obtain ⟨ad, cap, B, off, rfl, h1, h2, h3, h4⟩ := h
  have h2i : (n : Int) ≤ 9223372036854775807 := by omega
  by_cases c1 : n < 3
  · have t1 : decide ((n : Int) < 3) = true := decide_eq_true (by omega)
    have t2 : (n : Int) < 3 := by omega
    have hk := Rg.ringC_3 (X := X) (Y := Y) (show n < 3 ∨ 64 < n by omega)
    have HK := Lib.hid hk
    clear hk h3 h4 c1
    go_enter Tryz.func52, Tryz.ntmps52
    go_wp2_with fail
    go_at_call 85
    (with_reducible refine (c_blame n 3 _).mono ?_)
    rintro e w1 ⟨B1, rfl, hB, hFa, g1⟩
    go_wp2_with fail
    go_ret
    exact ringTo_err HK.out (by decide) hFa g1
  have t1 : decide ((n : Int) < 3) = false := decide_eq_false (by omega)
  have t2 : ¬ (n : Int) < 3 := by omega
  by_cases c2 : 64 < n
  · have t3 : decide ((64 : Int) < (n : Int)) = true := decide_eq_true (by omega)
    have t4 : (64 : Int) < (n : Int) := by omega
    have hk := Rg.ringC_3 (X := X) (Y := Y) (show n < 3 ∨ 64 < n by omega)
    have HK := Lib.hid hk
    clear hk h3 h4 c1
    go_enter Tryz.func52, Tryz.ntmps52
    go_wp2_with fail
    go_at_call 85
    (with_reducible refine (c_blame n 3 _).mono ?_)
    rintro e w1 ⟨B1, rfl, hB, hFa, g1⟩
    go_wp2_with fail
    go_ret
    exact ringTo_err HK.out (by decide) hFa g1
  have t3 : decide ((64 : Int) < (n : Int)) = false := decide_eq_false (by omega)
  have t4 : ¬ (64 : Int) < (n : Int) := by omega
  have hn64 : (n : Int) ≤ 64 := by omega
  have hn0 : ¬ (n < 3 ∨ 64 < n) := by omega
  obtain rfl := h3 (by omega)
  have HX := Lib.hid h4
  have HN := Lib.hid hn0
  clear h3 h4 hn0
  go_enter Tryz.func52, Tryz.ntmps52
  go_wp2_with fail
  go_loopg [22] n (fun k y wr => ∃ i : Nat, y = .int .i64 i ∧ i ≤ n ∧ k = n - i ∧ (∀ m, m < i → nearB (X m) (Y m) = true) ∧ Gr W wr)
  case atStart => exact ⟨0, rfl, Nat.zero_le _, by omega, fun m hm => absurd hm (by omega), Below.refl _ _⟩
  case round =>
    obtain ⟨i, rfl, hi, hk, hnr, hg⟩ := hrel
    have HNR := Lib.hid hnr
    clear hnr
    by_cases hin : i < n
    · have ti : decide ((i : Int) < (n : Int)) = true := decide_eq_true (by omega)
      have ti2 : decide (i < n) = true := decide_eq_true hin
      have ti3 : (i : Int) < (n : Int) := by omega
      obtain ⟨k0, k1⟩ := HX.out i hin
      have p0 := cell_gr hg k0
      have p1 := cell_gr hg k1
      have CP := c_CheckPoint (X i) (Y i)
      have hmm : n - (i + 1) < gk := by omega
      clear k0 k1 hk
      cases hq : nearB (X i) (Y i)
      · rw [hq, if_neg (by decide)] at CP
        have hk := Rg.ringC_2 HN.out hin hq HNR.out
        have HC := Lib.hid CP
        have HK := Lib.hid hk
        generalize X i = x at p0 HC
        generalize Y i = y at p1 HC
        clear CP hk hq
        go_wp2_with fail
        go_at_call 45
        (with_reducible refine (HC.out _).mono ?_)
        rintro e w1 ⟨rfl, g1⟩
        have G1 : Gr W w1 := Gr.trans (Gr.trans hg (by go_grown)) g1
        go_wp2_with fail
        go_at_call 85
        (with_reducible refine (c_blame i 2 _).mono ?_)
        rintro e w2 ⟨B1, rfl, hB, hFa, g2⟩
        go_wp2_with fail
        go_ret
        exact ringTo_err HK.out (by decide) hFa (Gr.trans G1 g2)
      · rw [hq, if_pos rfl] at CP
        have hnx : ∀ m, m < i + 1 → nearB (X m) (Y m) = true := fun m hm => by
          rcases Nat.lt_succ_iff_lt_or_eq.1 hm with h | rfl
          · exact HNR.out m h
          · exact hq
        have HC := Lib.hid CP
        have HNX := Lib.hid hnx
        generalize X i = x at p0 HC
        generalize Y i = y at p1 HC
        clear CP hq hnx
        go_wp2_with fail
        go_at_call 45
        (with_reducible refine (HC.out _).mono ?_)
        rintro e w1 ⟨rfl, g1⟩
        have G1 : Gr W w1 := Gr.trans (Gr.trans hg (by go_grown)) g1
        go_wp2_with fail
        go_roundg (n - (i + 1))
        case measure => exact hmm
        case rel => exact ⟨i + 1, by go_num, hin, rfl, HNX.out, G1⟩
    · obtain rfl : n = i := by omega
      have ti : decide ((n : Int) < (n : Int)) = false := decide_eq_false (by omega)
      have ti2 : decide (n < n) = false := decide_eq_false (by omega)
      clear hk hin
      go_wp2_with fail
      obtain ⟨wo, rfl⟩ : ∃ wo : World, wo = wr := ⟨_, rfl⟩
      go_loopg [37] n (fun k y wr => ∃ i : Nat, y = .int .i64 i ∧ i ≤ n ∧ k = n - i ∧ (∀ a, a < i → ∀ b, a < b → b < n → Rg.bdF n X Y a b = false) ∧ Gr W wr)
      case atStart => exact ⟨0, rfl, Nat.zero_le _, by omega, fun a ha => absurd ha (by omega), hg⟩
      case round =>
        obtain ⟨i, rfl, hi, hk, hbd, hg2⟩ := hrel
        have HB := Lib.hid hbd
        clear hbd
        by_cases hin : i < n
        · have ti : decide ((i : Int) < (n : Int)) = true := decide_eq_true (by omega)
          have ti2 : decide (i < n) = true := decide_eq_true hin
          have ti3 : (i : Int) < (n : Int) := by omega
          have hmm : n - (i + 1) < gk := by omega
          clear hk
          go_wp2_with fail
          obtain ⟨wp, rfl⟩ : ∃ wp : World, wp = wr := ⟨_, rfl⟩
          go_loopg [7] (n - (i + 1)) (fun k y wr => ∃ j : Nat, y = .int .i64 j ∧ i < j ∧ j ≤ n ∧ k = n - j ∧ (∀ b, i < b → b < j → Rg.bdF n X Y i b = false) ∧ Gr W wr)
          case atStart => exact ⟨i + 1, by go_num, by omega, by omega, rfl, fun b h1 h2 => absurd h1 (by omega), hg2⟩
          case round =>
            obtain ⟨j, rfl, hij, hj, hk, hbj, hg3⟩ := hrel
            have HBJ := Lib.hid hbj
            clear hbj
            by_cases hjn : j < n
            · have tj : decide ((j : Int) < (n : Int)) = true := decide_eq_true (by omega)
              have tj2 : decide (j < n) = true := decide_eq_true hjn
              have tj3 : (j : Int) < (n : Int) := by omega
              obtain ⟨k0, k1⟩ := HX.out i hin
              obtain ⟨l0, l1⟩ := HX.out j hjn
              have p0 := cell_gr hg3 k0
              have p1 := cell_gr hg3 k1
              have q0 := cell_gr hg3 l0
              have q1 := cell_gr hg3 l1
              have CC := fun w (g : Gr wr w) => c_clash w (pts_gr HP.out (Gr.trans hg3 g)) i j hij hjn (by have := HN.out; omega) (by omega)
              have E := eqPt2 (X i) (Y i) (X j) (Y j)
              have hbe : Rg.bdF n X Y i j = ((decide (X i = X j) && decide (Y i = Y j)) || Rg.clF n X Y i j) := rfl
              generalize (decide (X i = X j) && decide (Y i = Y j)) = qe at E hbe
              generalize Rg.clF n X Y i j = qc at CC hbe
              generalize X i = xi at p0 E
              generalize Y i = yi at p1 E
              generalize X j = xj at q0 E
              generalize Y j = yj at q1 E
              have HC := Lib.hid CC
              have hmm2 : n - (j + 1) < gk := by omega
              clear CC k0 k1 l0 l1 hk
              cases qe
              · cases qc
                · have hnx : ∀ b, i < b → b < j + 1 → Rg.bdF n X Y i b = false := fun b h1 h2 => by
                    rcases Nat.lt_succ_iff_lt_or_eq.1 h2 with h | rfl
                    · exact HBJ.out b h1 h
                    · exact hbe
                  have HNX := Lib.hid hnx
                  clear hnx hbe
                  have gwr := hg3
                  go_wp2_with fail
                  refine wp_region_spread (by kernel_rfl) (by kernel_rfl) ?_
                  try simp only [List.append]
                  repeat (first | go_big_quiet_skip | (go_big_quiet_want; go_big_quiet_op; (first | go_big_quiet_on | (apply Exists.intro; refine ⟨fun _ => ?_, ?_⟩; (· (first | (go_at_call 86; first | ((with_reducible refine ((HC.out _ (gr_spread _ _))).mono ?_); rintro e w' ⟨rfl, hg⟩; exact ⟨rfl, spread_gr hg⟩)))); go_big_quiet_on))))
                  refine wpQuiet_nil ?_
                  intro wr hr
                  obtain ⟨mr, rfl⟩ := hr
                  have G1 := Gr.trans hg3 (gr_spread wr mr)
                  go_wp2_with fail
                  go_roundg (n - (j + 1))
                  case measure => exact hmm2
                  case rel => exact ⟨j + 1, by go_num, by omega, hjn, rfl, HNX.out, G1⟩
                · have hk := Rg.ringC_4 HN.out HNR.out hij hjn hbe HB.out
                  have HK := Lib.hid hk
                  clear hk hbe
                  have gwr := hg3
                  go_wp2_with fail
                  refine wp_region_spread (by kernel_rfl) (by kernel_rfl) ?_
                  try simp only [List.append]
                  repeat (first | go_big_quiet_skip | (go_big_quiet_want; go_big_quiet_op; (first | go_big_quiet_on | (apply Exists.intro; refine ⟨fun _ => ?_, ?_⟩; (· (first | (go_at_call 86; first | ((with_reducible refine ((HC.out _ (gr_spread _ _))).mono ?_); rintro e w' ⟨rfl, hg⟩; exact ⟨rfl, spread_gr hg⟩)))); go_big_quiet_on))))
                  refine wpQuiet_nil ?_
                  intro wr hr
                  obtain ⟨mr, rfl⟩ := hr
                  have G1 := Gr.trans hg3 (gr_spread wr mr)
                  go_wp2_with fail
                  go_at_call 85
                  (with_reducible refine (c_blame i 4 _).mono ?_)
                  rintro e w2 ⟨B1, rfl, hB, hFa, g2⟩
                  go_wp2_with fail
                  go_ret
                  exact ringTo_err HK.out (by decide) hFa (Gr.trans G1 g2)
              · have hk := Rg.ringC_4 HN.out HNR.out hij hjn (hbe.trans (Bool.true_or _)) HB.out
                have HK := Lib.hid hk
                clear hk hbe
                have gwr := hg3
                go_wp2_with fail
                refine wp_region_spread (by kernel_rfl) (by kernel_rfl) ?_
                try simp only [List.append]
                repeat (first | go_big_quiet_skip | (go_big_quiet_want; go_big_quiet_op; (first | go_big_quiet_on | (apply Exists.intro; refine ⟨fun _ => ?_, ?_⟩; (· fail); go_big_quiet_on))))
                refine wpQuiet_nil ?_
                intro wr hr
                obtain ⟨mr, rfl⟩ := hr
                have G1 := Gr.trans hg3 (gr_spread wr mr)
                go_wp2_with fail
                go_at_call 85
                (with_reducible refine (c_blame i 4 _).mono ?_)
                rintro e w2 ⟨B1, rfl, hB, hFa, g2⟩
                go_wp2_with fail
                go_ret
                exact ringTo_err HK.out (by decide) hFa (Gr.trans G1 g2)
            · obtain rfl : n = j := by omega
              have tj : decide ((n : Int) < (n : Int)) = false := decide_eq_false (by omega)
              have tj2 : decide (n < n) = false := decide_eq_false (by omega)
              have hnx : ∀ a, a < i + 1 → ∀ b, a < b → b < n → Rg.bdF n X Y a b = false := fun a ha b h1 h2 => by
                rcases Nat.lt_succ_iff_lt_or_eq.1 ha with h | rfl
                · exact HB.out a h b h1 h2
                · exact HBJ.out b h1 h2
              have HNX := Lib.hid hnx
              clear hnx hk hjn
              go_wp2_with fail
              go_roundg (n - (i + 1))
              case measure => exact hmm
              case rel => exact ⟨i + 1, by go_num, hin, rfl, HNX.out, hg3⟩
        · obtain rfl : n = i := by omega
          have ti4 : decide ((n : Int) < (n : Int)) = false := decide_eq_false (by omega)
          have hk0 := Rg.ringC_0 HN.out HNR.out HB.out
          have HK := Lib.hid hk0
          clear hk0 hk hin
          go_wp2_with fail
          go_ret
          exact ⟨.nilIface, rfl, by rw [HK.out]; exact Or.inl ⟨rfl, rfl⟩, hg2⟩
end Go.Proofs.YtfobmlgpjhghdaaGreatDoor
namespace Go.Proofs.YtfobmlgpjhghdaaGreatDoor
set_option linter.unusedVariables false
open Go.ChangeShapes Go.WideShapes Go.ChangeAt Go.RowKit Go.Shelf
attribute [local go_sem] Oper.semAt_some
abbrev edgeV (n : Nat) (X Y : Nat → Int) (k : Nat) : Array Value := #[.agg #[.int .i64 (X k), .int .i64 (Y k)], .agg #[.int .i64 (X (Rg.nx1 n k)), .int .i64 (Y (Rg.nx1 n k))]]
theorem gr_grown {a b : World} (g : Gr a b) : a.grownBy b none := ⟨g.os, g.tape, g.output, g.size, fun k hk _ => g.block k hk⟩
def KK (B C : Nat) (a b : World) : Prop := a.heap.size ≤ b.heap.size ∧ b.heap[B]? = a.heap[B]? ∧ b.heap[C]? = a.heap[C]?
theorem KK.refl (B C : Nat) (a : World) : KK B C a a := ⟨Nat.le_refl _, rfl, rfl⟩
theorem KK.trans {B C : Nat} {a b c : World} (h : KK B C a b) (k : KK B C b c) : KK B C a c := ⟨Nat.le_trans h.1 k.1, k.2.1.trans h.2.1, k.2.2.trans h.2.2⟩
theorem KK.gr {B C : Nat} {a b c : World} (h : KK B C a b) (g : Gr b c) (h1 : B < b.heap.size) (h2 : C < b.heap.size) : KK B C a c := h.trans ⟨g.size, g.block B h1, g.block C h2⟩
theorem cell_heap {a b : World} {B o : Nat} (h : b.heap[B]? = a.heap[B]?) : b.cell? ⟨B, o, none⟩ = a.cell? ⟨B, o, none⟩ := by
  simp only [World.cell?, h]
theorem KK.cell1 {B C o : Nat} {a b : World} {u : Value} (h : KK B C a b) (hc : a.cell? ⟨B, o, none⟩ = some u) : b.cell? ⟨B, o, none⟩ = some u := (cell_heap h.2.1).trans hc
theorem KK.cell2 {B C o : Nat} {a b : World} {u : Value} (h : KK B C a b) (hc : a.cell? ⟨C, o, none⟩ = some u) : b.cell? ⟨C, o, none⟩ = some u := (cell_heap h.2.2).trans hc
theorem kk_put {B C N : Nat} (h1 : B < N) (h2 : C < N) (W : World) (l : Nat) (o o' : Obj) (hl : N ≤ l) (_ : W.heap[l]? = some o) (_ : o.isCells = false) (_ : o.isWalk = false) : KK B C W (W.putObj l o') := by
  refine ⟨by simp, ?_, ?_⟩
  · exact World.putObj_heap_other (by omega)
  · exact World.putObj_heap_other (by omega)
set_option maxHeartbeats 8000000 in
set_option maxRecDepth 100000 in
theorem edges1_in (m : Nat) (hm : 1 ≤ m) (l Bs B off n cap : Nat) (X Y : Nat → Int) (hn : n ≤ 1000) (hn3 : 1 ≤ n) (J Jx : List Nat → World → Prop) (W : World) (hJa : AbidesFrom W.heap.size J)
    (hY : ∀ pre x W1, J pre W1 → pre.length < n → YieldAt Fence.wide (m - 1) Tryz.prog l (edgeV n X Y x) W1 fun e W' =>
      (e = .returned (.bool true) ∧ J (pre ++ [x]) W' ∧ KK B Bs W1 W') ∨ (e = .returned (.bool false) ∧ Jx (pre ++ [x]) W'))
    (hBs : W.cell? ⟨Bs, 0, none⟩ = some (.slice (some ⟨B, off, none⟩) n cap)) (hcap : n ≤ cap) (hcap2 : cap ≤ 9223372036854775807) (hC : ∀ k, k < n → W.cell? ⟨B, off + k * 2, none⟩ = some (.int .i64 (X k)) ∧ W.cell? ⟨B, off + k * 2 + 1, none⟩ = some (.int .i64 (Y k))) (h0 : J [] W) :
    CallsIn Fence.wide m Tryz.prog 114 #[.func (.yield l) #[] #[], .pointer (some ⟨Bs, 0, none⟩)] W fun e W' => (∃ v, e = .returned v) ∧
      ((∃ ys, ys = List.range n ∧ J ys W') ∨ (∃ pre, (∃ k, k ≤ n ∧ pre = List.range k) ∧ Jx pre W')) := by
  have HY := Lib.hid hY
  have HC := Lib.hid hC
  have HJ := Lib.hid hJa
  clear hY hJa hC
  refine callsIn_of_wp Tryz.func114 rfl trivial ?_ rfl
  simp only [Tryz.ntmps114, List.size_toArray, List.length_cons, List.length_nil, Nat.reduceAdd, Nat.reduceSub, Array.replicate_succ, Array.replicate_zero, List.push_toArray, List.append_toArray, List.nil_append, List.cons_append]
  gi_wp2
  gi_loopw [7] (fun i wr => ∃ k : Nat, k ≤ n ∧ i = .int .i64 k ∧ J (List.range k) wr ∧ KK B Bs W wr)
    (fun i _ => n - (intOf i).toNat)
  case atStart => exact ⟨0, Nat.zero_le _, rfl, h0, KK.refl _ _ _⟩
  case round =>
    obtain ⟨k, hk, rfl, hJs, hnx⟩ := hrel
    by_cases hlt : k < n
    · have ti : decide ((k : Int) < (n : Int)) = true := decide_eq_true (by omega)
      have ti3 : (k : Int) < (n : Int) := by omega
      have hkb : (k : Int) ≤ 1000 := by omega
      have hc0 : wr.cell? ⟨Bs, 0, none⟩ = some (.slice (some ⟨B, off, none⟩) n cap) := hnx.cell2 hBs
      obtain ⟨k0, k1⟩ := HC.out k hlt
      have p0 := hnx.cell1 k0
      have p1 := hnx.cell1 k1
      have hBs1 : Bs < wr.heap.size := World.block_lt_of_cell? _ _ hc0
      have hB1 : B < wr.heap.size := World.block_lt_of_cell? _ _ p0
      have NX : ∀ w, KK B Bs W w → Calls Tryz.prog 115 #[.slice (some ⟨B, off, none⟩) n cap, .int .i64 k] w fun e w' => e = .returned (.agg #[.int .i64 (X (Rg.nx1 n k)), .int .i64 (Y (Rg.nx1 n k))]) ∧ Gr w w' := fun w g =>
        c_next w ⟨_, cap, B, off, rfl, hcap, hcap2, fun _ => rfl, fun j hj => ⟨g.cell1 (HC.out j hj).1, g.cell1 (HC.out j hj).2⟩⟩ k hlt (by omega)
      have HNX := Lib.hid NX
      have HYk := Lib.hid (fun W1 (h : J (List.range k) W1) => HY.out (List.range k) k W1 h (by rw [List.length_range]; exact hlt))
      unfold edgeV at HYk
      generalize X k = xk at p0 HYk
      generalize Y k = yk at p1 HYk
      generalize X (Rg.nx1 n k) = xn at HNX HYk
      generalize Y (Rg.nx1 n k) = yn at HNX HYk
      clear NX k0 k1
      have HJs := Lib.hid hJs
      have hmx : Tryz.prog.follows .mixedOrders = true := by kernel_rfl
      gi_wp2
      gi_region_with_o (first
        | (refine ⟨trivial, ?_⟩; gi_at_call 115; (refine (callsIn_wide.2 (HNX.out _ (hnx.gr (by go_grown) hB1 hBs1))).mono ?_); rintro e w' ⟨rfl, gx⟩; (have gy : Gr wr w' := Gr.trans (by go_grown) gx); (have d0 : w'.cell? ⟨wr.heap.size, 0, none⟩ = some (.int .i64 xk) := cell_gr gx (by go_simp)); (have d1 : w'.cell? ⟨wr.heap.size, 1, none⟩ = some (.int .i64 yk) := cell_gr gx (by go_simp)); (obtain ⟨fn, tmps, assign, body, hy, hR⟩ := HYk.out w' (HJ.out _ _ _ none HJs.out (gr_grown gy) (fun r e => by cases e))); (have hR2 := Lib.hid (hR.mono (R' := fun e W' => ∃ b : Bool, e = .returned (.bool b) ∧ ((b = true ∧ J (List.range k ++ [k]) W' ∧ KK B Bs w' W') ∨ (b = false ∧ Jx (List.range k ++ [k]) W'))) (fun e W' h => by rcases h with ⟨rfl, h⟩ | ⟨rfl, h⟩; exact ⟨true, rfl, Or.inl ⟨rfl, h⟩⟩; exact ⟨false, rfl, Or.inr ⟨rfl, h⟩⟩))); clear gx)
        | (refine hR2.out.mono ?_; rintro e W3 ⟨b, rfl, h3⟩))
      all_goals
        rcases h3 with ⟨rfl, hJ3, hk3⟩ | ⟨rfl, hJx3⟩
        · gi_wp2
          go_roundw
          case rel => exact ⟨k + 1, by omega, by go_num, by rw [List.range_succ]; exact hJ3, (hnx.gr gy hB1 hBs1).trans hk3⟩
          case measure => simp [intOf]; omega
        · gi_wp2
          refine bodyPost_ret (results_none rfl _ _ _) rfl ?_
          exact ⟨⟨_, rfl⟩, .inr ⟨_, ⟨k + 1, by omega, List.range_succ.symm⟩, hJx3⟩⟩
    · obtain rfl : n = k := by omega
      have ti : decide ((n : Int) < (n : Int)) = false := decide_eq_false (by omega)
      gi_wp2
      go_end0
      exact ⟨⟨_, rfl⟩, .inl ⟨_, rfl, hJs⟩⟩
theorem edges_stops (m : Nat) (hm : 1 ≤ m) (Bs B off n cap : Nat) (X Y : Nat → Int) (hn : n ≤ 1000) (hn3 : 1 ≤ n) (w : World) (hBs : w.cell? ⟨Bs, 0, none⟩ = some (.slice (some ⟨B, off, none⟩) n cap)) (hcap : n ≤ cap) (hcap2 : cap ≤ 9223372036854775807)
    (hC : ∀ k, k < n → w.cell? ⟨B, off + k * 2, none⟩ = some (.int .i64 (X k)) ∧ w.cell? ⟨B, off + k * 2 + 1, none⟩ = some (.int .i64 (Y k))) :
    SeqStopsK Fence.wide m Tryz.prog 114 #[.pointer (some ⟨Bs, 0, none⟩)] (edgeV n X Y) (KK B Bs) (fun ys => ys = List.range n) (fun pre => ∃ k, k ≤ n ∧ pre = List.range k) n w := fun l J Jx W hW hJ _ hY h0 =>
  edges1_in m hm l Bs B off n cap X Y hn hn3 J Jx W hJ hY (cell_gr hW hBs) hcap hcap2 (fun k hk => ⟨cell_gr hW (hC k hk).1, cell_gr hW (hC k hk).2⟩) h0
set_option maxHeartbeats 1000000 in
set_option maxRecDepth 100000 in
theorem c_Edges (ad : Option Addr) (n cap : Nat) (W : World) : Calls Tryz.prog 76 #[.slice ad n cap] W fun e w' => e = .returned (.func (.func 114) #[] #[.pointer (some ⟨W.heap.size, 0, none⟩)]) ∧ w' = W.alloc (.cells #[.slice ad n cap] 22) := by
  go_enter Tryz.func76, Tryz.ntmps76
  go_wp2_with fail
  go_ret
  exact ⟨rfl, rfl⟩
end Go.Proofs.YtfobmlgpjhghdaaGreatDoor
namespace Go.Proofs.YtfobmlgpjhghdaaGreatDoor
set_option linter.unusedVariables false
open Go.ChangeShapes Go.WideShapes Go.ChangeAt Go.RowKit Go.Shelf
attribute [local go_sem] Oper.semAt_some
def Box2 (W : World) (B : Nat) (x y : Int) : Prop := W.heap[B]? = some (.cells #[.int .i64 x, .int .i64 y] 26 (0, 0))
theorem Box2.lt {W : World} {B : Nat} {x y : Int} (h : Box2 W B x y) : B < W.heap.size := (Array.getElem?_eq_some_iff.1 h).1
theorem Box2.cells {W : World} {B : Nat} {x y : Int} (h : Box2 W B x y) : W.cell? ⟨B, 0, none⟩ = some (.int .i64 x) ∧ W.cell? ⟨B, 1, none⟩ = some (.int .i64 y) := by
  constructor <;> simp [World.cell?, show W.heap[B]? = _ from h]
theorem Box2.kept {W W' : World} {row : Option Nat} {B : Nat} {x y : Int} (h : Box2 W B x y) (hg : W.grownBy W' row) (hne : some B ≠ row) : Box2 W' B x y := (hg.block B h.lt hne).trans h
theorem Box2.new (W : World) (x y : Int) : Box2 (W.alloc (.cells #[.int .i64 x, .int .i64 y] 26)) W.heap.size x y := World.alloc_heap_new W _
theorem Box2.alloc {W : World} {B : Nat} {x y : Int} (h : Box2 W B x y) (o : Obj) : Box2 (W.alloc o) B x y := h.kept (World.grownBy_alloc W o none) (by simp)
theorem box2_notcells {W W' : World} {row : Option Nat} {B : Nat} {x y : Int} (h : Box2 W B x y) (hg : W.grownBy W' row) (hr : ∀ r, row = some r → ∃ o : Obj, W.heap[r]? = some o ∧ o.isCells = false) : Box2 W' B x y := by
  refine h.kept hg fun e => ?_
  obtain ⟨o, h1, h2⟩ := hr B e.symm
  rw [show W.heap[B]? = _ from h] at h1
  cases h1
  cases h2
theorem gr_keeps {a b : World} (g : Gr a b) : KeepsOthers a b := ⟨g.size, fun k o hk ho => (g.block k (Array.getElem?_eq_some_iff.1 hk).1).trans hk⟩
end Go.Proofs.YtfobmlgpjhghdaaGreatDoor
namespace Go.Proofs.YtfobmlgpjhghdaaGreatDoor
set_option linter.unusedVariables false
open Go.ChangeShapes Go.WideShapes Go.ChangeAt Go.RowKit
def ovZ (ax ay bx by' px py : Int) : Bool :=
  if by' ≤ py ∧ py < ay then decide (0 < orZ bx by' ax ay px py)
  else if ay ≤ py ∧ py < by' then decide (0 < orZ ax ay bx by' px py) else false
theorem or_pos {ax ay bx by' px py : Int} (h1 : nearB ax ay = true) (h2 : nearB bx by' = true) (h3 : nearB px py = true) : decide (0 < orZ ax ay bx by' px py) = decide (0 < cr ax ay bx by' px py) := by
  have e : crossZ ax ay bx by' px py = cr ax ay bx by' px py := by unfold crossZ cr; rw [h1, h2, h3]; rfl
  unfold orZ
  rw [e, decide_eq_decide]
  unfold cmpZ
  split
  · omega
  · split <;> omega
theorem ovZ_near {ax ay bx by' px py : Int} (h1 : nearB ax ay = true) (h2 : nearB bx by' = true) (h3 : nearB px py = true) : ovZ ax ay bx by' px py = Rg.ovR ax ay bx by' px py := by
  unfold ovZ Rg.ovR
  rw [or_pos h1 h2 h3, or_pos h2 h1 h3]
set_option maxHeartbeats 4000000 in
set_option maxRecDepth 100000 in
theorem c_overRay (ax ay bx by' px py : Int) (W : World) : Calls Tryz.prog 111 #[.agg #[.int .i64 ax, .int .i64 ay], .agg #[.int .i64 bx, .int .i64 by'], .agg #[.int .i64 px, .int .i64 py]] W fun e w' => e = .returned (.bool (ovZ ax ay bx by' px py)) ∧ Gr W w' := by
  have A1 := c_Orient bx by' ax ay px py
  have A2 := c_Orient ax ay bx by' px py
  by_cases h1 : py < ay
  · have t1 : decide (py < ay) = true := decide_eq_true h1
    by_cases h2 : by' ≤ py
    · have t2 : decide (by' ≤ py) = true := decide_eq_true h2
      have e : ovZ ax ay bx by' px py = decide (0 < orZ bx by' ax ay px py) := by unfold ovZ; rw [if_pos ⟨h2, h1⟩]
      rw [e]
      unfold orZ
      generalize cmpZ (crossZ bx by' ax ay px py) 0 = k at A1 ⊢
      have H1 := Lib.hid A1
      clear A1
      clear A2 e
      go_enter Tryz.func111, Tryz.ntmps111
      go_wp2_with fail
      go_at_call 135
      (with_reducible refine (H1.out _).mono ?_)
      rintro e w1 ⟨rfl, g1⟩
      go_wp2_with fail
      go_ret
      exact ⟨rfl, Gr.trans (by go_grown) g1⟩
    · have t2 : decide (by' ≤ py) = false := decide_eq_false h2
      have t3 : decide (ay ≤ py) = false := decide_eq_false (by omega)
      have e : ovZ ax ay bx by' px py = false := by unfold ovZ; rw [if_neg (by omega), if_neg (by omega)]
      rw [e]
      clear A1 A2 e
      go_enter Tryz.func111, Tryz.ntmps111
      go_wp2_with fail
      go_ret
      exact ⟨rfl, by go_grown⟩
  · have t1 : decide (py < ay) = false := decide_eq_false h1
    have t3 : decide (ay ≤ py) = true := decide_eq_true (by omega)
    by_cases h2 : py < by'
    · have t2 : decide (py < by') = true := decide_eq_true h2
      have e : ovZ ax ay bx by' px py = decide (0 < orZ ax ay bx by' px py) := by unfold ovZ; rw [if_neg (by omega), if_pos ⟨by omega, h2⟩]
      rw [e]
      unfold orZ
      generalize cmpZ (crossZ ax ay bx by' px py) 0 = k at A2 ⊢
      have H2 := Lib.hid A2
      clear A2
      clear A1 e
      go_enter Tryz.func111, Tryz.ntmps111
      go_wp2_with fail
      go_at_call 135
      (with_reducible refine (H2.out _).mono ?_)
      rintro e w1 ⟨rfl, g1⟩
      go_wp2_with fail
      go_ret
      exact ⟨rfl, Gr.trans (by go_grown) g1⟩
    · have t2 : decide (py < by') = false := decide_eq_false h2
      have e : ovZ ax ay bx by' px py = false := by unfold ovZ; rw [if_neg (by omega), if_neg (by omega)]
      rw [e]
      clear A1 A2 e
      go_enter Tryz.func111, Tryz.ntmps111
      go_wp2_with fail
      go_ret
      exact ⟨rfl, by go_grown⟩
end Go.Proofs.YtfobmlgpjhghdaaGreatDoor
namespace Go.Proofs.YtfobmlgpjhghdaaGreatDoor
set_option linter.unusedVariables false
open Go.ChangeShapes Go.WideShapes Go.ChangeAt Go.RowKit Go.Shelf
attribute [local go_sem] Oper.semAt_some
def odW (n : Nat) (X Y : Nat → Int) (px py : Int) (pre : List Nat) : Bool := pre.foldl (fun o k => o != ovZ (X k) (Y k) (X (Rg.nx1 n k)) (Y (Rg.nx1 n k)) px py) false
def onW (n : Nat) (X Y : Nat → Int) (px py : Int) (pre : List Nat) : Bool := pre.any fun k => onG (X k) (Y k) (X (Rg.nx1 n k)) (Y (Rg.nx1 n k)) px py
theorem odW_snoc (n : Nat) (X Y : Nat → Int) (px py : Int) (pre : List Nat) (k : Nat) : odW n X Y px py (pre ++ [k]) = (odW n X Y px py pre != ovZ (X k) (Y k) (X (Rg.nx1 n k)) (Y (Rg.nx1 n k)) px py) := by
  unfold odW; rw [List.foldl_append]; rfl
theorem onW_snoc (n : Nat) (X Y : Nat → Int) (px py : Int) (pre : List Nat) (k : Nat) : onW n X Y px py (pre ++ [k]) = (onW n X Y px py pre || onG (X k) (Y k) (X (Rg.nx1 n k)) (Y (Rg.nx1 n k)) px py) := by
  unfold onW; rw [List.any_append]; simp
theorem onW_all (n : Nat) (X Y : Nat → Int) (px py : Int) : ∀ k, onW n X Y px py (List.range k) = Rg.onN n X Y px py k := by
  intro k
  induction k with
  | zero => rfl
  | succ k ih => rw [List.range_succ, onW_snoc, ih]; rfl
theorem odW_all {n : Nat} {X Y : Nat → Int} {px py : Int} (hnr : ∀ k, k < n → nearB (X k) (Y k) = true) (hp : nearB px py = true) : ∀ k, k ≤ n → odW n X Y px py (List.range k) = Rg.odN n X Y px py k := by
  intro k
  induction k with
  | zero => intro _; rfl
  | succ k ih =>
    intro hk
    have hx : Rg.nx1 n k < n := by unfold Rg.nx1; split <;> omega
    rw [List.range_succ, odW_snoc, ih (by omega), ovZ_near (hnr k (by omega)) (hnr _ hx) hp]
    rfl
theorem onW_mono {n : Nat} {X Y : Nat → Int} {px py : Int} {k : Nat} (hk : k ≤ n) (h : onW n X Y px py (List.range k) = true) : onW n X Y px py (List.range n) = true := by
  unfold onW at *
  rw [List.any_eq_true] at *
  obtain ⟨x, h1, h2⟩ := h
  exact ⟨x, List.mem_range.2 (by have := List.mem_range.1 h1; omega), h2⟩
theorem results_cell1 {P : Program} {fn : Func} {p : Tmp} {ty : TypeId} (h : fn.results = #[.cell p ty]) {tmps : Array Value} {w : World} {b : Nat} {v : Value} (hp : tmps.getD p undef = .pointer (some ⟨b, 0, none⟩))
    {d : TypeDesc} (hu : P.underlying ty = some d) (hd : (match d with | .struct _ | .array _ _ => true | _ => false) = false) (hc : w.cell? ⟨b, 0, none⟩ = some v) : (results fn tmps).run P w = .ok v w := by
  have hp' : tmps[p]?.getD undef = .pointer (some ⟨b, 0, none⟩) := by simpa using hp
  have hl : (loadVar ty ⟨b, 0, none⟩).run P w = .ok v w := by
    have hagg : (isAgg ty).run P w = .ok false w := by
      unfold isAgg
      cases d <;> first | (cases hd; done) | simp [underlying, Sem.run_bind, Result.andThen, hu, go_sem]
    simp [loadVar, hagg, Sem.run_bind, Result.andThen, hc, go_sem]
  simp [results, h, hp', asAddr, hl]
theorem box2_own {β : Type} (B : Nat) (x y : Int) : Own (fun (_ : β) W => Box2 W B x y) := fun s X Y row hs hg hrow => box2_notcells hs hg hrow
set_option maxHeartbeats 1000000 in
set_option maxRecDepth 100000 in
theorem c_Holds_no (ad : Option Addr) (n cap : Nat) (px py : Int) (hp : nearB px py = false) (W : World) : Calls Tryz.prog 74 #[.slice ad n cap, .agg #[.int .i64 px, .int .i64 py]] W fun e w' => e = .returned (.bool false) ∧ Gr W w' := by
  have A := c_CheckPoint px py
  rw [hp, if_neg (by decide)] at A
  have H := Lib.hid A
  clear A
  go_enter Tryz.func74, Tryz.ntmps74
  go_wp2_with fail
  go_at_call 45
  (with_reducible refine ((H.out _)).mono ?_)
  rintro e w1 ⟨rfl, hw1⟩
  have cw1_1_0 := cg hw1 (W.heap.size + 1) 0 (.bool false) (by go_simp)
  have fw1_1_0 := fq hw1 (W.heap.size + 1) 0 (.bool false) (by go_simp) (by go_simp)
  have gw1 : Gr W w1 := Gr.trans (by go_grown) hw1
  clear hw1
  go_wp2_with fail
  refine bodyPost_ret (v := .bool false) (by simp [results, Tryz.results74, go_sem, *]) rfl ⟨rfl, by go_grown⟩
set_option maxHeartbeats 8000000 in
set_option maxRecDepth 100000 in
theorem c_Holds {n : Nat} {X Y : Nat → Int} {v : Value} {px py : Int} (w : World) (h : Pts w v n X Y) (h1 : 1 ≤ n) (hn : n ≤ 1000) (hp : nearB px py = true) :
    Calls Tryz.prog 74 #[v, .agg #[.int .i64 px, .int .i64 py]] w fun e w' => e = .returned (.bool (onW n X Y px py (List.range n) || odW n X Y px py (List.range n))) ∧ Gr w w' := by
  obtain ⟨ad, cap, B, off, rfl, q1, q2, q3, q4⟩ := h
  obtain rfl := q3 (by omega)
  have hB : B < w.heap.size := World.block_lt_of_cell? _ _ (q4 0 (by omega)).1
  have HC := Lib.hid q4
  have hmx : Tryz.prog.follows .mixedOrders = true := by kernel_rfl
  have A := c_CheckPoint px py
  rw [hp, if_pos rfl] at A
  have H := Lib.hid A
  clear A
  clear q3 q4 hp
  refine (callsIn_wide (n := 10)).1 ?_
  refine callsIn_of_wp_marks Tryz.func74 rfl trivial ?_ rfl
  simp only [Tryz.ntmps74, List.size_toArray, List.length_cons, List.length_nil, Nat.reduceAdd, Nat.reduceSub, Array.replicate_succ, Array.replicate_zero, List.push_toArray, List.append_toArray, List.nil_append, List.cons_append]
  have n0 : 0 < n := by omega
  gi_wp2_with (first
    | (refine ⟨trivial, ?_⟩; gi_at_call 45; refine (callsIn_wide.2 (H.out _)).mono ?_; rintro e w1 ⟨rfl, g1⟩)
    | (refine ⟨trivial, ?_⟩; gi_at_call 76; refine (callsIn_wide.2 (c_Edges _ _ _ _)).mono ?_; rintro e w' ⟨rfl, rfl⟩))
  have g1s := g1.size
  simp only [World.size_alloc] at g1s
  have bP : Box2 w1 w.heap.size px py := ((Box2.new w px py).alloc _).kept (gr_grown g1) (by simp)
  have bR : Boxed w1 (w.heap.size + 1) 4 (.bool false) := by
    have h := Boxed.new (w.alloc (.cells #[.int .i64 px, .int .i64 py] 26)) 4 (.bool false)
    rw [World.size_alloc] at h
    exact h.kept (gr_grown g1) (by simp)
  have bO := (Boxed.new w1 4 (.bool false)).alloc (.cells #[.slice (some ⟨B, off, none⟩) n cap] 22)
  have bE := Boxed.new (w1.alloc (.cells #[.bool false] 4)) 22 (.slice (some ⟨B, off, none⟩) n cap)
  have bP0 := (bP.alloc (.cells #[.bool false] 4)).alloc (.cells #[.slice (some ⟨B, off, none⟩) n cap] 22)
  have bR0 := (bR.alloc (.cells #[.bool false] 4)).alloc (.cells #[.slice (some ⟨B, off, none⟩) n cap] 22)
  have gw1 : Gr w w1 := Gr.trans (by go_grown) g1
  have hG0 : Gr w ((w1.alloc (.cells #[.bool false] 4)).alloc (.cells #[.slice (some ⟨B, off, none⟩) n cap] 22)) := Gr.trans gw1 (by go_grown)
  have hsz : ((w1.alloc (.cells #[.bool false] 4)).alloc (.cells #[.slice (some ⟨B, off, none⟩) n cap] 22)).heap.size = w1.heap.size + 2 := by simp
  simp only [World.size_alloc] at bE
  obtain ⟨W0, hW0⟩ : ∃ W0, (w1.alloc (.cells #[.bool false] 4)).alloc (.cells #[.slice (some ⟨B, off, none⟩) n cap] 22) = W0 := ⟨_, rfl⟩
  rw [hW0] at bO bE bP0 bR0 hG0 hsz ⊢
  obtain ⟨q, hq⟩ : ∃ q, w1.heap.size = q := ⟨_, rfl⟩
  rw [hq] at bO bE hsz g1s ⊢
  clear hW0 bP bR gw1 g1 H hq
  refine wpIn_rangeFunc_ownH rfl (by decide) (gf := 114) (lb := #[.pointer (some ⟨q + 1, 0, none⟩)]) rfl trivial (enters_of Tryz.func114 (by kernel_rfl) rfl)
    (edges_stops (10 - 1) (by decide) (q + 1) B off n cap X Y hn h1 W0 bE.cell q1 q2 (fun k hk => ⟨cell_gr hG0 (HC.out k hk).1, cell_gr hG0 (HC.out k hk).2⟩)) KK.trans (kk_put (by omega) (by omega)) (Below.refl _ _) (fun _ => rfl)
    (fun pre W => (Boxed W q 4 (.bool (odW n X Y px py pre)) ∧ Boxed W (w.heap.size + 1) 4 (.bool false)) ∧ ((Box2 W w.heap.size px py ∧ onW n X Y px py pre = false) ∧ (q + 2 ≤ W.heap.size ∧ Below w.heap.size w W)))
    (fun c pre W => (c = .ret ∧ onW n X Y px py pre = true) ∧ (Boxed W (w.heap.size + 1) 4 (.bool true) ∧ Below w.heap.size w W))
    (OwnFrom.and (OwnFrom.and (Own.from (boxed_own _ _ _) _) (Own.from (boxed_own _ _ _) _)) (OwnFrom.and (OwnFrom.and (Own.from (box2_own _ _ _) _) (ownFrom_pure _ _)) (OwnFrom.and (fun _ P Q row hs hg hr => Nat.le_trans hs hg.size) (ownFrom_below (Nat.le_refl _) (by omega)))))
    (fun c => OwnFrom.and (ownFrom_pure _ _) (OwnFrom.and (Own.from (boxed_own _ _ _) _) (ownFrom_below (Nat.le_refl _) (by omega))))
    ⟨⟨bO, bR0⟩, ⟨bP0, rfl⟩, by omega, hG0⟩
    (fun x a' W => ∃ Ba Bb, q + 2 ≤ Ba ∧ q + 2 ≤ Bb ∧ Box2 W Ba (X x) (Y x) ∧ Box2 W Bb (X (Rg.nx1 n x)) (Y (Rg.nx1 n x)) ∧ a' = { tmps := #[.slice (some ⟨B, off, none⟩) n cap, .agg #[.int .i64 px, .int .i64 py], undef, .pointer (some ⟨w.heap.size, 0, none⟩), .pointer (some ⟨w.heap.size + 1, 0, none⟩), .pointer (some ⟨q, 0, none⟩), .pointer (some ⟨Ba, 0, none⟩), .pointer (some ⟨Bb, 0, none⟩), .agg #[.int .i64 px, .int .i64 py], .nilIface, .bool false, .slice (some ⟨B, off, none⟩) n cap, .func (.func 114) #[] #[.pointer (some ⟨q + 1, 0, none⟩)], .agg #[.int .i64 (X x), .int .i64 (Y x)], .agg #[.int .i64 (X (Rg.nx1 n x)), .int .i64 (Y (Rg.nx1 n x))], undef, undef, undef, undef, undef, undef, undef, undef, undef, undef, undef], defers := [] })
    (fun x a' _ P Q row hs hg hr => by obtain ⟨Ba, Bb, i1, i2, i3, i4, i5⟩ := hs; exact ⟨Ba, Bb, i1, i2, box2_notcells i3 hg (fun r e => (hr r e).2), box2_notcells i4 hg (fun r e => (hr r e).2), i5⟩)
    ?assign ?body ?done ?stop
  case assign =>
    rintro l pre x W K ⟨⟨bO1, bR1⟩, ⟨bP1, hon⟩, hs3, hB1⟩ hK
    gi_wp2
    have gA : Gr W ((W.alloc (.cells #[.int .i64 (X x), .int .i64 (Y x)] 26)).alloc (.cells #[.int .i64 (X (Rg.nx1 n x)), .int .i64 (Y (Rg.nx1 n x))] 26)) := by go_grown
    exact hK _ _ ((gr_keeps gA).from _) ((KK.refl _ _ _).gr gA (by omega) (by omega)) ⟨⟨(bO1.alloc _).alloc _, (bR1.alloc _).alloc _⟩, ⟨(bP1.alloc _).alloc _, hon⟩, Nat.le_trans hs3 gA.size, Gr.trans hB1 gA⟩
      ⟨W.heap.size, W.heap.size + 1, hs3, by omega, (Box2.new W (X x) (Y x)).alloc _, (by have := Box2.new (W.alloc (.cells #[.int .i64 (X x), .int .i64 (Y x)] 26)) (X (Rg.nx1 n x)) (Y (Rg.nx1 n x)); rwa [World.size_alloc] at this), rfl⟩
  case body =>
    rintro l pre x a' W hl ⟨r, hr⟩ ⟨⟨bO1, bR1⟩, ⟨bP1, hon⟩, hs3, hB1⟩ ⟨Ba, Bb, hBa, hBb, bA, bB, rfl⟩ hlt
    obtain ⟨a0, a1⟩ := bA.cells
    obtain ⟨b0, b1⟩ := bB.cells
    obtain ⟨p0, p1⟩ := bP1.cells
    have cO := bO1.cell
    have fO := bO1.frozen
    have cR := bR1.cell
    have fR := bR1.frozen
    have hsn := odW_snoc n X Y px py pre x
    have hso := onW_snoc n X Y px py pre x
    rw [hon, Bool.false_or] at hso
    have CV := c_overRay (X x) (Y x) (X (Rg.nx1 n x)) (Y (Rg.nx1 n x)) px py
    have CO := c_gOn (X x) (Y x) (X (Rg.nx1 n x)) (Y (Rg.nx1 n x)) px py
    generalize ovZ (X x) (Y x) (X (Rg.nx1 n x)) (Y (Rg.nx1 n x)) px py = ov at CV hsn
    generalize onG (X x) (Y x) (X (Rg.nx1 n x)) (Y (Rg.nx1 n x)) px py = og at CO hso
    generalize odW n X Y px py pre = sz at cO bO1 hsn
    generalize X x = xa at a0 CV CO
    generalize Y x = ya at a1 CV CO
    generalize X (Rg.nx1 n x) = xb at b0 CV CO
    generalize Y (Rg.nx1 n x) = yb at b1 CV CO
    have HCV := Lib.hid CV
    have HCO := Lib.hid CO
    have HSN := Lib.hid hsn
    have HSO := Lib.hid hso
    have HB := Lib.hid (And.intro bO1 (And.intro bR1 bP1))
    clear CV CO hsn hso hon bA bB bO1 bR1 bP1
    have hne1 : w.heap.size + 1 ≠ q := by omega
    have hne2 : q ≠ w.heap.size + 1 := by omega
    cases og
    · gi_wp2_with (refine ⟨trivial, ?_⟩; gi_at_call 110; (refine (CallsIn.inRound l (callsIn_wide.2 (HCO.out _))).mono ?_); rintro e w2 ⟨rfl, g2⟩)
      have g2s := g2.size
      have fin : ∀ w', Gr w2 w' → KeepsFrom W0.heap.size W (w'.setCell ⟨q, 0, none⟩ (.bool (sz != ov))) ∧ KK B (q + 1) W (w'.setCell ⟨q, 0, none⟩ (.bool (sz != ov))) ∧
          ((Boxed (w'.setCell ⟨q, 0, none⟩ (.bool (sz != ov))) q 4 (.bool (odW n X Y px py (pre ++ [x]))) ∧ Boxed (w'.setCell ⟨q, 0, none⟩ (.bool (sz != ov))) (w.heap.size + 1) 4 (.bool false)) ∧ ((Box2 (w'.setCell ⟨q, 0, none⟩ (.bool (sz != ov))) w.heap.size px py ∧ onW n X Y px py (pre ++ [x]) = false) ∧ (q + 2 ≤ (w'.setCell ⟨q, 0, none⟩ (.bool (sz != ov))).heap.size ∧ Below w.heap.size w (w'.setCell ⟨q, 0, none⟩ (.bool (sz != ov)))))) := fun w' g => by
        have gs := g.size
        have g3 : Gr W w' := Gr.trans g2 g
        obtain ⟨bO1, bR1, bP1⟩ := HB.out
        refine ⟨((gr_keeps g3).trans (KeepsOthers.setCell _ _ _)).from _, ((KK.refl B (q + 1) W).gr g3 (by omega) (by omega)).trans ⟨by simp, Below.heap_setCell _ _ _ _ (by simp; omega), Below.heap_setCell _ _ _ _ (by simp)⟩, ⟨⟨?_, (bR1.kept (gr_grown g3) (by simp)).other (by omega) _⟩, ⟨?_, HSO.out⟩, by simp; omega, (Gr.trans hB1 g3).setCell (p := ⟨q, 0, none⟩) (by simp; omega) _⟩⟩
        · rw [HSN.out]
          exact (bO1.kept (gr_grown g3) (by simp)).set _
        · exact (Below.heap_setCell _ _ _ _ (by simp; omega)).trans (bP1.kept (gr_grown g3) (by simp))
      have HFIN := Lib.hid fin
      have c0 := cell_gr g2 a0
      have c1 := cell_gr g2 a1
      have d0 := cell_gr g2 b0
      have d1 := cell_gr g2 b1
      have e0 := cell_gr g2 p0
      have e1 := cell_gr g2 p1
      have cO2 := cell_gr g2 cO
      have fO2 := frozen_gr g2 cO fO
      clear fin HB HSO HSN HCO g2 a0 a1 b0 b1 p0 p1 cO fO cR fR hr hs3 hB1
      gi_region_with_o (first
        | (refine ⟨trivial, ?_⟩; gi_at_call 111; (refine (CallsIn.inRound l (callsIn_wide.2 (HCV.out _))).mono ?_); rintro e w' ⟨rfl, gx⟩; (have gy : Gr w2 w' := Gr.trans (by go_grown) gx); (have dS : w'.cell? ⟨q, 0, none⟩ = some (.bool sz) := cell_gr gy cO2); (have eS : w'.frozen? ⟨q, 0, none⟩ = false := frozen_gr gy cO2 fO2); clear gx)
        | (gi_at_call 111; (refine (CallsIn.inRound l (callsIn_wide.2 (HCV.out _))).mono ?_); rintro e w' ⟨rfl, gx⟩; (have gy : Gr w2 w' := Gr.trans (by go_grown) gx); (have dS : w'.cell? ⟨q, 0, none⟩ = some (.bool sz) := cell_gr gy cO2); (have eS : w'.frozen? ⟨q, 0, none⟩ = false := frozen_gr gy cO2 fO2); clear gx))
      all_goals exact HFIN.out _ gy
    · gi_wp2_with (refine ⟨trivial, ?_⟩; gi_at_call 110; (refine (CallsIn.inRound l (callsIn_wide.2 (HCO.out _))).mono ?_); rintro e w2 ⟨rfl, g2⟩; have dR := cell_gr g2 cR; have eR := frozen_gr g2 cR fR)
      obtain ⟨bO1, bR1, bP1⟩ := HB.out
      exact ⟨((gr_keeps g2).trans (KeepsOthers.setCell _ _ _)).from _, ⟨rfl, HSO.out⟩, (bR1.kept (gr_grown g2) (by simp)).set _, (Gr.trans hB1 g2).setCell (p := ⟨w.heap.size + 1, 0, none⟩) (by simp) _⟩
  case done =>
    rintro D ys W' hD rfl ⟨⟨bO1, bR1⟩, ⟨bP1, hon⟩, hs3, hB1⟩ hK
    have cO := bO1.cell
    have cR := bR1.cell
    have fR := bR1.frozen
    gi_wp2
    rw [hon, Bool.false_or]
    have hK2 : (W'.setCell ⟨w.heap.size + 1, 0, none⟩ (.bool (odW n X Y px py (List.range n)))).heap[D]? = some (.deferred (some [])) := (KeepsOthers.setCell _ _ _).same D _ hK rfl
    have hc2 := cell_kept (bR1.set (.bool (odW n X Y px py (List.range n)))).cell (grownBy_putObj' _ D (.deferred none)) (fun r e => by cases e; exact ⟨_, hK2, rfl⟩)
    refine ⟨by simp, .inl ⟨_, _, rfl, run_takeDeferred hK2, ?_⟩⟩
    exact ⟨_, results_cell1 rfl rfl (Tryz.underlying4) rfl hc2, rfl, (hB1.setCell (p := ⟨w.heap.size + 1, 0, none⟩) (by simp) _).trans (belowK_b (w := w) (Nat.le_refl _) _ D _ _ (by omega) hK2 rfl rfl)⟩
  case stop =>
    rintro D c pre W hD ⟨k, hk, rfl⟩ ⟨⟨rfl, hon⟩, bR1, hB1⟩ hK
    have cR := bR1.cell
    gi_wp2
    have hc2 := cell_kept cR (grownBy_putObj' _ D (.deferred none)) (fun r e => by cases e; exact ⟨_, hK, rfl⟩)
    rw [onW_mono hk hon, Bool.true_or]
    refine ⟨by simp, .inl ⟨_, _, rfl, run_takeDeferred hK, ?_⟩⟩
    exact ⟨_, results_cell1 rfl rfl (Tryz.underlying4) rfl hc2, rfl, hB1.trans (belowK_b (w := w) (Nat.le_refl _) _ D _ _ (by omega) hK rfl rfl)⟩
end Go.Proofs.YtfobmlgpjhghdaaGreatDoor
namespace Go.Proofs.YtfobmlgpjhghdaaGreatDoor
set_option linter.unusedVariables false
open Go.ChangeShapes Go.WideShapes Go.ChangeAt Go.RowKit Go.Shelf
theorem c_hs {n : Nat} {X Y : Nat → Int} {v : Value} (W : World) (h : Pts W v n X Y) (h0 : (Rg.ringC n X Y).1 = 0) (px py : Int) : ∀ w, Gr W w → Calls Tryz.prog 74 #[v, .agg #[.int .i64 px, .int .i64 py]] w fun e w' => e = .returned (.bool (nearB px py && Rg.hasN n X Y px py)) ∧ Gr w w' := fun w g => by
  obtain ⟨h1, h2, _, _⟩ := Rg.ringC_ok h0
  by_cases hp : nearB px py = true
  · have C := c_Holds w (pts_gr h g) (by omega) (by omega) hp
    rw [onW_all, odW_all h2 hp n (Nat.le_refl _)] at C
    rw [hp]
    exact C
  · have hp2 : nearB px py = false := by simpa using hp
    obtain ⟨ad, cap, B, off, rfl, _⟩ := h
    rw [hp2]
    exact c_Holds_no _ _ _ px py hp2 w
end Go.Proofs.YtfobmlgpjhghdaaGreatDoor
namespace Go.Proofs.YtfobmlgpjhghdaaGreatDoor
set_option linter.unusedVariables false
open Go.ChangeShapes Go.WideShapes Go.ChangeAt Go.RowKit
end Go.Proofs.YtfobmlgpjhghdaaGreatDoor
namespace Go.Proofs.YtfobmlgpjhghdaaGreatDoor
set_option linter.unusedVariables false
open Go.ChangeShapes Go.WideShapes Go.ChangeAt Go.RowKit
def EAt (w : World) (k : Int) : Nat → Value → Prop
  | 0, v => v = .iface 66 (.int .i64 k)
  | d + 1, v => ∃ B u, v = .iface 84 (.pointer (some ⟨B, 0, none⟩)) ∧ w.cell? ⟨B, 2, none⟩ = some u ∧ EAt w k d u
theorem eAt_gr {a b : World} {k : Int} : ∀ {d : Nat} {v : Value}, EAt a k d v → Gr a b → EAt b k d v
  | 0, _, h, _ => h
  | _ + 1, _, ⟨B, u, h1, h2, h3⟩, g => ⟨B, u, h1, cell_gr g h2, eAt_gr h3 g⟩
theorem eAt_form {w : World} {k : Int} {d : Nat} {v : Value} (h : EAt w k d v) : (∃ x, v = .iface 66 x) ∨ ∃ x, v = .iface 84 x := by
  cases d with
  | zero => exact Or.inl ⟨_, h⟩
  | succ d => obtain ⟨B, u, rfl, _⟩ := h; exact Or.inr ⟨_, rfl⟩
theorem faultAt_eat {w : World} {B : Nat} {op : ByteArray} {id k : Int} (h : FaultAt w B op id k) : EAt w k 1 (.iface 84 (.pointer (some ⟨B, 0, none⟩))) := ⟨B, _, rfl, h.2.2, rfl⟩
def WErr (op : ByteArray) (w : World) (v : Value) (id : Int) (k : Nat) : Prop := (v = .nilIface ∧ k = 0) ∨ ∃ B u d, v = .iface 84 (.pointer (some ⟨B, 0, none⟩)) ∧ 1 ≤ k ∧ k ≤ 15 ∧ w.cell? ⟨B, 0, none⟩ = some (.string op) ∧ w.cell? ⟨B, 1, none⟩ = some (.int .i64 id) ∧ w.cell? ⟨B, 2, none⟩ = some u ∧ EAt w k d u
theorem werr_gr {op : ByteArray} {a b : World} {v : Value} {id : Int} {k : Nat} (h : WErr op a v id k) (g : Gr a b) : WErr op b v id k := by
  rcases h with h | ⟨B, u, d, h1, h2, h3, h4, h5, h6, h7⟩
  · exact Or.inl h
  · exact Or.inr ⟨B, u, d, h1, h2, h3, cell_gr g h4, cell_gr g h5, cell_gr g h6, eAt_gr h7 g⟩
def OErr (w : World) (v : Value) (k : Nat) : Prop := (v = .nilIface ∧ k = 0) ∨ (1 ≤ k ∧ k ≤ 15 ∧ ∃ d, EAt w k d v)
theorem oerr_gr {a b : World} {v : Value} {k : Nat} (h : OErr a v k) (g : Gr a b) : OErr b v k := by
  rcases h with h | ⟨h1, h2, d, h⟩
  · exact Or.inl h
  · exact Or.inr ⟨h1, h2, d, eAt_gr h g⟩
theorem oerr_aerr {op : ByteArray} {w : World} {v : Value} {id k : Nat} (h : AErr op w v id k) : OErr w v k := by
  rcases h with h | ⟨B, rfl, h1, h2, h3⟩
  · exact Or.inl h
  · exact Or.inr ⟨h1, h2, 1, faultAt_eat h3⟩
theorem oerr_werr {op : ByteArray} {w : World} {v : Value} {id : Int} {k : Nat} (h : WErr op w v id k) : OErr w v k := by
  rcases h with h | ⟨B, u, d, h1, h2, h3, h4, h5, h6, h7⟩
  · exact Or.inl h
  · exact Or.inr ⟨h2, h3, d + 1, B, u, h1, h6, h7⟩
set_option maxHeartbeats 2000000 in
set_option maxRecDepth 100000 in
theorem c_is_deep (d : Nat) (v : Value) (i k : Int) (w : World) (h : EAt w i d v) : Calls Tryz.prog 65 #[v, .iface 66 (.int .i64 k), .bool true] w fun e w' => e = .returned (.bool (decide (i = k))) ∧ Gr w w' := by
  have nI := is_noIs
  have nU := is_noUnwrap
  have nV := is_noUnwraps
  have fI := isF_noIs
  have fU := isF_hasUnwrap
  have heq := is_eql i k
  have hty := fun (x : Value) => run_eql_iface_types (P := Tryz.prog) 84 66 x (.int .i64 k) Tryz.underlying34 (by decide)
  have hd : (i == k) = decide (i = k) := by rw [Bool.eq_iff_iff]; simp
  rw [hd] at heq
  generalize decide (i = k) = r at heq ⊢
  clear hd
  go_enter Tryz.func65, Tryz.ntmps65
  go_wp2_with fail
  go_loopg [0] d (fun n x wr => EAt w i n x ∧ Gr w wr)
  case atStart => exact ⟨h, by go_grown⟩
  case round =>
    obtain ⟨hx, gwr⟩ := hrel
    clear h
    cases gk with
    | zero =>
      obtain rfl := hx
      cases r
      all_goals
        go_wp2
        go_ret
        exact ⟨rfl, by have gg := gwr; have gs := gg.size; go_grown⟩
    | succ n =>
      obtain ⟨B, u, rfl, hc, hu⟩ := hx
      have hc2 := cell_gr gwr hc
      have HU := Lib.hid hu
      have hB := World.block_lt_of_cell? _ _ hc2
      clear hc
      rcases eAt_form hu with ⟨x, rfl⟩ | ⟨x, rfl⟩
      all_goals
        clear hu
        go_wp2
        go_roundg n
        case measure => omega
        case rel => exact ⟨HU.out, by have gg := gwr; have gs := gg.size; go_grown⟩
set_option maxHeartbeats 2000000 in
set_option maxRecDepth 100000 in
theorem c_Is_deep (d : Nat) (v : Value) (i k : Int) (w : World) (h : EAt w i d v) : Calls Tryz.prog 38 #[v, .iface 66 (.int .i64 k)] w fun e w' => e = .returned (.bool (decide (i = k))) ∧ Gr w w' := by
  have tT := is_typeOf (.int .i64 k)
  have cT := is_comparable
  generalize Tryz.prog.globals.size = n at tT cT
  have A1 := fun wr (g : Gr w wr) => c_is_deep d v i k wr (eAt_gr h g)
  generalize decide (i = k) = r at A1 ⊢
  rcases eAt_form h with ⟨x, rfl⟩ | ⟨x, rfl⟩
  all_goals
    have H1 := Lib.hid A1
    clear A1
    clear h
    go_enter Tryz.func38, Tryz.ntmps38
    go_wp2_with (go_at_call 65; (with_reducible refine (H1.out _ (by go_grown)).mono ?_); rintro e w1 ⟨rfl, g1⟩)
    go_ret
    exact ⟨rfl, Gr.trans (by go_grown) g1⟩
theorem c_Code_deep {v : Value} {k d : Nat} (hk : 1 ≤ k ∧ k ≤ 15) (w : World) (h : EAt w k d v) : Calls Tryz.prog 12 #[v] w fun e w' => e = .returned (.int .i64 k) ∧ Gr w w' := by
  have A : ∀ (i : Nat) wr, Gr w wr → Calls Tryz.prog 38 #[v, .iface 66 (.int .i64 i)] wr fun e w' => e = .returned (.bool (decide (k = i))) ∧ Gr wr w' := fun i wr g => by
    have C := c_Is_deep d v k i wr (eAt_gr h g)
    rwa [show decide ((k : Int) = (i : Int)) = decide (k = i) by rw [decide_eq_decide]; omega] at C
  rcases eAt_form h with ⟨x, rfl⟩ | ⟨x, rfl⟩
  · exact code_core _ _ k hk w (Or.inr rfl) A
  · exact code_core _ _ k hk w (Or.inl rfl) A
theorem c_Code_oerr {v : Value} {k : Nat} (w : World) (h : OErr w v k) : Calls Tryz.prog 12 #[v] w fun e w' => e = .returned (.int .i64 k) ∧ Gr w w' := by
  rcases h with ⟨rfl, rfl⟩ | ⟨h1, h2, d, h⟩
  · exact c_Code_nil2 w
  · exact c_Code_deep ⟨h1, h2⟩ w h
set_option maxHeartbeats 4000000 in
set_option maxRecDepth 100000 in
theorem c_AlIs_hitW (b d : Nat) (u : Value) (op : ByteArray) (id : Int) (k : Nat) (hk : 1 ≤ k ∧ k ≤ 15) (W : World) (hE : ErrT W) (h0 : W.cell? ⟨b, 0, none⟩ = some (.string op)) (h1 : W.cell? ⟨b, 1, none⟩ = some (.int .i64 id)) (h2 : W.cell? ⟨b, 2, none⟩ = some u) (h3 : EAt W k d u) :
    Calls Tryz.prog 35 #[.iface 84 (.pointer (some ⟨b, 0, none⟩)), .int .i64 k, .string op, .int .i64 id] W fun e w' => e = .returned (.bool true) ∧ Gr W w' := by
  have H1 := Lib.hid (c_Code_deep (v := .iface 84 (.pointer (some ⟨b, 0, none⟩))) (d := d + 1) hk W ⟨b, u, rfl, h2, h3⟩)
  have hb := World.block_lt_of_cell? _ _ h0
  have t1 : ((k : Int) == 0) = false := by simp; omega
  have t2 : (k == 0) = false := by simp; omega
  have HH := Lib.hid (And.intro hE (And.intro h0 h1))
  clear hE h0 h1 h2 h3 hk
  go_enter Tryz.func35, Tryz.ntmps35
  go_wp2_with fail
  go_at_call 12
  refine ((H1.out)).mono ?_
  rintro e w1 ⟨rfl, hw1⟩
  have gw1 : Gr W w1 := Gr.trans (by go_grown) hw1
  clear hw1
  have hx : (w1.alloc (.cells #[.pointer none] 84)).cell? ⟨w1.heap.size, 0, none⟩ = some (.pointer none) := by go_simp
  have hy : (w1.alloc (.cells #[.pointer none] 84)).frozen? ⟨w1.heap.size, 0, none⟩ = false := by go_simp
  have A := as_hit ⟨b, 0, none⟩ ⟨w1.heap.size, 0, none⟩ (.pointer none) (w1.alloc (.cells #[.pointer none] 84)) (errT_gr HH.out.1 (by have gg := gw1; have gs := gg.size; go_grown)) hx hy
  have H2 := Lib.hid A
  clear A hx hy
  go_wp2_with fail
  go_at_call 61
  refine H2.out.mono ?_
  rintro e w2 ⟨rfl, wx, gx, rfl⟩
  have gWx : Gr W wx := Gr.trans (by have gg := gw1; have gs := gg.size; go_grown) gx
  have sz := gx.size
  have F0 := cell_gr gWx HH.out.2.1
  have F1 := cell_gr gWx HH.out.2.2
  have hb1 : b < w1.heap.size := Nat.lt_of_lt_of_le hb gw1.size
  have hz : w1.heap.size < wx.heap.size := by simp at sz; omega
  have c0 := cg gx (w1.heap.size) 0 (.pointer none) (by go_simp)
  clear gx sz H2 H1
  go_wp2_with fail
  go_ret
  exact ⟨rfl, by have gg := gWx; have gs := gg.size; have g1 := gw1.size; go_grown⟩
theorem c_AlIs_werr {op : ByteArray} {v : Value} {id : Int} {k : Nat} (W : World) (hE : ErrT W) (h : WErr op W v id k) : Calls Tryz.prog 35 #[v, .int .i64 k, .string op, .int .i64 id] W fun e w' => e = .returned (.bool true) ∧ Gr W w' := by
  rcases h with ⟨rfl, rfl⟩ | ⟨B, u, d, rfl, h2, h3, h4, h5, h6, h7⟩
  · exact c_AlIs_nil op id W
  · exact c_AlIs_hitW B d u op id k ⟨h2, h3⟩ W hE h4 h5 h6 h7
end Go.Proofs.YtfobmlgpjhghdaaGreatDoor
namespace Go.Proofs.YtfobmlgpjhghdaaGreatDoor.Od
set_option linter.unusedVariables false
set_option linter.unusedSimpArgs false
open Go.ChangeShapes Go.WideShapes Go.ChangeAt Go.RowKit
variable {P : Program} {ops : Array Oper} {md : Region.Mode}
def pAt (P : Program) (o : Oper) (a : Act) (w : World) (v : Value) : Prop := o.wp P a w (fun a' w' => a' = a.put o.dst v ∧ w' = w) (fun _ _ _ => False)
def sAt (P : Program) (o : Oper) (a : Act) (w : World) (R : Value → World → Prop) : Prop := o.wp P a w (fun a' w' => ∃ v, a' = a.put o.dst v ∧ Gr w w' ∧ R v w') (fun _ _ _ => False)
theorem pAt_put {o : Oper} {a : Act} {w : World} {v x : Value} {d : Option Tmp} (hs : ∀ cs b, o.op ≠ .select cs b) (hl : ∀ t, d = some t → t ∉ o.looksAt ops) (hne : ∀ t, d = some t → o.dst ≠ some t)
    (h : pAt P o a w v) : pAt P o (a.put d x) w v := by
  unfold pAt Oper.wp at *
  rw [execOp_put (ops := ops) o hs a d x hl]
  refine Hd.upon_map (fun u w' hu => ⟨?_, hu.2⟩) (fun dd w' hu => (Hd.no_defer hu.1).elim) h
  rw [Act.put_comm a x u hne, Act.put_comm a x v hne, hu.1]
def opS (P : Program) (ops : Array Oper) (i : Nat) (K : Act → World → Prop) (a : Act) (w : World) : Prop :=
  match ops[i]? with
  | none => K a w
  | some o => if Region.wanted o (yielded ops a.tmps) = true then o.wp P a w (fun a' w' => Gr w w' ∧ (∃ u, a' = a.put o.dst u) ∧ K a' w') (fun _ _ _ => False) else K (a.put o.dst undef) w
def anyS (P : Program) (md : Region.Mode) (ops : Array Oper) (Q : Act → World → Prop) : Nat → Array Bool → Act → World → Prop
  | 0, listed, a, w => Region.ready md ops listed = [] ∧ Q a w
  | f + 1, listed, a, w => (Region.ready md ops listed = [] → Q a w) ∧ ∀ i ∈ Region.ready md ops listed, opS P ops i (anyS P md ops Q f (listed.setIfInBounds i true)) a w
theorem opS_mono {i : Nat} {a : Act} {w : World} {K K' : Act → World → Prop} (h : ∀ oi u w', ops[i]? = some oi → Gr w w' → K (a.put oi.dst u) w' → K' (a.put oi.dst u) w') (h0 : ops[i]? = none → K a w → K' a w) (hh : opS P ops i K a w) : opS P ops i K' a w := by
  unfold opS at *
  split
  · rename_i ho; simp only [ho] at hh; exact h0 ho hh
  · rename_i o ho
    simp only [ho] at hh
    split
    · rename_i hw
      rw [if_pos hw] at hh
      unfold Oper.wp at *
      refine Hd.upon_map (fun u w' hu => ⟨hu.1, hu.2.1, h o u w' ho hu.1 hu.2.2⟩) (fun d w' hu => ?_) hh
      obtain ⟨_, ⟨u, hu⟩, _⟩ := hu
      exact (Hd.no_defer hu).elim
    · rename_i hw
      rw [if_neg hw] at hh
      exact h o _ w ho (Below.refl _ _) hh
theorem wpOp_of_opS {i : Nat} {a : Act} {w : World} {K K' : Act → World → Prop} {Q' : Exit → Act → World → Prop} (h : ∀ a w, K a w → K' a w) (hh : opS P ops i K a w) : wpOp P ops Q' i K' a w := by
  unfold opS at hh
  unfold wpOp
  split
  · rename_i ho; simp only [ho] at hh; exact h _ _ hh
  · rename_i o ho
    simp only [ho] at hh
    split
    · rename_i hw
      rw [if_pos hw] at hh
      refine .inl ?_
      unfold Oper.wp at *
      refine Hd.upon_map (fun u w' hu => h _ _ hu.2.2) (fun d w' hu => ?_) hh
      obtain ⟨_, ⟨u, hu⟩, _⟩ := hu
      exact (Hd.no_defer hu).elim
    · rename_i hw
      rw [if_neg hw] at hh
      exact h _ _ hh
theorem wpAny_of_S {Q : Act → World → Prop} {Q' : Exit → Act → World → Prop} (hQ : ∀ a w, Q a w → Q' .normal a w) : ∀ (f : Nat) (listed : Array Bool) (a : Act) (w : World), anyS P md ops Q f listed a w → wpAny P md ops Q' f listed a w
  | 0, _, _, _, h => ⟨h.1, hQ _ _ h.2⟩
  | f + 1, _, _, _, h => ⟨fun h0 => hQ _ _ (h.1 h0), fun i hi => wpOp_of_opS (fun a' w' => wpAny_of_S hQ f _ a' w') (h.2 i hi)⟩
def YP (P : Program) (ops : Array Oper) (o : Oper) (v : Value) (a : Act) (w : World) : Prop :=
  (Region.wanted o (yielded ops a.tmps) = true ∧ ∀ w', Gr w w' → pAt P o a w' v) ∨ (Region.wanted o (yielded ops a.tmps) = false ∧ v = undef)
theorem YP.opS {i : Nat} {o : Oper} {v : Value} {a : Act} {w : World} (hi : ops[i]? = some o) (hy : YP P ops o v a w) {K : Act → World → Prop} (h : K (a.put o.dst v) w) : opS P ops i K a w := by
  unfold Od.opS
  simp only [hi]
  rcases hy with ⟨hw, hv⟩ | ⟨hw, rfl⟩
  · rw [if_pos hw]
    have hb := hv w (Below.refl _ _)
    unfold pAt Oper.wp at hb
    unfold Oper.wp
    refine Hd.upon_map (fun u w' hu => ?_) (fun d w' hu => (Hd.no_defer hu.1).elim) hb
    obtain ⟨h1, rfl⟩ := hu
    exact ⟨Below.refl _ _, ⟨u, rfl⟩, by rw [h1]; exact h⟩
  · rw [if_neg (by rw [hw]; decide)]
    exact h
theorem opS_put {j : Nat} {oi oj : Oper} {v : Value} (hj : ops[j]? = some oj) (hap : oi.apart ops oj = true)
    (hsi : ∀ cs b, oi.op ≠ .select cs b) (hsj : ∀ cs b, oj.op ≠ .select cs b) {K : Act → World → Prop} {a : Act} {w : World}
    (hy : YP P ops oi v a w) (h : opS P ops j K (a.put oi.dst v) w) :
    opS P ops j (fun a' w' => YP P ops oi v a' w' ∧ K (a'.put oi.dst v) w') a w := by
  obtain ⟨h1, h2, h3⟩ := Oper.apart_spec hap
  have keep : ∀ u w', Gr w w' → YP P ops oi v (a.put oj.dst u) w' := fun u w' g => by
    rcases hy with ⟨hw, hv⟩ | ⟨hw, e⟩
    · exact .inl ⟨by rw [wanted_put oi a oj.dst u h3]; exact hw, fun x hx => pAt_put (ops := ops) hsi h3 (fun t ht hd => h2 t hd ht) (hv x (Gr.trans g hx))⟩
    · exact .inr ⟨by rw [wanted_put oi a oj.dst u h3]; exact hw, e⟩
  unfold opS at *
  simp only [hj] at *
  rw [wanted_put oj a oi.dst v h1] at h
  split
  · rename_i hw
    rw [if_pos hw] at h
    unfold Oper.wp at *
    rw [execOp_put (ops := ops) oj hsj a oi.dst v h1] at h
    refine Hd.upon_map (fun u w' hu => ⟨hu.1, ⟨u, rfl⟩, keep u w' hu.1, ?_⟩) (fun d w' hu => ?_) h
    · rw [← Act.put_comm a v u h2]; exact hu.2.2
    · obtain ⟨_, ⟨u, hu⟩, _⟩ := hu
      exact (Hd.no_defer (a := a.put oi.dst v) hu).elim
  · rename_i hw
    rw [if_neg hw] at h
    exact ⟨keep _ w (Below.refl _ _), by rw [← Act.put_comm a v undef h2]; exact h⟩
theorem anyS_first {Q : Act → World → Prop} {i : Nat} {oi : Oper} {v : Value} (hi : ops[i]? = some oi) (hsel : ∀ (j : Nat) (o : Oper) cs b, ops[j]? = some o → o.op ≠ .select cs b) :
    ∀ (f : Nat) (listed : Array Bool) (a : Act) (w : World),
      (∀ j oj, ops[j]? = some oj → j ≠ i → listed.getD j true = false → (∀ e ∈ oj.after, Region.binds md e = true → e.on ≠ i) → oi.apart ops oj = true) →
      i ∈ Region.ready md ops listed → YP P ops oi v a w →
      anyS P md ops Q f (listed.setIfInBounds i true) (a.put oi.dst v) w → anyS P md ops Q (f + 1) listed a w := by
  intro f
  induction f with
  | zero =>
    intro listed a w _ hr hy H
    refine ⟨fun h => (by rw [h] at hr; cases hr), fun j hj => ?_⟩
    by_cases hji : j = i
    · subst hji; exact hy.opS hi H
    · have := ready_mono hj hji
      rw [H.1] at this
      cases this
  | succ f ih =>
    intro listed a w hfree hr hy H
    refine ⟨fun h => (by rw [h] at hr; cases hr), fun j hj => ?_⟩
    by_cases hji : j = i
    · subst hji; exact hy.opS hi H
    · have h1 := H.2 j (ready_mono hj hji)
      obtain ⟨hjun, oj, hoj, hall⟩ := mem_ready.1 hj
      have hnot : ∀ e ∈ oj.after, Region.binds md e = true → e.on ≠ i := fun e he hb heq => by
        have h1 := hall e he hb
        have h0 := (mem_ready.1 hr).1
        rw [heq] at h1
        rcases Nat.lt_or_ge i listed.size with h' | h'
        · simp [h'] at h0 h1; rw [h0] at h1; cases h1
        · simp [Array.getElem?_eq_none h'] at h1
      have h2 := opS_put hoj (hfree j oj hoj hji hjun hnot) (fun cs b => hsel i oi cs b hi) (fun cs b => hsel j oj cs b hoj) hy h1
      have hfree' : ∀ k ok, ops[k]? = some ok → k ≠ i → (listed.setIfInBounds j true).getD k true = false →
          (∀ e ∈ ok.after, Region.binds md e = true → e.on ≠ i) → oi.apart ops ok = true := fun k ok hk hki hun hno => by
        refine hfree k ok hk hki ?_ hno
        by_cases hjk : j = k
        · subst hjk; exact hjun
        · rw [getD_set_ne true hjk] at hun; exact hun
      refine opS_mono (fun oi' u w' _ g h3 => ih (listed.setIfInBounds j true) _ w' hfree' (ready_mono hr (Ne.symm hji)) h3.1 ?_) (fun hn => by rw [hoj] at hn; cases hn) h2
      rw [Array.setIfInBounds_comm _ _ hji]
      exact h3.2
def ordB (md : Region.Mode) (ops : Array Oper) : List (Nat × Bool) → Array Bool → Bool
  | [], listed => (Region.ready md ops listed).isEmpty
  | (i, s) :: rest, listed => (if s then Region.ready md ops listed == [i] else (Region.ready md ops listed).contains i && Region.free md ops listed i) && ordB md ops rest (listed.setIfInBounds i true)
def wpO (P : Program) (ops : Array Oper) (Q : Act → World → Prop) : List (Nat × Bool) → Act → World → Prop
  | [], a, w => Q a w
  | (i, s) :: rest, a, w => ∃ o, ops[i]? = some o ∧
      if Region.wanted o (yielded ops a.tmps) = true then
        (if s then ∃ R : Value → World → Prop, sAt P o a w R ∧ ∀ v w', Gr w w' → R v w' → wpO P ops Q rest (a.put o.dst v) w'
         else ∃ v, (∀ w', Gr w w' → pAt P o a w' v) ∧ wpO P ops Q rest (a.put o.dst v) w)
      else wpO P ops Q rest (a.put o.dst undef) w
theorem anyS_of_O {Q : Act → World → Prop} (hs : Region.noSelect ops = true) : ∀ (l : List (Nat × Bool)) (listed : Array Bool) (a : Act) (w : World),
    ordB md ops l listed = true → wpO P ops Q l a w → anyS P md ops Q l.length listed a w
  | [], listed, a, w, hB, h => ⟨by simpa [ordB] using hB, h⟩
  | (i, s) :: rest, listed, a, w, hB, h => by
    simp only [ordB, Bool.and_eq_true] at hB
    obtain ⟨hB, hB'⟩ := hB
    obtain ⟨o, hi, h⟩ := h
    have IH := fun a w => anyS_of_O (Q := Q) hs rest (listed.setIfInBounds i true) a w hB'
    cases s with
    | false =>
      simp only [Bool.false_eq_true, if_false, Bool.and_eq_true] at hB h
      obtain ⟨hr, hf⟩ := hB
      have hr' : i ∈ Region.ready md ops listed := by simpa using hr
      by_cases hw : Region.wanted o (yielded ops a.tmps) = true
      · rw [if_pos hw] at h
        obtain ⟨v, hv, h⟩ := h
        exact anyS_first hi (Region.noSelect_spec hs) _ listed a w (Region.free_spec hi hf) hr' (.inl ⟨hw, hv⟩) (IH _ _ h)
      · rw [if_neg hw] at h
        exact anyS_first hi (Region.noSelect_spec hs) _ listed a w (Region.free_spec hi hf) hr' (.inr ⟨by simpa using hw, rfl⟩) (IH _ _ h)
    | true =>
      simp only [if_true, beq_iff_eq] at hB h
      refine ⟨fun h0 => (by rw [hB] at h0; cases h0), fun j hj => ?_⟩
      rw [hB, List.mem_singleton] at hj
      subst hj
      unfold opS
      simp only [hi]
      by_cases hw : Region.wanted o (yielded ops a.tmps) = true
      · rw [if_pos hw] at h ⊢
        obtain ⟨R, h1, h2⟩ := h
        unfold sAt Oper.wp at h1
        unfold Oper.wp
        refine Hd.upon_map (fun u w' hu => ?_) (fun d w' hu => ?_) h1
        · obtain ⟨v, e, g, hR⟩ := hu
          exact ⟨g, ⟨u, rfl⟩, by rw [e]; exact IH _ _ (h2 v w' g hR)⟩
        · obtain ⟨v, e, _⟩ := hu
          exact (Hd.no_defer e).elim
      · rw [if_neg hw] at h ⊢
        exact IH _ _ h
theorem wp_region_ord {id : Nat} {Q : Exit → Act → World → Prop} {a : Act} {w : World} {l : List Oper} (ord : List (Nat × Bool)) (hm : P.follows .mixedOrders = true)
    (hB : (Region.noSelect l.toArray && (ord.length == l.length && ordB .any l.toArray ord (Array.replicate l.length false))) = true)
    (h : ∀ w0 : World, Gr w w0 → ∀ K : Act → World → Prop, (∀ a' w', Q .normal a' w' → K a' w') → wpO P l.toArray K ord a w0) : (Code.region id l.toArray true).wp P Q a w := by
  simp only [Bool.and_eq_true, beq_iff_eq] at hB
  obtain ⟨hs, hl, hB⟩ := hB
  refine wp_region_any hm ?_
  have H := anyS_of_O (md := .any) (P := P) (Q := fun a w => Q .normal a w) hs ord (Array.replicate l.length false) a { w with drawn := w.drawn + 1 } hB (h _ (Below.refl _ _).drew _ (fun _ _ x => x))
  have H2 := wpAny_of_S (Q' := Q) (fun a w x => x) _ _ _ _ H
  rw [hl] at H2
  simpa using H2
def anyT (P : Program) (md : Region.Mode) (ops : Array Oper) (n : Nat) (L : Array Bool → Act → World → Prop) : Nat → Array Bool → Act → World → Prop
  | 0, listed, a, w => L listed a w
  | f + 1, listed, a, w => Region.ready md ops listed ≠ [] ∧ ∀ i ∈ Region.ready md ops listed, i < n ∧ opS P ops i (anyT P md ops n L f (listed.setIfInBounds i true)) a w
theorem wpAny_of_T {n g : Nat} {L : Array Bool → Act → World → Prop} {Q' : Exit → Act → World → Prop} (hL : ∀ listed a w, L listed a w → wpAny P md ops Q' g listed a w) :
    ∀ (f : Nat) (listed : Array Bool) (a : Act) (w : World), anyT P md ops n L f listed a w → wpAny P md ops Q' (f + g) listed a w
  | 0, listed, a, w, h => by rw [Nat.zero_add]; exact hL _ _ _ h
  | f + 1, listed, a, w, h => by
    rw [show f + 1 + g = (f + g) + 1 by omega]
    exact ⟨fun h0 => absurd h0 h.1, fun i hi => wpOp_of_opS (fun a' w' h' => wpAny_of_T hL f _ a' w' h') (h.2 i hi).2⟩
theorem anyT_first {n : Nat} {L : Array Bool → Act → World → Prop} {i : Nat} {oi : Oper} {v : Value} (hi : ops[i]? = some oi) (hsel : ∀ (j : Nat) (o : Oper) cs b, ops[j]? = some o → o.op ≠ .select cs b)
    (hs : Region.sinkB md ops n = true) (hc : Region.chainB md ops n = true) (hn : n < ops.size) (hin : i < n)
    (hdone : ∀ listed a w, L listed a w → ∀ j ∈ Region.ready md ops listed, n ≤ j) :
    ∀ (f : Nat) (listed : Array Bool) (a : Act) (w : World), HeadInv md ops n listed →
      (∀ j oj, ops[j]? = some oj → j ≠ i → listed.getD j true = false → (∀ e ∈ oj.after, Region.binds md e = true → e.on ≠ i) → oi.apart ops oj = true) →
      i ∈ Region.ready md ops listed → YP P ops oi v a w →
      anyT P md ops n L f (listed.setIfInBounds i true) (a.put oi.dst v) w → anyT P md ops n L (f + 1) listed a w := by
  intro f
  induction f with
  | zero =>
    intro listed a w inv _ hr hy H
    have hun := (mem_ready.1 hr).1
    refine ⟨fun h => (by rw [h] at hr; cases hr), fun j hj => ?_⟩
    have hjn : j < n := by
      rcases Nat.lt_or_ge j n with h | h
      · exact h
      · exact absurd hj (tail_waits hs hc hn inv _ i rfl hin hun j h)
    refine ⟨hjn, ?_⟩
    by_cases hji : j = i
    · subst hji; exact hy.opS hi H
    · have := hdone _ _ _ H j (ready_mono hj hji)
      omega
  | succ f ih =>
    intro listed a w inv hfree hr hy H
    have hun := (mem_ready.1 hr).1
    refine ⟨fun h => (by rw [h] at hr; cases hr), fun j hj => ?_⟩
    have hjn : j < n := by
      rcases Nat.lt_or_ge j n with h | h
      · exact h
      · exact absurd hj (tail_waits hs hc hn inv _ i rfl hin hun j h)
    refine ⟨hjn, ?_⟩
    by_cases hji : j = i
    · subst hji; exact hy.opS hi H
    · have h1 := (H.2 j (ready_mono hj hji)).2
      obtain ⟨hjun, oj, hoj, hall⟩ := mem_ready.1 hj
      have hnot : ∀ e ∈ oj.after, Region.binds md e = true → e.on ≠ i := fun e he hb heq => by
        have h1 := hall e he hb
        rw [heq, getD_both hun] at h1
        cases h1
      have h2 := opS_put hoj (hfree j oj hoj hji hjun hnot) (fun cs b => hsel i oi cs b hi) (fun cs b => hsel j oj cs b hoj) hy h1
      have hfree' : ∀ k ok, ops[k]? = some ok → k ≠ i → (listed.setIfInBounds j true).getD k true = false →
          (∀ e ∈ ok.after, Region.binds md e = true → e.on ≠ i) → oi.apart ops ok = true := fun k ok hk hki hun hno => by
        refine hfree k ok hk hki ?_ hno
        by_cases hjk : j = k
        · subst hjk; exact hjun
        · rw [getD_set_ne true hjk] at hun; exact hun
      refine opS_mono (fun oi' u w' _ g h3 => ih (listed.setIfInBounds j true) _ w' (inv.set hj hjn) hfree' (ready_mono hr (Ne.symm hji)) h3.1 ?_) (fun hn => by rw [hoj] at hn; cases hn) h2
      rw [Array.setIfInBounds_comm _ _ hji]
      exact h3.2
def ordT (md : Region.Mode) (ops : Array Oper) (n : Nat) : List (Nat × Bool) → Array Bool → Bool
  | [], listed => Region.seqB md ops (ops.size - n) n listed
  | (i, s) :: rest, listed => decide (i < n) && (if s then Region.ready md ops listed == [i] else (Region.ready md ops listed).contains i && Region.free md ops listed i) && ordT md ops n rest (listed.setIfInBounds i true)
theorem anyT_of_O {n : Nat} {K : Act → World → Prop} (hsel : Region.noSelect ops = true) (hs : Region.sinkB md ops n = true) (hc : Region.chainB md ops n = true) (hn : n < ops.size) : ∀ (l : List (Nat × Bool)) (listed : Array Bool) (a : Act) (w : World), HeadInv md ops n listed →
    ordT md ops n l listed = true → wpO P ops K l a w → anyT P md ops n (fun listed a w => Region.seqB md ops (ops.size - n) n listed = true ∧ K a w) l.length listed a w
  | [], listed, a, w, inv, hB, h => ⟨hB, h⟩
  | (i, s) :: rest, listed, a, w, inv, hB, h => by
    simp only [ordT, Bool.and_eq_true, decide_eq_true_eq] at hB
    obtain ⟨⟨hin, hB⟩, hB'⟩ := hB
    obtain ⟨o, hi, h⟩ := h
    have hmem : i ∈ Region.ready md ops listed := by
      cases s with
      | false => simp only [Bool.false_eq_true, if_false, Bool.and_eq_true] at hB; simpa using hB.1
      | true => simp only [if_true, beq_iff_eq] at hB; rw [hB]; exact List.mem_singleton.2 rfl
    have IH := fun a w => anyT_of_O (K := K) hsel hs hc hn rest (listed.setIfInBounds i true) a w (inv.set hmem hin) hB'
    have hdone : ∀ (listed : Array Bool) (a : Act) (w : World), Region.seqB md ops (ops.size - n) n listed = true ∧ K a w → ∀ j ∈ Region.ready md ops listed, n ≤ j := fun listed a w hh j hj => seqB_ready hh.1 j hj
    cases s with
    | false =>
      simp only [Bool.false_eq_true, if_false, Bool.and_eq_true] at hB h
      by_cases hw : Region.wanted o (yielded ops a.tmps) = true
      · rw [if_pos hw] at h
        obtain ⟨v, hv, h⟩ := h
        exact anyT_first hi (Region.noSelect_spec hsel) hs hc hn hin hdone _ listed a w inv (Region.free_spec hi hB.2) hmem (.inl ⟨hw, hv⟩) (IH _ _ h)
      · rw [if_neg hw] at h
        exact anyT_first hi (Region.noSelect_spec hsel) hs hc hn hin hdone _ listed a w inv (Region.free_spec hi hB.2) hmem (.inr ⟨by simpa using hw, rfl⟩) (IH _ _ h)
    | true =>
      simp only [if_true, beq_iff_eq] at hB h
      refine ⟨fun h0 => (by rw [hB] at h0; cases h0), fun j hj => ?_⟩
      rw [hB, List.mem_singleton] at hj
      subst hj
      refine ⟨hin, ?_⟩
      unfold opS
      simp only [hi]
      by_cases hw : Region.wanted o (yielded ops a.tmps) = true
      · rw [if_pos hw] at h ⊢
        obtain ⟨R, h1, h2⟩ := h
        unfold sAt Oper.wp at h1
        unfold Oper.wp
        refine Hd.upon_map (fun u w' hu => ?_) (fun d w' hu => ?_) h1
        · obtain ⟨v, e, g, hR⟩ := hu
          exact ⟨g, ⟨u, rfl⟩, by rw [e]; exact IH _ _ (h2 v w' g hR)⟩
        · obtain ⟨v, e, _⟩ := hu
          exact (Hd.no_defer e).elim
      · rw [if_neg hw] at h ⊢
        exact IH _ _ h
theorem wp_region_ordT {id : Nat} {Q : Exit → Act → World → Prop} {a : Act} {w : World} {l : List Oper} (n : Nat) (ord : List (Nat × Bool)) (hm : P.follows .mixedOrders = true)
    (hB : (Region.noSelect l.toArray && (decide (n < l.length) && (Region.sinkB .any l.toArray n && (Region.chainB .any l.toArray n && (ord.length == n && ordT .any l.toArray n ord (Array.replicate l.length false)))))) = true)
    (h : ∀ w0 : World, Gr w w0 → ∀ K : Act → World → Prop, (∀ a' w', wpList P l.toArray Q (l.drop n) a' w' → K a' w') → wpO P l.toArray K ord a w0) : (Code.region id l.toArray true).wp P Q a w := by
  simp only [Bool.and_eq_true, beq_iff_eq, decide_eq_true_eq] at hB
  obtain ⟨hsel, hn, hs, hc, hl, hB⟩ := hB
  have hn' : n < l.toArray.size := by simpa using hn
  refine wp_region_any hm ?_
  have inv0 : HeadInv .any l.toArray n (Array.replicate l.length false) :=
    ⟨by simp, fun j oj _ hl => (by rw [getD_replicate_false] at hl; cases hl), fun t _ ht => getD_in (by simpa using ht) (getD_replicate_false _ _)⟩
  have H := anyT_of_O (md := .any) (P := P) (n := n) (K := fun a w => wpList P l.toArray Q (l.drop n) a w) hsel hs hc hn' ord (Array.replicate l.length false) a { w with drawn := w.drawn + 1 } inv0 hB (h _ (Below.refl _ _).drew _ (fun _ _ x => x))
  have H2 := wpAny_of_T (Q' := Q) (g := l.toArray.size - n) (fun listed a w hh => by
    have := wpAny_of_seq (md := .any) (Q' := Q) (l.drop n) n listed a w (fun j => by simp [List.getElem?_drop]) (by rw [List.length_drop]; simpa using hh.1) hh.2
    rwa [List.length_drop, show l.length - n = l.toArray.size - n by simp] at this) _ _ _ _ H
  rw [hl, show n + (l.toArray.size - n) = l.toArray.size by omega] at H2
  simpa using H2
theorem wpO_nil {K : Act → World → Prop} {a : Act} {w : World} (h : K a w) : wpO P ops K [] a w := h
theorem wpO_skip {K : Act → World → Prop} {a : Act} {w : World} {i : Nat} {s : Bool} {rest : List (Nat × Bool)} {o : Oper} (hi : ops[i]? = some o) (hw : Region.wanted o (yielded ops a.tmps) = false) (h : wpO P ops K rest (a.put o.dst undef) w) : wpO P ops K ((i, s) :: rest) a w := by
  refine ⟨o, hi, ?_⟩
  rw [if_neg (by rw [hw]; decide)]
  exact h
theorem wpO_pure {K : Act → World → Prop} {a : Act} {w : World} {i : Nat} {rest : List (Nat × Bool)} {o : Oper} (hi : ops[i]? = some o) (hw : Region.wanted o (yielded ops a.tmps) = true) (h : ∃ v, (∀ w', Gr w w' → pAt P o a w' v) ∧ wpO P ops K rest (a.put o.dst v) w) : wpO P ops K ((i, false) :: rest) a w := by
  refine ⟨o, hi, ?_⟩
  rw [if_pos hw]
  exact h
def exitN (K : Act → World → Prop) : Exit → Act → World → Prop
  | .normal, a, w => K a w
  | _, _, _ => False
theorem upon_exitN {o : Oper} {a : Act} {next next' : Act → World → Prop} {K : Act → World → Prop} {r : Result Next}
    (hv : ∀ u w', next (a.put o.dst u) w' → next' (a.put o.dst u) w')
    (hd : ∀ d w', next (({ a with defers := d :: a.defers } : Act).put o.dst undef) w' → next' (({ a with defers := d :: a.defers } : Act).put o.dst undef) w')
    (h : o.upon P a next (exitN K) r) : o.upon P a next' (fun _ _ _ => False) r := by
  cases r with
  | ok x w' =>
    cases x with
    | value u => exact hv _ _ h
    | skip => exact hv _ _ h
    | defer d => exact hd _ _ h
    | enter f args =>
      refine Calls.mono h fun e w'' hw => ?_
      cases e with
      | returned u => exact hv _ _ hw
      | panicked c => exact hw.elim
      | outgrown => exact hw.elim fun _ h => h.elim fun _ h => h.elim
    | row s args => exact Rows.mono h fun v w'' hw => hv _ _ hw
    | _ => exact h.elim
  | halt x w' =>
    cases x with
    | panic v => exact h.elim
    | _ => exact h.elim
theorem wpO_call {K : Act → World → Prop} {a : Act} {w : World} {i : Nat} {rest : List (Nat × Bool)} {o : Oper} (hi : ops[i]? = some o)
    (hw : Region.wanted o (yielded ops a.tmps) = true)
    (h : ∀ QE : Exit → Act → World → Prop, (∀ a' w', (∃ v, a' = a.put o.dst v ∧ Gr w w' ∧ wpO P ops K rest a' w') → QE .normal a' w') → wpList P ops QE [o] a w) : wpO P ops K ((i, true) :: rest) a w := by
  refine ⟨o, hi, ?_⟩
  rw [if_pos hw, if_pos rfl]
  refine ⟨fun v w' => wpO P ops K rest (a.put o.dst v) w', ?_, fun v w' _ h => h⟩
  have h1 := h (exitN fun a' w' => ∃ v, a' = a.put o.dst v ∧ Gr w w' ∧ wpO P ops K rest (a.put o.dst v) w') (fun a' w' hh => by
    obtain ⟨v, rfl, g, hh⟩ := hh
    exact ⟨v, rfl, g, hh⟩)
  unfold wpList at h1
  rw [if_pos hw] at h1
  rcases h1 with h1 | ⟨_, _, _, h1⟩
  · unfold sAt Oper.wp at *
    refine upon_exitN (fun u w' hu => hu) (fun d w' hu => ?_) h1
    obtain ⟨v, e, _⟩ := hu
    exact (Hd.no_defer e).elim
  · exact h1.elim
theorem pAt_of_quiet {o : Oper} {a : Act} {w1 : World} {v : Value} (h : ∀ K : Act → Prop, (∀ a', a' = a.put o.dst v → K a') → o.quiet P a (fun w' => w' = w1) K) : pAt P o a w1 v := by
  obtain ⟨u, hu, he⟩ := h (fun a' => a' = a.put o.dst v) (fun a' h => h)
  have h1 := hu w1 rfl
  unfold pAt Oper.wp
  unfold Oper.quietAt at h1
  revert h1
  generalize (execOp a.eval o).run P w1 = r
  intro h1
  cases r with
  | ok x w' =>
    cases x with
    | value x => obtain ⟨rfl, rfl⟩ := h1; exact ⟨he, rfl⟩
    | skip => obtain ⟨rfl, rfl⟩ := h1; exact ⟨he, rfl⟩
    | enter f args =>
      obtain ⟨rfl, h1⟩ := h1
      refine Calls.mono h1 fun e w'' hw => ?_
      obtain ⟨rfl, rfl⟩ := hw
      exact ⟨he, rfl⟩
    | _ => exact h1.elim
  | halt x w' => exact h1.elim
end Go.Proofs.YtfobmlgpjhghdaaGreatDoor.Od
namespace Go.Proofs.YtfobmlgpjhghdaaGreatDoor
set_option linter.unusedVariables false
set_option linter.unusedSimpArgs false
open Go.ChangeShapes Go.WideShapes Go.ChangeAt Go.RowKit
def boxN (lx ly hx hy : Int) : Nat := if nearB lx ly && nearB hx hy then (if decide (lx ≤ hx) && decide (ly ≤ hy) then 0 else 1) else 2
theorem boxN_code (lx ly hx hy : Int) : boxCode lx ly hx hy = (boxN lx ly hx hy : Nat) := by
  unfold boxCode boxN
  split
  · split <;> rfl
  · rfl
theorem boxN_err (w : World) (lx ly hx hy : Int) : OErr w (boxErr lx ly hx hy) (boxN lx ly hx hy) := by
  unfold boxErr boxN
  split
  · split
    · exact Or.inl ⟨rfl, rfl⟩
    · exact Or.inr ⟨by omega, by omega, 0, rfl⟩
  · exact Or.inr ⟨by omega, by omega, 0, rfl⟩
def objC (k : Int) (n : Nat) (X Y : Nat → Int) : Nat :=
  if k = 4 then (Rg.ringC n X Y).1
  else if k = 3 then (if n = 2 then boxN (X 0) (Y 0) (X 1) (Y 1) else 3)
  else if k = 1 then (if n = 1 then boxN (X 0) (Y 0) (X 0) (Y 0) else 3)
  else if k = 2 then (if n = 1 then boxN (X 0) 0 (Y 0) 0 else 3)
  else 5
theorem objC_4 {n : Nat} {X Y : Nat → Int} : objC 4 n X Y = (Rg.ringC n X Y).1 := by unfold objC; rw [if_pos rfl]
theorem objC_3 {n : Nat} {X Y : Nat → Int} : objC 3 n X Y = if n = 2 then boxN (X 0) (Y 0) (X 1) (Y 1) else 3 := by unfold objC; rw [if_neg (by omega), if_pos rfl]
theorem objC_1 {n : Nat} {X Y : Nat → Int} : objC 1 n X Y = if n = 1 then boxN (X 0) (Y 0) (X 0) (Y 0) else 3 := by unfold objC; rw [if_neg (by omega), if_neg (by omega), if_pos rfl]
theorem objC_2 {n : Nat} {X Y : Nat → Int} : objC 2 n X Y = if n = 1 then boxN (X 0) 0 (Y 0) 0 else 3 := by unfold objC; rw [if_neg (by omega), if_neg (by omega), if_neg (by omega), if_pos rfl]
theorem objC_x {k : Int} {n : Nat} {X Y : Nat → Int} (h4 : k ≠ 4) (h3 : k ≠ 3) (h1 : k ≠ 1) (h2 : k ≠ 2) : objC k n X Y = 5 := by unfold objC; rw [if_neg h4, if_neg h3, if_neg h1, if_neg h2]
def ObjTo (W : World) (c : Nat) (e : Ending) (w' : World) : Prop := ∃ u, e = .returned u ∧ OErr w' u c ∧ Gr W w'
theorem errno_one (w : World) (k : Nat) (h : 1 ≤ k ∧ k ≤ 15) : OErr w (.iface 66 (.int .i64 k)) k := Or.inr ⟨h.1, h.2, 0, rfl⟩
theorem pts_at0 {w : World} {ad : Option Addr} {n cap : Nat} {X Y : Nat → Int} (h : Pts w (.slice ad n cap) n X Y) (h1 : 1 ≤ n) : ∃ B off, ad = some ⟨B, off, none⟩ ∧ B < w.heap.size ∧ w.cell? ⟨B, off, none⟩ = some (.int .i64 (X 0)) ∧ w.cell? ⟨B, off + 1, none⟩ = some (.int .i64 (Y 0)) ∧ (2 ≤ n → w.cell? ⟨B, off + 2, none⟩ = some (.int .i64 (X 1)) ∧ w.cell? ⟨B, off + 3, none⟩ = some (.int .i64 (Y 1))) := by
  obtain ⟨ad', cap', B, off, e, _, _, q3, q4⟩ := h
  cases e
  obtain ⟨k0, k1⟩ := q4 0 (by omega)
  rw [Nat.zero_mul, Nat.add_zero] at k0 k1
  exact ⟨B, off, q3 (by omega), World.block_lt_of_cell? _ _ k0, k0, k1, fun h2 => q4 1 (by omega)⟩
set_option maxHeartbeats 2000000 in
set_option maxRecDepth 100000 in
theorem c_frame_1 (x y : Int) (B off cap : Nat) (W : World) (p0 : W.cell? ⟨B, off, none⟩ = some (.int .i64 x)) (p1 : W.cell? ⟨B, off + 1, none⟩ = some (.int .i64 y)) (hB : B < W.heap.size) :
    Calls Tryz.prog 36 #[.agg #[.int .i64 1, .slice (some ⟨B, off, none⟩) 1 cap]] W fun e w' => e = .returned (.agg #[.int .i64 x, .int .i64 y, .int .i64 x, .int .i64 y]) ∧ Gr W w' := by
  go_enter Tryz.func36, Tryz.ntmps36
  go_wp2_with fail
  generalize hhw0 : (W.alloc (.cells #[.int .i64 1, .slice (some ⟨B, off, none⟩) 1 cap] 24)).alloc (.cells #[.int .i64 0, .int .i64 0, .int .i64 0, .int .i64 0] 28) = w0
  have cw0_0_0 : w0.cell? ⟨W.heap.size, 0, none⟩ = some (.int .i64 1) := by subst hhw0; go_simp
  have cw0_0_1 : w0.cell? ⟨W.heap.size, 1, none⟩ = some (.slice (some ⟨B, off, none⟩) 1 cap) := by subst hhw0; go_simp
  have zw0_0 := zb cw0_0_0
  have cw0_1_0 : w0.cell? ⟨W.heap.size + 1, 0, none⟩ = some (.int .i64 0) := by subst hhw0; go_simp
  have fw0_1_0 : w0.frozen? ⟨W.heap.size + 1, 0, none⟩ = false := by subst hhw0; go_simp
  have cw0_1_1 : w0.cell? ⟨W.heap.size + 1, 1, none⟩ = some (.int .i64 0) := by subst hhw0; go_simp
  have fw0_1_1 : w0.frozen? ⟨W.heap.size + 1, 1, none⟩ = false := by subst hhw0; go_simp
  have cw0_1_2 : w0.cell? ⟨W.heap.size + 1, 2, none⟩ = some (.int .i64 0) := by subst hhw0; go_simp
  have fw0_1_2 : w0.frozen? ⟨W.heap.size + 1, 2, none⟩ = false := by subst hhw0; go_simp
  have cw0_1_3 : w0.cell? ⟨W.heap.size + 1, 3, none⟩ = some (.int .i64 0) := by subst hhw0; go_simp
  have fw0_1_3 : w0.frozen? ⟨W.heap.size + 1, 3, none⟩ = false := by subst hhw0; go_simp
  have zw0_1 := zb cw0_1_0
  have gw0 : Gr W w0 := by subst hhw0; go_grown
  clear hhw0
  have q0 := cell_gr gw0 p0
  have q1 := cell_gr gw0 p1
  clear p0 p1
  go_wp2_with fail
  refine Hd.wp_region_tail 9 (by kernel_rfl) (by kernel_rfl) ?_
  intro KQ hKQ
  repeat (first | (refine Hd.wpG_skip (by decide) rfl ?_; simp only [Act.put, List.setIfInBounds_toArray, List.set_cons_zero, List.set_cons_succ]) | (refine Hd.wpG_want (by decide) rfl ?_; apply Exists.intro; refine ⟨?_, ?_⟩; (· intro wx gx; (obtain ⟨mx, rfl⟩ := gx); all_goals (apply Hd.gAt_of_quiet; intro K hK; go_big_quiet_op; first | exact hK _ rfl | (apply Exists.intro; refine ⟨fun _ => ?_, ?_⟩; (· fail); exact hK _ rfl))); try simp only [Act.put, List.setIfInBounds_toArray, List.set_cons_zero, List.set_cons_succ]))
  refine Hd.wpG_nil (hKQ _ ?_)
  clear hKQ KQ
  intro w1 hhw1
  have hw1 := Hd.gr_of_spread hhw1
  have cw1_0_0 := ci hw1 (W.heap.size + 1) 0 0 (by go_simp)
  have fw1_0_0 := fq hw1 (W.heap.size + 1) 0 (.int .i64 0) (by go_simp) (by go_simp)
  have cw1_0_1 := ci hw1 (W.heap.size + 1) 1 0 (by go_simp)
  have fw1_0_1 := fq hw1 (W.heap.size + 1) 1 (.int .i64 0) (by go_simp) (by go_simp)
  have cw1_0_2 := ci hw1 (W.heap.size + 1) 2 0 (by go_simp)
  have fw1_0_2 := fq hw1 (W.heap.size + 1) 2 (.int .i64 0) (by go_simp) (by go_simp)
  have cw1_0_3 := ci hw1 (W.heap.size + 1) 3 0 (by go_simp)
  have fw1_0_3 := fq hw1 (W.heap.size + 1) 3 (.int .i64 0) (by go_simp) (by go_simp)
  have gw1 : Gr W w1 := Gr.trans (by have gg := gw0; have gs := gg.size; go_grown) hw1
  clear hw1 hhw1 gw0 zw0_0 cw0_0_0 cw0_0_1 zw0_1 cw0_1_0 fw0_1_0 cw0_1_1 fw0_1_1 cw0_1_2 fw0_1_2 cw0_1_3 fw0_1_3
  go_wp2_with fail
  refine bodyPost_ret (v := .agg #[.int .i64 x, .int .i64 y, .int .i64 x, .int .i64 y]) (by simp [results, Tryz.results36, go_sem, *]) rfl ⟨rfl, by go_grown⟩
set_option maxHeartbeats 2000000 in
set_option maxRecDepth 100000 in
theorem c_frame_3 (x y z u : Int) (B off cap : Nat) (W : World) (p0 : W.cell? ⟨B, off, none⟩ = some (.int .i64 x)) (p1 : W.cell? ⟨B, off + 1, none⟩ = some (.int .i64 y)) (p2 : W.cell? ⟨B, off + 2, none⟩ = some (.int .i64 z)) (p3 : W.cell? ⟨B, off + 3, none⟩ = some (.int .i64 u)) (hB : B < W.heap.size) :
    Calls Tryz.prog 36 #[.agg #[.int .i64 3, .slice (some ⟨B, off, none⟩) 2 cap]] W fun e w' => e = .returned (.agg #[.int .i64 x, .int .i64 y, .int .i64 z, .int .i64 u]) ∧ Gr W w' := by
  go_enter Tryz.func36, Tryz.ntmps36
  go_wp2_with fail
  generalize hhw0 : (W.alloc (.cells #[.int .i64 3, .slice (some ⟨B, off, none⟩) 2 cap] 24)).alloc (.cells #[.int .i64 0, .int .i64 0, .int .i64 0, .int .i64 0] 28) = w0
  have cw0_0_0 : w0.cell? ⟨W.heap.size, 0, none⟩ = some (.int .i64 3) := by subst hhw0; go_simp
  have cw0_0_1 : w0.cell? ⟨W.heap.size, 1, none⟩ = some (.slice (some ⟨B, off, none⟩) 2 cap) := by subst hhw0; go_simp
  have zw0_0 := zb cw0_0_0
  have cw0_1_0 : w0.cell? ⟨W.heap.size + 1, 0, none⟩ = some (.int .i64 0) := by subst hhw0; go_simp
  have fw0_1_0 : w0.frozen? ⟨W.heap.size + 1, 0, none⟩ = false := by subst hhw0; go_simp
  have cw0_1_1 : w0.cell? ⟨W.heap.size + 1, 1, none⟩ = some (.int .i64 0) := by subst hhw0; go_simp
  have fw0_1_1 : w0.frozen? ⟨W.heap.size + 1, 1, none⟩ = false := by subst hhw0; go_simp
  have cw0_1_2 : w0.cell? ⟨W.heap.size + 1, 2, none⟩ = some (.int .i64 0) := by subst hhw0; go_simp
  have fw0_1_2 : w0.frozen? ⟨W.heap.size + 1, 2, none⟩ = false := by subst hhw0; go_simp
  have cw0_1_3 : w0.cell? ⟨W.heap.size + 1, 3, none⟩ = some (.int .i64 0) := by subst hhw0; go_simp
  have fw0_1_3 : w0.frozen? ⟨W.heap.size + 1, 3, none⟩ = false := by subst hhw0; go_simp
  have zw0_1 := zb cw0_1_0
  have gw0 : Gr W w0 := by subst hhw0; go_grown
  clear hhw0
  have q0 := cell_gr gw0 p0
  have q1 := cell_gr gw0 p1
  have q2 := cell_gr gw0 p2
  have q3 := cell_gr gw0 p3
  have q4 : w0.cell? ⟨B, off + 2 + 1, none⟩ = some (.int .i64 u) := q3
  clear p0 p1 p2 p3
  go_wp2_with fail
  refine Hd.wp_region_tail 9 (by kernel_rfl) (by kernel_rfl) ?_
  intro KQ hKQ
  repeat (first | (refine Hd.wpG_skip (by decide) rfl ?_; simp only [Act.put, List.setIfInBounds_toArray, List.set_cons_zero, List.set_cons_succ]) | (refine Hd.wpG_want (by decide) rfl ?_; apply Exists.intro; refine ⟨?_, ?_⟩; (· intro wx gx; (obtain ⟨mx, rfl⟩ := gx); all_goals (apply Hd.gAt_of_quiet; intro K hK; go_big_quiet_op; first | exact hK _ rfl | (apply Exists.intro; refine ⟨fun _ => ?_, ?_⟩; (· fail); exact hK _ rfl))); try simp only [Act.put, List.setIfInBounds_toArray, List.set_cons_zero, List.set_cons_succ]))
  refine Hd.wpG_nil (hKQ _ ?_)
  clear hKQ KQ
  intro w1 hhw1
  have hw1 := Hd.gr_of_spread hhw1
  have cw1_0_0 := ci hw1 (W.heap.size + 1) 0 0 (by go_simp)
  have fw1_0_0 := fq hw1 (W.heap.size + 1) 0 (.int .i64 0) (by go_simp) (by go_simp)
  have cw1_0_1 := ci hw1 (W.heap.size + 1) 1 0 (by go_simp)
  have fw1_0_1 := fq hw1 (W.heap.size + 1) 1 (.int .i64 0) (by go_simp) (by go_simp)
  have cw1_0_2 := ci hw1 (W.heap.size + 1) 2 0 (by go_simp)
  have fw1_0_2 := fq hw1 (W.heap.size + 1) 2 (.int .i64 0) (by go_simp) (by go_simp)
  have cw1_0_3 := ci hw1 (W.heap.size + 1) 3 0 (by go_simp)
  have fw1_0_3 := fq hw1 (W.heap.size + 1) 3 (.int .i64 0) (by go_simp) (by go_simp)
  have gw1 : Gr W w1 := Gr.trans (by have gg := gw0; have gs := gg.size; go_grown) hw1
  clear hw1 hhw1 gw0 zw0_0 cw0_0_0 cw0_0_1 zw0_1 cw0_1_0 fw0_1_0 cw0_1_1 fw0_1_1 cw0_1_2 fw0_1_2 cw0_1_3 fw0_1_3
  go_wp2_with fail
  refine bodyPost_ret (v := .agg #[.int .i64 x, .int .i64 y, .int .i64 z, .int .i64 u]) (by simp [results, Tryz.results36, go_sem, *]) rfl ⟨rfl, by go_grown⟩
set_option maxHeartbeats 2000000 in
set_option maxRecDepth 100000 in
theorem c_frame_2 (x y : Int) (B off cap : Nat) (W : World) (p0 : W.cell? ⟨B, off, none⟩ = some (.int .i64 x)) (p1 : W.cell? ⟨B, off + 1, none⟩ = some (.int .i64 y)) (hB : B < W.heap.size) :
    Calls Tryz.prog 36 #[.agg #[.int .i64 2, .slice (some ⟨B, off, none⟩) 1 cap]] W fun e w' => e = .returned (.agg #[.int .i64 x, .int .i64 0, .int .i64 y, .int .i64 0]) ∧ Gr W w' := by
  go_enter Tryz.func36, Tryz.ntmps36
  go_wp2_with fail
  refine bodyPost_ret (v := .agg #[.int .i64 x, .int .i64 0, .int .i64 y, .int .i64 0]) (by simp [results, Tryz.results36, go_sem, *]) rfl ⟨rfl, by go_grown⟩
set_option maxHeartbeats 2000000 in
set_option maxRecDepth 100000 in
theorem refusal_box (k : Int) (n cap : Nat) (ad : Option Addr) (lx ly hx hy : Int) (W : World) (hk : k = 1 ∧ n = 1 ∨ k = 2 ∧ n = 1 ∨ k = 3 ∧ n = 2)
    (A2 : ∀ w, Gr W w → Calls Tryz.prog 36 #[.agg #[.int .i64 k, .slice ad n cap]] w fun e w' => e = .returned (.agg #[.int .i64 lx, .int .i64 ly, .int .i64 hx, .int .i64 hy]) ∧ Gr w w') :
    Calls Tryz.prog 60 #[.agg #[.int .i64 k, .slice ad n cap]] W (ObjTo W (boxN lx ly hx hy)) := by
  have A1 := fun w => c_CheckBox lx ly hx hy w
  have E := fun w => boxN_err w lx ly hx hy
  obtain ⟨u, hu⟩ : ∃ u, u = boxErr lx ly hx hy := ⟨_, rfl⟩
  rw [← hu] at A1 E
  generalize boxN lx ly hx hy = c at E ⊢
  have H1 := Lib.hid A1
  have H2 := Lib.hid A2
  clear A1 A2
  have HE := Lib.hid E
  clear hu E
  rcases hk with ⟨rfl, rfl⟩ | ⟨rfl, rfl⟩ | ⟨rfl, rfl⟩
  all_goals
    go_enter Tryz.func60, Tryz.ntmps60
    go_wp2_with fail
    go_at_call 36
    refine ((H2.out _ (by go_grown))).mono ?_
    rintro e w1 ⟨rfl, hw1⟩
    have gw1 : Gr W w1 := Gr.trans (by go_grown) hw1
    clear hw1
    go_wp2_with fail
    go_at_call 96
    refine ((H1.out _)).mono ?_
    rintro e w2 ⟨rfl, hw2⟩
    have gw2 : Gr W w2 := Gr.trans (by have gg := gw1; have gs := gg.size; go_grown) hw2
    clear hw2 gw1
    go_wp2_with fail
    go_ret
    exact ⟨_, rfl, HE.out _, gw2⟩
set_option maxHeartbeats 2000000 in
set_option maxRecDepth 100000 in
theorem refusal_verts (k : Int) (n cap : Nat) (ad : Option Addr) (W : World) (hk : k = 1 ∧ n ≠ 1 ∨ k = 2 ∧ n ≠ 1 ∨ k = 3 ∧ n ≠ 2) :
    Calls Tryz.prog 60 #[.agg #[.int .i64 k, .slice ad n cap]] W (ObjTo W 3) := by
  have HE := Lib.hid (fun w => errno_one w 3 (by omega))
  rcases hk with ⟨rfl, h⟩ | ⟨rfl, h⟩ | ⟨rfl, h⟩
  · have t1 : ((n : Int) != 1) = true := by simp; omega
    have t2 : (n != 1) = true := by simp; omega
    clear h
    go_enter Tryz.func60, Tryz.ntmps60
    go_wp2_with fail
    go_ret
    exact ⟨_, rfl, HE.out _, by go_grown⟩
  · have t1 : ((n : Int) != 1) = true := by simp; omega
    have t2 : (n != 1) = true := by simp; omega
    clear h
    go_enter Tryz.func60, Tryz.ntmps60
    go_wp2_with fail
    go_ret
    exact ⟨_, rfl, HE.out _, by go_grown⟩
  · have t1 : ((n : Int) != 2) = true := by simp; omega
    have t2 : (n != 2) = true := by simp; omega
    clear h
    go_enter Tryz.func60, Tryz.ntmps60
    go_wp2_with fail
    go_ret
    exact ⟨_, rfl, HE.out _, by go_grown⟩
set_option maxHeartbeats 2000000 in
set_option maxRecDepth 100000 in
theorem refusal_kind (k : Int) (n cap : Nat) (ad : Option Addr) (W : World) (h4 : k ≠ 4) (h3 : k ≠ 3) (h1 : k ≠ 1) (h2 : k ≠ 2) :
    Calls Tryz.prog 60 #[.agg #[.int .i64 k, .slice ad n cap]] W (ObjTo W 5) := by
  have HE := Lib.hid (fun w => errno_one w 5 (by omega))
  have t1 : (k == 1) = false := by simp; omega
  have t2 : (k == 2) = false := by simp; omega
  have t3 : (k == 3) = false := by simp; omega
  have t4 : (k == 4) = false := by simp; omega
  clear h1 h2 h3 h4
  go_enter Tryz.func60, Tryz.ntmps60
  go_wp2_with fail
  go_ret
  exact ⟨_, rfl, HE.out _, by go_grown⟩
set_option maxHeartbeats 2000000 in
set_option maxRecDepth 100000 in
theorem refusal_ring {n : Nat} {X Y : Nat → Int} {v : Value} (W : World) (h : Pts W v n X Y) :
    Calls Tryz.prog 60 #[.agg #[.int .i64 4, v]] W (ObjTo W (Rg.ringC n X Y).1) := by
  have A1 : ∀ w, Gr W w → Calls Tryz.prog 52 #[v] w fun e w' => ∃ f, e = .returned f ∧ AErr ringS w' f (Rg.ringC n X Y).2 (Rg.ringC n X Y).1 ∧ Gr w w' := fun w g => c_ringCheck w (pts_gr h g)
  generalize (Rg.ringC n X Y).1 = c at A1 ⊢
  generalize (Rg.ringC n X Y).2 = id at A1
  obtain ⟨ad, cap, B, off, rfl, _⟩ := h
  have H1 := Lib.hid A1
  clear A1
  go_enter Tryz.func60, Tryz.ntmps60
  go_wp2_with fail
  go_at_call 52
  refine (H1.out _ (by go_grown)).mono ?_
  rintro e w1 ⟨x, rfl, hx, g1⟩
  have HX := Lib.hid hx
  clear hx
  go_wp2_with fail
  go_ret
  exact ⟨_, rfl, oerr_aerr HX.out, Gr.trans (by go_grown) g1⟩
theorem c_refusal {n : Nat} {X Y : Nat → Int} {v : Value} (k : Int) (W : World) (h : Pts W v n X Y) :
    Calls Tryz.prog 60 #[.agg #[.int .i64 k, v]] W (ObjTo W (objC k n X Y)) := by
  by_cases h4 : k = 4
  · subst h4; rw [objC_4]; exact refusal_ring W h
  obtain ⟨ad, cap, _, _, rfl, _⟩ := (show Pts W v n X Y from h)
  by_cases h3 : k = 3
  · subst h3
    rw [objC_3]
    by_cases hn : n = 2
    · rw [if_pos hn]
      subst hn
      refine refusal_box 3 2 cap ad _ _ _ _ W (Or.inr (Or.inr ⟨rfl, rfl⟩)) fun w g => ?_
      obtain ⟨B, off, rfl, hB, p0, p1, p2⟩ := pts_at0 (pts_gr h g) (by omega)
      exact c_frame_3 _ _ _ _ B off cap w p0 p1 (p2 (by omega)).1 (p2 (by omega)).2 hB
    · rw [if_neg hn]
      exact refusal_verts 3 n cap ad W (Or.inr (Or.inr ⟨rfl, hn⟩))
  by_cases h1 : k = 1
  · subst h1
    rw [objC_1]
    by_cases hn : n = 1
    · rw [if_pos hn]
      subst hn
      refine refusal_box 1 1 cap ad _ _ _ _ W (Or.inl ⟨rfl, rfl⟩) fun w g => ?_
      obtain ⟨B, off, rfl, hB, p0, p1, p2⟩ := pts_at0 (pts_gr h g) (by omega)
      exact c_frame_1 _ _ B off cap w p0 p1 hB
    · rw [if_neg hn]
      exact refusal_verts 1 n cap ad W (Or.inl ⟨rfl, hn⟩)
  by_cases h2 : k = 2
  · subst h2
    rw [objC_2]
    by_cases hn : n = 1
    · rw [if_pos hn]
      subst hn
      refine refusal_box 2 1 cap ad _ _ _ _ W (Or.inr (Or.inl ⟨rfl, rfl⟩)) fun w g => ?_
      obtain ⟨B, off, rfl, hB, p0, p1, p2⟩ := pts_at0 (pts_gr h g) (by omega)
      exact c_frame_2 _ _ B off cap w p0 p1 hB
    · rw [if_neg hn]
      exact refusal_verts 2 n cap ad W (Or.inr (Or.inl ⟨rfl, hn⟩))
  rw [objC_x h4 h3 h1 h2]
  exact refusal_kind k n cap ad W h4 h3 h1 h2
def WrTo (op : ByteArray) (W : World) (id : Int) (c : Nat) (e : Ending) (w' : World) : Prop := ∃ u, e = .returned u ∧ WErr op w' u id c ∧ Gr W w'
set_option maxHeartbeats 2000000 in
set_option maxRecDepth 100000 in
theorem c_told (op : ByteArray) (k : Int) (u : Value) (c : Nat) (W : World) (h : OErr W u c) :
    Calls Tryz.prog 59 #[.string op, .int .i64 k, u] W (WrTo op W k c) := by
  rcases h with ⟨rfl, rfl⟩ | ⟨h1, h2, d, h⟩
  · go_enter Tryz.func59, Tryz.ntmps59
    go_wp2_with fail
    go_ret
    exact ⟨_, rfl, Or.inl ⟨rfl, rfl⟩, by go_grown⟩
  · have H := Lib.hid (And.intro h1 (And.intro h2 h))
    rcases eAt_form h with ⟨x, rfl⟩ | ⟨x, rfl⟩
    all_goals
      clear h h1 h2
      go_enter Tryz.func59, Tryz.ntmps59
      go_wp2_with fail
      go_ret
      exact ⟨_, rfl, Or.inr ⟨_, _, d, rfl, H.out.1, H.out.2.1, by go_simp, by go_simp, by go_simp, eAt_gr H.out.2.2 (by go_grown)⟩, by go_grown⟩
abbrev objectS : ByteArray := ⟨#[111, 98, 106, 101, 99, 116]⟩
set_option maxHeartbeats 2000000 in
set_option maxRecDepth 100000 in
theorem c_relCheck {n : Nat} {X Y : Nat → Int} {v : Value} (k : Int) (W : World) (h : Pts W v n X Y) :
    Calls Tryz.prog 34 #[.agg #[.int .i64 k, v]] W (WrTo objectS W k (objC k n X Y)) := by
  have A1 : ∀ w, Gr W w → Calls Tryz.prog 60 #[.agg #[.int .i64 k, v]] w fun e w' => ∃ u, e = .returned u ∧ OErr w' u (objC k n X Y) ∧ Gr w w' := fun w g => c_refusal k w (pts_gr h g)
  generalize objC k n X Y = c at A1 ⊢
  have A2 : ∀ (w : World) (u : Value), OErr w u c → Calls Tryz.prog 59 #[.string objectS, .int .i64 k, u] w fun e w' => ∃ x, e = .returned x ∧ WErr objectS w' x k c ∧ Gr w w' := fun w u hu => c_told objectS k u c w hu
  obtain ⟨ad, cap, B, off, rfl, _⟩ := h
  have H1 := Lib.hid A1
  have H2 := Lib.hid A2
  clear A1 A2
  go_enter Tryz.func34, Tryz.ntmps34
  go_wp2_with fail
  try simp only [List.append]
  refine Od.wp_region_ord [(0, false), (1, false), (2, false), (3, true), (4, true), (5, false)] (by kernel_rfl) (by kernel_rfl) ?_
  intro w0 hw0 KQ hKQ
  have cw0_0_0 := ci hw0 (W.heap.size) 0 k (by go_simp)
  have cw0_0_1 := cg hw0 (W.heap.size) 1 (.slice ad n cap) (by go_simp)
  have gw0 : Gr W w0 := Gr.trans (by go_grown) hw0
  skip
  clear hw0
  repeat (first | (refine Od.wpO_skip (by simp only [List.getElem?_toArray, List.getElem?_cons_succ, List.getElem?_cons_zero] <;> rfl) rfl ?_; simp only [Act.put, List.setIfInBounds_toArray, List.set_cons_zero, List.set_cons_succ]) | (refine Od.wpO_pure (by simp only [List.getElem?_toArray, List.getElem?_cons_succ, List.getElem?_cons_zero] <;> rfl) rfl ?_; apply Exists.intro; refine ⟨?_, ?_⟩; (· intro wx gx; obtain ⟨mx, rfl⟩ := spread_of_gr gx; clear gx; all_goals (apply Od.pAt_of_quiet; intro K hK; go_big_quiet_op; first | exact hK _ rfl | (apply Exists.intro; refine ⟨fun _ => ?_, ?_⟩; (· fail); exact hK _ rfl))); try simp only [Act.put, List.setIfInBounds_toArray, List.set_cons_zero, List.set_cons_succ]))
  refine Od.wpO_call (by simp only [List.getElem?_toArray, List.getElem?_cons_succ, List.getElem?_cons_zero] <;> rfl) rfl ?_
  intro QS hQS
  go_wp2_with fail
  go_at_call 60
  (with_reducible refine ((H1.out _ gw0)).mono ?_)
  rintro e w1 ⟨u, rfl, hu, hw1⟩
  go_wp2_with fail
  apply Exists.intro
  refine ⟨?_, hw1, ?_⟩
  · simp only [Act.put, List.setIfInBounds_toArray, List.set_cons_zero, List.set_cons_succ]; rfl
  have gw1 : Gr W w1 := Gr.trans (by have gg := gw0; have gs := gg.size; go_grown) hw1
  clear gw0 cw0_0_0 cw0_0_1
  clear hw1
  try simp only [Act.put, List.setIfInBounds_toArray, List.set_cons_zero, List.set_cons_succ]
  repeat (first | (refine Od.wpO_skip (by simp only [List.getElem?_toArray, List.getElem?_cons_succ, List.getElem?_cons_zero] <;> rfl) rfl ?_; simp only [Act.put, List.setIfInBounds_toArray, List.set_cons_zero, List.set_cons_succ]) | (refine Od.wpO_pure (by simp only [List.getElem?_toArray, List.getElem?_cons_succ, List.getElem?_cons_zero] <;> rfl) rfl ?_; apply Exists.intro; refine ⟨?_, ?_⟩; (· intro wx gx; obtain ⟨mx, rfl⟩ := spread_of_gr gx; clear gx; all_goals (apply Od.pAt_of_quiet; intro K hK; go_big_quiet_op; first | exact hK _ rfl | (apply Exists.intro; refine ⟨fun _ => ?_, ?_⟩; (· fail); exact hK _ rfl))); try simp only [Act.put, List.setIfInBounds_toArray, List.set_cons_zero, List.set_cons_succ]))
  refine Od.wpO_call (by simp only [List.getElem?_toArray, List.getElem?_cons_succ, List.getElem?_cons_zero] <;> rfl) rfl ?_
  intro QS hQS
  go_wp2_with fail
  go_at_call 59
  (with_reducible refine ((H2.out _ _ hu)).mono ?_)
  rintro e w2 ⟨x, rfl, hx, hw2⟩
  go_wp2_with fail
  apply Exists.intro
  refine ⟨?_, hw2, ?_⟩
  · simp only [Act.put, List.setIfInBounds_toArray, List.set_cons_zero, List.set_cons_succ]; rfl
  have gw2 : Gr W w2 := Gr.trans (by have gg := gw1; have gs := gg.size; go_grown) hw2
  clear gw1
  clear hw2
  try simp only [Act.put, List.setIfInBounds_toArray, List.set_cons_zero, List.set_cons_succ]
  repeat (first | (refine Od.wpO_skip (by simp only [List.getElem?_toArray, List.getElem?_cons_succ, List.getElem?_cons_zero] <;> rfl) rfl ?_; simp only [Act.put, List.setIfInBounds_toArray, List.set_cons_zero, List.set_cons_succ]) | (refine Od.wpO_pure (by simp only [List.getElem?_toArray, List.getElem?_cons_succ, List.getElem?_cons_zero] <;> rfl) rfl ?_; apply Exists.intro; refine ⟨?_, ?_⟩; (· intro wx gx; obtain ⟨mx, rfl⟩ := spread_of_gr gx; clear gx; all_goals (apply Od.pAt_of_quiet; intro K hK; go_big_quiet_op; first | exact hK _ rfl | (apply Exists.intro; refine ⟨fun _ => ?_, ?_⟩; (· fail); exact hK _ rfl))); try simp only [Act.put, List.setIfInBounds_toArray, List.set_cons_zero, List.set_cons_succ]))
  refine Od.wpO_nil (hKQ _ _ ?_)
  clear hKQ KQ
  have HX := Lib.hid hx
  clear hx
  go_wp2_with fail
  go_ret
  exact ⟨_, rfl, HX.out, gw2⟩
end Go.Proofs.YtfobmlgpjhghdaaGreatDoor
namespace Go.Proofs.YtfobmlgpjhghdaaGreatDoor
set_option linter.unusedVariables false
open Go.ChangeShapes Go.WideShapes Go.ChangeAt Go.RowKit
set_option maxHeartbeats 4000000 in
set_option maxRecDepth 100000 in
theorem dist_no (ax ay bx by' px py : Int) (W : World)
    (A1 : ∀ b w, b < w.heap.size → w.cell? ⟨b, 0, none⟩ = some (.int .i64 ax) → w.cell? ⟨b, 1, none⟩ = some (.int .i64 ay) → w.cell? ⟨b, 2, none⟩ = some (.int .i64 bx) → w.cell? ⟨b, 3, none⟩ = some (.int .i64 by') → w.cell? ⟨b, 4, none⟩ = some (.int .i64 px) → w.cell? ⟨b, 5, none⟩ = some (.int .i64 py) →
      Calls Tryz.prog 116 #[.slice (some ⟨b, 0, none⟩) 3 3] w fun e w' => e = .returned (.bool false) ∧ Gr w w') :
    Calls Tryz.prog 77 #[.agg #[.int .i64 ax, .int .i64 ay], .agg #[.int .i64 bx, .int .i64 by'], .agg #[.int .i64 px, .int .i64 py]] W fun e w' => e = .returned (.agg #[.int .u64 0, .int .u64 0, .int .u64 0]) ∧ Gr W w' := by
  have H1 := Lib.hid A1
  clear A1
  go_enter Tryz.func77, Tryz.ntmps77
  go_wp2_with fail
  go_at_call 116
  refine ((H1.out _ _ (by go_simp) (by go_simp) (by go_simp) (by go_simp) (by go_simp) (by go_simp) (by go_simp))).mono ?_
  rintro e w1 ⟨rfl, hw1⟩
  have cw1_3_0 := cu hw1 (W.heap.size + 1 + 1 + 1) 0 0 (by go_simp)
  have fw1_3_0 := fq hw1 (W.heap.size + 1 + 1 + 1) 0 (.int .u64 0) (by go_simp) (by go_simp)
  have cw1_3_1 := cu hw1 (W.heap.size + 1 + 1 + 1) 1 0 (by go_simp)
  have fw1_3_1 := fq hw1 (W.heap.size + 1 + 1 + 1) 1 (.int .u64 0) (by go_simp) (by go_simp)
  have cw1_3_2 := cu hw1 (W.heap.size + 1 + 1 + 1) 2 0 (by go_simp)
  have fw1_3_2 := fq hw1 (W.heap.size + 1 + 1 + 1) 2 (.int .u64 0) (by go_simp) (by go_simp)
  have gw1 : Gr W w1 := Gr.trans (by go_grown) hw1
  clear hw1
  go_wp2_with fail
  refine bodyPost_ret (v := .agg #[.int .u64 0, .int .u64 0, .int .u64 0]) (by simp [results, Tryz.results77, go_sem, *]) rfl ⟨rfl, by go_grown⟩
set_option maxHeartbeats 4000000 in
set_option maxRecDepth 100000 in
theorem dist_core (ax ay bx by' px py x1 x2 x3 x4 p1 p2 al wh s1 s2 c h l qh ql qd u : Int) (W : World)
    (e1 : wrap64 (bx - ax) = x1) (e2 : wrap64 (px - ax) = x2) (e3 : wrap64 (by' - ay) = x3) (e4 : wrap64 (py - ay) = x4) (e5 : wrap64 (x1 * x2) = p1) (e6 : wrap64 (x3 * x4) = p2) (e7 : wrap64 (p1 + p2) = al)
    (f1 : IntKind.i64.wrap (bx - ax) = x1) (f2 : IntKind.i64.wrap (px - ax) = x2) (f3 : IntKind.i64.wrap (by' - ay) = x3) (f4 : IntKind.i64.wrap (py - ay) = x4) (f5 : IntKind.i64.wrap (x1 * x2) = p1) (f6 : IntKind.i64.wrap (x3 * x4) = p2) (f7 : IntKind.i64.wrap (p1 + p2) = al)
    (g1 : IntKind.u64.wrap al = u)
    (A1 : ∀ b w, b < w.heap.size → w.cell? ⟨b, 0, none⟩ = some (.int .i64 ax) → w.cell? ⟨b, 1, none⟩ = some (.int .i64 ay) → w.cell? ⟨b, 2, none⟩ = some (.int .i64 bx) → w.cell? ⟨b, 3, none⟩ = some (.int .i64 by') → w.cell? ⟨b, 4, none⟩ = some (.int .i64 px) → w.cell? ⟨b, 5, none⟩ = some (.int .i64 py) →
      Calls Tryz.prog 116 #[.slice (some ⟨b, 0, none⟩) 3 3] w fun e w' => e = .returned (.bool true) ∧ Gr w w')
    (A2 : ∀ w, Calls Tryz.prog 117 #[.agg #[.int .i64 ax, .int .i64 ay], .agg #[.int .i64 bx, .int .i64 by']] w fun e w' => e = .returned (.agg #[.int .u64 0, .int .u64 wh, .int .u64 1]) ∧ Gr w w')
    (A3 : ∀ w, Calls Tryz.prog 117 #[.agg #[.int .i64 ax, .int .i64 ay], .agg #[.int .i64 px, .int .i64 py]] w fun e w' => e = .returned (.agg #[.int .u64 0, .int .u64 s1, .int .u64 1]) ∧ Gr w w')
    (A4 : ∀ w, Calls Tryz.prog 117 #[.agg #[.int .i64 bx, .int .i64 by'], .agg #[.int .i64 px, .int .i64 py]] w fun e w' => e = .returned (.agg #[.int .u64 0, .int .u64 s2, .int .u64 1]) ∧ Gr w w')
    (A5 : ∀ w, Calls Tryz.prog 119 #[.agg #[.int .i64 ax, .int .i64 ay], .agg #[.int .i64 bx, .int .i64 by'], .agg #[.int .i64 px, .int .i64 py]] w fun e w' => e = .returned (.int .i64 c) ∧ Gr w w')
    (A6 : ∀ w, Calls Tryz.prog 113 #[.int .i64 c] w fun e w' => e = .returned (.agg #[.int .u64 h, .int .u64 l]) ∧ Gr w w')
    (r1 r2 r3 : Int)
    (hc : (al ≤ 0 ∧ r1 = 0 ∧ r2 = s1 ∧ r3 = 1) ∨ (¬ al ≤ 0 ∧ u ≥ wh ∧ wh ≤ u ∧ r1 = 0 ∧ r2 = s2 ∧ r3 = 1) ∨ (¬ al ≤ 0 ∧ ¬ u ≥ wh ∧ ¬ wh ≤ u ∧ r1 = qh ∧ r2 = ql ∧ r3 = qd ∧ ∀ w, Calls Tryz.prog 118 #[.agg #[.int .u64 h, .int .u64 l], .int .u64 wh] w fun e w' => e = .returned (.tuple #[.agg #[.int .u64 qh, .int .u64 ql, .int .u64 qd], .nilIface]) ∧ Gr w w')) :
    Calls Tryz.prog 77 #[.agg #[.int .i64 ax, .int .i64 ay], .agg #[.int .i64 bx, .int .i64 by'], .agg #[.int .i64 px, .int .i64 py]] W fun e w' => e = .returned (.agg #[.int .u64 r1, .int .u64 r2, .int .u64 r3]) ∧ Gr W w' := by
  have H1 := Lib.hid A1
  have H2 := Lib.hid A2
  have H3 := Lib.hid A3
  have H4 := Lib.hid A4
  have H5 := Lib.hid A5
  have H6 := Lib.hid A6
  clear A1 A2 A3 A4 A5 A6
  rcases hc with ⟨c1, rfl, rfl, rfl⟩ | ⟨c1, c2, c3, rfl, rfl, rfl⟩ | ⟨c1, c2, c3, rfl, rfl, rfl, A7⟩
  · go_enter Tryz.func77, Tryz.ntmps77
    go_wp2_with fail
    go_at_call 116
    refine ((H1.out _ _ (by go_simp) (by go_simp) (by go_simp) (by go_simp) (by go_simp) (by go_simp) (by go_simp))).mono ?_
    rintro e w1 ⟨rfl, hw1⟩
    have cw1_0_0 := ci hw1 (W.heap.size) 0 ax (by go_simp)
    have cw1_0_1 := ci hw1 (W.heap.size) 1 ay (by go_simp)
    have cw1_1_0 := ci hw1 (W.heap.size + 1) 0 bx (by go_simp)
    have cw1_1_1 := ci hw1 (W.heap.size + 1) 1 by' (by go_simp)
    have cw1_2_0 := ci hw1 (W.heap.size + 1 + 1) 0 px (by go_simp)
    have cw1_2_1 := ci hw1 (W.heap.size + 1 + 1) 1 py (by go_simp)
    have cw1_3_0 := cu hw1 (W.heap.size + 1 + 1 + 1) 0 0 (by go_simp)
    have fw1_3_0 := fq hw1 (W.heap.size + 1 + 1 + 1) 0 (.int .u64 0) (by go_simp) (by go_simp)
    have cw1_3_1 := cu hw1 (W.heap.size + 1 + 1 + 1) 1 0 (by go_simp)
    have fw1_3_1 := fq hw1 (W.heap.size + 1 + 1 + 1) 1 (.int .u64 0) (by go_simp) (by go_simp)
    have cw1_3_2 := cu hw1 (W.heap.size + 1 + 1 + 1) 2 0 (by go_simp)
    have fw1_3_2 := fq hw1 (W.heap.size + 1 + 1 + 1) 2 (.int .u64 0) (by go_simp) (by go_simp)
    have gw1 : Gr W w1 := Gr.trans (by go_grown) hw1
    clear hw1
    go_wp2_with fail
    go_at_call 117
    refine ((H2.out _)).mono ?_
    rintro e w2 ⟨rfl, hw2⟩
    have cw2_0_0 := ci hw2 (W.heap.size) 0 ax (by go_simp)
    have cw2_0_1 := ci hw2 (W.heap.size) 1 ay (by go_simp)
    have zw2_0 := zb cw2_0_0
    have cw2_1_0 := ci hw2 (W.heap.size + 1) 0 bx (by go_simp)
    have cw2_1_1 := ci hw2 (W.heap.size + 1) 1 by' (by go_simp)
    have zw2_1 := zb cw2_1_0
    have cw2_2_0 := ci hw2 (W.heap.size + 1 + 1) 0 px (by go_simp)
    have cw2_2_1 := ci hw2 (W.heap.size + 1 + 1) 1 py (by go_simp)
    have zw2_2 := zb cw2_2_0
    have cw2_3_0 := cu hw2 (W.heap.size + 1 + 1 + 1) 0 0 (by go_simp)
    have fw2_3_0 := fq hw2 (W.heap.size + 1 + 1 + 1) 0 (.int .u64 0) (by go_simp) (by go_simp)
    have cw2_3_1 := cu hw2 (W.heap.size + 1 + 1 + 1) 1 0 (by go_simp)
    have fw2_3_1 := fq hw2 (W.heap.size + 1 + 1 + 1) 1 (.int .u64 0) (by go_simp) (by go_simp)
    have cw2_3_2 := cu hw2 (W.heap.size + 1 + 1 + 1) 2 0 (by go_simp)
    have fw2_3_2 := fq hw2 (W.heap.size + 1 + 1 + 1) 2 (.int .u64 0) (by go_simp) (by go_simp)
    have zw2_3 := zb cw2_3_0
    have gw2 : Gr W w2 := Gr.trans (by have gg := gw1; have gs := gg.size; go_grown) hw2
    clear hw2 gw1 cw1_0_0 cw1_0_1 cw1_1_0 cw1_1_1 cw1_2_0 cw1_2_1 cw1_3_0 fw1_3_0 cw1_3_1 fw1_3_1 cw1_3_2 fw1_3_2
    go_wp2_with fail
    go_at_call 117
    refine ((H3.out _)).mono ?_
    rintro e w3 ⟨rfl, hw3⟩
    have cw3_0_0 := ci hw3 (W.heap.size) 0 ax (by go_simp)
    have cw3_0_1 := ci hw3 (W.heap.size) 1 ay (by go_simp)
    have zw3_0 := zb cw3_0_0
    have cw3_1_0 := ci hw3 (W.heap.size + 1) 0 bx (by go_simp)
    have cw3_1_1 := ci hw3 (W.heap.size + 1) 1 by' (by go_simp)
    have zw3_1 := zb cw3_1_0
    have cw3_2_0 := ci hw3 (W.heap.size + 1 + 1) 0 px (by go_simp)
    have cw3_2_1 := ci hw3 (W.heap.size + 1 + 1) 1 py (by go_simp)
    have zw3_2 := zb cw3_2_0
    have cw3_3_0 := cu hw3 (W.heap.size + 1 + 1 + 1) 0 0 (by go_simp)
    have fw3_3_0 := fq hw3 (W.heap.size + 1 + 1 + 1) 0 (.int .u64 0) (by go_simp) (by go_simp)
    have cw3_3_1 := cu hw3 (W.heap.size + 1 + 1 + 1) 1 0 (by go_simp)
    have fw3_3_1 := fq hw3 (W.heap.size + 1 + 1 + 1) 1 (.int .u64 0) (by go_simp) (by go_simp)
    have cw3_3_2 := cu hw3 (W.heap.size + 1 + 1 + 1) 2 0 (by go_simp)
    have fw3_3_2 := fq hw3 (W.heap.size + 1 + 1 + 1) 2 (.int .u64 0) (by go_simp) (by go_simp)
    have zw3_3 := zb cw3_3_0
    have cw3_4_0 := cu hw3 (w2.heap.size) 0 0 (by go_simp)
    have cw3_4_1 := cu hw3 (w2.heap.size) 1 wh (by go_simp)
    have cw3_4_2 := cu hw3 (w2.heap.size) 2 1 (by go_simp)
    have zw3_4 := zb cw3_4_0
    have gw3 : Gr W w3 := Gr.trans (by have gg := gw2; have gs := gg.size; go_grown) hw3
    clear hw3 gw2 zw2_0 cw2_0_0 cw2_0_1 zw2_1 cw2_1_0 cw2_1_1 zw2_2 cw2_2_0 cw2_2_1 zw2_3 cw2_3_0 fw2_3_0 cw2_3_1 fw2_3_1 cw2_3_2 fw2_3_2
    go_wp2_with fail
    refine bodyPost_ret (v := .agg #[.int .u64 0, .int .u64 r2, .int .u64 1]) (by simp [results, Tryz.results77, go_sem, *]) rfl ⟨rfl, by go_grown⟩
  · go_enter Tryz.func77, Tryz.ntmps77
    go_wp2_with fail
    go_at_call 116
    refine ((H1.out _ _ (by go_simp) (by go_simp) (by go_simp) (by go_simp) (by go_simp) (by go_simp) (by go_simp))).mono ?_
    rintro e w1 ⟨rfl, hw1⟩
    have cw1_0_0 := ci hw1 (W.heap.size) 0 ax (by go_simp)
    have cw1_0_1 := ci hw1 (W.heap.size) 1 ay (by go_simp)
    have cw1_1_0 := ci hw1 (W.heap.size + 1) 0 bx (by go_simp)
    have cw1_1_1 := ci hw1 (W.heap.size + 1) 1 by' (by go_simp)
    have cw1_2_0 := ci hw1 (W.heap.size + 1 + 1) 0 px (by go_simp)
    have cw1_2_1 := ci hw1 (W.heap.size + 1 + 1) 1 py (by go_simp)
    have cw1_3_0 := cu hw1 (W.heap.size + 1 + 1 + 1) 0 0 (by go_simp)
    have fw1_3_0 := fq hw1 (W.heap.size + 1 + 1 + 1) 0 (.int .u64 0) (by go_simp) (by go_simp)
    have cw1_3_1 := cu hw1 (W.heap.size + 1 + 1 + 1) 1 0 (by go_simp)
    have fw1_3_1 := fq hw1 (W.heap.size + 1 + 1 + 1) 1 (.int .u64 0) (by go_simp) (by go_simp)
    have cw1_3_2 := cu hw1 (W.heap.size + 1 + 1 + 1) 2 0 (by go_simp)
    have fw1_3_2 := fq hw1 (W.heap.size + 1 + 1 + 1) 2 (.int .u64 0) (by go_simp) (by go_simp)
    have gw1 : Gr W w1 := Gr.trans (by go_grown) hw1
    clear hw1
    go_wp2_with fail
    go_at_call 117
    refine ((H2.out _)).mono ?_
    rintro e w2 ⟨rfl, hw2⟩
    have cw2_0_0 := ci hw2 (W.heap.size) 0 ax (by go_simp)
    have cw2_0_1 := ci hw2 (W.heap.size) 1 ay (by go_simp)
    have zw2_0 := zb cw2_0_0
    have cw2_1_0 := ci hw2 (W.heap.size + 1) 0 bx (by go_simp)
    have cw2_1_1 := ci hw2 (W.heap.size + 1) 1 by' (by go_simp)
    have zw2_1 := zb cw2_1_0
    have cw2_2_0 := ci hw2 (W.heap.size + 1 + 1) 0 px (by go_simp)
    have cw2_2_1 := ci hw2 (W.heap.size + 1 + 1) 1 py (by go_simp)
    have zw2_2 := zb cw2_2_0
    have cw2_3_0 := cu hw2 (W.heap.size + 1 + 1 + 1) 0 0 (by go_simp)
    have fw2_3_0 := fq hw2 (W.heap.size + 1 + 1 + 1) 0 (.int .u64 0) (by go_simp) (by go_simp)
    have cw2_3_1 := cu hw2 (W.heap.size + 1 + 1 + 1) 1 0 (by go_simp)
    have fw2_3_1 := fq hw2 (W.heap.size + 1 + 1 + 1) 1 (.int .u64 0) (by go_simp) (by go_simp)
    have cw2_3_2 := cu hw2 (W.heap.size + 1 + 1 + 1) 2 0 (by go_simp)
    have fw2_3_2 := fq hw2 (W.heap.size + 1 + 1 + 1) 2 (.int .u64 0) (by go_simp) (by go_simp)
    have zw2_3 := zb cw2_3_0
    have gw2 : Gr W w2 := Gr.trans (by have gg := gw1; have gs := gg.size; go_grown) hw2
    clear hw2 gw1 cw1_0_0 cw1_0_1 cw1_1_0 cw1_1_1 cw1_2_0 cw1_2_1 cw1_3_0 fw1_3_0 cw1_3_1 fw1_3_1 cw1_3_2 fw1_3_2
    go_wp2_with fail
    go_at_call 117
    refine ((H4.out _)).mono ?_
    rintro e w3 ⟨rfl, hw3⟩
    have cw3_0_0 := ci hw3 (W.heap.size) 0 ax (by go_simp)
    have cw3_0_1 := ci hw3 (W.heap.size) 1 ay (by go_simp)
    have zw3_0 := zb cw3_0_0
    have cw3_1_0 := ci hw3 (W.heap.size + 1) 0 bx (by go_simp)
    have cw3_1_1 := ci hw3 (W.heap.size + 1) 1 by' (by go_simp)
    have zw3_1 := zb cw3_1_0
    have cw3_2_0 := ci hw3 (W.heap.size + 1 + 1) 0 px (by go_simp)
    have cw3_2_1 := ci hw3 (W.heap.size + 1 + 1) 1 py (by go_simp)
    have zw3_2 := zb cw3_2_0
    have cw3_3_0 := cu hw3 (W.heap.size + 1 + 1 + 1) 0 0 (by go_simp)
    have fw3_3_0 := fq hw3 (W.heap.size + 1 + 1 + 1) 0 (.int .u64 0) (by go_simp) (by go_simp)
    have cw3_3_1 := cu hw3 (W.heap.size + 1 + 1 + 1) 1 0 (by go_simp)
    have fw3_3_1 := fq hw3 (W.heap.size + 1 + 1 + 1) 1 (.int .u64 0) (by go_simp) (by go_simp)
    have cw3_3_2 := cu hw3 (W.heap.size + 1 + 1 + 1) 2 0 (by go_simp)
    have fw3_3_2 := fq hw3 (W.heap.size + 1 + 1 + 1) 2 (.int .u64 0) (by go_simp) (by go_simp)
    have zw3_3 := zb cw3_3_0
    have cw3_4_0 := cu hw3 (w2.heap.size) 0 0 (by go_simp)
    have cw3_4_1 := cu hw3 (w2.heap.size) 1 wh (by go_simp)
    have cw3_4_2 := cu hw3 (w2.heap.size) 2 1 (by go_simp)
    have zw3_4 := zb cw3_4_0
    have gw3 : Gr W w3 := Gr.trans (by have gg := gw2; have gs := gg.size; go_grown) hw3
    clear hw3 gw2 zw2_0 cw2_0_0 cw2_0_1 zw2_1 cw2_1_0 cw2_1_1 zw2_2 cw2_2_0 cw2_2_1 zw2_3 cw2_3_0 fw2_3_0 cw2_3_1 fw2_3_1 cw2_3_2 fw2_3_2
    go_wp2_with fail
    refine bodyPost_ret (v := .agg #[.int .u64 0, .int .u64 r2, .int .u64 1]) (by simp [results, Tryz.results77, go_sem, *]) rfl ⟨rfl, by go_grown⟩
  · have H7 := Lib.hid A7
    clear A7
    go_enter Tryz.func77, Tryz.ntmps77
    go_wp2_with fail
    go_at_call 116
    refine ((H1.out _ _ (by go_simp) (by go_simp) (by go_simp) (by go_simp) (by go_simp) (by go_simp) (by go_simp))).mono ?_
    rintro e w1 ⟨rfl, hw1⟩
    have cw1_0_0 := ci hw1 (W.heap.size) 0 ax (by go_simp)
    have cw1_0_1 := ci hw1 (W.heap.size) 1 ay (by go_simp)
    have cw1_1_0 := ci hw1 (W.heap.size + 1) 0 bx (by go_simp)
    have cw1_1_1 := ci hw1 (W.heap.size + 1) 1 by' (by go_simp)
    have cw1_2_0 := ci hw1 (W.heap.size + 1 + 1) 0 px (by go_simp)
    have cw1_2_1 := ci hw1 (W.heap.size + 1 + 1) 1 py (by go_simp)
    have cw1_3_0 := cu hw1 (W.heap.size + 1 + 1 + 1) 0 0 (by go_simp)
    have fw1_3_0 := fq hw1 (W.heap.size + 1 + 1 + 1) 0 (.int .u64 0) (by go_simp) (by go_simp)
    have cw1_3_1 := cu hw1 (W.heap.size + 1 + 1 + 1) 1 0 (by go_simp)
    have fw1_3_1 := fq hw1 (W.heap.size + 1 + 1 + 1) 1 (.int .u64 0) (by go_simp) (by go_simp)
    have cw1_3_2 := cu hw1 (W.heap.size + 1 + 1 + 1) 2 0 (by go_simp)
    have fw1_3_2 := fq hw1 (W.heap.size + 1 + 1 + 1) 2 (.int .u64 0) (by go_simp) (by go_simp)
    have gw1 : Gr W w1 := Gr.trans (by go_grown) hw1
    clear hw1
    go_wp2_with fail
    go_at_call 117
    refine ((H2.out _)).mono ?_
    rintro e w2 ⟨rfl, hw2⟩
    have cw2_0_0 := ci hw2 (W.heap.size) 0 ax (by go_simp)
    have cw2_0_1 := ci hw2 (W.heap.size) 1 ay (by go_simp)
    have zw2_0 := zb cw2_0_0
    have cw2_1_0 := ci hw2 (W.heap.size + 1) 0 bx (by go_simp)
    have cw2_1_1 := ci hw2 (W.heap.size + 1) 1 by' (by go_simp)
    have zw2_1 := zb cw2_1_0
    have cw2_2_0 := ci hw2 (W.heap.size + 1 + 1) 0 px (by go_simp)
    have cw2_2_1 := ci hw2 (W.heap.size + 1 + 1) 1 py (by go_simp)
    have zw2_2 := zb cw2_2_0
    have cw2_3_0 := cu hw2 (W.heap.size + 1 + 1 + 1) 0 0 (by go_simp)
    have fw2_3_0 := fq hw2 (W.heap.size + 1 + 1 + 1) 0 (.int .u64 0) (by go_simp) (by go_simp)
    have cw2_3_1 := cu hw2 (W.heap.size + 1 + 1 + 1) 1 0 (by go_simp)
    have fw2_3_1 := fq hw2 (W.heap.size + 1 + 1 + 1) 1 (.int .u64 0) (by go_simp) (by go_simp)
    have cw2_3_2 := cu hw2 (W.heap.size + 1 + 1 + 1) 2 0 (by go_simp)
    have fw2_3_2 := fq hw2 (W.heap.size + 1 + 1 + 1) 2 (.int .u64 0) (by go_simp) (by go_simp)
    have zw2_3 := zb cw2_3_0
    have gw2 : Gr W w2 := Gr.trans (by have gg := gw1; have gs := gg.size; go_grown) hw2
    clear hw2 gw1 cw1_0_0 cw1_0_1 cw1_1_0 cw1_1_1 cw1_2_0 cw1_2_1 cw1_3_0 fw1_3_0 cw1_3_1 fw1_3_1 cw1_3_2 fw1_3_2
    go_wp2_with fail
    generalize hhw3 : (w2.alloc (.cells #[.int .u64 0, .int .u64 wh, .int .u64 1] 42)) = w3
    have cw3_0_0 : w3.cell? ⟨W.heap.size, 0, none⟩ = some (.int .i64 ax) := by subst hhw3; go_simp
    have cw3_0_1 : w3.cell? ⟨W.heap.size, 1, none⟩ = some (.int .i64 ay) := by subst hhw3; go_simp
    have zw3_0 := zb cw3_0_0
    have cw3_1_0 : w3.cell? ⟨W.heap.size + 1, 0, none⟩ = some (.int .i64 bx) := by subst hhw3; go_simp
    have cw3_1_1 : w3.cell? ⟨W.heap.size + 1, 1, none⟩ = some (.int .i64 by') := by subst hhw3; go_simp
    have zw3_1 := zb cw3_1_0
    have cw3_2_0 : w3.cell? ⟨W.heap.size + 1 + 1, 0, none⟩ = some (.int .i64 px) := by subst hhw3; go_simp
    have cw3_2_1 : w3.cell? ⟨W.heap.size + 1 + 1, 1, none⟩ = some (.int .i64 py) := by subst hhw3; go_simp
    have zw3_2 := zb cw3_2_0
    have cw3_3_0 : w3.cell? ⟨W.heap.size + 1 + 1 + 1, 0, none⟩ = some (.int .u64 0) := by subst hhw3; go_simp
    have fw3_3_0 : w3.frozen? ⟨W.heap.size + 1 + 1 + 1, 0, none⟩ = false := by subst hhw3; go_simp
    have cw3_3_1 : w3.cell? ⟨W.heap.size + 1 + 1 + 1, 1, none⟩ = some (.int .u64 0) := by subst hhw3; go_simp
    have fw3_3_1 : w3.frozen? ⟨W.heap.size + 1 + 1 + 1, 1, none⟩ = false := by subst hhw3; go_simp
    have cw3_3_2 : w3.cell? ⟨W.heap.size + 1 + 1 + 1, 2, none⟩ = some (.int .u64 0) := by subst hhw3; go_simp
    have fw3_3_2 : w3.frozen? ⟨W.heap.size + 1 + 1 + 1, 2, none⟩ = false := by subst hhw3; go_simp
    have zw3_3 := zb cw3_3_0
    have cw3_4_0 : w3.cell? ⟨w2.heap.size, 0, none⟩ = some (.int .u64 0) := by subst hhw3; go_simp
    have cw3_4_1 : w3.cell? ⟨w2.heap.size, 1, none⟩ = some (.int .u64 wh) := by subst hhw3; go_simp
    have cw3_4_2 : w3.cell? ⟨w2.heap.size, 2, none⟩ = some (.int .u64 1) := by subst hhw3; go_simp
    have zw3_4 := zb cw3_4_0
    have gw3 : Gr W w3 := by subst hhw3; have gg := gw2; have gs := gg.size; go_grown
    clear hhw3 gw2 zw2_0 cw2_0_0 cw2_0_1 zw2_1 cw2_1_0 cw2_1_1 zw2_2 cw2_2_0 cw2_2_1 zw2_3 cw2_3_0 fw2_3_0 cw2_3_1 fw2_3_1 cw2_3_2 fw2_3_2
    go_wp2_with fail
    refine Hm.wp_region_made 13 11 12 9 #[.int .u64 0, .int .u64 0, .int .u64 0] #[.int .u64 r1, .int .u64 r2, .int .u64 r3] 42 (by kernel_rfl) (by simp only [List.getElem?_toArray, List.getElem?_cons_succ, List.getElem?_cons_zero] <;> rfl) (by simp only [List.getElem?_toArray, List.getElem?_cons_succ, List.getElem?_cons_zero] <;> rfl) (by kernel_rfl) (fun _ _ => ?_) ?_
    · unfold Oper.wp; go_simp
    intro KQ hKQ
    repeat (first | (refine Hm.wpG_sp (by decide) ?_ ?_; (· (try dsimp only); first | (rw [if_neg (by decide)]; trivial) | (rw [if_pos rfl]; (intro B w' g hB hw; have c0 : w'.cell? ⟨B, 0, none⟩ = some (.int .u64 0) := Hm.cell_of_heap hw 0; have f0 := Hm.frozen_of_heap hw 0; have c1 : w'.cell? ⟨B, 1, none⟩ = some (.int .u64 0) := Hm.cell_of_heap hw 1; have f1 := Hm.frozen_of_heap hw 1; have c2 : w'.cell? ⟨B, 2, none⟩ = some (.int .u64 0) := Hm.cell_of_heap hw 2; have f2 := Hm.frozen_of_heap hw 2; unfold Oper.wp; go_simp; exact ⟨(((g.setCell hB _).setCell hB _).setCell hB _), (Hm.heap_set_same (Hm.heap_set_same (Hm.heap_set_same hw)))⟩)))) | (refine Hm.wpG_skip (by decide) rfl ?_; simp only [Act.put, List.setIfInBounds_toArray, List.set_cons_zero, List.set_cons_succ]) | (refine Hm.wpG_want (by decide) rfl ?_; apply Exists.intro; refine ⟨?_, ?_⟩; (· intro wx gx; (obtain ⟨mx, rfl⟩ := spread_of_gr gx; clear gx); all_goals (apply Hd.gAt_of_quiet; intro K hK; go_big_quiet_op; first | exact hK _ rfl | (apply Exists.intro; refine ⟨fun _ => ?_, ?_⟩; (· (first | (go_at_call 119; first | ((with_reducible refine ((H5.out _)).mono ?_); rintro e w' ⟨rfl, hg⟩; exact ⟨rfl, spread_gr hg⟩)) | (go_at_call 113; first | ((with_reducible refine ((H6.out _)).mono ?_); rintro e w' ⟨rfl, hg⟩; exact ⟨rfl, spread_gr hg⟩)) | (go_at_call 118; first | ((with_reducible refine ((H7.out _)).mono ?_); rintro e w' ⟨rfl, hg⟩; exact ⟨rfl, spread_gr hg⟩)))); exact hK _ rfl))); try simp only [Act.put, List.setIfInBounds_toArray, List.set_cons_zero, List.set_cons_succ]))
    refine Hm.wpG_nil (hKQ _ ?_)
    clear hKQ KQ
    intro B4 w4 hw4 hBw4 hhw4
    have cw4_3_0 := cu hw4 (W.heap.size + 1 + 1 + 1) 0 0 (by go_simp)
    have fw4_3_0 := fq hw4 (W.heap.size + 1 + 1 + 1) 0 (.int .u64 0) (by go_simp) (by go_simp)
    have cw4_3_1 := cu hw4 (W.heap.size + 1 + 1 + 1) 1 0 (by go_simp)
    have fw4_3_1 := fq hw4 (W.heap.size + 1 + 1 + 1) 1 (.int .u64 0) (by go_simp) (by go_simp)
    have cw4_3_2 := cu hw4 (W.heap.size + 1 + 1 + 1) 2 0 (by go_simp)
    have fw4_3_2 := fq hw4 (W.heap.size + 1 + 1 + 1) 2 (.int .u64 0) (by go_simp) (by go_simp)
    have cw4_5_0 : w4.cell? ⟨B4, 0, none⟩ = some (.int .u64 r1) := Hm.cell_of_heap hhw4 0
    have cw4_5_1 : w4.cell? ⟨B4, 1, none⟩ = some (.int .u64 r2) := Hm.cell_of_heap hhw4 1
    have cw4_5_2 : w4.cell? ⟨B4, 2, none⟩ = some (.int .u64 r3) := Hm.cell_of_heap hhw4 2
    have gw4 : Gr W w4 := Gr.trans (by have gg := gw3; have gs := gg.size; go_grown) hw4
    clear hw4 hBw4 hhw4 gw3 zw3_0 cw3_0_0 cw3_0_1 zw3_1 cw3_1_0 cw3_1_1 zw3_2 cw3_2_0 cw3_2_1 zw3_3 cw3_3_0 fw3_3_0 cw3_3_1 fw3_3_1 cw3_3_2 fw3_3_2 zw3_4 cw3_4_0 cw3_4_1 cw3_4_2
    go_wp2_with fail
    refine bodyPost_ret (v := .agg #[.int .u64 r1, .int .u64 r2, .int .u64 r3]) (by simp [results, Tryz.results77, go_sem, *]) rfl ⟨rfl, by go_grown⟩
def dsH (ax ay bx by' px py : Int) : Int := ((sdN ax ay bx by' px py / 18446744073709551616 : Nat) : Int)
def dsL (ax ay bx by' px py : Int) : Int := ((sdN ax ay bx by' px py % 18446744073709551616 : Nat) : Int)
theorem cr_bound {ax ay bx by' px py : Int} (h : (nearB ax ay && nearB bx by' && nearB px py) = true) : crossZ ax ay bx by' px py = cr ax ay bx by' px py ∧ -9223372019674906632 ≤ cr ax ay bx by' px py ∧ cr ax ay bx by' px py ≤ 9223372019674906632 := by
  have hb := cross_bound ax ay bx by' px py
  have e : crossZ ax ay bx by' px py = cr ax ay bx by' px py := by
    unfold crossZ cr
    rw [if_pos h]
  rw [e] at hb
  exact ⟨e, hb⟩
theorem c_gDist (ax ay bx by' px py : Int) (h : (nearB ax ay && nearB bx by' && nearB px py) = true) (W : World) :
    Calls Tryz.prog 77 #[.agg #[.int .i64 ax, .int .i64 ay], .agg #[.int .i64 bx, .int .i64 by'], .agg #[.int .i64 px, .int .i64 py]] W fun e w' => e = .returned (.agg #[.int .u64 (dsH ax ay bx by' px py), .int .u64 (dsL ax ay bx by' px py), .int .u64 (sdD ax ay bx by' px py)]) ∧ Gr W w' := by
  have hn : (nearB ax ay = true ∧ nearB bx by' = true) ∧ nearB px py = true := by simpa using h
  have n1 := nearB_iff.1 hn.1.1
  have n2 := nearB_iff.1 hn.1.2
  have n3 := nearB_iff.1 hn.2
  have m1 := mul_near (x := bx - ax) (y := px - ax) (by omega) (by omega)
  have m2 := mul_near (x := by' - ay) (y := py - ay) (by omega) (by omega)
  have A1 := fun b w => c_gMayBe3 ax ay bx by' px py true h.symm b w
  have A2 := fun w => c_Square2 ax ay bx by' w ⟨hn.1.1, hn.1.2⟩
  have A3 := fun w => c_Square2 ax ay px py w ⟨hn.1.1, hn.2⟩
  have A4 := fun w => c_Square2 bx by' px py w ⟨hn.1.2, hn.2⟩
  have A5 := c_Cross ax ay bx by' px py
  obtain ⟨ce, cb⟩ := cr_bound h
  rw [ce] at A5
  have A6 := c_Square (cr ax ay bx by' px py) (by omega)
  have hal : alZ ax ay bx by' px py = (bx - ax) * (px - ax) + (by' - ay) * (py - ay) := rfl
  have q0 := sq_nn ax ay bx by'
  have q1 := sq_nn ax ay px py
  have q2 := sq_nn bx by' px py
  have b0 := sqZ_bound hn.1.1 hn.1.2
  have b1 := sqZ_bound hn.1.1 hn.2
  have b2 := sqZ_bound hn.1.2 hn.2
  have hu : IntKind.u64.wrap (alZ ax ay bx by' px py) = alZ ax ay bx by' px py % 18446744073709551616 := by rw [IntKind.wrap_u64]
  refine dist_core ax ay bx by' px py (bx - ax) (px - ax) (by' - ay) (py - ay) ((bx - ax) * (px - ax)) ((by' - ay) * (py - ay)) (alZ ax ay bx by' px py) _ _ _ _ _ _ ((lowN ((cr ax ay bx by' px py).natAbs * (cr ax ay bx by' px py).natAbs) (sqZ ax ay bx by').toNat / 18446744073709551616 : Nat) : Int) ((lowN ((cr ax ay bx by' px py).natAbs * (cr ax ay bx by' px py).natAbs) (sqZ ax ay bx by').toNat % 18446744073709551616 : Nat) : Int) (lowD ((cr ax ay bx by' px py).natAbs * (cr ax ay bx by' px py).natAbs) (sqZ ax ay bx by').toNat) (alZ ax ay bx by' px py % 18446744073709551616) W
    (IntWalk.wrap64_in _ (by omega)) (IntWalk.wrap64_in _ (by omega)) (IntWalk.wrap64_in _ (by omega)) (IntWalk.wrap64_in _ (by omega)) (IntWalk.wrap64_in _ (by omega)) (IntWalk.wrap64_in _ (by omega)) (IntWalk.wrap64_in _ (by omega))
    (IntWalk.i64_in _ (by omega)) (IntWalk.i64_in _ (by omega)) (IntWalk.i64_in _ (by omega)) (IntWalk.i64_in _ (by omega)) (IntWalk.i64_in _ (by omega)) (IntWalk.i64_in _ (by omega)) (IntWalk.i64_in _ (by omega)) hu
    A1 A2 A3 A4 A5 A6 _ _ _ ?_
  unfold dsH dsL sdN sdD
  by_cases c1 : alZ ax ay bx by' px py ≤ 0
  · left
    rw [if_pos c1, if_pos c1]
    refine ⟨c1, ?_, ?_, rfl⟩ <;> omega
  · right
    rw [if_neg c1, if_neg c1]
    have e : alZ ax ay bx by' px py % 18446744073709551616 = alZ ax ay bx by' px py := Int.emod_eq_of_lt (by omega) (by omega)
    rw [e]
    by_cases c2 : sqZ ax ay bx by' ≤ alZ ax ay bx by' px py
    · left
      rw [if_pos c2, if_pos c2]
      refine ⟨c1, c2, c2, ?_, ?_, rfl⟩ <;> omega
    · right
      rw [if_neg c2, if_neg c2]
      refine ⟨c1, by omega, c2, rfl, rfl, rfl, fun w => ?_⟩
      have cc : (cr ax ay bx by' px py).natAbs * (cr ax ay bx by' px py).natAbs ≤ 9223372019674906632 * 9223372019674906632 := Nat.mul_le_mul (by omega) (by omega)
      have M := c_Make ((cr ax ay bx by' px py).natAbs * (cr ax ay bx by' px py).natAbs / 18446744073709551616) ((cr ax ay bx by' px py).natAbs * (cr ax ay bx by' px py).natAbs % 18446744073709551616) (sqZ ax ay bx by').toNat (by unfold Wd; omega) (by unfold Wd; omega) (by unfold Wd; omega) (by omega) w
      have ev : val ((cr ax ay bx by' px py).natAbs * (cr ax ay bx by' px py).natAbs / 18446744073709551616) ((cr ax ay bx by' px py).natAbs * (cr ax ay bx by' px py).natAbs % 18446744073709551616) = (cr ax ay bx by' px py).natAbs * (cr ax ay bx by' px py).natAbs := by unfold val; omega
      rw [ev, Int.toNat_of_nonneg q0] at M
      exact M
theorem c_gDist_no (ax ay bx by' px py : Int) (h : (nearB ax ay && nearB bx by' && nearB px py) = false) (W : World) :
    Calls Tryz.prog 77 #[.agg #[.int .i64 ax, .int .i64 ay], .agg #[.int .i64 bx, .int .i64 by'], .agg #[.int .i64 px, .int .i64 py]] W fun e w' => e = .returned (.agg #[.int .u64 0, .int .u64 0, .int .u64 0]) ∧ Gr W w' := dist_no ax ay bx by' px py W (fun b w => c_gMayBe3 ax ay bx by' px py false h.symm b w)
end Go.Proofs.YtfobmlgpjhghdaaGreatDoor
namespace Go.Proofs.YtfobmlgpjhghdaaGreatDoor
set_option linter.unusedVariables false
open Go.ChangeShapes Go.WideShapes Go.ChangeAt Go.RowKit
end Go.Proofs.YtfobmlgpjhghdaaGreatDoor
namespace Go.Proofs.YtfobmlgpjhghdaaGreatDoor
set_option linter.unusedVariables false
open Go.ChangeShapes Go.WideShapes Go.ChangeAt Go.RowKit
set_option maxHeartbeats 4000000 in
set_option maxRecDepth 100000 in
theorem around_core (ax ay bx by' lx ly hx hy : Int) (B : Nat) (W : World) (hB : B < W.heap.size) (k0 : W.cell? ⟨B, 0, none⟩ = some (.int .i64 ax)) (k1 : W.cell? ⟨B, 1, none⟩ = some (.int .i64 ay)) (k2 : W.cell? ⟨B, 2, none⟩ = some (.int .i64 bx)) (k3 : W.cell? ⟨B, 3, none⟩ = some (.int .i64 by'))
    (A1 : ∀ w, Calls Tryz.prog 101 #[.agg #[.int .i64 ax, .int .i64 ay, .int .i64 ax, .int .i64 ay], .agg #[.int .i64 ax, .int .i64 ay, .int .i64 ax, .int .i64 ay]] w fun e w' => e = .returned (.agg #[.int .i64 ax, .int .i64 ay, .int .i64 ax, .int .i64 ay]) ∧ Gr w w')
    (A2 : ∀ w, Calls Tryz.prog 101 #[.agg #[.int .i64 ax, .int .i64 ay, .int .i64 ax, .int .i64 ay], .agg #[.int .i64 bx, .int .i64 by', .int .i64 bx, .int .i64 by']] w fun e w' => e = .returned (.agg #[.int .i64 lx, .int .i64 ly, .int .i64 hx, .int .i64 hy]) ∧ Gr w w') :
    Calls Tryz.prog 62 #[.slice (some ⟨B, 0, none⟩) 2 2] W fun e w' => e = .returned (.agg #[.int .i64 lx, .int .i64 ly, .int .i64 hx, .int .i64 hy]) ∧ Gr W w' := by
  have H1 := Lib.hid A1
  have H2 := Lib.hid A2
  clear A1 A2
  have nB1 : ¬ B = W.heap.size + 1 := by omega
  have nB2 : ¬ W.heap.size + 1 = B := by omega
  have nB3 : ¬ B = W.heap.size := by omega
  have nB4 : ¬ W.heap.size = B := by omega
  go_enter Tryz.func62, Tryz.ntmps62
  go_wp2_with fail
  refine wp_loop_rounds 3 ?_
  rw [rounds_succ]
  go_wp2_with fail
  go_at_call 101
  refine ((H1.out _)).mono ?_
  rintro e w1 ⟨rfl, hw1⟩
  have cw1_0_0 := ci hw1 (W.heap.size) 0 0 (by go_simp)
  have fw1_0_0 := fq hw1 (W.heap.size) 0 (.int .i64 0) (by go_simp) (by go_simp)
  have cw1_0_1 := ci hw1 (W.heap.size) 1 0 (by go_simp)
  have fw1_0_1 := fq hw1 (W.heap.size) 1 (.int .i64 0) (by go_simp) (by go_simp)
  have cw1_0_2 := ci hw1 (W.heap.size) 2 0 (by go_simp)
  have fw1_0_2 := fq hw1 (W.heap.size) 2 (.int .i64 0) (by go_simp) (by go_simp)
  have cw1_0_3 := ci hw1 (W.heap.size) 3 0 (by go_simp)
  have fw1_0_3 := fq hw1 (W.heap.size) 3 (.int .i64 0) (by go_simp) (by go_simp)
  have zw1_0 := zb cw1_0_0
  have cw1_1_0 := ci hw1 (W.heap.size + 1) 0 ax (by go_simp)
  have fw1_1_0 := fq hw1 (W.heap.size + 1) 0 (.int .i64 ax) (by go_simp) (by go_simp)
  have cw1_1_1 := ci hw1 (W.heap.size + 1) 1 ay (by go_simp)
  have fw1_1_1 := fq hw1 (W.heap.size + 1) 1 (.int .i64 ay) (by go_simp) (by go_simp)
  have cw1_1_2 := ci hw1 (W.heap.size + 1) 2 ax (by go_simp)
  have fw1_1_2 := fq hw1 (W.heap.size + 1) 2 (.int .i64 ax) (by go_simp) (by go_simp)
  have cw1_1_3 := ci hw1 (W.heap.size + 1) 3 ay (by go_simp)
  have fw1_1_3 := fq hw1 (W.heap.size + 1) 3 (.int .i64 ay) (by go_simp) (by go_simp)
  have zw1_1 := zb cw1_1_0
  have gw1 : Gr W w1 := Gr.trans (by go_grown) hw1
  clear hw1
  have j2 := cell_gr gw1 k2
  have j3 := cell_gr gw1 k3
  clear k0 k1 k2 k3
  have zB := World.block_lt_of_cell? _ _ j2
  go_wp2_with fail
  rw [rounds_succ]
  go_wp2_with fail
  go_at_call 101
  refine ((H2.out _)).mono ?_
  rintro e w2 ⟨rfl, hw2⟩
  have cw2_0_0 := ci hw2 (W.heap.size) 0 0 (by go_simp)
  have fw2_0_0 := fq hw2 (W.heap.size) 0 (.int .i64 0) (by go_simp) (by go_simp)
  have cw2_0_1 := ci hw2 (W.heap.size) 1 0 (by go_simp)
  have fw2_0_1 := fq hw2 (W.heap.size) 1 (.int .i64 0) (by go_simp) (by go_simp)
  have cw2_0_2 := ci hw2 (W.heap.size) 2 0 (by go_simp)
  have fw2_0_2 := fq hw2 (W.heap.size) 2 (.int .i64 0) (by go_simp) (by go_simp)
  have cw2_0_3 := ci hw2 (W.heap.size) 3 0 (by go_simp)
  have fw2_0_3 := fq hw2 (W.heap.size) 3 (.int .i64 0) (by go_simp) (by go_simp)
  have cw2_1_0 := ci hw2 (W.heap.size + 1) 0 ax (by go_simp)
  have fw2_1_0 := fq hw2 (W.heap.size + 1) 0 (.int .i64 ax) (by go_simp) (by go_simp)
  have cw2_1_1 := ci hw2 (W.heap.size + 1) 1 ay (by go_simp)
  have fw2_1_1 := fq hw2 (W.heap.size + 1) 1 (.int .i64 ay) (by go_simp) (by go_simp)
  have cw2_1_2 := ci hw2 (W.heap.size + 1) 2 ax (by go_simp)
  have fw2_1_2 := fq hw2 (W.heap.size + 1) 2 (.int .i64 ax) (by go_simp) (by go_simp)
  have cw2_1_3 := ci hw2 (W.heap.size + 1) 3 ay (by go_simp)
  have fw2_1_3 := fq hw2 (W.heap.size + 1) 3 (.int .i64 ay) (by go_simp) (by go_simp)
  have gw2 : Gr W w2 := Gr.trans (by have gg := gw1; have gs := gg.size; go_grown) hw2
  clear hw2 gw1 zw1_0 cw1_0_0 fw1_0_0 cw1_0_1 fw1_0_1 cw1_0_2 fw1_0_2 cw1_0_3 fw1_0_3 zw1_1 cw1_1_0 fw1_1_0 cw1_1_1 fw1_1_1 cw1_1_2 fw1_1_2 cw1_1_3 fw1_1_3
  go_wp2_with fail
  rw [rounds_succ]
  go_wp2_with fail
  refine bodyPost_ret (v := .agg #[.int .i64 lx, .int .i64 ly, .int .i64 hx, .int .i64 hy]) (by simp [results, Tryz.results62, go_sem, *]) rfl ⟨rfl, by go_grown⟩
theorem c_Around2 (ax ay bx by' : Int) (B : Nat) (W : World) (hB : B < W.heap.size) (k0 : W.cell? ⟨B, 0, none⟩ = some (.int .i64 ax)) (k1 : W.cell? ⟨B, 1, none⟩ = some (.int .i64 ay)) (k2 : W.cell? ⟨B, 2, none⟩ = some (.int .i64 bx)) (k3 : W.cell? ⟨B, 3, none⟩ = some (.int .i64 by')) :
    Calls Tryz.prog 62 #[.slice (some ⟨B, 0, none⟩) 2 2] W fun e w' => e = .returned (.agg #[.int .i64 (minZ ax bx), .int .i64 (minZ ay by'), .int .i64 (maxZ ax bx), .int .i64 (maxZ ay by')]) ∧ Gr W w' :=
  around_core ax ay bx by' _ _ _ _ B W hB k0 k1 k2 k3 (c_join_self ax ay ax ay) (c_join ax ay ax ay bx by' bx by')
end Go.Proofs.YtfobmlgpjhghdaaGreatDoor
namespace Go.Proofs.YtfobmlgpjhghdaaGreatDoor
set_option linter.unusedVariables false
open Go.ChangeShapes Go.WideShapes Go.ChangeAt Go.RowKit
def MbCut (W : World) (ax ay bx by' lx ly hx hy : Int) (nm : Bool) (v : Value) (wx : World) : Prop := v = .bool nm ∧ wx.cell? ⟨W.heap.size, 0, none⟩ = some (.int .i64 ax) ∧ wx.cell? ⟨W.heap.size, 1, none⟩ = some (.int .i64 ay) ∧ wx.cell? ⟨W.heap.size + 1, 0, none⟩ = some (.int .i64 bx) ∧ wx.cell? ⟨W.heap.size + 1, 1, none⟩ = some (.int .i64 by') ∧ wx.cell? ⟨W.heap.size + 1 + 1, 0, none⟩ = some (.int .i64 lx) ∧ wx.cell? ⟨W.heap.size + 1 + 1, 1, none⟩ = some (.int .i64 ly) ∧ wx.cell? ⟨W.heap.size + 1 + 1, 2, none⟩ = some (.int .i64 hx) ∧ wx.cell? ⟨W.heap.size + 1 + 1, 3, none⟩ = some (.int .i64 hy) ∧ Gr W wx
def MbTwo (W : World) (ax ay bx by' lx ly hx hy : Int) (p q : Value) (wx : World) : Prop := ∃ b7 b8 : Nat, p = .pointer (some ⟨b7, 0, none⟩) ∧ q = .pointer (some ⟨b8, 0, none⟩) ∧ wx.cell? ⟨b7, 0, none⟩ = some (.int .i64 lx) ∧ wx.cell? ⟨b7, 1, none⟩ = some (.int .i64 hy) ∧ wx.cell? ⟨b8, 0, none⟩ = some (.int .i64 hx) ∧ wx.cell? ⟨b8, 1, none⟩ = some (.int .i64 ly) ∧ wx.cell? ⟨W.heap.size, 0, none⟩ = some (.int .i64 ax) ∧ wx.cell? ⟨W.heap.size, 1, none⟩ = some (.int .i64 ay) ∧ wx.cell? ⟨W.heap.size + 1, 0, none⟩ = some (.int .i64 bx) ∧ wx.cell? ⟨W.heap.size + 1, 1, none⟩ = some (.int .i64 by') ∧ wx.cell? ⟨W.heap.size + 1 + 1, 0, none⟩ = some (.int .i64 lx) ∧ wx.cell? ⟨W.heap.size + 1 + 1, 1, none⟩ = some (.int .i64 ly) ∧ wx.cell? ⟨W.heap.size + 1 + 1, 2, none⟩ = some (.int .i64 hx) ∧ wx.cell? ⟨W.heap.size + 1 + 1, 3, none⟩ = some (.int .i64 hy) ∧ Gr W wx
set_option maxHeartbeats 8000000 in
set_option maxRecDepth 100000 in
theorem gmb_in (ax ay bx by' lx ly hx hy ox oy ux uy : Int) (m nm ha hb k1 k2 r : Bool) (W : World)
    (hc : (nm = true ∧ m = false ∧ r = false) ∨ (nm = false ∧ m = true ∧ ha = true ∧ r = true) ∨ (nm = false ∧ m = true ∧ ha = false ∧ hb = true ∧ r = true) ∨ (nm = false ∧ m = true ∧ ha = false ∧ hb = false ∧ k1 = true ∧ r = true) ∨ (nm = false ∧ m = true ∧ ha = false ∧ hb = false ∧ k1 = false ∧ r = k2)) (hm : (!m) = nm)
    (A1 : ∀ b w, b < w.heap.size → w.cell? ⟨b, 0, none⟩ = some (.int .i64 ax) → w.cell? ⟨b, 1, none⟩ = some (.int .i64 ay) → w.cell? ⟨b, 2, none⟩ = some (.int .i64 bx) → w.cell? ⟨b, 3, none⟩ = some (.int .i64 by') →
      Calls Tryz.prog 116 #[.slice (some ⟨b, 0, none⟩) 2 2] w fun e w' => e = .returned (.bool true) ∧ Gr w w')
    (A2 : ∀ w, Calls Tryz.prog 96 #[.agg #[.int .i64 lx, .int .i64 ly, .int .i64 hx, .int .i64 hy]] w fun e w' => e = .returned (.nilIface) ∧ Gr w w')
    (A3 : ∀ b w, b < w.heap.size → w.cell? ⟨b, 0, none⟩ = some (.int .i64 ax) → w.cell? ⟨b, 1, none⟩ = some (.int .i64 ay) → w.cell? ⟨b, 2, none⟩ = some (.int .i64 bx) → w.cell? ⟨b, 3, none⟩ = some (.int .i64 by') →
      Calls Tryz.prog 62 #[.slice (some ⟨b, 0, none⟩) 2 2] w fun e w' => e = .returned (.agg #[.int .i64 ox, .int .i64 oy, .int .i64 ux, .int .i64 uy]) ∧ Gr w w')
    (A4 : ∀ w, Calls Tryz.prog 87 #[.agg #[.int .i64 ox, .int .i64 oy, .int .i64 ux, .int .i64 uy], .agg #[.int .i64 lx, .int .i64 ly, .int .i64 hx, .int .i64 hy]] w fun e w' => e = .returned (.bool m) ∧ Gr w w')
    (A5 : ∀ w, Calls Tryz.prog 126 #[.agg #[.int .i64 lx, .int .i64 ly, .int .i64 hx, .int .i64 hy], .agg #[.int .i64 ax, .int .i64 ay]] w fun e w' => e = .returned (.bool ha) ∧ Gr w w')
    (A6 : ∀ w, Calls Tryz.prog 126 #[.agg #[.int .i64 lx, .int .i64 ly, .int .i64 hx, .int .i64 hy], .agg #[.int .i64 bx, .int .i64 by']] w fun e w' => e = .returned (.bool hb) ∧ Gr w w')
    (A7 : ∀ w, Calls Tryz.prog 125 #[.agg #[.int .i64 ax, .int .i64 ay], .agg #[.int .i64 bx, .int .i64 by'], .agg #[.int .i64 lx, .int .i64 ly], .agg #[.int .i64 hx, .int .i64 hy]] w fun e w' => e = .returned (.bool k1) ∧ Gr w w')
    (A8 : ∀ w, Calls Tryz.prog 125 #[.agg #[.int .i64 ax, .int .i64 ay], .agg #[.int .i64 bx, .int .i64 by'], .agg #[.int .i64 lx, .int .i64 hy], .agg #[.int .i64 hx, .int .i64 ly]] w fun e w' => e = .returned (.bool k2) ∧ Gr w w') :
    Calls Tryz.prog 88 #[.agg #[.int .i64 ax, .int .i64 ay], .agg #[.int .i64 bx, .int .i64 by'], .agg #[.int .i64 lx, .int .i64 ly, .int .i64 hx, .int .i64 hy]] W fun e w' => e = .returned (.bool r) ∧ Gr W w' := by
  have H1 := Lib.hid A1
  have H2 := Lib.hid A2
  have H3 := Lib.hid A3
  have H4 := Lib.hid A4
  have H5 := Lib.hid A5
  have H6 := Lib.hid A6
  have H7 := Lib.hid A7
  have H8 := Lib.hid A8
  clear A1 A2 A3 A4 A5 A6 A7 A8
  have HC := Lib.hid hc
  have HM := Lib.hid hm
  clear hc hm
  go_enter Tryz.func88, Tryz.ntmps88
  go_wp2_with fail
  go_at_call 116
  refine ((H1.out _ _ (by go_simp) (by go_simp) (by go_simp) (by go_simp) (by go_simp))).mono ?_
  rintro e w1 ⟨rfl, hw1⟩
  have cw1_0_0 := ci hw1 (W.heap.size) 0 ax (by go_simp)
  have cw1_0_1 := ci hw1 (W.heap.size) 1 ay (by go_simp)
  have cw1_1_0 := ci hw1 (W.heap.size + 1) 0 bx (by go_simp)
  have cw1_1_1 := ci hw1 (W.heap.size + 1) 1 by' (by go_simp)
  have cw1_2_0 := ci hw1 (W.heap.size + 1 + 1) 0 lx (by go_simp)
  have cw1_2_1 := ci hw1 (W.heap.size + 1 + 1) 1 ly (by go_simp)
  have cw1_2_2 := ci hw1 (W.heap.size + 1 + 1) 2 hx (by go_simp)
  have cw1_2_3 := ci hw1 (W.heap.size + 1 + 1) 3 hy (by go_simp)
  have gw1 : Gr W w1 := Gr.trans (by go_grown) hw1
  clear hw1
  go_wp2_with fail
  go_at_call 96
  refine ((H2.out _)).mono ?_
  rintro e w2 ⟨rfl, hw2⟩
  have cw2_0_0 := ci hw2 (W.heap.size) 0 ax (by go_simp)
  have cw2_0_1 := ci hw2 (W.heap.size) 1 ay (by go_simp)
  have zw2_0 := zb cw2_0_0
  have cw2_1_0 := ci hw2 (W.heap.size + 1) 0 bx (by go_simp)
  have cw2_1_1 := ci hw2 (W.heap.size + 1) 1 by' (by go_simp)
  have zw2_1 := zb cw2_1_0
  have cw2_2_0 := ci hw2 (W.heap.size + 1 + 1) 0 lx (by go_simp)
  have cw2_2_1 := ci hw2 (W.heap.size + 1 + 1) 1 ly (by go_simp)
  have cw2_2_2 := ci hw2 (W.heap.size + 1 + 1) 2 hx (by go_simp)
  have cw2_2_3 := ci hw2 (W.heap.size + 1 + 1) 3 hy (by go_simp)
  have zw2_2 := zb cw2_2_0
  have gw2 : Gr W w2 := Gr.trans (by have gg := gw1; have gs := gg.size; go_grown) hw2
  clear hw2 gw1 cw1_0_0 cw1_0_1 cw1_1_0 cw1_1_1 cw1_2_0 cw1_2_1 cw1_2_2 cw1_2_3
  go_upto_region 3 with fail
  go_cut [25] from 19 to 25 (fun v wx => MbCut W ax ay bx by' lx ly hx hy nm v wx)
  case first =>
    go_region_with (first | (go_at_call 62; refine (H3.out _ _ (by go_simp) (by go_simp) (by go_simp) (by go_simp) (by go_simp)).mono ?_; rintro e w3 ⟨rfl, h3⟩; have w3c0 : w3.cell? ⟨W.heap.size, 0, none⟩ = some (.int .i64 ax) := cell_gr h3 (by go_simp); have w3c1 : w3.cell? ⟨W.heap.size, 1, none⟩ = some (.int .i64 ay) := cell_gr h3 (by go_simp); have w3c2 : w3.cell? ⟨W.heap.size + 1, 0, none⟩ = some (.int .i64 bx) := cell_gr h3 (by go_simp); have w3c3 : w3.cell? ⟨W.heap.size + 1, 1, none⟩ = some (.int .i64 by') := cell_gr h3 (by go_simp); have w3c4 : w3.cell? ⟨W.heap.size + 1 + 1, 0, none⟩ = some (.int .i64 lx) := cell_gr h3 (by go_simp); have w3c5 : w3.cell? ⟨W.heap.size + 1 + 1, 1, none⟩ = some (.int .i64 ly) := cell_gr h3 (by go_simp); have w3c6 : w3.cell? ⟨W.heap.size + 1 + 1, 2, none⟩ = some (.int .i64 hx) := cell_gr h3 (by go_simp); have w3c7 : w3.cell? ⟨W.heap.size + 1 + 1, 3, none⟩ = some (.int .i64 hy) := cell_gr h3 (by go_simp); have g3 : Gr W w3 := Gr.trans (by have gg := gw2; have gs := gg.size; go_grown) h3; clear h3) | (go_at_call 87; refine (H4.out _).mono ?_; rintro e w4 ⟨rfl, h4⟩; have w4c0 : w4.cell? ⟨W.heap.size, 0, none⟩ = some (.int .i64 ax) := cell_gr h4 (by go_simp); have w4c1 : w4.cell? ⟨W.heap.size, 1, none⟩ = some (.int .i64 ay) := cell_gr h4 (by go_simp); have w4c2 : w4.cell? ⟨W.heap.size + 1, 0, none⟩ = some (.int .i64 bx) := cell_gr h4 (by go_simp); have w4c3 : w4.cell? ⟨W.heap.size + 1, 1, none⟩ = some (.int .i64 by') := cell_gr h4 (by go_simp); have w4c4 : w4.cell? ⟨W.heap.size + 1 + 1, 0, none⟩ = some (.int .i64 lx) := cell_gr h4 (by go_simp); have w4c5 : w4.cell? ⟨W.heap.size + 1 + 1, 1, none⟩ = some (.int .i64 ly) := cell_gr h4 (by go_simp); have w4c6 : w4.cell? ⟨W.heap.size + 1 + 1, 2, none⟩ = some (.int .i64 hx) := cell_gr h4 (by go_simp); have w4c7 : w4.cell? ⟨W.heap.size + 1 + 1, 3, none⟩ = some (.int .i64 hy) := cell_gr h4 (by go_simp); have g4 : Gr W w4 := Gr.trans (by have gg := g3; have gs := gg.size; go_grown) h4; clear h4))
    all_goals (go_wp2_with fail; go_meet; exact ⟨by rw [HM.out], by assumption, by assumption, by assumption, by assumption, by assumption, by assumption, by assumption, by assumption, by assumption⟩)
  case rest =>
    obtain ⟨rfl, cc0, cc1, cc2, cc3, cc4, cc5, cc6, cc7, gwc⟩ := hcut
    have zz0 := World.block_lt_of_cell? _ _ cc0
    have zz1 := World.block_lt_of_cell? _ _ cc2
    have zz2 := World.block_lt_of_cell? _ _ cc4
    clear gw2 zw2_0 cw2_0_0 cw2_0_1 zw2_1 cw2_1_0 cw2_1_1 zw2_2 cw2_2_0 cw2_2_1 cw2_2_2 cw2_2_3
    have HK : (nm = true ∧ r = false) ∨ (nm = false ∧ ha = true ∧ r = true) ∨ (nm = false ∧ ha = false ∧ hb = true ∧ r = true) ∨ (nm = false ∧ ha = false ∧ hb = false ∧ ((k1 = true ∧ r = true) ∨ (k1 = false ∧ r = k2))) := by
      rcases HC.out with ⟨a, -, b⟩ | ⟨a, -, b, c⟩ | ⟨a, -, b, c, d⟩ | ⟨a, -, b, c, d, e⟩ | ⟨a, -, b, c, d, e⟩
      · exact Or.inl ⟨a, b⟩
      · exact Or.inr (Or.inl ⟨a, b, c⟩)
      · exact Or.inr (Or.inr (Or.inl ⟨a, b, c, d⟩))
      · exact Or.inr (Or.inr (Or.inr ⟨a, b, c, Or.inl ⟨d, e⟩⟩))
      · exact Or.inr (Or.inr (Or.inr ⟨a, b, c, Or.inr ⟨d, e⟩⟩))
    clear HC HM
    rcases HK with ⟨rfl, rfl⟩ | ⟨rfl, rfl, rfl⟩ | ⟨rfl, rfl, rfl, rfl⟩ | ⟨rfl, rfl, rfl, hk⟩
    · go_wp2_with fail
      go_ret
      exact ⟨rfl, gwc⟩
    · skip
      go_wp2_with fail
      go_at_call 126
      refine ((H5.out _)).mono ?_
      rintro e w5 ⟨rfl, hw5⟩
      have cw5_0_0 := ci hw5 (W.heap.size) 0 ax (by go_simp)
      have cw5_0_1 := ci hw5 (W.heap.size) 1 ay (by go_simp)
      have cw5_1_0 := ci hw5 (W.heap.size + 1) 0 bx (by go_simp)
      have cw5_1_1 := ci hw5 (W.heap.size + 1) 1 by' (by go_simp)
      have cw5_2_0 := ci hw5 (W.heap.size + 1 + 1) 0 lx (by go_simp)
      have cw5_2_1 := ci hw5 (W.heap.size + 1 + 1) 1 ly (by go_simp)
      have cw5_2_2 := ci hw5 (W.heap.size + 1 + 1) 2 hx (by go_simp)
      have cw5_2_3 := ci hw5 (W.heap.size + 1 + 1) 3 hy (by go_simp)
      have gw5 : Gr W w5 := Gr.trans (by have gg := gwc; have gs := gg.size; go_grown) hw5
      clear hw5 gwc
      go_wp2_with fail
      go_ret
      exact ⟨rfl, gw5⟩
    · skip
      go_wp2_with fail
      go_at_call 126
      refine ((H5.out _)).mono ?_
      rintro e w5 ⟨rfl, hw5⟩
      have cw5_0_0 := ci hw5 (W.heap.size) 0 ax (by go_simp)
      have cw5_0_1 := ci hw5 (W.heap.size) 1 ay (by go_simp)
      have cw5_1_0 := ci hw5 (W.heap.size + 1) 0 bx (by go_simp)
      have cw5_1_1 := ci hw5 (W.heap.size + 1) 1 by' (by go_simp)
      have cw5_2_0 := ci hw5 (W.heap.size + 1 + 1) 0 lx (by go_simp)
      have cw5_2_1 := ci hw5 (W.heap.size + 1 + 1) 1 ly (by go_simp)
      have cw5_2_2 := ci hw5 (W.heap.size + 1 + 1) 2 hx (by go_simp)
      have cw5_2_3 := ci hw5 (W.heap.size + 1 + 1) 3 hy (by go_simp)
      have gw5 : Gr W w5 := Gr.trans (by have gg := gwc; have gs := gg.size; go_grown) hw5
      clear hw5 gwc
      go_wp2_with fail
      go_at_call 126
      refine ((H6.out _)).mono ?_
      rintro e w6 ⟨rfl, hw6⟩
      have cw6_0_0 := ci hw6 (W.heap.size) 0 ax (by go_simp)
      have cw6_0_1 := ci hw6 (W.heap.size) 1 ay (by go_simp)
      have zw6_0 := zb cw6_0_0
      have cw6_1_0 := ci hw6 (W.heap.size + 1) 0 bx (by go_simp)
      have cw6_1_1 := ci hw6 (W.heap.size + 1) 1 by' (by go_simp)
      have zw6_1 := zb cw6_1_0
      have cw6_2_0 := ci hw6 (W.heap.size + 1 + 1) 0 lx (by go_simp)
      have cw6_2_1 := ci hw6 (W.heap.size + 1 + 1) 1 ly (by go_simp)
      have cw6_2_2 := ci hw6 (W.heap.size + 1 + 1) 2 hx (by go_simp)
      have cw6_2_3 := ci hw6 (W.heap.size + 1 + 1) 3 hy (by go_simp)
      have zw6_2 := zb cw6_2_0
      have gw6 : Gr W w6 := Gr.trans (by have gg := gw5; have gs := gg.size; go_grown) hw6
      clear hw6 gw5 cw5_0_0 cw5_0_1 cw5_1_0 cw5_1_1 cw5_2_0 cw5_2_1 cw5_2_2 cw5_2_3
      go_wp2_with fail
      go_ret
      exact ⟨rfl, gw6⟩
    · have HKK := Lib.hid hk
      clear hk
      go_wp2_with fail
      go_at_call 126
      refine ((H5.out _)).mono ?_
      rintro e w5 ⟨rfl, hw5⟩
      have cw5_0_0 := ci hw5 (W.heap.size) 0 ax (by go_simp)
      have cw5_0_1 := ci hw5 (W.heap.size) 1 ay (by go_simp)
      have cw5_1_0 := ci hw5 (W.heap.size + 1) 0 bx (by go_simp)
      have cw5_1_1 := ci hw5 (W.heap.size + 1) 1 by' (by go_simp)
      have cw5_2_0 := ci hw5 (W.heap.size + 1 + 1) 0 lx (by go_simp)
      have cw5_2_1 := ci hw5 (W.heap.size + 1 + 1) 1 ly (by go_simp)
      have cw5_2_2 := ci hw5 (W.heap.size + 1 + 1) 2 hx (by go_simp)
      have cw5_2_3 := ci hw5 (W.heap.size + 1 + 1) 3 hy (by go_simp)
      have gw5 : Gr W w5 := Gr.trans (by have gg := gwc; have gs := gg.size; go_grown) hw5
      clear hw5 gwc
      go_wp2_with fail
      go_at_call 126
      refine ((H6.out _)).mono ?_
      rintro e w6 ⟨rfl, hw6⟩
      have cw6_0_0 := ci hw6 (W.heap.size) 0 ax (by go_simp)
      have cw6_0_1 := ci hw6 (W.heap.size) 1 ay (by go_simp)
      have zw6_0 := zb cw6_0_0
      have cw6_1_0 := ci hw6 (W.heap.size + 1) 0 bx (by go_simp)
      have cw6_1_1 := ci hw6 (W.heap.size + 1) 1 by' (by go_simp)
      have zw6_1 := zb cw6_1_0
      have cw6_2_0 := ci hw6 (W.heap.size + 1 + 1) 0 lx (by go_simp)
      have cw6_2_1 := ci hw6 (W.heap.size + 1 + 1) 1 ly (by go_simp)
      have cw6_2_2 := ci hw6 (W.heap.size + 1 + 1) 2 hx (by go_simp)
      have cw6_2_3 := ci hw6 (W.heap.size + 1 + 1) 3 hy (by go_simp)
      have zw6_2 := zb cw6_2_0
      have gw6 : Gr W w6 := Gr.trans (by have gg := gw5; have gs := gg.size; go_grown) hw6
      clear hw6 gw5 cw5_0_0 cw5_0_1 cw5_1_0 cw5_1_1 cw5_2_0 cw5_2_1 cw5_2_2 cw5_2_3
      go_upto_region 7 with fail
      go_cut [7, 8] from 34 to 47 (fun p q wx => MbTwo W ax ay bx by' lx ly hx hy p q wx)
      case first =>
        go_region
        all_goals (go_wp2_with fail; go_meet; exact ⟨_, _, rfl, rfl, by go_simp, by go_simp, by go_simp, by go_simp, by go_simp, by go_simp, by go_simp, by go_simp, by go_simp, by go_simp, by go_simp, by go_simp, by have gg := gw6; have gs := gg.size; go_grown⟩)
      case rest =>
        obtain ⟨b7, b8, rfl, rfl, e0, e1, e2, e3, dd0, dd1, dd2, dd3, dd4, dd5, dd6, dd7, gwc2⟩ := hcut
        rcases HKK.out with ⟨rfl, rfl⟩ | ⟨rfl, rfl⟩
        · have wd := True.intro
          go_wp2_with fail
          go_at_call 125
          refine (H7.out _).mono ?_
          rintro e w7 ⟨rfl, h7⟩
          go_wp2_with fail
          go_ret
          exact ⟨rfl, Gr.trans (by have gg := gwc2; have gs := gg.size; go_grown) h7⟩
        · go_wp2_with fail
          go_at_call 125
          refine (H7.out _).mono ?_
          rintro e w7 ⟨rfl, h7⟩
          have g7 : Gr W w7 := Gr.trans (by have gg := gwc2; have gs := gg.size; go_grown) h7
          replace e0 := cell_gr h7 e0
          replace e1 := cell_gr h7 e1
          replace e2 := cell_gr h7 e2
          replace e3 := cell_gr h7 e3
          replace dd0 := cell_gr h7 dd0
          replace dd1 := cell_gr h7 dd1
          replace dd2 := cell_gr h7 dd2
          replace dd3 := cell_gr h7 dd3
          clear h7
          go_wp2_with fail
          go_at_call 125
          refine (H8.out _).mono ?_
          rintro e w8 ⟨rfl, h8⟩
          go_wp2_with fail
          go_ret
          exact ⟨rfl, Gr.trans g7 h8⟩
end Go.Proofs.YtfobmlgpjhghdaaGreatDoor
