/- What RelZero leans on: Io Ip Qs -/
import Derived.Test.YtfobmlgpjhghdaaGreatDoorCRelZero43
import Derived.Test.YtfobmlgpjhghdaaGreatDoorRows
import Derived.JoinedCond
import Derived.ProofKit
namespace Go.Proofs.YtfobmlgpjhghdaaGreatDoor
set_option linter.unusedVariables false
set_option linter.unusedSimpArgs false
open Go.ChangeShapes Go.WideShapes Go.ChangeAt Go.RowKit
set_option maxHeartbeats 16000000 in
set_option maxRecDepth 100000 in
theorem zero_core {n cap : Nat} {ad : Option Addr} (k px py r1 r2 r3 r4 p1 p2 p3 p4 dh dl dd s c : Int) (zh zi zm bm bh : Bool) (W : World)
    (f1 : zi = true → zm = true) (f2 : zm = true → bm = true) (f3 : zh = true → bh = true → zm = true) (hc : c ≤ 0)
    (EQ : ∀ w, (binOp .eql 42 (.agg #[.int .u64 dh, .int .u64 dl, .int .u64 dd]) (.agg #[.int .u64 0, .int .u64 0, .int .u64 1])).run Tryz.prog w = .ok (.bool zh) w)
    (A1 : ∀ w, Gr W w → Calls Tryz.prog 23 #[.agg #[.int .i64 k, .slice ad n cap]] w fun e w' => e = .returned (.bool true) ∧ Gr w w')
    (A2 : ∀ w, Calls Tryz.prog 24 #[.agg #[.int .i64 px, .int .i64 py]] w fun e w' => e = .returned (.bool true) ∧ Gr w w')
    (A3 : ∀ w, Calls Tryz.prog 25 #[.agg #[.int .i64 r1, .int .i64 r2, .int .i64 r3, .int .i64 r4]] w fun e w' => e = .returned (.int .i64 0) ∧ Gr w w')
    (M1 : (∀ w, Gr W w → Calls Tryz.prog 13 #[.agg #[.int .i64 k, .slice ad n cap], qryV 3 px py 0 0 (.slice none 0 0)] w fun e w' => e = .returned (.bool zh) ∧ Gr w w'))
    (M2 : (∀ w, Gr W w → Calls Tryz.prog 13 #[.agg #[.int .i64 k, .slice ad n cap], qryV 2 r1 r2 r3 r4 (.slice none 0 0)] w fun e w' => e = .returned (.bool zi) ∧ Gr w w'))
    (M3 : (∀ w, Gr W w → Calls Tryz.prog 13 #[.agg #[.int .i64 k, .slice ad n cap], qryV 1 r1 r2 r3 r4 (.slice none 0 0)] w fun e w' => e = .returned (.bool zm) ∧ Gr w w'))
    (A4 : ∀ w, Gr W w → Calls Tryz.prog 10 #[.agg #[.int .i64 k, .slice ad n cap]] w fun e w' => e = .returned (.tuple #[.agg #[.int .i64 p1, .int .i64 p2, .int .i64 p3, .int .i64 p4], .nilIface]) ∧ Gr w w')
    (A5 : ∀ w, Gr W w → Calls Tryz.prog 15 #[.agg #[.int .i64 k, .slice ad n cap], .agg #[.int .i64 px, .int .i64 py]] w fun e w' => e = .returned (.agg #[.int .u64 dh, .int .u64 dl, .int .u64 dd]) ∧ Gr w w')
    (A6 : ∀ w, Calls Tryz.prog 26 #[.agg #[.int .i64 p1, .int .i64 p2, .int .i64 p3, .int .i64 p4], .agg #[.int .i64 r1, .int .i64 r2, .int .i64 r3, .int .i64 r4]] w fun e w' => e = .returned (.bool zi) ∧ Gr w w')
    (A7 : ∀ w, Calls Tryz.prog 27 #[.agg #[.int .i64 p1, .int .i64 p2, .int .i64 p3, .int .i64 p4], .agg #[.int .i64 r1, .int .i64 r2, .int .i64 r3, .int .i64 r4]] w fun e w' => e = .returned (.bool bm) ∧ Gr w w')
    (A8 : ∀ w, Calls Tryz.prog 28 #[.agg #[.int .i64 r1, .int .i64 r2, .int .i64 r3, .int .i64 r4], .agg #[.int .i64 px, .int .i64 py]] w fun e w' => e = .returned (.bool bh) ∧ Gr w w')
    (A9 : ∀ w, Gr W w → Calls Tryz.prog 17 #[.agg #[.int .i64 k, .slice ad n cap], .agg #[.int .i64 k, .slice ad n cap]] w fun e w' => e = .returned (.bool true) ∧ Gr w w')
    (B1 : ∀ w, Gr W w → Calls Tryz.prog 19 #[.agg #[.int .i64 k, .slice ad n cap], .agg #[.int .i64 k, .slice ad n cap]] w fun e w' => e = .returned (.bool true) ∧ Gr w w')
    (B2 : ∀ w, Calls Tryz.prog 30 #[.agg #[.int .i64 p1, .int .i64 p2, .int .i64 p3, .int .i64 p4], .agg #[.int .i64 px, .int .i64 py]] w fun e w' => e = .returned (.agg #[.int .u64 0, .int .u64 s, .int .u64 1]) ∧ Gr w w')
    (B3 : ∀ w, Calls Tryz.prog 29 #[.agg #[.int .u64 0, .int .u64 s, .int .u64 1], .agg #[.int .u64 dh, .int .u64 dl, .int .u64 dd]] w fun e w' => e = .returned (.int .i64 c) ∧ Gr w w')
    (B4 : ∀ w, Gr W w → Calls Tryz.prog 9 #[] w fun e w' => e = .returned (.bool true) ∧ Gr w w') :
    Calls Tryz.prog 5 #[.agg #[.int .i64 k, .slice ad n cap], .agg #[.int .i64 px, .int .i64 py], .agg #[.int .i64 r1, .int .i64 r2, .int .i64 r3, .int .i64 r4]] W fun e w' => e = .returned (.bool true) ∧ Gr W w' := by
  have tc : decide (c ≤ 0) = true := decide_eq_true hc
  have tz : (zh != zh) = false := by simp
  have ti : (zi != zi) = false := by simp
  have HQ := Lib.hid EQ
  have HM1 := Lib.hid M1
  have HM2 := Lib.hid M2
  have HM3 := Lib.hid M3
  have HB1 := Lib.hid B1
  have HB2 := Lib.hid B2
  have HB3 := Lib.hid B3
  have HB4 := Lib.hid B4
  have H1 := Lib.hid A1
  have H2 := Lib.hid A2
  have H3 := Lib.hid A3
  have H4 := Lib.hid A4
  have H5 := Lib.hid A5
  have H6 := Lib.hid A6
  have H7 := Lib.hid A7
  have H8 := Lib.hid A8
  have H9 := Lib.hid A9
  clear A1 A2 A3 A4 A5 A6 A7 A8 A9
  clear EQ M1 M2 M3 B1 B2 B3 B4 hc
  have HF := Lib.hid (And.intro f1 (And.intro f2 f3))
  clear f1 f2 f3
  go_enter Tryz.func5, Tryz.ntmps5
  go_wp2_with fail
  go_at_call 23
  refine ((H1.out _ (by go_grown))).mono ?_
  rintro e w1 ⟨rfl, hw1⟩
  have cw1_0_0 := ci hw1 (W.heap.size) 0 k (by go_simp)
  have cw1_0_1 := cg hw1 (W.heap.size) 1 (.slice ad n cap) (by go_simp)
  have cw1_1_0 := ci hw1 (W.heap.size + 1) 0 px (by go_simp)
  have cw1_1_1 := ci hw1 (W.heap.size + 1) 1 py (by go_simp)
  have cw1_2_0 := ci hw1 (W.heap.size + 1 + 1) 0 r1 (by go_simp)
  have cw1_2_1 := ci hw1 (W.heap.size + 1 + 1) 1 r2 (by go_simp)
  have cw1_2_2 := ci hw1 (W.heap.size + 1 + 1) 2 r3 (by go_simp)
  have cw1_2_3 := ci hw1 (W.heap.size + 1 + 1) 3 r4 (by go_simp)
  have gw1 : Gr W w1 := Gr.trans (by go_grown) hw1
  clear hw1
  go_wp2_with fail
  go_at_call 24
  refine ((H2.out _)).mono ?_
  rintro e w2 ⟨rfl, hw2⟩
  have cw2_0_0 := ci hw2 (W.heap.size) 0 k (by go_simp)
  have cw2_0_1 := cg hw2 (W.heap.size) 1 (.slice ad n cap) (by go_simp)
  have cw2_1_0 := ci hw2 (W.heap.size + 1) 0 px (by go_simp)
  have cw2_1_1 := ci hw2 (W.heap.size + 1) 1 py (by go_simp)
  have cw2_2_0 := ci hw2 (W.heap.size + 1 + 1) 0 r1 (by go_simp)
  have cw2_2_1 := ci hw2 (W.heap.size + 1 + 1) 1 r2 (by go_simp)
  have cw2_2_2 := ci hw2 (W.heap.size + 1 + 1) 2 r3 (by go_simp)
  have cw2_2_3 := ci hw2 (W.heap.size + 1 + 1) 3 r4 (by go_simp)
  have gw2 : Gr W w2 := Gr.trans (by have gg := gw1; have gs := gg.size; go_grown) hw2
  clear hw2 gw1 cw1_0_0 cw1_0_1 cw1_1_0 cw1_1_1 cw1_2_0 cw1_2_1 cw1_2_2 cw1_2_3
  go_wp2_with fail
  go_at_call 25
  refine ((H3.out _)).mono ?_
  rintro e w3 ⟨rfl, hw3⟩
  have cw3_0_0 := ci hw3 (W.heap.size) 0 k (by go_simp)
  have cw3_0_1 := cg hw3 (W.heap.size) 1 (.slice ad n cap) (by go_simp)
  have cw3_1_0 := ci hw3 (W.heap.size + 1) 0 px (by go_simp)
  have cw3_1_1 := ci hw3 (W.heap.size + 1) 1 py (by go_simp)
  have cw3_2_0 := ci hw3 (W.heap.size + 1 + 1) 0 r1 (by go_simp)
  have cw3_2_1 := ci hw3 (W.heap.size + 1 + 1) 1 r2 (by go_simp)
  have cw3_2_2 := ci hw3 (W.heap.size + 1 + 1) 2 r3 (by go_simp)
  have cw3_2_3 := ci hw3 (W.heap.size + 1 + 1) 3 r4 (by go_simp)
  have gw3 : Gr W w3 := Gr.trans (by have gg := gw2; have gs := gg.size; go_grown) hw3
  clear hw3 gw2 cw2_0_0 cw2_0_1 cw2_1_0 cw2_1_1 cw2_2_0 cw2_2_1 cw2_2_2 cw2_2_3
  go_wp2_with fail
  go_at_call 13
  refine ((HM1.out _ gw3)).mono ?_
  rintro e w4 ⟨rfl, hw4⟩
  have cw4_0_0 := ci hw4 (W.heap.size) 0 k (by go_simp)
  have cw4_0_1 := cg hw4 (W.heap.size) 1 (.slice ad n cap) (by go_simp)
  have cw4_1_0 := ci hw4 (W.heap.size + 1) 0 px (by go_simp)
  have cw4_1_1 := ci hw4 (W.heap.size + 1) 1 py (by go_simp)
  have cw4_2_0 := ci hw4 (W.heap.size + 1 + 1) 0 r1 (by go_simp)
  have cw4_2_1 := ci hw4 (W.heap.size + 1 + 1) 1 r2 (by go_simp)
  have cw4_2_2 := ci hw4 (W.heap.size + 1 + 1) 2 r3 (by go_simp)
  have cw4_2_3 := ci hw4 (W.heap.size + 1 + 1) 3 r4 (by go_simp)
  have gw4 : Gr W w4 := Gr.trans (by have gg := gw3; have gs := gg.size; go_grown) hw4
  clear hw4 gw3 cw3_0_0 cw3_0_1 cw3_1_0 cw3_1_1 cw3_2_0 cw3_2_1 cw3_2_2 cw3_2_3
  go_wp2_with fail
  go_at_call 13
  refine ((HM2.out _ gw4)).mono ?_
  rintro e w5 ⟨rfl, hw5⟩
  have cw5_0_0 := ci hw5 (W.heap.size) 0 k (by go_simp)
  have cw5_0_1 := cg hw5 (W.heap.size) 1 (.slice ad n cap) (by go_simp)
  have cw5_1_0 := ci hw5 (W.heap.size + 1) 0 px (by go_simp)
  have cw5_1_1 := ci hw5 (W.heap.size + 1) 1 py (by go_simp)
  have cw5_2_0 := ci hw5 (W.heap.size + 1 + 1) 0 r1 (by go_simp)
  have cw5_2_1 := ci hw5 (W.heap.size + 1 + 1) 1 r2 (by go_simp)
  have cw5_2_2 := ci hw5 (W.heap.size + 1 + 1) 2 r3 (by go_simp)
  have cw5_2_3 := ci hw5 (W.heap.size + 1 + 1) 3 r4 (by go_simp)
  have gw5 : Gr W w5 := Gr.trans (by have gg := gw4; have gs := gg.size; go_grown) hw5
  clear hw5 gw4 cw4_0_0 cw4_0_1 cw4_1_0 cw4_1_1 cw4_2_0 cw4_2_1 cw4_2_2 cw4_2_3
  go_wp2_with fail
  go_at_call 13
  refine ((HM3.out _ gw5)).mono ?_
  rintro e w6 ⟨rfl, hw6⟩
  have cw6_0_0 := ci hw6 (W.heap.size) 0 k (by go_simp)
  have cw6_0_1 := cg hw6 (W.heap.size) 1 (.slice ad n cap) (by go_simp)
  have cw6_1_0 := ci hw6 (W.heap.size + 1) 0 px (by go_simp)
  have cw6_1_1 := ci hw6 (W.heap.size + 1) 1 py (by go_simp)
  have cw6_2_0 := ci hw6 (W.heap.size + 1 + 1) 0 r1 (by go_simp)
  have cw6_2_1 := ci hw6 (W.heap.size + 1 + 1) 1 r2 (by go_simp)
  have cw6_2_2 := ci hw6 (W.heap.size + 1 + 1) 2 r3 (by go_simp)
  have cw6_2_3 := ci hw6 (W.heap.size + 1 + 1) 3 r4 (by go_simp)
  have gw6 : Gr W w6 := Gr.trans (by have gg := gw5; have gs := gg.size; go_grown) hw6
  clear hw6 gw5 cw5_0_0 cw5_0_1 cw5_1_0 cw5_1_1 cw5_2_0 cw5_2_1 cw5_2_2 cw5_2_3
  go_wp2_with fail
  go_at_call 10
  refine ((H4.out _ gw6)).mono ?_
  rintro e w7 ⟨rfl, hw7⟩
  have cw7_0_0 := ci hw7 (W.heap.size) 0 k (by go_simp)
  have cw7_0_1 := cg hw7 (W.heap.size) 1 (.slice ad n cap) (by go_simp)
  have zw7_0 := zb cw7_0_0
  have cw7_1_0 := ci hw7 (W.heap.size + 1) 0 px (by go_simp)
  have cw7_1_1 := ci hw7 (W.heap.size + 1) 1 py (by go_simp)
  have zw7_1 := zb cw7_1_0
  have cw7_2_0 := ci hw7 (W.heap.size + 1 + 1) 0 r1 (by go_simp)
  have cw7_2_1 := ci hw7 (W.heap.size + 1 + 1) 1 r2 (by go_simp)
  have cw7_2_2 := ci hw7 (W.heap.size + 1 + 1) 2 r3 (by go_simp)
  have cw7_2_3 := ci hw7 (W.heap.size + 1 + 1) 3 r4 (by go_simp)
  have zw7_2 := zb cw7_2_0
  have gw7 : Gr W w7 := Gr.trans (by have gg := gw6; have gs := gg.size; go_grown) hw7
  clear hw7 gw6 cw6_0_0 cw6_0_1 cw6_1_0 cw6_1_1 cw6_2_0 cw6_2_1 cw6_2_2 cw6_2_3
  go_wp2_with fail
  generalize hhw8 : (w7.alloc (.cells #[.int .i64 p1, .int .i64 p2, .int .i64 p3, .int .i64 p4] 28)) = w8
  have cw8_0_0 : w8.cell? ⟨W.heap.size, 0, none⟩ = some (.int .i64 k) := by subst hhw8; go_simp
  have cw8_0_1 : w8.cell? ⟨W.heap.size, 1, none⟩ = some (.slice ad n cap) := by subst hhw8; go_simp
  have zw8_0 := zb cw8_0_0
  have cw8_1_0 : w8.cell? ⟨W.heap.size + 1, 0, none⟩ = some (.int .i64 px) := by subst hhw8; go_simp
  have cw8_1_1 : w8.cell? ⟨W.heap.size + 1, 1, none⟩ = some (.int .i64 py) := by subst hhw8; go_simp
  have zw8_1 := zb cw8_1_0
  have cw8_2_0 : w8.cell? ⟨W.heap.size + 1 + 1, 0, none⟩ = some (.int .i64 r1) := by subst hhw8; go_simp
  have cw8_2_1 : w8.cell? ⟨W.heap.size + 1 + 1, 1, none⟩ = some (.int .i64 r2) := by subst hhw8; go_simp
  have cw8_2_2 : w8.cell? ⟨W.heap.size + 1 + 1, 2, none⟩ = some (.int .i64 r3) := by subst hhw8; go_simp
  have cw8_2_3 : w8.cell? ⟨W.heap.size + 1 + 1, 3, none⟩ = some (.int .i64 r4) := by subst hhw8; go_simp
  have zw8_2 := zb cw8_2_0
  have cw8_3_0 : w8.cell? ⟨w7.heap.size, 0, none⟩ = some (.int .i64 p1) := by subst hhw8; go_simp
  have cw8_3_1 : w8.cell? ⟨w7.heap.size, 1, none⟩ = some (.int .i64 p2) := by subst hhw8; go_simp
  have cw8_3_2 : w8.cell? ⟨w7.heap.size, 2, none⟩ = some (.int .i64 p3) := by subst hhw8; go_simp
  have cw8_3_3 : w8.cell? ⟨w7.heap.size, 3, none⟩ = some (.int .i64 p4) := by subst hhw8; go_simp
  have zw8_3 := zb cw8_3_0
  have gw8 : Gr W w8 := by subst hhw8; have gg := gw7; have gs := gg.size; go_grown
  clear hhw8 gw7 zw7_0 cw7_0_0 cw7_0_1 zw7_1 cw7_1_0 cw7_1_1 zw7_2 cw7_2_0 cw7_2_1 cw7_2_2 cw7_2_3
  have EQ := HQ.out
  cases zi
  · cases zm
    · cases zh
      · clear HF
        go_wp2_with fail
        go_at_call 15
        refine ((H5.out _ gw8)).mono ?_
        rintro e w9 ⟨rfl, hw9⟩
        have cw9_0_0 := ci hw9 (W.heap.size) 0 k (by go_simp)
        have cw9_0_1 := cg hw9 (W.heap.size) 1 (.slice ad n cap) (by go_simp)
        have cw9_1_0 := ci hw9 (W.heap.size + 1) 0 px (by go_simp)
        have cw9_1_1 := ci hw9 (W.heap.size + 1) 1 py (by go_simp)
        have cw9_2_0 := ci hw9 (W.heap.size + 1 + 1) 0 r1 (by go_simp)
        have cw9_2_1 := ci hw9 (W.heap.size + 1 + 1) 1 r2 (by go_simp)
        have cw9_2_2 := ci hw9 (W.heap.size + 1 + 1) 2 r3 (by go_simp)
        have cw9_2_3 := ci hw9 (W.heap.size + 1 + 1) 3 r4 (by go_simp)
        have cw9_3_0 := ci hw9 (w7.heap.size) 0 p1 (by go_simp)
        have cw9_3_1 := ci hw9 (w7.heap.size) 1 p2 (by go_simp)
        have cw9_3_2 := ci hw9 (w7.heap.size) 2 p3 (by go_simp)
        have cw9_3_3 := ci hw9 (w7.heap.size) 3 p4 (by go_simp)
        have gw9 : Gr W w9 := Gr.trans (by have gg := gw8; have gs := gg.size; go_grown) hw9
        clear hw9 gw8 zw8_0 cw8_0_0 cw8_0_1 zw8_1 cw8_1_0 cw8_1_1 zw8_2 cw8_2_0 cw8_2_1 cw8_2_2 cw8_2_3 zw8_3 cw8_3_0 cw8_3_1 cw8_3_2 cw8_3_3
        go_wp2_with fail
        go_at_call 26
        refine ((H6.out _)).mono ?_
        rintro e wa ⟨rfl, hwa⟩
        have cwa_0_0 := ci hwa (W.heap.size) 0 k (by go_simp)
        have cwa_0_1 := cg hwa (W.heap.size) 1 (.slice ad n cap) (by go_simp)
        have cwa_1_0 := ci hwa (W.heap.size + 1) 0 px (by go_simp)
        have cwa_1_1 := ci hwa (W.heap.size + 1) 1 py (by go_simp)
        have cwa_2_0 := ci hwa (W.heap.size + 1 + 1) 0 r1 (by go_simp)
        have cwa_2_1 := ci hwa (W.heap.size + 1 + 1) 1 r2 (by go_simp)
        have cwa_2_2 := ci hwa (W.heap.size + 1 + 1) 2 r3 (by go_simp)
        have cwa_2_3 := ci hwa (W.heap.size + 1 + 1) 3 r4 (by go_simp)
        have cwa_3_0 := ci hwa (w7.heap.size) 0 p1 (by go_simp)
        have cwa_3_1 := ci hwa (w7.heap.size) 1 p2 (by go_simp)
        have cwa_3_2 := ci hwa (w7.heap.size) 2 p3 (by go_simp)
        have cwa_3_3 := ci hwa (w7.heap.size) 3 p4 (by go_simp)
        have gwa : Gr W wa := Gr.trans (by have gg := gw9; have gs := gg.size; go_grown) hwa
        clear hwa gw9 cw9_0_0 cw9_0_1 cw9_1_0 cw9_1_1 cw9_2_0 cw9_2_1 cw9_2_2 cw9_2_3 cw9_3_0 cw9_3_1 cw9_3_2 cw9_3_3
        clear EQ HQ
        go_wp2_with fail
        try simp only [List.append]
        refine Od.wp_region_ord [(0, false), (1, false), (2, false), (3, false), (4, false), (5, true), (6, false), (7, false), (8, false), (9, false), (10, false), (11, false), (12, false), (13, false), (14, true), (15, false), (16, false), (17, false), (18, false), (19, true), (20, false), (21, false), (22, false), (23, false), (25, false), (26, false), (24, true), (27, true), (28, true), (29, false), (30, false), (31, false), (32, true), (33, false), (34, false)] (by kernel_rfl) (by kernel_rfl) ?_
        intro wc hwc KQ hKQ
        have cwc_0_0 := ci hwc (W.heap.size) 0 k (by go_simp)
        have cwc_0_1 := cg hwc (W.heap.size) 1 (.slice ad n cap) (by go_simp)
        have cwc_1_0 := ci hwc (W.heap.size + 1) 0 px (by go_simp)
        have cwc_1_1 := ci hwc (W.heap.size + 1) 1 py (by go_simp)
        have cwc_2_0 := ci hwc (W.heap.size + 1 + 1) 0 r1 (by go_simp)
        have cwc_2_1 := ci hwc (W.heap.size + 1 + 1) 1 r2 (by go_simp)
        have cwc_2_2 := ci hwc (W.heap.size + 1 + 1) 2 r3 (by go_simp)
        have cwc_2_3 := ci hwc (W.heap.size + 1 + 1) 3 r4 (by go_simp)
        have cwc_3_0 := ci hwc (w7.heap.size) 0 p1 (by go_simp)
        have cwc_3_1 := ci hwc (w7.heap.size) 1 p2 (by go_simp)
        have cwc_3_2 := ci hwc (w7.heap.size) 2 p3 (by go_simp)
        have cwc_3_3 := ci hwc (w7.heap.size) 3 p4 (by go_simp)
        have gwc : Gr W wc := Gr.trans (by have gg := gwa; have gs := gg.size; go_grown) hwc
        clear gwa cwa_0_0 cwa_0_1 cwa_1_0 cwa_1_1 cwa_2_0 cwa_2_1 cwa_2_2 cwa_2_3 cwa_3_0 cwa_3_1 cwa_3_2 cwa_3_3
        clear hwc
        repeat (first | (refine Od.wpO_skip (by simp only [List.getElem?_toArray, List.getElem?_cons_succ, List.getElem?_cons_zero] <;> rfl) rfl ?_; simp only [Act.put, List.setIfInBounds_toArray, List.set_cons_zero, List.set_cons_succ]) | (refine Od.wpO_pure (by simp only [List.getElem?_toArray, List.getElem?_cons_succ, List.getElem?_cons_zero] <;> rfl) rfl ?_; apply Exists.intro; refine ⟨?_, ?_⟩; (· intro wx gx; obtain ⟨mx, rfl⟩ := spread_of_gr gx; clear gx; all_goals (apply Od.pAt_of_quiet; intro K hK; go_big_quiet_op; first | exact hK _ rfl | (apply Exists.intro; refine ⟨fun _ => ?_, ?_⟩; (· fail); exact hK _ rfl))); try simp only [Act.put, List.setIfInBounds_toArray, List.set_cons_zero, List.set_cons_succ]))
        refine Od.wpO_call (by simp only [List.getElem?_toArray, List.getElem?_cons_succ, List.getElem?_cons_zero] <;> rfl) rfl ?_
        intro QS hQS
        go_wp2_with fail
        go_at_call 17
        (with_reducible refine ((H9.out _ gwc)).mono ?_)
        rintro e we ⟨rfl, hwe⟩
        go_wp2_with fail
        apply Exists.intro
        refine ⟨?_, hwe, ?_⟩
        · simp only [Act.put, List.setIfInBounds_toArray, List.set_cons_zero, List.set_cons_succ]; rfl
        have cwe_0_0 := ci hwe (W.heap.size) 0 k (by go_simp)
        have cwe_0_1 := cg hwe (W.heap.size) 1 (.slice ad n cap) (by go_simp)
        have cwe_1_0 := ci hwe (W.heap.size + 1) 0 px (by go_simp)
        have cwe_1_1 := ci hwe (W.heap.size + 1) 1 py (by go_simp)
        have cwe_3_0 := ci hwe (w7.heap.size) 0 p1 (by go_simp)
        have cwe_3_1 := ci hwe (w7.heap.size) 1 p2 (by go_simp)
        have cwe_3_2 := ci hwe (w7.heap.size) 2 p3 (by go_simp)
        have cwe_3_3 := ci hwe (w7.heap.size) 3 p4 (by go_simp)
        have gwe : Gr W we := Gr.trans (by have gg := gwc; have gs := gg.size; go_grown) hwe
        clear gwc cwc_0_0 cwc_0_1 cwc_1_0 cwc_1_1 cwc_2_0 cwc_2_1 cwc_2_2 cwc_2_3 cwc_3_0 cwc_3_1 cwc_3_2 cwc_3_3
        clear hwe
        try simp only [Act.put, List.setIfInBounds_toArray, List.set_cons_zero, List.set_cons_succ]
        repeat (first | (refine Od.wpO_skip (by simp only [List.getElem?_toArray, List.getElem?_cons_succ, List.getElem?_cons_zero] <;> rfl) rfl ?_; simp only [Act.put, List.setIfInBounds_toArray, List.set_cons_zero, List.set_cons_succ]) | (refine Od.wpO_pure (by simp only [List.getElem?_toArray, List.getElem?_cons_succ, List.getElem?_cons_zero] <;> rfl) rfl ?_; apply Exists.intro; refine ⟨?_, ?_⟩; (· intro wx gx; obtain ⟨mx, rfl⟩ := spread_of_gr gx; clear gx; all_goals (apply Od.pAt_of_quiet; intro K hK; go_big_quiet_op; first | exact hK _ rfl | (apply Exists.intro; refine ⟨fun _ => ?_, ?_⟩; (· fail); exact hK _ rfl))); try simp only [Act.put, List.setIfInBounds_toArray, List.set_cons_zero, List.set_cons_succ]))
        refine Od.wpO_call (by simp only [List.getElem?_toArray, List.getElem?_cons_succ, List.getElem?_cons_zero] <;> rfl) rfl ?_
        intro QS hQS
        go_wp2_with fail
        go_at_call 19
        (with_reducible refine ((HB1.out _ gwe)).mono ?_)
        rintro e wf ⟨rfl, hwf⟩
        go_wp2_with fail
        apply Exists.intro
        refine ⟨?_, hwf, ?_⟩
        · simp only [Act.put, List.setIfInBounds_toArray, List.set_cons_zero, List.set_cons_succ]; rfl
        have cwf_0_0 := ci hwf (W.heap.size) 0 k (by go_simp)
        have cwf_0_1 := cg hwf (W.heap.size) 1 (.slice ad n cap) (by go_simp)
        have cwf_1_0 := ci hwf (W.heap.size + 1) 0 px (by go_simp)
        have cwf_1_1 := ci hwf (W.heap.size + 1) 1 py (by go_simp)
        have cwf_3_0 := ci hwf (w7.heap.size) 0 p1 (by go_simp)
        have cwf_3_1 := ci hwf (w7.heap.size) 1 p2 (by go_simp)
        have cwf_3_2 := ci hwf (w7.heap.size) 2 p3 (by go_simp)
        have cwf_3_3 := ci hwf (w7.heap.size) 3 p4 (by go_simp)
        have gwf : Gr W wf := Gr.trans (by have gg := gwe; have gs := gg.size; go_grown) hwf
        clear gwe cwe_0_0 cwe_0_1 cwe_1_0 cwe_1_1 cwe_3_0 cwe_3_1 cwe_3_2 cwe_3_3
        clear hwf
        try simp only [Act.put, List.setIfInBounds_toArray, List.set_cons_zero, List.set_cons_succ]
        repeat (first | (refine Od.wpO_skip (by simp only [List.getElem?_toArray, List.getElem?_cons_succ, List.getElem?_cons_zero] <;> rfl) rfl ?_; simp only [Act.put, List.setIfInBounds_toArray, List.set_cons_zero, List.set_cons_succ]) | (refine Od.wpO_pure (by simp only [List.getElem?_toArray, List.getElem?_cons_succ, List.getElem?_cons_zero] <;> rfl) rfl ?_; apply Exists.intro; refine ⟨?_, ?_⟩; (· intro wx gx; obtain ⟨mx, rfl⟩ := spread_of_gr gx; clear gx; all_goals (apply Od.pAt_of_quiet; intro K hK; go_big_quiet_op; first | exact hK _ rfl | (apply Exists.intro; refine ⟨fun _ => ?_, ?_⟩; (· fail); exact hK _ rfl))); try simp only [Act.put, List.setIfInBounds_toArray, List.set_cons_zero, List.set_cons_succ]))
        refine Od.wpO_call (by simp only [List.getElem?_toArray, List.getElem?_cons_succ, List.getElem?_cons_zero] <;> rfl) rfl ?_
        intro QS hQS
        go_wp2_with fail
        go_at_call 30
        (with_reducible refine ((HB2.out _)).mono ?_)
        rintro e wg ⟨rfl, hwg⟩
        go_wp2_with fail
        apply Exists.intro
        refine ⟨?_, hwg, ?_⟩
        · simp only [Act.put, List.setIfInBounds_toArray, List.set_cons_zero, List.set_cons_succ]; rfl
        have gwg : Gr W wg := Gr.trans (by have gg := gwf; have gs := gg.size; go_grown) hwg
        clear gwf cwf_0_0 cwf_0_1 cwf_1_0 cwf_1_1 cwf_3_0 cwf_3_1 cwf_3_2 cwf_3_3
        clear hwg
        try simp only [Act.put, List.setIfInBounds_toArray, List.set_cons_zero, List.set_cons_succ]
        repeat (first | (refine Od.wpO_skip (by simp only [List.getElem?_toArray, List.getElem?_cons_succ, List.getElem?_cons_zero] <;> rfl) rfl ?_; simp only [Act.put, List.setIfInBounds_toArray, List.set_cons_zero, List.set_cons_succ]) | (refine Od.wpO_pure (by simp only [List.getElem?_toArray, List.getElem?_cons_succ, List.getElem?_cons_zero] <;> rfl) rfl ?_; apply Exists.intro; refine ⟨?_, ?_⟩; (· intro wx gx; obtain ⟨mx, rfl⟩ := spread_of_gr gx; clear gx; all_goals (apply Od.pAt_of_quiet; intro K hK; go_big_quiet_op; first | exact hK _ rfl | (apply Exists.intro; refine ⟨fun _ => ?_, ?_⟩; (· fail); exact hK _ rfl))); try simp only [Act.put, List.setIfInBounds_toArray, List.set_cons_zero, List.set_cons_succ]))
        refine Od.wpO_call (by simp only [List.getElem?_toArray, List.getElem?_cons_succ, List.getElem?_cons_zero] <;> rfl) rfl ?_
        intro QS hQS
        go_wp2_with fail
        go_at_call 15
        (with_reducible refine ((H5.out _ gwg)).mono ?_)
        rintro e wh ⟨rfl, hwh⟩
        go_wp2_with fail
        apply Exists.intro
        refine ⟨?_, hwh, ?_⟩
        · simp only [Act.put, List.setIfInBounds_toArray, List.set_cons_zero, List.set_cons_succ]; rfl
        have gwh : Gr W wh := Gr.trans (by have gg := gwg; have gs := gg.size; go_grown) hwh
        clear gwg
        clear hwh
        try simp only [Act.put, List.setIfInBounds_toArray, List.set_cons_zero, List.set_cons_succ]
        repeat (first | (refine Od.wpO_skip (by simp only [List.getElem?_toArray, List.getElem?_cons_succ, List.getElem?_cons_zero] <;> rfl) rfl ?_; simp only [Act.put, List.setIfInBounds_toArray, List.set_cons_zero, List.set_cons_succ]) | (refine Od.wpO_pure (by simp only [List.getElem?_toArray, List.getElem?_cons_succ, List.getElem?_cons_zero] <;> rfl) rfl ?_; apply Exists.intro; refine ⟨?_, ?_⟩; (· intro wx gx; obtain ⟨mx, rfl⟩ := spread_of_gr gx; clear gx; all_goals (apply Od.pAt_of_quiet; intro K hK; go_big_quiet_op; first | exact hK _ rfl | (apply Exists.intro; refine ⟨fun _ => ?_, ?_⟩; (· fail); exact hK _ rfl))); try simp only [Act.put, List.setIfInBounds_toArray, List.set_cons_zero, List.set_cons_succ]))
        refine Od.wpO_call (by simp only [List.getElem?_toArray, List.getElem?_cons_succ, List.getElem?_cons_zero] <;> rfl) rfl ?_
        intro QS hQS
        go_wp2_with fail
        go_at_call 29
        (with_reducible refine ((HB3.out _)).mono ?_)
        rintro e wi ⟨rfl, hwi⟩
        go_wp2_with fail
        apply Exists.intro
        refine ⟨?_, hwi, ?_⟩
        · simp only [Act.put, List.setIfInBounds_toArray, List.set_cons_zero, List.set_cons_succ]; rfl
        have gwi : Gr W wi := Gr.trans (by have gg := gwh; have gs := gg.size; go_grown) hwi
        clear gwh
        clear hwi
        try simp only [Act.put, List.setIfInBounds_toArray, List.set_cons_zero, List.set_cons_succ]
        repeat (first | (refine Od.wpO_skip (by simp only [List.getElem?_toArray, List.getElem?_cons_succ, List.getElem?_cons_zero] <;> rfl) rfl ?_; simp only [Act.put, List.setIfInBounds_toArray, List.set_cons_zero, List.set_cons_succ]) | (refine Od.wpO_pure (by simp only [List.getElem?_toArray, List.getElem?_cons_succ, List.getElem?_cons_zero] <;> rfl) rfl ?_; apply Exists.intro; refine ⟨?_, ?_⟩; (· intro wx gx; obtain ⟨mx, rfl⟩ := spread_of_gr gx; clear gx; all_goals (apply Od.pAt_of_quiet; intro K hK; go_big_quiet_op; first | exact hK _ rfl | (apply Exists.intro; refine ⟨fun _ => ?_, ?_⟩; (· fail); exact hK _ rfl))); try simp only [Act.put, List.setIfInBounds_toArray, List.set_cons_zero, List.set_cons_succ]))
        refine Od.wpO_call (by simp only [List.getElem?_toArray, List.getElem?_cons_succ, List.getElem?_cons_zero] <;> rfl) rfl ?_
        intro QS hQS
        go_wp2_with fail
        go_at_call 9
        (with_reducible refine ((HB4.out _ gwi)).mono ?_)
        rintro e wj ⟨rfl, hwj⟩
        go_wp2_with fail
        apply Exists.intro
        refine ⟨?_, hwj, ?_⟩
        · simp only [Act.put, List.setIfInBounds_toArray, List.set_cons_zero, List.set_cons_succ]; rfl
        have gwj : Gr W wj := Gr.trans (by have gg := gwi; have gs := gg.size; go_grown) hwj
        clear gwi
        clear hwj
        try simp only [Act.put, List.setIfInBounds_toArray, List.set_cons_zero, List.set_cons_succ]
        repeat (first | (refine Od.wpO_skip (by simp only [List.getElem?_toArray, List.getElem?_cons_succ, List.getElem?_cons_zero] <;> rfl) rfl ?_; simp only [Act.put, List.setIfInBounds_toArray, List.set_cons_zero, List.set_cons_succ]) | (refine Od.wpO_pure (by simp only [List.getElem?_toArray, List.getElem?_cons_succ, List.getElem?_cons_zero] <;> rfl) rfl ?_; apply Exists.intro; refine ⟨?_, ?_⟩; (· intro wx gx; obtain ⟨mx, rfl⟩ := spread_of_gr gx; clear gx; all_goals (apply Od.pAt_of_quiet; intro K hK; go_big_quiet_op; first | exact hK _ rfl | (apply Exists.intro; refine ⟨fun _ => ?_, ?_⟩; (· fail); exact hK _ rfl))); try simp only [Act.put, List.setIfInBounds_toArray, List.set_cons_zero, List.set_cons_succ]))
        refine Od.wpO_nil (hKQ _ _ ?_)
        clear hKQ KQ
        go_wp2_with fail
        go_ret
        exact ⟨rfl, gwj⟩
      · cases bh
        · clear HF
          go_wp2_with fail
          go_at_call 15
          refine ((H5.out _ gw8)).mono ?_
          rintro e w9 ⟨rfl, hw9⟩
          have cw9_0_0 := ci hw9 (W.heap.size) 0 k (by go_simp)
          have cw9_0_1 := cg hw9 (W.heap.size) 1 (.slice ad n cap) (by go_simp)
          have cw9_1_0 := ci hw9 (W.heap.size + 1) 0 px (by go_simp)
          have cw9_1_1 := ci hw9 (W.heap.size + 1) 1 py (by go_simp)
          have cw9_2_0 := ci hw9 (W.heap.size + 1 + 1) 0 r1 (by go_simp)
          have cw9_2_1 := ci hw9 (W.heap.size + 1 + 1) 1 r2 (by go_simp)
          have cw9_2_2 := ci hw9 (W.heap.size + 1 + 1) 2 r3 (by go_simp)
          have cw9_2_3 := ci hw9 (W.heap.size + 1 + 1) 3 r4 (by go_simp)
          have cw9_3_0 := ci hw9 (w7.heap.size) 0 p1 (by go_simp)
          have cw9_3_1 := ci hw9 (w7.heap.size) 1 p2 (by go_simp)
          have cw9_3_2 := ci hw9 (w7.heap.size) 2 p3 (by go_simp)
          have cw9_3_3 := ci hw9 (w7.heap.size) 3 p4 (by go_simp)
          have gw9 : Gr W w9 := Gr.trans (by have gg := gw8; have gs := gg.size; go_grown) hw9
          clear hw9 gw8 zw8_0 cw8_0_0 cw8_0_1 zw8_1 cw8_1_0 cw8_1_1 zw8_2 cw8_2_0 cw8_2_1 cw8_2_2 cw8_2_3 zw8_3 cw8_3_0 cw8_3_1 cw8_3_2 cw8_3_3
          go_wp2_with fail
          go_at_call 26
          refine ((H6.out _)).mono ?_
          rintro e wa ⟨rfl, hwa⟩
          have cwa_0_0 := ci hwa (W.heap.size) 0 k (by go_simp)
          have cwa_0_1 := cg hwa (W.heap.size) 1 (.slice ad n cap) (by go_simp)
          have cwa_1_0 := ci hwa (W.heap.size + 1) 0 px (by go_simp)
          have cwa_1_1 := ci hwa (W.heap.size + 1) 1 py (by go_simp)
          have cwa_2_0 := ci hwa (W.heap.size + 1 + 1) 0 r1 (by go_simp)
          have cwa_2_1 := ci hwa (W.heap.size + 1 + 1) 1 r2 (by go_simp)
          have cwa_2_2 := ci hwa (W.heap.size + 1 + 1) 2 r3 (by go_simp)
          have cwa_2_3 := ci hwa (W.heap.size + 1 + 1) 3 r4 (by go_simp)
          have cwa_3_0 := ci hwa (w7.heap.size) 0 p1 (by go_simp)
          have cwa_3_1 := ci hwa (w7.heap.size) 1 p2 (by go_simp)
          have cwa_3_2 := ci hwa (w7.heap.size) 2 p3 (by go_simp)
          have cwa_3_3 := ci hwa (w7.heap.size) 3 p4 (by go_simp)
          have gwa : Gr W wa := Gr.trans (by have gg := gw9; have gs := gg.size; go_grown) hwa
          clear hwa gw9 cw9_0_0 cw9_0_1 cw9_1_0 cw9_1_1 cw9_2_0 cw9_2_1 cw9_2_2 cw9_2_3 cw9_3_0 cw9_3_1 cw9_3_2 cw9_3_3
          clear EQ HQ
          go_wp2_with fail
          try simp only [List.append]
          refine Od.wp_region_ord [(0, false), (1, false), (2, false), (3, false), (4, false), (5, true), (6, false), (7, false), (8, false), (9, false), (10, false), (11, false), (12, false), (13, false), (14, true), (15, false), (16, false), (17, false), (18, false), (19, true), (20, false), (21, false), (22, false), (23, false), (25, false), (26, false), (24, true), (27, true), (28, true), (29, false), (30, false), (31, false), (32, true), (33, false), (34, false)] (by kernel_rfl) (by kernel_rfl) ?_
          intro wc hwc KQ hKQ
          have cwc_0_0 := ci hwc (W.heap.size) 0 k (by go_simp)
          have cwc_0_1 := cg hwc (W.heap.size) 1 (.slice ad n cap) (by go_simp)
          have cwc_1_0 := ci hwc (W.heap.size + 1) 0 px (by go_simp)
          have cwc_1_1 := ci hwc (W.heap.size + 1) 1 py (by go_simp)
          have cwc_2_0 := ci hwc (W.heap.size + 1 + 1) 0 r1 (by go_simp)
          have cwc_2_1 := ci hwc (W.heap.size + 1 + 1) 1 r2 (by go_simp)
          have cwc_2_2 := ci hwc (W.heap.size + 1 + 1) 2 r3 (by go_simp)
          have cwc_2_3 := ci hwc (W.heap.size + 1 + 1) 3 r4 (by go_simp)
          have cwc_3_0 := ci hwc (w7.heap.size) 0 p1 (by go_simp)
          have cwc_3_1 := ci hwc (w7.heap.size) 1 p2 (by go_simp)
          have cwc_3_2 := ci hwc (w7.heap.size) 2 p3 (by go_simp)
          have cwc_3_3 := ci hwc (w7.heap.size) 3 p4 (by go_simp)
          have gwc : Gr W wc := Gr.trans (by have gg := gwa; have gs := gg.size; go_grown) hwc
          clear gwa cwa_0_0 cwa_0_1 cwa_1_0 cwa_1_1 cwa_2_0 cwa_2_1 cwa_2_2 cwa_2_3 cwa_3_0 cwa_3_1 cwa_3_2 cwa_3_3
          clear hwc
          repeat (first | (refine Od.wpO_skip (by simp only [List.getElem?_toArray, List.getElem?_cons_succ, List.getElem?_cons_zero] <;> rfl) rfl ?_; simp only [Act.put, List.setIfInBounds_toArray, List.set_cons_zero, List.set_cons_succ]) | (refine Od.wpO_pure (by simp only [List.getElem?_toArray, List.getElem?_cons_succ, List.getElem?_cons_zero] <;> rfl) rfl ?_; apply Exists.intro; refine ⟨?_, ?_⟩; (· intro wx gx; obtain ⟨mx, rfl⟩ := spread_of_gr gx; clear gx; all_goals (apply Od.pAt_of_quiet; intro K hK; go_big_quiet_op; first | exact hK _ rfl | (apply Exists.intro; refine ⟨fun _ => ?_, ?_⟩; (· fail); exact hK _ rfl))); try simp only [Act.put, List.setIfInBounds_toArray, List.set_cons_zero, List.set_cons_succ]))
          refine Od.wpO_call (by simp only [List.getElem?_toArray, List.getElem?_cons_succ, List.getElem?_cons_zero] <;> rfl) rfl ?_
          intro QS hQS
          go_wp2_with fail
          go_at_call 28
          (with_reducible refine ((H8.out _)).mono ?_)
          rintro e wd ⟨rfl, hwd⟩
          go_wp2_with fail
          apply Exists.intro
          refine ⟨?_, hwd, ?_⟩
          · simp only [Act.put, List.setIfInBounds_toArray, List.set_cons_zero, List.set_cons_succ]; rfl
          have cwd_0_0 := ci hwd (W.heap.size) 0 k (by go_simp)
          have cwd_0_1 := cg hwd (W.heap.size) 1 (.slice ad n cap) (by go_simp)
          have cwd_1_0 := ci hwd (W.heap.size + 1) 0 px (by go_simp)
          have cwd_1_1 := ci hwd (W.heap.size + 1) 1 py (by go_simp)
          have cwd_3_0 := ci hwd (w7.heap.size) 0 p1 (by go_simp)
          have cwd_3_1 := ci hwd (w7.heap.size) 1 p2 (by go_simp)
          have cwd_3_2 := ci hwd (w7.heap.size) 2 p3 (by go_simp)
          have cwd_3_3 := ci hwd (w7.heap.size) 3 p4 (by go_simp)
          have gwd : Gr W wd := Gr.trans (by have gg := gwc; have gs := gg.size; go_grown) hwd
          clear gwc cwc_0_0 cwc_0_1 cwc_1_0 cwc_1_1 cwc_2_0 cwc_2_1 cwc_2_2 cwc_2_3 cwc_3_0 cwc_3_1 cwc_3_2 cwc_3_3
          clear hwd
          try simp only [Act.put, List.setIfInBounds_toArray, List.set_cons_zero, List.set_cons_succ]
          repeat (first | (refine Od.wpO_skip (by simp only [List.getElem?_toArray, List.getElem?_cons_succ, List.getElem?_cons_zero] <;> rfl) rfl ?_; simp only [Act.put, List.setIfInBounds_toArray, List.set_cons_zero, List.set_cons_succ]) | (refine Od.wpO_pure (by simp only [List.getElem?_toArray, List.getElem?_cons_succ, List.getElem?_cons_zero] <;> rfl) rfl ?_; apply Exists.intro; refine ⟨?_, ?_⟩; (· intro wx gx; obtain ⟨mx, rfl⟩ := spread_of_gr gx; clear gx; all_goals (apply Od.pAt_of_quiet; intro K hK; go_big_quiet_op; first | exact hK _ rfl | (apply Exists.intro; refine ⟨fun _ => ?_, ?_⟩; (· fail); exact hK _ rfl))); try simp only [Act.put, List.setIfInBounds_toArray, List.set_cons_zero, List.set_cons_succ]))
          refine Od.wpO_call (by simp only [List.getElem?_toArray, List.getElem?_cons_succ, List.getElem?_cons_zero] <;> rfl) rfl ?_
          intro QS hQS
          go_wp2_with fail
          go_at_call 17
          (with_reducible refine ((H9.out _ gwd)).mono ?_)
          rintro e we ⟨rfl, hwe⟩
          go_wp2_with fail
          apply Exists.intro
          refine ⟨?_, hwe, ?_⟩
          · simp only [Act.put, List.setIfInBounds_toArray, List.set_cons_zero, List.set_cons_succ]; rfl
          have cwe_0_0 := ci hwe (W.heap.size) 0 k (by go_simp)
          have cwe_0_1 := cg hwe (W.heap.size) 1 (.slice ad n cap) (by go_simp)
          have cwe_1_0 := ci hwe (W.heap.size + 1) 0 px (by go_simp)
          have cwe_1_1 := ci hwe (W.heap.size + 1) 1 py (by go_simp)
          have cwe_3_0 := ci hwe (w7.heap.size) 0 p1 (by go_simp)
          have cwe_3_1 := ci hwe (w7.heap.size) 1 p2 (by go_simp)
          have cwe_3_2 := ci hwe (w7.heap.size) 2 p3 (by go_simp)
          have cwe_3_3 := ci hwe (w7.heap.size) 3 p4 (by go_simp)
          have gwe : Gr W we := Gr.trans (by have gg := gwd; have gs := gg.size; go_grown) hwe
          clear gwd cwd_0_0 cwd_0_1 cwd_1_0 cwd_1_1 cwd_3_0 cwd_3_1 cwd_3_2 cwd_3_3
          clear hwe
          try simp only [Act.put, List.setIfInBounds_toArray, List.set_cons_zero, List.set_cons_succ]
          repeat (first | (refine Od.wpO_skip (by simp only [List.getElem?_toArray, List.getElem?_cons_succ, List.getElem?_cons_zero] <;> rfl) rfl ?_; simp only [Act.put, List.setIfInBounds_toArray, List.set_cons_zero, List.set_cons_succ]) | (refine Od.wpO_pure (by simp only [List.getElem?_toArray, List.getElem?_cons_succ, List.getElem?_cons_zero] <;> rfl) rfl ?_; apply Exists.intro; refine ⟨?_, ?_⟩; (· intro wx gx; obtain ⟨mx, rfl⟩ := spread_of_gr gx; clear gx; all_goals (apply Od.pAt_of_quiet; intro K hK; go_big_quiet_op; first | exact hK _ rfl | (apply Exists.intro; refine ⟨fun _ => ?_, ?_⟩; (· fail); exact hK _ rfl))); try simp only [Act.put, List.setIfInBounds_toArray, List.set_cons_zero, List.set_cons_succ]))
          refine Od.wpO_call (by simp only [List.getElem?_toArray, List.getElem?_cons_succ, List.getElem?_cons_zero] <;> rfl) rfl ?_
          intro QS hQS
          go_wp2_with fail
          go_at_call 19
          (with_reducible refine ((HB1.out _ gwe)).mono ?_)
          rintro e wf ⟨rfl, hwf⟩
          go_wp2_with fail
          apply Exists.intro
          refine ⟨?_, hwf, ?_⟩
          · simp only [Act.put, List.setIfInBounds_toArray, List.set_cons_zero, List.set_cons_succ]; rfl
          have cwf_0_0 := ci hwf (W.heap.size) 0 k (by go_simp)
          have cwf_0_1 := cg hwf (W.heap.size) 1 (.slice ad n cap) (by go_simp)
          have cwf_1_0 := ci hwf (W.heap.size + 1) 0 px (by go_simp)
          have cwf_1_1 := ci hwf (W.heap.size + 1) 1 py (by go_simp)
          have cwf_3_0 := ci hwf (w7.heap.size) 0 p1 (by go_simp)
          have cwf_3_1 := ci hwf (w7.heap.size) 1 p2 (by go_simp)
          have cwf_3_2 := ci hwf (w7.heap.size) 2 p3 (by go_simp)
          have cwf_3_3 := ci hwf (w7.heap.size) 3 p4 (by go_simp)
          have gwf : Gr W wf := Gr.trans (by have gg := gwe; have gs := gg.size; go_grown) hwf
          clear gwe cwe_0_0 cwe_0_1 cwe_1_0 cwe_1_1 cwe_3_0 cwe_3_1 cwe_3_2 cwe_3_3
          clear hwf
          try simp only [Act.put, List.setIfInBounds_toArray, List.set_cons_zero, List.set_cons_succ]
          repeat (first | (refine Od.wpO_skip (by simp only [List.getElem?_toArray, List.getElem?_cons_succ, List.getElem?_cons_zero] <;> rfl) rfl ?_; simp only [Act.put, List.setIfInBounds_toArray, List.set_cons_zero, List.set_cons_succ]) | (refine Od.wpO_pure (by simp only [List.getElem?_toArray, List.getElem?_cons_succ, List.getElem?_cons_zero] <;> rfl) rfl ?_; apply Exists.intro; refine ⟨?_, ?_⟩; (· intro wx gx; obtain ⟨mx, rfl⟩ := spread_of_gr gx; clear gx; all_goals (apply Od.pAt_of_quiet; intro K hK; go_big_quiet_op; first | exact hK _ rfl | (apply Exists.intro; refine ⟨fun _ => ?_, ?_⟩; (· fail); exact hK _ rfl))); try simp only [Act.put, List.setIfInBounds_toArray, List.set_cons_zero, List.set_cons_succ]))
          refine Od.wpO_call (by simp only [List.getElem?_toArray, List.getElem?_cons_succ, List.getElem?_cons_zero] <;> rfl) rfl ?_
          intro QS hQS
          go_wp2_with fail
          go_at_call 30
          (with_reducible refine ((HB2.out _)).mono ?_)
          rintro e wg ⟨rfl, hwg⟩
          go_wp2_with fail
          apply Exists.intro
          refine ⟨?_, hwg, ?_⟩
          · simp only [Act.put, List.setIfInBounds_toArray, List.set_cons_zero, List.set_cons_succ]; rfl
          have gwg : Gr W wg := Gr.trans (by have gg := gwf; have gs := gg.size; go_grown) hwg
          clear gwf cwf_0_0 cwf_0_1 cwf_1_0 cwf_1_1 cwf_3_0 cwf_3_1 cwf_3_2 cwf_3_3
          clear hwg
          try simp only [Act.put, List.setIfInBounds_toArray, List.set_cons_zero, List.set_cons_succ]
          repeat (first | (refine Od.wpO_skip (by simp only [List.getElem?_toArray, List.getElem?_cons_succ, List.getElem?_cons_zero] <;> rfl) rfl ?_; simp only [Act.put, List.setIfInBounds_toArray, List.set_cons_zero, List.set_cons_succ]) | (refine Od.wpO_pure (by simp only [List.getElem?_toArray, List.getElem?_cons_succ, List.getElem?_cons_zero] <;> rfl) rfl ?_; apply Exists.intro; refine ⟨?_, ?_⟩; (· intro wx gx; obtain ⟨mx, rfl⟩ := spread_of_gr gx; clear gx; all_goals (apply Od.pAt_of_quiet; intro K hK; go_big_quiet_op; first | exact hK _ rfl | (apply Exists.intro; refine ⟨fun _ => ?_, ?_⟩; (· fail); exact hK _ rfl))); try simp only [Act.put, List.setIfInBounds_toArray, List.set_cons_zero, List.set_cons_succ]))
          refine Od.wpO_call (by simp only [List.getElem?_toArray, List.getElem?_cons_succ, List.getElem?_cons_zero] <;> rfl) rfl ?_
          intro QS hQS
          go_wp2_with fail
          go_at_call 15
          (with_reducible refine ((H5.out _ gwg)).mono ?_)
          rintro e wh ⟨rfl, hwh⟩
          go_wp2_with fail
          apply Exists.intro
          refine ⟨?_, hwh, ?_⟩
          · simp only [Act.put, List.setIfInBounds_toArray, List.set_cons_zero, List.set_cons_succ]; rfl
          have gwh : Gr W wh := Gr.trans (by have gg := gwg; have gs := gg.size; go_grown) hwh
          clear gwg
          clear hwh
          try simp only [Act.put, List.setIfInBounds_toArray, List.set_cons_zero, List.set_cons_succ]
          repeat (first | (refine Od.wpO_skip (by simp only [List.getElem?_toArray, List.getElem?_cons_succ, List.getElem?_cons_zero] <;> rfl) rfl ?_; simp only [Act.put, List.setIfInBounds_toArray, List.set_cons_zero, List.set_cons_succ]) | (refine Od.wpO_pure (by simp only [List.getElem?_toArray, List.getElem?_cons_succ, List.getElem?_cons_zero] <;> rfl) rfl ?_; apply Exists.intro; refine ⟨?_, ?_⟩; (· intro wx gx; obtain ⟨mx, rfl⟩ := spread_of_gr gx; clear gx; all_goals (apply Od.pAt_of_quiet; intro K hK; go_big_quiet_op; first | exact hK _ rfl | (apply Exists.intro; refine ⟨fun _ => ?_, ?_⟩; (· fail); exact hK _ rfl))); try simp only [Act.put, List.setIfInBounds_toArray, List.set_cons_zero, List.set_cons_succ]))
          refine Od.wpO_call (by simp only [List.getElem?_toArray, List.getElem?_cons_succ, List.getElem?_cons_zero] <;> rfl) rfl ?_
          intro QS hQS
          go_wp2_with fail
          go_at_call 29
          (with_reducible refine ((HB3.out _)).mono ?_)
          rintro e wi ⟨rfl, hwi⟩
          go_wp2_with fail
          apply Exists.intro
          refine ⟨?_, hwi, ?_⟩
          · simp only [Act.put, List.setIfInBounds_toArray, List.set_cons_zero, List.set_cons_succ]; rfl
          have gwi : Gr W wi := Gr.trans (by have gg := gwh; have gs := gg.size; go_grown) hwi
          clear gwh
          clear hwi
          try simp only [Act.put, List.setIfInBounds_toArray, List.set_cons_zero, List.set_cons_succ]
          repeat (first | (refine Od.wpO_skip (by simp only [List.getElem?_toArray, List.getElem?_cons_succ, List.getElem?_cons_zero] <;> rfl) rfl ?_; simp only [Act.put, List.setIfInBounds_toArray, List.set_cons_zero, List.set_cons_succ]) | (refine Od.wpO_pure (by simp only [List.getElem?_toArray, List.getElem?_cons_succ, List.getElem?_cons_zero] <;> rfl) rfl ?_; apply Exists.intro; refine ⟨?_, ?_⟩; (· intro wx gx; obtain ⟨mx, rfl⟩ := spread_of_gr gx; clear gx; all_goals (apply Od.pAt_of_quiet; intro K hK; go_big_quiet_op; first | exact hK _ rfl | (apply Exists.intro; refine ⟨fun _ => ?_, ?_⟩; (· fail); exact hK _ rfl))); try simp only [Act.put, List.setIfInBounds_toArray, List.set_cons_zero, List.set_cons_succ]))
          refine Od.wpO_call (by simp only [List.getElem?_toArray, List.getElem?_cons_succ, List.getElem?_cons_zero] <;> rfl) rfl ?_
          intro QS hQS
          go_wp2_with fail
          go_at_call 9
          (with_reducible refine ((HB4.out _ gwi)).mono ?_)
          rintro e wj ⟨rfl, hwj⟩
          go_wp2_with fail
          apply Exists.intro
          refine ⟨?_, hwj, ?_⟩
          · simp only [Act.put, List.setIfInBounds_toArray, List.set_cons_zero, List.set_cons_succ]; rfl
          have gwj : Gr W wj := Gr.trans (by have gg := gwi; have gs := gg.size; go_grown) hwj
          clear gwi
          clear hwj
          try simp only [Act.put, List.setIfInBounds_toArray, List.set_cons_zero, List.set_cons_succ]
          repeat (first | (refine Od.wpO_skip (by simp only [List.getElem?_toArray, List.getElem?_cons_succ, List.getElem?_cons_zero] <;> rfl) rfl ?_; simp only [Act.put, List.setIfInBounds_toArray, List.set_cons_zero, List.set_cons_succ]) | (refine Od.wpO_pure (by simp only [List.getElem?_toArray, List.getElem?_cons_succ, List.getElem?_cons_zero] <;> rfl) rfl ?_; apply Exists.intro; refine ⟨?_, ?_⟩; (· intro wx gx; obtain ⟨mx, rfl⟩ := spread_of_gr gx; clear gx; all_goals (apply Od.pAt_of_quiet; intro K hK; go_big_quiet_op; first | exact hK _ rfl | (apply Exists.intro; refine ⟨fun _ => ?_, ?_⟩; (· fail); exact hK _ rfl))); try simp only [Act.put, List.setIfInBounds_toArray, List.set_cons_zero, List.set_cons_succ]))
          refine Od.wpO_nil (hKQ _ _ ?_)
          clear hKQ KQ
          go_wp2_with fail
          go_ret
          exact ⟨rfl, gwj⟩
        · exact absurd (HF.out.2.2 rfl rfl) (by decide)
    · obtain rfl : bm = true := HF.out.2.1 rfl
      cases zh
      · clear HF
        go_wp2_with fail
        go_at_call 15
        refine ((H5.out _ gw8)).mono ?_
        rintro e w9 ⟨rfl, hw9⟩
        have cw9_0_0 := ci hw9 (W.heap.size) 0 k (by go_simp)
        have cw9_0_1 := cg hw9 (W.heap.size) 1 (.slice ad n cap) (by go_simp)
        have cw9_1_0 := ci hw9 (W.heap.size + 1) 0 px (by go_simp)
        have cw9_1_1 := ci hw9 (W.heap.size + 1) 1 py (by go_simp)
        have cw9_2_0 := ci hw9 (W.heap.size + 1 + 1) 0 r1 (by go_simp)
        have cw9_2_1 := ci hw9 (W.heap.size + 1 + 1) 1 r2 (by go_simp)
        have cw9_2_2 := ci hw9 (W.heap.size + 1 + 1) 2 r3 (by go_simp)
        have cw9_2_3 := ci hw9 (W.heap.size + 1 + 1) 3 r4 (by go_simp)
        have cw9_3_0 := ci hw9 (w7.heap.size) 0 p1 (by go_simp)
        have cw9_3_1 := ci hw9 (w7.heap.size) 1 p2 (by go_simp)
        have cw9_3_2 := ci hw9 (w7.heap.size) 2 p3 (by go_simp)
        have cw9_3_3 := ci hw9 (w7.heap.size) 3 p4 (by go_simp)
        have gw9 : Gr W w9 := Gr.trans (by have gg := gw8; have gs := gg.size; go_grown) hw9
        clear hw9 gw8 zw8_0 cw8_0_0 cw8_0_1 zw8_1 cw8_1_0 cw8_1_1 zw8_2 cw8_2_0 cw8_2_1 cw8_2_2 cw8_2_3 zw8_3 cw8_3_0 cw8_3_1 cw8_3_2 cw8_3_3
        go_wp2_with fail
        go_at_call 26
        refine ((H6.out _)).mono ?_
        rintro e wa ⟨rfl, hwa⟩
        have cwa_0_0 := ci hwa (W.heap.size) 0 k (by go_simp)
        have cwa_0_1 := cg hwa (W.heap.size) 1 (.slice ad n cap) (by go_simp)
        have cwa_1_0 := ci hwa (W.heap.size + 1) 0 px (by go_simp)
        have cwa_1_1 := ci hwa (W.heap.size + 1) 1 py (by go_simp)
        have cwa_2_0 := ci hwa (W.heap.size + 1 + 1) 0 r1 (by go_simp)
        have cwa_2_1 := ci hwa (W.heap.size + 1 + 1) 1 r2 (by go_simp)
        have cwa_2_2 := ci hwa (W.heap.size + 1 + 1) 2 r3 (by go_simp)
        have cwa_2_3 := ci hwa (W.heap.size + 1 + 1) 3 r4 (by go_simp)
        have cwa_3_0 := ci hwa (w7.heap.size) 0 p1 (by go_simp)
        have cwa_3_1 := ci hwa (w7.heap.size) 1 p2 (by go_simp)
        have cwa_3_2 := ci hwa (w7.heap.size) 2 p3 (by go_simp)
        have cwa_3_3 := ci hwa (w7.heap.size) 3 p4 (by go_simp)
        have gwa : Gr W wa := Gr.trans (by have gg := gw9; have gs := gg.size; go_grown) hwa
        clear hwa gw9 cw9_0_0 cw9_0_1 cw9_1_0 cw9_1_1 cw9_2_0 cw9_2_1 cw9_2_2 cw9_2_3 cw9_3_0 cw9_3_1 cw9_3_2 cw9_3_3
        go_wp2_with fail
        go_at_call 27
        refine ((H7.out _)).mono ?_
        rintro e wb ⟨rfl, hwb⟩
        have cwb_0_0 := ci hwb (W.heap.size) 0 k (by go_simp)
        have cwb_0_1 := cg hwb (W.heap.size) 1 (.slice ad n cap) (by go_simp)
        have cwb_1_0 := ci hwb (W.heap.size + 1) 0 px (by go_simp)
        have cwb_1_1 := ci hwb (W.heap.size + 1) 1 py (by go_simp)
        have cwb_2_0 := ci hwb (W.heap.size + 1 + 1) 0 r1 (by go_simp)
        have cwb_2_1 := ci hwb (W.heap.size + 1 + 1) 1 r2 (by go_simp)
        have cwb_2_2 := ci hwb (W.heap.size + 1 + 1) 2 r3 (by go_simp)
        have cwb_2_3 := ci hwb (W.heap.size + 1 + 1) 3 r4 (by go_simp)
        have cwb_3_0 := ci hwb (w7.heap.size) 0 p1 (by go_simp)
        have cwb_3_1 := ci hwb (w7.heap.size) 1 p2 (by go_simp)
        have cwb_3_2 := ci hwb (w7.heap.size) 2 p3 (by go_simp)
        have cwb_3_3 := ci hwb (w7.heap.size) 3 p4 (by go_simp)
        have gwb : Gr W wb := Gr.trans (by have gg := gwa; have gs := gg.size; go_grown) hwb
        clear hwb gwa cwa_0_0 cwa_0_1 cwa_1_0 cwa_1_1 cwa_2_0 cwa_2_1 cwa_2_2 cwa_2_3 cwa_3_0 cwa_3_1 cwa_3_2 cwa_3_3
        clear EQ HQ
        go_wp2_with fail
        try simp only [List.append]
        refine Od.wp_region_ord [(0, false), (1, false), (2, false), (3, false), (4, false), (5, true), (6, false), (7, false), (8, false), (9, false), (10, false), (11, false), (12, false), (13, false), (14, true), (15, false), (16, false), (17, false), (18, false), (19, true), (20, false), (21, false), (22, false), (23, false), (25, false), (26, false), (24, true), (27, true), (28, true), (29, false), (30, false), (31, false), (32, true), (33, false), (34, false)] (by kernel_rfl) (by kernel_rfl) ?_
        intro wc hwc KQ hKQ
        have cwc_0_0 := ci hwc (W.heap.size) 0 k (by go_simp)
        have cwc_0_1 := cg hwc (W.heap.size) 1 (.slice ad n cap) (by go_simp)
        have cwc_1_0 := ci hwc (W.heap.size + 1) 0 px (by go_simp)
        have cwc_1_1 := ci hwc (W.heap.size + 1) 1 py (by go_simp)
        have cwc_2_0 := ci hwc (W.heap.size + 1 + 1) 0 r1 (by go_simp)
        have cwc_2_1 := ci hwc (W.heap.size + 1 + 1) 1 r2 (by go_simp)
        have cwc_2_2 := ci hwc (W.heap.size + 1 + 1) 2 r3 (by go_simp)
        have cwc_2_3 := ci hwc (W.heap.size + 1 + 1) 3 r4 (by go_simp)
        have cwc_3_0 := ci hwc (w7.heap.size) 0 p1 (by go_simp)
        have cwc_3_1 := ci hwc (w7.heap.size) 1 p2 (by go_simp)
        have cwc_3_2 := ci hwc (w7.heap.size) 2 p3 (by go_simp)
        have cwc_3_3 := ci hwc (w7.heap.size) 3 p4 (by go_simp)
        have gwc : Gr W wc := Gr.trans (by have gg := gwb; have gs := gg.size; go_grown) hwc
        clear gwb cwb_0_0 cwb_0_1 cwb_1_0 cwb_1_1 cwb_2_0 cwb_2_1 cwb_2_2 cwb_2_3 cwb_3_0 cwb_3_1 cwb_3_2 cwb_3_3
        clear hwc
        repeat (first | (refine Od.wpO_skip (by simp only [List.getElem?_toArray, List.getElem?_cons_succ, List.getElem?_cons_zero] <;> rfl) rfl ?_; simp only [Act.put, List.setIfInBounds_toArray, List.set_cons_zero, List.set_cons_succ]) | (refine Od.wpO_pure (by simp only [List.getElem?_toArray, List.getElem?_cons_succ, List.getElem?_cons_zero] <;> rfl) rfl ?_; apply Exists.intro; refine ⟨?_, ?_⟩; (· intro wx gx; obtain ⟨mx, rfl⟩ := spread_of_gr gx; clear gx; all_goals (apply Od.pAt_of_quiet; intro K hK; go_big_quiet_op; first | exact hK _ rfl | (apply Exists.intro; refine ⟨fun _ => ?_, ?_⟩; (· fail); exact hK _ rfl))); try simp only [Act.put, List.setIfInBounds_toArray, List.set_cons_zero, List.set_cons_succ]))
        refine Od.wpO_call (by simp only [List.getElem?_toArray, List.getElem?_cons_succ, List.getElem?_cons_zero] <;> rfl) rfl ?_
        intro QS hQS
        go_wp2_with fail
        go_at_call 17
        (with_reducible refine ((H9.out _ gwc)).mono ?_)
        rintro e we ⟨rfl, hwe⟩
        go_wp2_with fail
        apply Exists.intro
        refine ⟨?_, hwe, ?_⟩
        · simp only [Act.put, List.setIfInBounds_toArray, List.set_cons_zero, List.set_cons_succ]; rfl
        have cwe_0_0 := ci hwe (W.heap.size) 0 k (by go_simp)
        have cwe_0_1 := cg hwe (W.heap.size) 1 (.slice ad n cap) (by go_simp)
        have cwe_1_0 := ci hwe (W.heap.size + 1) 0 px (by go_simp)
        have cwe_1_1 := ci hwe (W.heap.size + 1) 1 py (by go_simp)
        have cwe_3_0 := ci hwe (w7.heap.size) 0 p1 (by go_simp)
        have cwe_3_1 := ci hwe (w7.heap.size) 1 p2 (by go_simp)
        have cwe_3_2 := ci hwe (w7.heap.size) 2 p3 (by go_simp)
        have cwe_3_3 := ci hwe (w7.heap.size) 3 p4 (by go_simp)
        have gwe : Gr W we := Gr.trans (by have gg := gwc; have gs := gg.size; go_grown) hwe
        clear gwc cwc_0_0 cwc_0_1 cwc_1_0 cwc_1_1 cwc_2_0 cwc_2_1 cwc_2_2 cwc_2_3 cwc_3_0 cwc_3_1 cwc_3_2 cwc_3_3
        clear hwe
        try simp only [Act.put, List.setIfInBounds_toArray, List.set_cons_zero, List.set_cons_succ]
        repeat (first | (refine Od.wpO_skip (by simp only [List.getElem?_toArray, List.getElem?_cons_succ, List.getElem?_cons_zero] <;> rfl) rfl ?_; simp only [Act.put, List.setIfInBounds_toArray, List.set_cons_zero, List.set_cons_succ]) | (refine Od.wpO_pure (by simp only [List.getElem?_toArray, List.getElem?_cons_succ, List.getElem?_cons_zero] <;> rfl) rfl ?_; apply Exists.intro; refine ⟨?_, ?_⟩; (· intro wx gx; obtain ⟨mx, rfl⟩ := spread_of_gr gx; clear gx; all_goals (apply Od.pAt_of_quiet; intro K hK; go_big_quiet_op; first | exact hK _ rfl | (apply Exists.intro; refine ⟨fun _ => ?_, ?_⟩; (· fail); exact hK _ rfl))); try simp only [Act.put, List.setIfInBounds_toArray, List.set_cons_zero, List.set_cons_succ]))
        refine Od.wpO_call (by simp only [List.getElem?_toArray, List.getElem?_cons_succ, List.getElem?_cons_zero] <;> rfl) rfl ?_
        intro QS hQS
        go_wp2_with fail
        go_at_call 19
        (with_reducible refine ((HB1.out _ gwe)).mono ?_)
        rintro e wf ⟨rfl, hwf⟩
        go_wp2_with fail
        apply Exists.intro
        refine ⟨?_, hwf, ?_⟩
        · simp only [Act.put, List.setIfInBounds_toArray, List.set_cons_zero, List.set_cons_succ]; rfl
        have cwf_0_0 := ci hwf (W.heap.size) 0 k (by go_simp)
        have cwf_0_1 := cg hwf (W.heap.size) 1 (.slice ad n cap) (by go_simp)
        have cwf_1_0 := ci hwf (W.heap.size + 1) 0 px (by go_simp)
        have cwf_1_1 := ci hwf (W.heap.size + 1) 1 py (by go_simp)
        have cwf_3_0 := ci hwf (w7.heap.size) 0 p1 (by go_simp)
        have cwf_3_1 := ci hwf (w7.heap.size) 1 p2 (by go_simp)
        have cwf_3_2 := ci hwf (w7.heap.size) 2 p3 (by go_simp)
        have cwf_3_3 := ci hwf (w7.heap.size) 3 p4 (by go_simp)
        have gwf : Gr W wf := Gr.trans (by have gg := gwe; have gs := gg.size; go_grown) hwf
        clear gwe cwe_0_0 cwe_0_1 cwe_1_0 cwe_1_1 cwe_3_0 cwe_3_1 cwe_3_2 cwe_3_3
        clear hwf
        try simp only [Act.put, List.setIfInBounds_toArray, List.set_cons_zero, List.set_cons_succ]
        repeat (first | (refine Od.wpO_skip (by simp only [List.getElem?_toArray, List.getElem?_cons_succ, List.getElem?_cons_zero] <;> rfl) rfl ?_; simp only [Act.put, List.setIfInBounds_toArray, List.set_cons_zero, List.set_cons_succ]) | (refine Od.wpO_pure (by simp only [List.getElem?_toArray, List.getElem?_cons_succ, List.getElem?_cons_zero] <;> rfl) rfl ?_; apply Exists.intro; refine ⟨?_, ?_⟩; (· intro wx gx; obtain ⟨mx, rfl⟩ := spread_of_gr gx; clear gx; all_goals (apply Od.pAt_of_quiet; intro K hK; go_big_quiet_op; first | exact hK _ rfl | (apply Exists.intro; refine ⟨fun _ => ?_, ?_⟩; (· fail); exact hK _ rfl))); try simp only [Act.put, List.setIfInBounds_toArray, List.set_cons_zero, List.set_cons_succ]))
        refine Od.wpO_call (by simp only [List.getElem?_toArray, List.getElem?_cons_succ, List.getElem?_cons_zero] <;> rfl) rfl ?_
        intro QS hQS
        go_wp2_with fail
        go_at_call 30
        (with_reducible refine ((HB2.out _)).mono ?_)
        rintro e wg ⟨rfl, hwg⟩
        go_wp2_with fail
        apply Exists.intro
        refine ⟨?_, hwg, ?_⟩
        · simp only [Act.put, List.setIfInBounds_toArray, List.set_cons_zero, List.set_cons_succ]; rfl
        have gwg : Gr W wg := Gr.trans (by have gg := gwf; have gs := gg.size; go_grown) hwg
        clear gwf cwf_0_0 cwf_0_1 cwf_1_0 cwf_1_1 cwf_3_0 cwf_3_1 cwf_3_2 cwf_3_3
        clear hwg
        try simp only [Act.put, List.setIfInBounds_toArray, List.set_cons_zero, List.set_cons_succ]
        repeat (first | (refine Od.wpO_skip (by simp only [List.getElem?_toArray, List.getElem?_cons_succ, List.getElem?_cons_zero] <;> rfl) rfl ?_; simp only [Act.put, List.setIfInBounds_toArray, List.set_cons_zero, List.set_cons_succ]) | (refine Od.wpO_pure (by simp only [List.getElem?_toArray, List.getElem?_cons_succ, List.getElem?_cons_zero] <;> rfl) rfl ?_; apply Exists.intro; refine ⟨?_, ?_⟩; (· intro wx gx; obtain ⟨mx, rfl⟩ := spread_of_gr gx; clear gx; all_goals (apply Od.pAt_of_quiet; intro K hK; go_big_quiet_op; first | exact hK _ rfl | (apply Exists.intro; refine ⟨fun _ => ?_, ?_⟩; (· fail); exact hK _ rfl))); try simp only [Act.put, List.setIfInBounds_toArray, List.set_cons_zero, List.set_cons_succ]))
        refine Od.wpO_call (by simp only [List.getElem?_toArray, List.getElem?_cons_succ, List.getElem?_cons_zero] <;> rfl) rfl ?_
        intro QS hQS
        go_wp2_with fail
        go_at_call 15
        (with_reducible refine ((H5.out _ gwg)).mono ?_)
        rintro e wh ⟨rfl, hwh⟩
        go_wp2_with fail
        apply Exists.intro
        refine ⟨?_, hwh, ?_⟩
        · simp only [Act.put, List.setIfInBounds_toArray, List.set_cons_zero, List.set_cons_succ]; rfl
        have gwh : Gr W wh := Gr.trans (by have gg := gwg; have gs := gg.size; go_grown) hwh
        clear gwg
        clear hwh
        try simp only [Act.put, List.setIfInBounds_toArray, List.set_cons_zero, List.set_cons_succ]
        repeat (first | (refine Od.wpO_skip (by simp only [List.getElem?_toArray, List.getElem?_cons_succ, List.getElem?_cons_zero] <;> rfl) rfl ?_; simp only [Act.put, List.setIfInBounds_toArray, List.set_cons_zero, List.set_cons_succ]) | (refine Od.wpO_pure (by simp only [List.getElem?_toArray, List.getElem?_cons_succ, List.getElem?_cons_zero] <;> rfl) rfl ?_; apply Exists.intro; refine ⟨?_, ?_⟩; (· intro wx gx; obtain ⟨mx, rfl⟩ := spread_of_gr gx; clear gx; all_goals (apply Od.pAt_of_quiet; intro K hK; go_big_quiet_op; first | exact hK _ rfl | (apply Exists.intro; refine ⟨fun _ => ?_, ?_⟩; (· fail); exact hK _ rfl))); try simp only [Act.put, List.setIfInBounds_toArray, List.set_cons_zero, List.set_cons_succ]))
        refine Od.wpO_call (by simp only [List.getElem?_toArray, List.getElem?_cons_succ, List.getElem?_cons_zero] <;> rfl) rfl ?_
        intro QS hQS
        go_wp2_with fail
        go_at_call 29
        (with_reducible refine ((HB3.out _)).mono ?_)
        rintro e wi ⟨rfl, hwi⟩
        go_wp2_with fail
        apply Exists.intro
        refine ⟨?_, hwi, ?_⟩
        · simp only [Act.put, List.setIfInBounds_toArray, List.set_cons_zero, List.set_cons_succ]; rfl
        have gwi : Gr W wi := Gr.trans (by have gg := gwh; have gs := gg.size; go_grown) hwi
        clear gwh
        clear hwi
        try simp only [Act.put, List.setIfInBounds_toArray, List.set_cons_zero, List.set_cons_succ]
        repeat (first | (refine Od.wpO_skip (by simp only [List.getElem?_toArray, List.getElem?_cons_succ, List.getElem?_cons_zero] <;> rfl) rfl ?_; simp only [Act.put, List.setIfInBounds_toArray, List.set_cons_zero, List.set_cons_succ]) | (refine Od.wpO_pure (by simp only [List.getElem?_toArray, List.getElem?_cons_succ, List.getElem?_cons_zero] <;> rfl) rfl ?_; apply Exists.intro; refine ⟨?_, ?_⟩; (· intro wx gx; obtain ⟨mx, rfl⟩ := spread_of_gr gx; clear gx; all_goals (apply Od.pAt_of_quiet; intro K hK; go_big_quiet_op; first | exact hK _ rfl | (apply Exists.intro; refine ⟨fun _ => ?_, ?_⟩; (· fail); exact hK _ rfl))); try simp only [Act.put, List.setIfInBounds_toArray, List.set_cons_zero, List.set_cons_succ]))
        refine Od.wpO_call (by simp only [List.getElem?_toArray, List.getElem?_cons_succ, List.getElem?_cons_zero] <;> rfl) rfl ?_
        intro QS hQS
        go_wp2_with fail
        go_at_call 9
        (with_reducible refine ((HB4.out _ gwi)).mono ?_)
        rintro e wj ⟨rfl, hwj⟩
        go_wp2_with fail
        apply Exists.intro
        refine ⟨?_, hwj, ?_⟩
        · simp only [Act.put, List.setIfInBounds_toArray, List.set_cons_zero, List.set_cons_succ]; rfl
        have gwj : Gr W wj := Gr.trans (by have gg := gwi; have gs := gg.size; go_grown) hwj
        clear gwi
        clear hwj
        try simp only [Act.put, List.setIfInBounds_toArray, List.set_cons_zero, List.set_cons_succ]
        repeat (first | (refine Od.wpO_skip (by simp only [List.getElem?_toArray, List.getElem?_cons_succ, List.getElem?_cons_zero] <;> rfl) rfl ?_; simp only [Act.put, List.setIfInBounds_toArray, List.set_cons_zero, List.set_cons_succ]) | (refine Od.wpO_pure (by simp only [List.getElem?_toArray, List.getElem?_cons_succ, List.getElem?_cons_zero] <;> rfl) rfl ?_; apply Exists.intro; refine ⟨?_, ?_⟩; (· intro wx gx; obtain ⟨mx, rfl⟩ := spread_of_gr gx; clear gx; all_goals (apply Od.pAt_of_quiet; intro K hK; go_big_quiet_op; first | exact hK _ rfl | (apply Exists.intro; refine ⟨fun _ => ?_, ?_⟩; (· fail); exact hK _ rfl))); try simp only [Act.put, List.setIfInBounds_toArray, List.set_cons_zero, List.set_cons_succ]))
        refine Od.wpO_nil (hKQ _ _ ?_)
        clear hKQ KQ
        go_wp2_with fail
        go_ret
        exact ⟨rfl, gwj⟩
      · cases bh
        · clear HF
          go_wp2_with fail
          go_at_call 15
          refine ((H5.out _ gw8)).mono ?_
          rintro e w9 ⟨rfl, hw9⟩
          have cw9_0_0 := ci hw9 (W.heap.size) 0 k (by go_simp)
          have cw9_0_1 := cg hw9 (W.heap.size) 1 (.slice ad n cap) (by go_simp)
          have cw9_1_0 := ci hw9 (W.heap.size + 1) 0 px (by go_simp)
          have cw9_1_1 := ci hw9 (W.heap.size + 1) 1 py (by go_simp)
          have cw9_2_0 := ci hw9 (W.heap.size + 1 + 1) 0 r1 (by go_simp)
          have cw9_2_1 := ci hw9 (W.heap.size + 1 + 1) 1 r2 (by go_simp)
          have cw9_2_2 := ci hw9 (W.heap.size + 1 + 1) 2 r3 (by go_simp)
          have cw9_2_3 := ci hw9 (W.heap.size + 1 + 1) 3 r4 (by go_simp)
          have cw9_3_0 := ci hw9 (w7.heap.size) 0 p1 (by go_simp)
          have cw9_3_1 := ci hw9 (w7.heap.size) 1 p2 (by go_simp)
          have cw9_3_2 := ci hw9 (w7.heap.size) 2 p3 (by go_simp)
          have cw9_3_3 := ci hw9 (w7.heap.size) 3 p4 (by go_simp)
          have gw9 : Gr W w9 := Gr.trans (by have gg := gw8; have gs := gg.size; go_grown) hw9
          clear hw9 gw8 zw8_0 cw8_0_0 cw8_0_1 zw8_1 cw8_1_0 cw8_1_1 zw8_2 cw8_2_0 cw8_2_1 cw8_2_2 cw8_2_3 zw8_3 cw8_3_0 cw8_3_1 cw8_3_2 cw8_3_3
          go_wp2_with fail
          go_at_call 26
          refine ((H6.out _)).mono ?_
          rintro e wa ⟨rfl, hwa⟩
          have cwa_0_0 := ci hwa (W.heap.size) 0 k (by go_simp)
          have cwa_0_1 := cg hwa (W.heap.size) 1 (.slice ad n cap) (by go_simp)
          have cwa_1_0 := ci hwa (W.heap.size + 1) 0 px (by go_simp)
          have cwa_1_1 := ci hwa (W.heap.size + 1) 1 py (by go_simp)
          have cwa_2_0 := ci hwa (W.heap.size + 1 + 1) 0 r1 (by go_simp)
          have cwa_2_1 := ci hwa (W.heap.size + 1 + 1) 1 r2 (by go_simp)
          have cwa_2_2 := ci hwa (W.heap.size + 1 + 1) 2 r3 (by go_simp)
          have cwa_2_3 := ci hwa (W.heap.size + 1 + 1) 3 r4 (by go_simp)
          have cwa_3_0 := ci hwa (w7.heap.size) 0 p1 (by go_simp)
          have cwa_3_1 := ci hwa (w7.heap.size) 1 p2 (by go_simp)
          have cwa_3_2 := ci hwa (w7.heap.size) 2 p3 (by go_simp)
          have cwa_3_3 := ci hwa (w7.heap.size) 3 p4 (by go_simp)
          have gwa : Gr W wa := Gr.trans (by have gg := gw9; have gs := gg.size; go_grown) hwa
          clear hwa gw9 cw9_0_0 cw9_0_1 cw9_1_0 cw9_1_1 cw9_2_0 cw9_2_1 cw9_2_2 cw9_2_3 cw9_3_0 cw9_3_1 cw9_3_2 cw9_3_3
          go_wp2_with fail
          go_at_call 27
          refine ((H7.out _)).mono ?_
          rintro e wb ⟨rfl, hwb⟩
          have cwb_0_0 := ci hwb (W.heap.size) 0 k (by go_simp)
          have cwb_0_1 := cg hwb (W.heap.size) 1 (.slice ad n cap) (by go_simp)
          have cwb_1_0 := ci hwb (W.heap.size + 1) 0 px (by go_simp)
          have cwb_1_1 := ci hwb (W.heap.size + 1) 1 py (by go_simp)
          have cwb_2_0 := ci hwb (W.heap.size + 1 + 1) 0 r1 (by go_simp)
          have cwb_2_1 := ci hwb (W.heap.size + 1 + 1) 1 r2 (by go_simp)
          have cwb_2_2 := ci hwb (W.heap.size + 1 + 1) 2 r3 (by go_simp)
          have cwb_2_3 := ci hwb (W.heap.size + 1 + 1) 3 r4 (by go_simp)
          have cwb_3_0 := ci hwb (w7.heap.size) 0 p1 (by go_simp)
          have cwb_3_1 := ci hwb (w7.heap.size) 1 p2 (by go_simp)
          have cwb_3_2 := ci hwb (w7.heap.size) 2 p3 (by go_simp)
          have cwb_3_3 := ci hwb (w7.heap.size) 3 p4 (by go_simp)
          have gwb : Gr W wb := Gr.trans (by have gg := gwa; have gs := gg.size; go_grown) hwb
          clear hwb gwa cwa_0_0 cwa_0_1 cwa_1_0 cwa_1_1 cwa_2_0 cwa_2_1 cwa_2_2 cwa_2_3 cwa_3_0 cwa_3_1 cwa_3_2 cwa_3_3
          clear EQ HQ
          go_wp2_with fail
          try simp only [List.append]
          refine Od.wp_region_ord [(0, false), (1, false), (2, false), (3, false), (4, false), (5, true), (6, false), (7, false), (8, false), (9, false), (10, false), (11, false), (12, false), (13, false), (14, true), (15, false), (16, false), (17, false), (18, false), (19, true), (20, false), (21, false), (22, false), (23, false), (25, false), (26, false), (24, true), (27, true), (28, true), (29, false), (30, false), (31, false), (32, true), (33, false), (34, false)] (by kernel_rfl) (by kernel_rfl) ?_
          intro wc hwc KQ hKQ
          have cwc_0_0 := ci hwc (W.heap.size) 0 k (by go_simp)
          have cwc_0_1 := cg hwc (W.heap.size) 1 (.slice ad n cap) (by go_simp)
          have cwc_1_0 := ci hwc (W.heap.size + 1) 0 px (by go_simp)
          have cwc_1_1 := ci hwc (W.heap.size + 1) 1 py (by go_simp)
          have cwc_2_0 := ci hwc (W.heap.size + 1 + 1) 0 r1 (by go_simp)
          have cwc_2_1 := ci hwc (W.heap.size + 1 + 1) 1 r2 (by go_simp)
          have cwc_2_2 := ci hwc (W.heap.size + 1 + 1) 2 r3 (by go_simp)
          have cwc_2_3 := ci hwc (W.heap.size + 1 + 1) 3 r4 (by go_simp)
          have cwc_3_0 := ci hwc (w7.heap.size) 0 p1 (by go_simp)
          have cwc_3_1 := ci hwc (w7.heap.size) 1 p2 (by go_simp)
          have cwc_3_2 := ci hwc (w7.heap.size) 2 p3 (by go_simp)
          have cwc_3_3 := ci hwc (w7.heap.size) 3 p4 (by go_simp)
          have gwc : Gr W wc := Gr.trans (by have gg := gwb; have gs := gg.size; go_grown) hwc
          clear gwb cwb_0_0 cwb_0_1 cwb_1_0 cwb_1_1 cwb_2_0 cwb_2_1 cwb_2_2 cwb_2_3 cwb_3_0 cwb_3_1 cwb_3_2 cwb_3_3
          clear hwc
          repeat (first | (refine Od.wpO_skip (by simp only [List.getElem?_toArray, List.getElem?_cons_succ, List.getElem?_cons_zero] <;> rfl) rfl ?_; simp only [Act.put, List.setIfInBounds_toArray, List.set_cons_zero, List.set_cons_succ]) | (refine Od.wpO_pure (by simp only [List.getElem?_toArray, List.getElem?_cons_succ, List.getElem?_cons_zero] <;> rfl) rfl ?_; apply Exists.intro; refine ⟨?_, ?_⟩; (· intro wx gx; obtain ⟨mx, rfl⟩ := spread_of_gr gx; clear gx; all_goals (apply Od.pAt_of_quiet; intro K hK; go_big_quiet_op; first | exact hK _ rfl | (apply Exists.intro; refine ⟨fun _ => ?_, ?_⟩; (· fail); exact hK _ rfl))); try simp only [Act.put, List.setIfInBounds_toArray, List.set_cons_zero, List.set_cons_succ]))
          refine Od.wpO_call (by simp only [List.getElem?_toArray, List.getElem?_cons_succ, List.getElem?_cons_zero] <;> rfl) rfl ?_
          intro QS hQS
          go_wp2_with fail
          go_at_call 28
          (with_reducible refine ((H8.out _)).mono ?_)
          rintro e wd ⟨rfl, hwd⟩
          go_wp2_with fail
          apply Exists.intro
          refine ⟨?_, hwd, ?_⟩
          · simp only [Act.put, List.setIfInBounds_toArray, List.set_cons_zero, List.set_cons_succ]; rfl
          have cwd_0_0 := ci hwd (W.heap.size) 0 k (by go_simp)
          have cwd_0_1 := cg hwd (W.heap.size) 1 (.slice ad n cap) (by go_simp)
          have cwd_1_0 := ci hwd (W.heap.size + 1) 0 px (by go_simp)
          have cwd_1_1 := ci hwd (W.heap.size + 1) 1 py (by go_simp)
          have cwd_3_0 := ci hwd (w7.heap.size) 0 p1 (by go_simp)
          have cwd_3_1 := ci hwd (w7.heap.size) 1 p2 (by go_simp)
          have cwd_3_2 := ci hwd (w7.heap.size) 2 p3 (by go_simp)
          have cwd_3_3 := ci hwd (w7.heap.size) 3 p4 (by go_simp)
          have gwd : Gr W wd := Gr.trans (by have gg := gwc; have gs := gg.size; go_grown) hwd
          clear gwc cwc_0_0 cwc_0_1 cwc_1_0 cwc_1_1 cwc_2_0 cwc_2_1 cwc_2_2 cwc_2_3 cwc_3_0 cwc_3_1 cwc_3_2 cwc_3_3
          clear hwd
          try simp only [Act.put, List.setIfInBounds_toArray, List.set_cons_zero, List.set_cons_succ]
          repeat (first | (refine Od.wpO_skip (by simp only [List.getElem?_toArray, List.getElem?_cons_succ, List.getElem?_cons_zero] <;> rfl) rfl ?_; simp only [Act.put, List.setIfInBounds_toArray, List.set_cons_zero, List.set_cons_succ]) | (refine Od.wpO_pure (by simp only [List.getElem?_toArray, List.getElem?_cons_succ, List.getElem?_cons_zero] <;> rfl) rfl ?_; apply Exists.intro; refine ⟨?_, ?_⟩; (· intro wx gx; obtain ⟨mx, rfl⟩ := spread_of_gr gx; clear gx; all_goals (apply Od.pAt_of_quiet; intro K hK; go_big_quiet_op; first | exact hK _ rfl | (apply Exists.intro; refine ⟨fun _ => ?_, ?_⟩; (· fail); exact hK _ rfl))); try simp only [Act.put, List.setIfInBounds_toArray, List.set_cons_zero, List.set_cons_succ]))
          refine Od.wpO_call (by simp only [List.getElem?_toArray, List.getElem?_cons_succ, List.getElem?_cons_zero] <;> rfl) rfl ?_
          intro QS hQS
          go_wp2_with fail
          go_at_call 17
          (with_reducible refine ((H9.out _ gwd)).mono ?_)
          rintro e we ⟨rfl, hwe⟩
          go_wp2_with fail
          apply Exists.intro
          refine ⟨?_, hwe, ?_⟩
          · simp only [Act.put, List.setIfInBounds_toArray, List.set_cons_zero, List.set_cons_succ]; rfl
          have cwe_0_0 := ci hwe (W.heap.size) 0 k (by go_simp)
          have cwe_0_1 := cg hwe (W.heap.size) 1 (.slice ad n cap) (by go_simp)
          have cwe_1_0 := ci hwe (W.heap.size + 1) 0 px (by go_simp)
          have cwe_1_1 := ci hwe (W.heap.size + 1) 1 py (by go_simp)
          have cwe_3_0 := ci hwe (w7.heap.size) 0 p1 (by go_simp)
          have cwe_3_1 := ci hwe (w7.heap.size) 1 p2 (by go_simp)
          have cwe_3_2 := ci hwe (w7.heap.size) 2 p3 (by go_simp)
          have cwe_3_3 := ci hwe (w7.heap.size) 3 p4 (by go_simp)
          have gwe : Gr W we := Gr.trans (by have gg := gwd; have gs := gg.size; go_grown) hwe
          clear gwd cwd_0_0 cwd_0_1 cwd_1_0 cwd_1_1 cwd_3_0 cwd_3_1 cwd_3_2 cwd_3_3
          clear hwe
          try simp only [Act.put, List.setIfInBounds_toArray, List.set_cons_zero, List.set_cons_succ]
          repeat (first | (refine Od.wpO_skip (by simp only [List.getElem?_toArray, List.getElem?_cons_succ, List.getElem?_cons_zero] <;> rfl) rfl ?_; simp only [Act.put, List.setIfInBounds_toArray, List.set_cons_zero, List.set_cons_succ]) | (refine Od.wpO_pure (by simp only [List.getElem?_toArray, List.getElem?_cons_succ, List.getElem?_cons_zero] <;> rfl) rfl ?_; apply Exists.intro; refine ⟨?_, ?_⟩; (· intro wx gx; obtain ⟨mx, rfl⟩ := spread_of_gr gx; clear gx; all_goals (apply Od.pAt_of_quiet; intro K hK; go_big_quiet_op; first | exact hK _ rfl | (apply Exists.intro; refine ⟨fun _ => ?_, ?_⟩; (· fail); exact hK _ rfl))); try simp only [Act.put, List.setIfInBounds_toArray, List.set_cons_zero, List.set_cons_succ]))
          refine Od.wpO_call (by simp only [List.getElem?_toArray, List.getElem?_cons_succ, List.getElem?_cons_zero] <;> rfl) rfl ?_
          intro QS hQS
          go_wp2_with fail
          go_at_call 19
          (with_reducible refine ((HB1.out _ gwe)).mono ?_)
          rintro e wf ⟨rfl, hwf⟩
          go_wp2_with fail
          apply Exists.intro
          refine ⟨?_, hwf, ?_⟩
          · simp only [Act.put, List.setIfInBounds_toArray, List.set_cons_zero, List.set_cons_succ]; rfl
          have cwf_0_0 := ci hwf (W.heap.size) 0 k (by go_simp)
          have cwf_0_1 := cg hwf (W.heap.size) 1 (.slice ad n cap) (by go_simp)
          have cwf_1_0 := ci hwf (W.heap.size + 1) 0 px (by go_simp)
          have cwf_1_1 := ci hwf (W.heap.size + 1) 1 py (by go_simp)
          have cwf_3_0 := ci hwf (w7.heap.size) 0 p1 (by go_simp)
          have cwf_3_1 := ci hwf (w7.heap.size) 1 p2 (by go_simp)
          have cwf_3_2 := ci hwf (w7.heap.size) 2 p3 (by go_simp)
          have cwf_3_3 := ci hwf (w7.heap.size) 3 p4 (by go_simp)
          have gwf : Gr W wf := Gr.trans (by have gg := gwe; have gs := gg.size; go_grown) hwf
          clear gwe cwe_0_0 cwe_0_1 cwe_1_0 cwe_1_1 cwe_3_0 cwe_3_1 cwe_3_2 cwe_3_3
          clear hwf
          try simp only [Act.put, List.setIfInBounds_toArray, List.set_cons_zero, List.set_cons_succ]
          repeat (first | (refine Od.wpO_skip (by simp only [List.getElem?_toArray, List.getElem?_cons_succ, List.getElem?_cons_zero] <;> rfl) rfl ?_; simp only [Act.put, List.setIfInBounds_toArray, List.set_cons_zero, List.set_cons_succ]) | (refine Od.wpO_pure (by simp only [List.getElem?_toArray, List.getElem?_cons_succ, List.getElem?_cons_zero] <;> rfl) rfl ?_; apply Exists.intro; refine ⟨?_, ?_⟩; (· intro wx gx; obtain ⟨mx, rfl⟩ := spread_of_gr gx; clear gx; all_goals (apply Od.pAt_of_quiet; intro K hK; go_big_quiet_op; first | exact hK _ rfl | (apply Exists.intro; refine ⟨fun _ => ?_, ?_⟩; (· fail); exact hK _ rfl))); try simp only [Act.put, List.setIfInBounds_toArray, List.set_cons_zero, List.set_cons_succ]))
          refine Od.wpO_call (by simp only [List.getElem?_toArray, List.getElem?_cons_succ, List.getElem?_cons_zero] <;> rfl) rfl ?_
          intro QS hQS
          go_wp2_with fail
          go_at_call 30
          (with_reducible refine ((HB2.out _)).mono ?_)
          rintro e wg ⟨rfl, hwg⟩
          go_wp2_with fail
          apply Exists.intro
          refine ⟨?_, hwg, ?_⟩
          · simp only [Act.put, List.setIfInBounds_toArray, List.set_cons_zero, List.set_cons_succ]; rfl
          have gwg : Gr W wg := Gr.trans (by have gg := gwf; have gs := gg.size; go_grown) hwg
          clear gwf cwf_0_0 cwf_0_1 cwf_1_0 cwf_1_1 cwf_3_0 cwf_3_1 cwf_3_2 cwf_3_3
          clear hwg
          try simp only [Act.put, List.setIfInBounds_toArray, List.set_cons_zero, List.set_cons_succ]
          repeat (first | (refine Od.wpO_skip (by simp only [List.getElem?_toArray, List.getElem?_cons_succ, List.getElem?_cons_zero] <;> rfl) rfl ?_; simp only [Act.put, List.setIfInBounds_toArray, List.set_cons_zero, List.set_cons_succ]) | (refine Od.wpO_pure (by simp only [List.getElem?_toArray, List.getElem?_cons_succ, List.getElem?_cons_zero] <;> rfl) rfl ?_; apply Exists.intro; refine ⟨?_, ?_⟩; (· intro wx gx; obtain ⟨mx, rfl⟩ := spread_of_gr gx; clear gx; all_goals (apply Od.pAt_of_quiet; intro K hK; go_big_quiet_op; first | exact hK _ rfl | (apply Exists.intro; refine ⟨fun _ => ?_, ?_⟩; (· fail); exact hK _ rfl))); try simp only [Act.put, List.setIfInBounds_toArray, List.set_cons_zero, List.set_cons_succ]))
          refine Od.wpO_call (by simp only [List.getElem?_toArray, List.getElem?_cons_succ, List.getElem?_cons_zero] <;> rfl) rfl ?_
          intro QS hQS
          go_wp2_with fail
          go_at_call 15
          (with_reducible refine ((H5.out _ gwg)).mono ?_)
          rintro e wh ⟨rfl, hwh⟩
          go_wp2_with fail
          apply Exists.intro
          refine ⟨?_, hwh, ?_⟩
          · simp only [Act.put, List.setIfInBounds_toArray, List.set_cons_zero, List.set_cons_succ]; rfl
          have gwh : Gr W wh := Gr.trans (by have gg := gwg; have gs := gg.size; go_grown) hwh
          clear gwg
          clear hwh
          try simp only [Act.put, List.setIfInBounds_toArray, List.set_cons_zero, List.set_cons_succ]
          repeat (first | (refine Od.wpO_skip (by simp only [List.getElem?_toArray, List.getElem?_cons_succ, List.getElem?_cons_zero] <;> rfl) rfl ?_; simp only [Act.put, List.setIfInBounds_toArray, List.set_cons_zero, List.set_cons_succ]) | (refine Od.wpO_pure (by simp only [List.getElem?_toArray, List.getElem?_cons_succ, List.getElem?_cons_zero] <;> rfl) rfl ?_; apply Exists.intro; refine ⟨?_, ?_⟩; (· intro wx gx; obtain ⟨mx, rfl⟩ := spread_of_gr gx; clear gx; all_goals (apply Od.pAt_of_quiet; intro K hK; go_big_quiet_op; first | exact hK _ rfl | (apply Exists.intro; refine ⟨fun _ => ?_, ?_⟩; (· fail); exact hK _ rfl))); try simp only [Act.put, List.setIfInBounds_toArray, List.set_cons_zero, List.set_cons_succ]))
          refine Od.wpO_call (by simp only [List.getElem?_toArray, List.getElem?_cons_succ, List.getElem?_cons_zero] <;> rfl) rfl ?_
          intro QS hQS
          go_wp2_with fail
          go_at_call 29
          (with_reducible refine ((HB3.out _)).mono ?_)
          rintro e wi ⟨rfl, hwi⟩
          go_wp2_with fail
          apply Exists.intro
          refine ⟨?_, hwi, ?_⟩
          · simp only [Act.put, List.setIfInBounds_toArray, List.set_cons_zero, List.set_cons_succ]; rfl
          have gwi : Gr W wi := Gr.trans (by have gg := gwh; have gs := gg.size; go_grown) hwi
          clear gwh
          clear hwi
          try simp only [Act.put, List.setIfInBounds_toArray, List.set_cons_zero, List.set_cons_succ]
          repeat (first | (refine Od.wpO_skip (by simp only [List.getElem?_toArray, List.getElem?_cons_succ, List.getElem?_cons_zero] <;> rfl) rfl ?_; simp only [Act.put, List.setIfInBounds_toArray, List.set_cons_zero, List.set_cons_succ]) | (refine Od.wpO_pure (by simp only [List.getElem?_toArray, List.getElem?_cons_succ, List.getElem?_cons_zero] <;> rfl) rfl ?_; apply Exists.intro; refine ⟨?_, ?_⟩; (· intro wx gx; obtain ⟨mx, rfl⟩ := spread_of_gr gx; clear gx; all_goals (apply Od.pAt_of_quiet; intro K hK; go_big_quiet_op; first | exact hK _ rfl | (apply Exists.intro; refine ⟨fun _ => ?_, ?_⟩; (· fail); exact hK _ rfl))); try simp only [Act.put, List.setIfInBounds_toArray, List.set_cons_zero, List.set_cons_succ]))
          refine Od.wpO_call (by simp only [List.getElem?_toArray, List.getElem?_cons_succ, List.getElem?_cons_zero] <;> rfl) rfl ?_
          intro QS hQS
          go_wp2_with fail
          go_at_call 9
          (with_reducible refine ((HB4.out _ gwi)).mono ?_)
          rintro e wj ⟨rfl, hwj⟩
          go_wp2_with fail
          apply Exists.intro
          refine ⟨?_, hwj, ?_⟩
          · simp only [Act.put, List.setIfInBounds_toArray, List.set_cons_zero, List.set_cons_succ]; rfl
          have gwj : Gr W wj := Gr.trans (by have gg := gwi; have gs := gg.size; go_grown) hwj
          clear gwi
          clear hwj
          try simp only [Act.put, List.setIfInBounds_toArray, List.set_cons_zero, List.set_cons_succ]
          repeat (first | (refine Od.wpO_skip (by simp only [List.getElem?_toArray, List.getElem?_cons_succ, List.getElem?_cons_zero] <;> rfl) rfl ?_; simp only [Act.put, List.setIfInBounds_toArray, List.set_cons_zero, List.set_cons_succ]) | (refine Od.wpO_pure (by simp only [List.getElem?_toArray, List.getElem?_cons_succ, List.getElem?_cons_zero] <;> rfl) rfl ?_; apply Exists.intro; refine ⟨?_, ?_⟩; (· intro wx gx; obtain ⟨mx, rfl⟩ := spread_of_gr gx; clear gx; all_goals (apply Od.pAt_of_quiet; intro K hK; go_big_quiet_op; first | exact hK _ rfl | (apply Exists.intro; refine ⟨fun _ => ?_, ?_⟩; (· fail); exact hK _ rfl))); try simp only [Act.put, List.setIfInBounds_toArray, List.set_cons_zero, List.set_cons_succ]))
          refine Od.wpO_nil (hKQ _ _ ?_)
          clear hKQ KQ
          go_wp2_with fail
          go_ret
          exact ⟨rfl, gwj⟩
        · clear HF
          go_wp2_with fail
          go_at_call 15
          refine ((H5.out _ gw8)).mono ?_
          rintro e w9 ⟨rfl, hw9⟩
          have cw9_0_0 := ci hw9 (W.heap.size) 0 k (by go_simp)
          have cw9_0_1 := cg hw9 (W.heap.size) 1 (.slice ad n cap) (by go_simp)
          have cw9_1_0 := ci hw9 (W.heap.size + 1) 0 px (by go_simp)
          have cw9_1_1 := ci hw9 (W.heap.size + 1) 1 py (by go_simp)
          have cw9_2_0 := ci hw9 (W.heap.size + 1 + 1) 0 r1 (by go_simp)
          have cw9_2_1 := ci hw9 (W.heap.size + 1 + 1) 1 r2 (by go_simp)
          have cw9_2_2 := ci hw9 (W.heap.size + 1 + 1) 2 r3 (by go_simp)
          have cw9_2_3 := ci hw9 (W.heap.size + 1 + 1) 3 r4 (by go_simp)
          have cw9_3_0 := ci hw9 (w7.heap.size) 0 p1 (by go_simp)
          have cw9_3_1 := ci hw9 (w7.heap.size) 1 p2 (by go_simp)
          have cw9_3_2 := ci hw9 (w7.heap.size) 2 p3 (by go_simp)
          have cw9_3_3 := ci hw9 (w7.heap.size) 3 p4 (by go_simp)
          have gw9 : Gr W w9 := Gr.trans (by have gg := gw8; have gs := gg.size; go_grown) hw9
          clear hw9 gw8 zw8_0 cw8_0_0 cw8_0_1 zw8_1 cw8_1_0 cw8_1_1 zw8_2 cw8_2_0 cw8_2_1 cw8_2_2 cw8_2_3 zw8_3 cw8_3_0 cw8_3_1 cw8_3_2 cw8_3_3
          go_wp2_with fail
          go_at_call 26
          refine ((H6.out _)).mono ?_
          rintro e wa ⟨rfl, hwa⟩
          have cwa_0_0 := ci hwa (W.heap.size) 0 k (by go_simp)
          have cwa_0_1 := cg hwa (W.heap.size) 1 (.slice ad n cap) (by go_simp)
          have cwa_1_0 := ci hwa (W.heap.size + 1) 0 px (by go_simp)
          have cwa_1_1 := ci hwa (W.heap.size + 1) 1 py (by go_simp)
          have cwa_2_0 := ci hwa (W.heap.size + 1 + 1) 0 r1 (by go_simp)
          have cwa_2_1 := ci hwa (W.heap.size + 1 + 1) 1 r2 (by go_simp)
          have cwa_2_2 := ci hwa (W.heap.size + 1 + 1) 2 r3 (by go_simp)
          have cwa_2_3 := ci hwa (W.heap.size + 1 + 1) 3 r4 (by go_simp)
          have cwa_3_0 := ci hwa (w7.heap.size) 0 p1 (by go_simp)
          have cwa_3_1 := ci hwa (w7.heap.size) 1 p2 (by go_simp)
          have cwa_3_2 := ci hwa (w7.heap.size) 2 p3 (by go_simp)
          have cwa_3_3 := ci hwa (w7.heap.size) 3 p4 (by go_simp)
          have gwa : Gr W wa := Gr.trans (by have gg := gw9; have gs := gg.size; go_grown) hwa
          clear hwa gw9 cw9_0_0 cw9_0_1 cw9_1_0 cw9_1_1 cw9_2_0 cw9_2_1 cw9_2_2 cw9_2_3 cw9_3_0 cw9_3_1 cw9_3_2 cw9_3_3
          go_wp2_with fail
          go_at_call 27
          refine ((H7.out _)).mono ?_
          rintro e wb ⟨rfl, hwb⟩
          have cwb_0_0 := ci hwb (W.heap.size) 0 k (by go_simp)
          have cwb_0_1 := cg hwb (W.heap.size) 1 (.slice ad n cap) (by go_simp)
          have cwb_1_0 := ci hwb (W.heap.size + 1) 0 px (by go_simp)
          have cwb_1_1 := ci hwb (W.heap.size + 1) 1 py (by go_simp)
          have cwb_2_0 := ci hwb (W.heap.size + 1 + 1) 0 r1 (by go_simp)
          have cwb_2_1 := ci hwb (W.heap.size + 1 + 1) 1 r2 (by go_simp)
          have cwb_2_2 := ci hwb (W.heap.size + 1 + 1) 2 r3 (by go_simp)
          have cwb_2_3 := ci hwb (W.heap.size + 1 + 1) 3 r4 (by go_simp)
          have cwb_3_0 := ci hwb (w7.heap.size) 0 p1 (by go_simp)
          have cwb_3_1 := ci hwb (w7.heap.size) 1 p2 (by go_simp)
          have cwb_3_2 := ci hwb (w7.heap.size) 2 p3 (by go_simp)
          have cwb_3_3 := ci hwb (w7.heap.size) 3 p4 (by go_simp)
          have gwb : Gr W wb := Gr.trans (by have gg := gwa; have gs := gg.size; go_grown) hwb
          clear hwb gwa cwa_0_0 cwa_0_1 cwa_1_0 cwa_1_1 cwa_2_0 cwa_2_1 cwa_2_2 cwa_2_3 cwa_3_0 cwa_3_1 cwa_3_2 cwa_3_3
          clear EQ HQ
          go_wp2_with fail
          try simp only [List.append]
          refine Od.wp_region_ord [(0, false), (1, false), (2, false), (3, false), (4, false), (5, true), (6, false), (7, false), (8, false), (9, false), (10, false), (11, false), (12, false), (13, false), (14, true), (15, false), (16, false), (17, false), (18, false), (19, true), (20, false), (21, false), (22, false), (23, false), (25, false), (26, false), (24, true), (27, true), (28, true), (29, false), (30, false), (31, false), (32, true), (33, false), (34, false)] (by kernel_rfl) (by kernel_rfl) ?_
          intro wc hwc KQ hKQ
          have cwc_0_0 := ci hwc (W.heap.size) 0 k (by go_simp)
          have cwc_0_1 := cg hwc (W.heap.size) 1 (.slice ad n cap) (by go_simp)
          have cwc_1_0 := ci hwc (W.heap.size + 1) 0 px (by go_simp)
          have cwc_1_1 := ci hwc (W.heap.size + 1) 1 py (by go_simp)
          have cwc_2_0 := ci hwc (W.heap.size + 1 + 1) 0 r1 (by go_simp)
          have cwc_2_1 := ci hwc (W.heap.size + 1 + 1) 1 r2 (by go_simp)
          have cwc_2_2 := ci hwc (W.heap.size + 1 + 1) 2 r3 (by go_simp)
          have cwc_2_3 := ci hwc (W.heap.size + 1 + 1) 3 r4 (by go_simp)
          have cwc_3_0 := ci hwc (w7.heap.size) 0 p1 (by go_simp)
          have cwc_3_1 := ci hwc (w7.heap.size) 1 p2 (by go_simp)
          have cwc_3_2 := ci hwc (w7.heap.size) 2 p3 (by go_simp)
          have cwc_3_3 := ci hwc (w7.heap.size) 3 p4 (by go_simp)
          have gwc : Gr W wc := Gr.trans (by have gg := gwb; have gs := gg.size; go_grown) hwc
          clear gwb cwb_0_0 cwb_0_1 cwb_1_0 cwb_1_1 cwb_2_0 cwb_2_1 cwb_2_2 cwb_2_3 cwb_3_0 cwb_3_1 cwb_3_2 cwb_3_3
          clear hwc
          repeat (first | (refine Od.wpO_skip (by simp only [List.getElem?_toArray, List.getElem?_cons_succ, List.getElem?_cons_zero] <;> rfl) rfl ?_; simp only [Act.put, List.setIfInBounds_toArray, List.set_cons_zero, List.set_cons_succ]) | (refine Od.wpO_pure (by simp only [List.getElem?_toArray, List.getElem?_cons_succ, List.getElem?_cons_zero] <;> rfl) rfl ?_; apply Exists.intro; refine ⟨?_, ?_⟩; (· intro wx gx; obtain ⟨mx, rfl⟩ := spread_of_gr gx; clear gx; all_goals (apply Od.pAt_of_quiet; intro K hK; go_big_quiet_op; first | exact hK _ rfl | (apply Exists.intro; refine ⟨fun _ => ?_, ?_⟩; (· fail); exact hK _ rfl))); try simp only [Act.put, List.setIfInBounds_toArray, List.set_cons_zero, List.set_cons_succ]))
          refine Od.wpO_call (by simp only [List.getElem?_toArray, List.getElem?_cons_succ, List.getElem?_cons_zero] <;> rfl) rfl ?_
          intro QS hQS
          go_wp2_with fail
          go_at_call 28
          (with_reducible refine ((H8.out _)).mono ?_)
          rintro e wd ⟨rfl, hwd⟩
          go_wp2_with fail
          apply Exists.intro
          refine ⟨?_, hwd, ?_⟩
          · simp only [Act.put, List.setIfInBounds_toArray, List.set_cons_zero, List.set_cons_succ]; rfl
          have cwd_0_0 := ci hwd (W.heap.size) 0 k (by go_simp)
          have cwd_0_1 := cg hwd (W.heap.size) 1 (.slice ad n cap) (by go_simp)
          have cwd_1_0 := ci hwd (W.heap.size + 1) 0 px (by go_simp)
          have cwd_1_1 := ci hwd (W.heap.size + 1) 1 py (by go_simp)
          have cwd_3_0 := ci hwd (w7.heap.size) 0 p1 (by go_simp)
          have cwd_3_1 := ci hwd (w7.heap.size) 1 p2 (by go_simp)
          have cwd_3_2 := ci hwd (w7.heap.size) 2 p3 (by go_simp)
          have cwd_3_3 := ci hwd (w7.heap.size) 3 p4 (by go_simp)
          have gwd : Gr W wd := Gr.trans (by have gg := gwc; have gs := gg.size; go_grown) hwd
          clear gwc cwc_0_0 cwc_0_1 cwc_1_0 cwc_1_1 cwc_2_0 cwc_2_1 cwc_2_2 cwc_2_3 cwc_3_0 cwc_3_1 cwc_3_2 cwc_3_3
          clear hwd
          try simp only [Act.put, List.setIfInBounds_toArray, List.set_cons_zero, List.set_cons_succ]
          repeat (first | (refine Od.wpO_skip (by simp only [List.getElem?_toArray, List.getElem?_cons_succ, List.getElem?_cons_zero] <;> rfl) rfl ?_; simp only [Act.put, List.setIfInBounds_toArray, List.set_cons_zero, List.set_cons_succ]) | (refine Od.wpO_pure (by simp only [List.getElem?_toArray, List.getElem?_cons_succ, List.getElem?_cons_zero] <;> rfl) rfl ?_; apply Exists.intro; refine ⟨?_, ?_⟩; (· intro wx gx; obtain ⟨mx, rfl⟩ := spread_of_gr gx; clear gx; all_goals (apply Od.pAt_of_quiet; intro K hK; go_big_quiet_op; first | exact hK _ rfl | (apply Exists.intro; refine ⟨fun _ => ?_, ?_⟩; (· fail); exact hK _ rfl))); try simp only [Act.put, List.setIfInBounds_toArray, List.set_cons_zero, List.set_cons_succ]))
          refine Od.wpO_call (by simp only [List.getElem?_toArray, List.getElem?_cons_succ, List.getElem?_cons_zero] <;> rfl) rfl ?_
          intro QS hQS
          go_wp2_with fail
          go_at_call 17
          (with_reducible refine ((H9.out _ gwd)).mono ?_)
          rintro e we ⟨rfl, hwe⟩
          go_wp2_with fail
          apply Exists.intro
          refine ⟨?_, hwe, ?_⟩
          · simp only [Act.put, List.setIfInBounds_toArray, List.set_cons_zero, List.set_cons_succ]; rfl
          have cwe_0_0 := ci hwe (W.heap.size) 0 k (by go_simp)
          have cwe_0_1 := cg hwe (W.heap.size) 1 (.slice ad n cap) (by go_simp)
          have cwe_1_0 := ci hwe (W.heap.size + 1) 0 px (by go_simp)
          have cwe_1_1 := ci hwe (W.heap.size + 1) 1 py (by go_simp)
          have cwe_3_0 := ci hwe (w7.heap.size) 0 p1 (by go_simp)
          have cwe_3_1 := ci hwe (w7.heap.size) 1 p2 (by go_simp)
          have cwe_3_2 := ci hwe (w7.heap.size) 2 p3 (by go_simp)
          have cwe_3_3 := ci hwe (w7.heap.size) 3 p4 (by go_simp)
          have gwe : Gr W we := Gr.trans (by have gg := gwd; have gs := gg.size; go_grown) hwe
          clear gwd cwd_0_0 cwd_0_1 cwd_1_0 cwd_1_1 cwd_3_0 cwd_3_1 cwd_3_2 cwd_3_3
          clear hwe
          try simp only [Act.put, List.setIfInBounds_toArray, List.set_cons_zero, List.set_cons_succ]
          repeat (first | (refine Od.wpO_skip (by simp only [List.getElem?_toArray, List.getElem?_cons_succ, List.getElem?_cons_zero] <;> rfl) rfl ?_; simp only [Act.put, List.setIfInBounds_toArray, List.set_cons_zero, List.set_cons_succ]) | (refine Od.wpO_pure (by simp only [List.getElem?_toArray, List.getElem?_cons_succ, List.getElem?_cons_zero] <;> rfl) rfl ?_; apply Exists.intro; refine ⟨?_, ?_⟩; (· intro wx gx; obtain ⟨mx, rfl⟩ := spread_of_gr gx; clear gx; all_goals (apply Od.pAt_of_quiet; intro K hK; go_big_quiet_op; first | exact hK _ rfl | (apply Exists.intro; refine ⟨fun _ => ?_, ?_⟩; (· fail); exact hK _ rfl))); try simp only [Act.put, List.setIfInBounds_toArray, List.set_cons_zero, List.set_cons_succ]))
          refine Od.wpO_call (by simp only [List.getElem?_toArray, List.getElem?_cons_succ, List.getElem?_cons_zero] <;> rfl) rfl ?_
          intro QS hQS
          go_wp2_with fail
          go_at_call 19
          (with_reducible refine ((HB1.out _ gwe)).mono ?_)
          rintro e wf ⟨rfl, hwf⟩
          go_wp2_with fail
          apply Exists.intro
          refine ⟨?_, hwf, ?_⟩
          · simp only [Act.put, List.setIfInBounds_toArray, List.set_cons_zero, List.set_cons_succ]; rfl
          have cwf_0_0 := ci hwf (W.heap.size) 0 k (by go_simp)
          have cwf_0_1 := cg hwf (W.heap.size) 1 (.slice ad n cap) (by go_simp)
          have cwf_1_0 := ci hwf (W.heap.size + 1) 0 px (by go_simp)
          have cwf_1_1 := ci hwf (W.heap.size + 1) 1 py (by go_simp)
          have cwf_3_0 := ci hwf (w7.heap.size) 0 p1 (by go_simp)
          have cwf_3_1 := ci hwf (w7.heap.size) 1 p2 (by go_simp)
          have cwf_3_2 := ci hwf (w7.heap.size) 2 p3 (by go_simp)
          have cwf_3_3 := ci hwf (w7.heap.size) 3 p4 (by go_simp)
          have gwf : Gr W wf := Gr.trans (by have gg := gwe; have gs := gg.size; go_grown) hwf
          clear gwe cwe_0_0 cwe_0_1 cwe_1_0 cwe_1_1 cwe_3_0 cwe_3_1 cwe_3_2 cwe_3_3
          clear hwf
          try simp only [Act.put, List.setIfInBounds_toArray, List.set_cons_zero, List.set_cons_succ]
          repeat (first | (refine Od.wpO_skip (by simp only [List.getElem?_toArray, List.getElem?_cons_succ, List.getElem?_cons_zero] <;> rfl) rfl ?_; simp only [Act.put, List.setIfInBounds_toArray, List.set_cons_zero, List.set_cons_succ]) | (refine Od.wpO_pure (by simp only [List.getElem?_toArray, List.getElem?_cons_succ, List.getElem?_cons_zero] <;> rfl) rfl ?_; apply Exists.intro; refine ⟨?_, ?_⟩; (· intro wx gx; obtain ⟨mx, rfl⟩ := spread_of_gr gx; clear gx; all_goals (apply Od.pAt_of_quiet; intro K hK; go_big_quiet_op; first | exact hK _ rfl | (apply Exists.intro; refine ⟨fun _ => ?_, ?_⟩; (· fail); exact hK _ rfl))); try simp only [Act.put, List.setIfInBounds_toArray, List.set_cons_zero, List.set_cons_succ]))
          refine Od.wpO_call (by simp only [List.getElem?_toArray, List.getElem?_cons_succ, List.getElem?_cons_zero] <;> rfl) rfl ?_
          intro QS hQS
          go_wp2_with fail
          go_at_call 30
          (with_reducible refine ((HB2.out _)).mono ?_)
          rintro e wg ⟨rfl, hwg⟩
          go_wp2_with fail
          apply Exists.intro
          refine ⟨?_, hwg, ?_⟩
          · simp only [Act.put, List.setIfInBounds_toArray, List.set_cons_zero, List.set_cons_succ]; rfl
          have gwg : Gr W wg := Gr.trans (by have gg := gwf; have gs := gg.size; go_grown) hwg
          clear gwf cwf_0_0 cwf_0_1 cwf_1_0 cwf_1_1 cwf_3_0 cwf_3_1 cwf_3_2 cwf_3_3
          clear hwg
          try simp only [Act.put, List.setIfInBounds_toArray, List.set_cons_zero, List.set_cons_succ]
          repeat (first | (refine Od.wpO_skip (by simp only [List.getElem?_toArray, List.getElem?_cons_succ, List.getElem?_cons_zero] <;> rfl) rfl ?_; simp only [Act.put, List.setIfInBounds_toArray, List.set_cons_zero, List.set_cons_succ]) | (refine Od.wpO_pure (by simp only [List.getElem?_toArray, List.getElem?_cons_succ, List.getElem?_cons_zero] <;> rfl) rfl ?_; apply Exists.intro; refine ⟨?_, ?_⟩; (· intro wx gx; obtain ⟨mx, rfl⟩ := spread_of_gr gx; clear gx; all_goals (apply Od.pAt_of_quiet; intro K hK; go_big_quiet_op; first | exact hK _ rfl | (apply Exists.intro; refine ⟨fun _ => ?_, ?_⟩; (· fail); exact hK _ rfl))); try simp only [Act.put, List.setIfInBounds_toArray, List.set_cons_zero, List.set_cons_succ]))
          refine Od.wpO_call (by simp only [List.getElem?_toArray, List.getElem?_cons_succ, List.getElem?_cons_zero] <;> rfl) rfl ?_
          intro QS hQS
          go_wp2_with fail
          go_at_call 15
          (with_reducible refine ((H5.out _ gwg)).mono ?_)
          rintro e wh ⟨rfl, hwh⟩
          go_wp2_with fail
          apply Exists.intro
          refine ⟨?_, hwh, ?_⟩
          · simp only [Act.put, List.setIfInBounds_toArray, List.set_cons_zero, List.set_cons_succ]; rfl
          have gwh : Gr W wh := Gr.trans (by have gg := gwg; have gs := gg.size; go_grown) hwh
          clear gwg
          clear hwh
          try simp only [Act.put, List.setIfInBounds_toArray, List.set_cons_zero, List.set_cons_succ]
          repeat (first | (refine Od.wpO_skip (by simp only [List.getElem?_toArray, List.getElem?_cons_succ, List.getElem?_cons_zero] <;> rfl) rfl ?_; simp only [Act.put, List.setIfInBounds_toArray, List.set_cons_zero, List.set_cons_succ]) | (refine Od.wpO_pure (by simp only [List.getElem?_toArray, List.getElem?_cons_succ, List.getElem?_cons_zero] <;> rfl) rfl ?_; apply Exists.intro; refine ⟨?_, ?_⟩; (· intro wx gx; obtain ⟨mx, rfl⟩ := spread_of_gr gx; clear gx; all_goals (apply Od.pAt_of_quiet; intro K hK; go_big_quiet_op; first | exact hK _ rfl | (apply Exists.intro; refine ⟨fun _ => ?_, ?_⟩; (· fail); exact hK _ rfl))); try simp only [Act.put, List.setIfInBounds_toArray, List.set_cons_zero, List.set_cons_succ]))
          refine Od.wpO_call (by simp only [List.getElem?_toArray, List.getElem?_cons_succ, List.getElem?_cons_zero] <;> rfl) rfl ?_
          intro QS hQS
          go_wp2_with fail
          go_at_call 29
          (with_reducible refine ((HB3.out _)).mono ?_)
          rintro e wi ⟨rfl, hwi⟩
          go_wp2_with fail
          apply Exists.intro
          refine ⟨?_, hwi, ?_⟩
          · simp only [Act.put, List.setIfInBounds_toArray, List.set_cons_zero, List.set_cons_succ]; rfl
          have gwi : Gr W wi := Gr.trans (by have gg := gwh; have gs := gg.size; go_grown) hwi
          clear gwh
          clear hwi
          try simp only [Act.put, List.setIfInBounds_toArray, List.set_cons_zero, List.set_cons_succ]
          repeat (first | (refine Od.wpO_skip (by simp only [List.getElem?_toArray, List.getElem?_cons_succ, List.getElem?_cons_zero] <;> rfl) rfl ?_; simp only [Act.put, List.setIfInBounds_toArray, List.set_cons_zero, List.set_cons_succ]) | (refine Od.wpO_pure (by simp only [List.getElem?_toArray, List.getElem?_cons_succ, List.getElem?_cons_zero] <;> rfl) rfl ?_; apply Exists.intro; refine ⟨?_, ?_⟩; (· intro wx gx; obtain ⟨mx, rfl⟩ := spread_of_gr gx; clear gx; all_goals (apply Od.pAt_of_quiet; intro K hK; go_big_quiet_op; first | exact hK _ rfl | (apply Exists.intro; refine ⟨fun _ => ?_, ?_⟩; (· fail); exact hK _ rfl))); try simp only [Act.put, List.setIfInBounds_toArray, List.set_cons_zero, List.set_cons_succ]))
          refine Od.wpO_call (by simp only [List.getElem?_toArray, List.getElem?_cons_succ, List.getElem?_cons_zero] <;> rfl) rfl ?_
          intro QS hQS
          go_wp2_with fail
          go_at_call 9
          (with_reducible refine ((HB4.out _ gwi)).mono ?_)
          rintro e wj ⟨rfl, hwj⟩
          go_wp2_with fail
          apply Exists.intro
          refine ⟨?_, hwj, ?_⟩
          · simp only [Act.put, List.setIfInBounds_toArray, List.set_cons_zero, List.set_cons_succ]; rfl
          have gwj : Gr W wj := Gr.trans (by have gg := gwi; have gs := gg.size; go_grown) hwj
          clear gwi
          clear hwj
          try simp only [Act.put, List.setIfInBounds_toArray, List.set_cons_zero, List.set_cons_succ]
          repeat (first | (refine Od.wpO_skip (by simp only [List.getElem?_toArray, List.getElem?_cons_succ, List.getElem?_cons_zero] <;> rfl) rfl ?_; simp only [Act.put, List.setIfInBounds_toArray, List.set_cons_zero, List.set_cons_succ]) | (refine Od.wpO_pure (by simp only [List.getElem?_toArray, List.getElem?_cons_succ, List.getElem?_cons_zero] <;> rfl) rfl ?_; apply Exists.intro; refine ⟨?_, ?_⟩; (· intro wx gx; obtain ⟨mx, rfl⟩ := spread_of_gr gx; clear gx; all_goals (apply Od.pAt_of_quiet; intro K hK; go_big_quiet_op; first | exact hK _ rfl | (apply Exists.intro; refine ⟨fun _ => ?_, ?_⟩; (· fail); exact hK _ rfl))); try simp only [Act.put, List.setIfInBounds_toArray, List.set_cons_zero, List.set_cons_succ]))
          refine Od.wpO_nil (hKQ _ _ ?_)
          clear hKQ KQ
          go_wp2_with fail
          go_ret
          exact ⟨rfl, gwj⟩
  · obtain rfl : zm = true := HF.out.1 rfl
    obtain rfl : bm = true := HF.out.2.1 rfl
    cases zh
    · clear HF
      go_wp2_with fail
      go_at_call 15
      refine ((H5.out _ gw8)).mono ?_
      rintro e w9 ⟨rfl, hw9⟩
      have cw9_0_0 := ci hw9 (W.heap.size) 0 k (by go_simp)
      have cw9_0_1 := cg hw9 (W.heap.size) 1 (.slice ad n cap) (by go_simp)
      have cw9_1_0 := ci hw9 (W.heap.size + 1) 0 px (by go_simp)
      have cw9_1_1 := ci hw9 (W.heap.size + 1) 1 py (by go_simp)
      have cw9_2_0 := ci hw9 (W.heap.size + 1 + 1) 0 r1 (by go_simp)
      have cw9_2_1 := ci hw9 (W.heap.size + 1 + 1) 1 r2 (by go_simp)
      have cw9_2_2 := ci hw9 (W.heap.size + 1 + 1) 2 r3 (by go_simp)
      have cw9_2_3 := ci hw9 (W.heap.size + 1 + 1) 3 r4 (by go_simp)
      have cw9_3_0 := ci hw9 (w7.heap.size) 0 p1 (by go_simp)
      have cw9_3_1 := ci hw9 (w7.heap.size) 1 p2 (by go_simp)
      have cw9_3_2 := ci hw9 (w7.heap.size) 2 p3 (by go_simp)
      have cw9_3_3 := ci hw9 (w7.heap.size) 3 p4 (by go_simp)
      have gw9 : Gr W w9 := Gr.trans (by have gg := gw8; have gs := gg.size; go_grown) hw9
      clear hw9 gw8 zw8_0 cw8_0_0 cw8_0_1 zw8_1 cw8_1_0 cw8_1_1 zw8_2 cw8_2_0 cw8_2_1 cw8_2_2 cw8_2_3 zw8_3 cw8_3_0 cw8_3_1 cw8_3_2 cw8_3_3
      go_wp2_with fail
      go_at_call 26
      refine ((H6.out _)).mono ?_
      rintro e wa ⟨rfl, hwa⟩
      have cwa_0_0 := ci hwa (W.heap.size) 0 k (by go_simp)
      have cwa_0_1 := cg hwa (W.heap.size) 1 (.slice ad n cap) (by go_simp)
      have cwa_1_0 := ci hwa (W.heap.size + 1) 0 px (by go_simp)
      have cwa_1_1 := ci hwa (W.heap.size + 1) 1 py (by go_simp)
      have cwa_2_0 := ci hwa (W.heap.size + 1 + 1) 0 r1 (by go_simp)
      have cwa_2_1 := ci hwa (W.heap.size + 1 + 1) 1 r2 (by go_simp)
      have cwa_2_2 := ci hwa (W.heap.size + 1 + 1) 2 r3 (by go_simp)
      have cwa_2_3 := ci hwa (W.heap.size + 1 + 1) 3 r4 (by go_simp)
      have cwa_3_0 := ci hwa (w7.heap.size) 0 p1 (by go_simp)
      have cwa_3_1 := ci hwa (w7.heap.size) 1 p2 (by go_simp)
      have cwa_3_2 := ci hwa (w7.heap.size) 2 p3 (by go_simp)
      have cwa_3_3 := ci hwa (w7.heap.size) 3 p4 (by go_simp)
      have gwa : Gr W wa := Gr.trans (by have gg := gw9; have gs := gg.size; go_grown) hwa
      clear hwa gw9 cw9_0_0 cw9_0_1 cw9_1_0 cw9_1_1 cw9_2_0 cw9_2_1 cw9_2_2 cw9_2_3 cw9_3_0 cw9_3_1 cw9_3_2 cw9_3_3
      go_wp2_with fail
      go_at_call 27
      refine ((H7.out _)).mono ?_
      rintro e wb ⟨rfl, hwb⟩
      have cwb_0_0 := ci hwb (W.heap.size) 0 k (by go_simp)
      have cwb_0_1 := cg hwb (W.heap.size) 1 (.slice ad n cap) (by go_simp)
      have cwb_1_0 := ci hwb (W.heap.size + 1) 0 px (by go_simp)
      have cwb_1_1 := ci hwb (W.heap.size + 1) 1 py (by go_simp)
      have cwb_2_0 := ci hwb (W.heap.size + 1 + 1) 0 r1 (by go_simp)
      have cwb_2_1 := ci hwb (W.heap.size + 1 + 1) 1 r2 (by go_simp)
      have cwb_2_2 := ci hwb (W.heap.size + 1 + 1) 2 r3 (by go_simp)
      have cwb_2_3 := ci hwb (W.heap.size + 1 + 1) 3 r4 (by go_simp)
      have cwb_3_0 := ci hwb (w7.heap.size) 0 p1 (by go_simp)
      have cwb_3_1 := ci hwb (w7.heap.size) 1 p2 (by go_simp)
      have cwb_3_2 := ci hwb (w7.heap.size) 2 p3 (by go_simp)
      have cwb_3_3 := ci hwb (w7.heap.size) 3 p4 (by go_simp)
      have gwb : Gr W wb := Gr.trans (by have gg := gwa; have gs := gg.size; go_grown) hwb
      clear hwb gwa cwa_0_0 cwa_0_1 cwa_1_0 cwa_1_1 cwa_2_0 cwa_2_1 cwa_2_2 cwa_2_3 cwa_3_0 cwa_3_1 cwa_3_2 cwa_3_3
      clear EQ HQ
      go_wp2_with fail
      try simp only [List.append]
      refine Od.wp_region_ord [(0, false), (1, false), (2, false), (3, false), (4, false), (5, true), (6, false), (7, false), (8, false), (9, false), (10, false), (11, false), (12, false), (13, false), (14, true), (15, false), (16, false), (17, false), (18, false), (19, true), (20, false), (21, false), (22, false), (23, false), (25, false), (26, false), (24, true), (27, true), (28, true), (29, false), (30, false), (31, false), (32, true), (33, false), (34, false)] (by kernel_rfl) (by kernel_rfl) ?_
      intro wc hwc KQ hKQ
      have cwc_0_0 := ci hwc (W.heap.size) 0 k (by go_simp)
      have cwc_0_1 := cg hwc (W.heap.size) 1 (.slice ad n cap) (by go_simp)
      have cwc_1_0 := ci hwc (W.heap.size + 1) 0 px (by go_simp)
      have cwc_1_1 := ci hwc (W.heap.size + 1) 1 py (by go_simp)
      have cwc_2_0 := ci hwc (W.heap.size + 1 + 1) 0 r1 (by go_simp)
      have cwc_2_1 := ci hwc (W.heap.size + 1 + 1) 1 r2 (by go_simp)
      have cwc_2_2 := ci hwc (W.heap.size + 1 + 1) 2 r3 (by go_simp)
      have cwc_2_3 := ci hwc (W.heap.size + 1 + 1) 3 r4 (by go_simp)
      have cwc_3_0 := ci hwc (w7.heap.size) 0 p1 (by go_simp)
      have cwc_3_1 := ci hwc (w7.heap.size) 1 p2 (by go_simp)
      have cwc_3_2 := ci hwc (w7.heap.size) 2 p3 (by go_simp)
      have cwc_3_3 := ci hwc (w7.heap.size) 3 p4 (by go_simp)
      have gwc : Gr W wc := Gr.trans (by have gg := gwb; have gs := gg.size; go_grown) hwc
      clear gwb cwb_0_0 cwb_0_1 cwb_1_0 cwb_1_1 cwb_2_0 cwb_2_1 cwb_2_2 cwb_2_3 cwb_3_0 cwb_3_1 cwb_3_2 cwb_3_3
      clear hwc
      repeat (first | (refine Od.wpO_skip (by simp only [List.getElem?_toArray, List.getElem?_cons_succ, List.getElem?_cons_zero] <;> rfl) rfl ?_; simp only [Act.put, List.setIfInBounds_toArray, List.set_cons_zero, List.set_cons_succ]) | (refine Od.wpO_pure (by simp only [List.getElem?_toArray, List.getElem?_cons_succ, List.getElem?_cons_zero] <;> rfl) rfl ?_; apply Exists.intro; refine ⟨?_, ?_⟩; (· intro wx gx; obtain ⟨mx, rfl⟩ := spread_of_gr gx; clear gx; all_goals (apply Od.pAt_of_quiet; intro K hK; go_big_quiet_op; first | exact hK _ rfl | (apply Exists.intro; refine ⟨fun _ => ?_, ?_⟩; (· fail); exact hK _ rfl))); try simp only [Act.put, List.setIfInBounds_toArray, List.set_cons_zero, List.set_cons_succ]))
      refine Od.wpO_call (by simp only [List.getElem?_toArray, List.getElem?_cons_succ, List.getElem?_cons_zero] <;> rfl) rfl ?_
      intro QS hQS
      go_wp2_with fail
      go_at_call 17
      (with_reducible refine ((H9.out _ gwc)).mono ?_)
      rintro e we ⟨rfl, hwe⟩
      go_wp2_with fail
      apply Exists.intro
      refine ⟨?_, hwe, ?_⟩
      · simp only [Act.put, List.setIfInBounds_toArray, List.set_cons_zero, List.set_cons_succ]; rfl
      have cwe_0_0 := ci hwe (W.heap.size) 0 k (by go_simp)
      have cwe_0_1 := cg hwe (W.heap.size) 1 (.slice ad n cap) (by go_simp)
      have cwe_1_0 := ci hwe (W.heap.size + 1) 0 px (by go_simp)
      have cwe_1_1 := ci hwe (W.heap.size + 1) 1 py (by go_simp)
      have cwe_3_0 := ci hwe (w7.heap.size) 0 p1 (by go_simp)
      have cwe_3_1 := ci hwe (w7.heap.size) 1 p2 (by go_simp)
      have cwe_3_2 := ci hwe (w7.heap.size) 2 p3 (by go_simp)
      have cwe_3_3 := ci hwe (w7.heap.size) 3 p4 (by go_simp)
      have gwe : Gr W we := Gr.trans (by have gg := gwc; have gs := gg.size; go_grown) hwe
      clear gwc cwc_0_0 cwc_0_1 cwc_1_0 cwc_1_1 cwc_2_0 cwc_2_1 cwc_2_2 cwc_2_3 cwc_3_0 cwc_3_1 cwc_3_2 cwc_3_3
      clear hwe
      try simp only [Act.put, List.setIfInBounds_toArray, List.set_cons_zero, List.set_cons_succ]
      repeat (first | (refine Od.wpO_skip (by simp only [List.getElem?_toArray, List.getElem?_cons_succ, List.getElem?_cons_zero] <;> rfl) rfl ?_; simp only [Act.put, List.setIfInBounds_toArray, List.set_cons_zero, List.set_cons_succ]) | (refine Od.wpO_pure (by simp only [List.getElem?_toArray, List.getElem?_cons_succ, List.getElem?_cons_zero] <;> rfl) rfl ?_; apply Exists.intro; refine ⟨?_, ?_⟩; (· intro wx gx; obtain ⟨mx, rfl⟩ := spread_of_gr gx; clear gx; all_goals (apply Od.pAt_of_quiet; intro K hK; go_big_quiet_op; first | exact hK _ rfl | (apply Exists.intro; refine ⟨fun _ => ?_, ?_⟩; (· fail); exact hK _ rfl))); try simp only [Act.put, List.setIfInBounds_toArray, List.set_cons_zero, List.set_cons_succ]))
      refine Od.wpO_call (by simp only [List.getElem?_toArray, List.getElem?_cons_succ, List.getElem?_cons_zero] <;> rfl) rfl ?_
      intro QS hQS
      go_wp2_with fail
      go_at_call 19
      (with_reducible refine ((HB1.out _ gwe)).mono ?_)
      rintro e wf ⟨rfl, hwf⟩
      go_wp2_with fail
      apply Exists.intro
      refine ⟨?_, hwf, ?_⟩
      · simp only [Act.put, List.setIfInBounds_toArray, List.set_cons_zero, List.set_cons_succ]; rfl
      have cwf_0_0 := ci hwf (W.heap.size) 0 k (by go_simp)
      have cwf_0_1 := cg hwf (W.heap.size) 1 (.slice ad n cap) (by go_simp)
      have cwf_1_0 := ci hwf (W.heap.size + 1) 0 px (by go_simp)
      have cwf_1_1 := ci hwf (W.heap.size + 1) 1 py (by go_simp)
      have cwf_3_0 := ci hwf (w7.heap.size) 0 p1 (by go_simp)
      have cwf_3_1 := ci hwf (w7.heap.size) 1 p2 (by go_simp)
      have cwf_3_2 := ci hwf (w7.heap.size) 2 p3 (by go_simp)
      have cwf_3_3 := ci hwf (w7.heap.size) 3 p4 (by go_simp)
      have gwf : Gr W wf := Gr.trans (by have gg := gwe; have gs := gg.size; go_grown) hwf
      clear gwe cwe_0_0 cwe_0_1 cwe_1_0 cwe_1_1 cwe_3_0 cwe_3_1 cwe_3_2 cwe_3_3
      clear hwf
      try simp only [Act.put, List.setIfInBounds_toArray, List.set_cons_zero, List.set_cons_succ]
      repeat (first | (refine Od.wpO_skip (by simp only [List.getElem?_toArray, List.getElem?_cons_succ, List.getElem?_cons_zero] <;> rfl) rfl ?_; simp only [Act.put, List.setIfInBounds_toArray, List.set_cons_zero, List.set_cons_succ]) | (refine Od.wpO_pure (by simp only [List.getElem?_toArray, List.getElem?_cons_succ, List.getElem?_cons_zero] <;> rfl) rfl ?_; apply Exists.intro; refine ⟨?_, ?_⟩; (· intro wx gx; obtain ⟨mx, rfl⟩ := spread_of_gr gx; clear gx; all_goals (apply Od.pAt_of_quiet; intro K hK; go_big_quiet_op; first | exact hK _ rfl | (apply Exists.intro; refine ⟨fun _ => ?_, ?_⟩; (· fail); exact hK _ rfl))); try simp only [Act.put, List.setIfInBounds_toArray, List.set_cons_zero, List.set_cons_succ]))
      refine Od.wpO_call (by simp only [List.getElem?_toArray, List.getElem?_cons_succ, List.getElem?_cons_zero] <;> rfl) rfl ?_
      intro QS hQS
      go_wp2_with fail
      go_at_call 30
      (with_reducible refine ((HB2.out _)).mono ?_)
      rintro e wg ⟨rfl, hwg⟩
      go_wp2_with fail
      apply Exists.intro
      refine ⟨?_, hwg, ?_⟩
      · simp only [Act.put, List.setIfInBounds_toArray, List.set_cons_zero, List.set_cons_succ]; rfl
      have gwg : Gr W wg := Gr.trans (by have gg := gwf; have gs := gg.size; go_grown) hwg
      clear gwf cwf_0_0 cwf_0_1 cwf_1_0 cwf_1_1 cwf_3_0 cwf_3_1 cwf_3_2 cwf_3_3
      clear hwg
      try simp only [Act.put, List.setIfInBounds_toArray, List.set_cons_zero, List.set_cons_succ]
      repeat (first | (refine Od.wpO_skip (by simp only [List.getElem?_toArray, List.getElem?_cons_succ, List.getElem?_cons_zero] <;> rfl) rfl ?_; simp only [Act.put, List.setIfInBounds_toArray, List.set_cons_zero, List.set_cons_succ]) | (refine Od.wpO_pure (by simp only [List.getElem?_toArray, List.getElem?_cons_succ, List.getElem?_cons_zero] <;> rfl) rfl ?_; apply Exists.intro; refine ⟨?_, ?_⟩; (· intro wx gx; obtain ⟨mx, rfl⟩ := spread_of_gr gx; clear gx; all_goals (apply Od.pAt_of_quiet; intro K hK; go_big_quiet_op; first | exact hK _ rfl | (apply Exists.intro; refine ⟨fun _ => ?_, ?_⟩; (· fail); exact hK _ rfl))); try simp only [Act.put, List.setIfInBounds_toArray, List.set_cons_zero, List.set_cons_succ]))
      refine Od.wpO_call (by simp only [List.getElem?_toArray, List.getElem?_cons_succ, List.getElem?_cons_zero] <;> rfl) rfl ?_
      intro QS hQS
      go_wp2_with fail
      go_at_call 15
      (with_reducible refine ((H5.out _ gwg)).mono ?_)
      rintro e wh ⟨rfl, hwh⟩
      go_wp2_with fail
      apply Exists.intro
      refine ⟨?_, hwh, ?_⟩
      · simp only [Act.put, List.setIfInBounds_toArray, List.set_cons_zero, List.set_cons_succ]; rfl
      have gwh : Gr W wh := Gr.trans (by have gg := gwg; have gs := gg.size; go_grown) hwh
      clear gwg
      clear hwh
      try simp only [Act.put, List.setIfInBounds_toArray, List.set_cons_zero, List.set_cons_succ]
      repeat (first | (refine Od.wpO_skip (by simp only [List.getElem?_toArray, List.getElem?_cons_succ, List.getElem?_cons_zero] <;> rfl) rfl ?_; simp only [Act.put, List.setIfInBounds_toArray, List.set_cons_zero, List.set_cons_succ]) | (refine Od.wpO_pure (by simp only [List.getElem?_toArray, List.getElem?_cons_succ, List.getElem?_cons_zero] <;> rfl) rfl ?_; apply Exists.intro; refine ⟨?_, ?_⟩; (· intro wx gx; obtain ⟨mx, rfl⟩ := spread_of_gr gx; clear gx; all_goals (apply Od.pAt_of_quiet; intro K hK; go_big_quiet_op; first | exact hK _ rfl | (apply Exists.intro; refine ⟨fun _ => ?_, ?_⟩; (· fail); exact hK _ rfl))); try simp only [Act.put, List.setIfInBounds_toArray, List.set_cons_zero, List.set_cons_succ]))
      refine Od.wpO_call (by simp only [List.getElem?_toArray, List.getElem?_cons_succ, List.getElem?_cons_zero] <;> rfl) rfl ?_
      intro QS hQS
      go_wp2_with fail
      go_at_call 29
      (with_reducible refine ((HB3.out _)).mono ?_)
      rintro e wi ⟨rfl, hwi⟩
      go_wp2_with fail
      apply Exists.intro
      refine ⟨?_, hwi, ?_⟩
      · simp only [Act.put, List.setIfInBounds_toArray, List.set_cons_zero, List.set_cons_succ]; rfl
      have gwi : Gr W wi := Gr.trans (by have gg := gwh; have gs := gg.size; go_grown) hwi
      clear gwh
      clear hwi
      try simp only [Act.put, List.setIfInBounds_toArray, List.set_cons_zero, List.set_cons_succ]
      repeat (first | (refine Od.wpO_skip (by simp only [List.getElem?_toArray, List.getElem?_cons_succ, List.getElem?_cons_zero] <;> rfl) rfl ?_; simp only [Act.put, List.setIfInBounds_toArray, List.set_cons_zero, List.set_cons_succ]) | (refine Od.wpO_pure (by simp only [List.getElem?_toArray, List.getElem?_cons_succ, List.getElem?_cons_zero] <;> rfl) rfl ?_; apply Exists.intro; refine ⟨?_, ?_⟩; (· intro wx gx; obtain ⟨mx, rfl⟩ := spread_of_gr gx; clear gx; all_goals (apply Od.pAt_of_quiet; intro K hK; go_big_quiet_op; first | exact hK _ rfl | (apply Exists.intro; refine ⟨fun _ => ?_, ?_⟩; (· fail); exact hK _ rfl))); try simp only [Act.put, List.setIfInBounds_toArray, List.set_cons_zero, List.set_cons_succ]))
      refine Od.wpO_call (by simp only [List.getElem?_toArray, List.getElem?_cons_succ, List.getElem?_cons_zero] <;> rfl) rfl ?_
      intro QS hQS
      go_wp2_with fail
      go_at_call 9
      (with_reducible refine ((HB4.out _ gwi)).mono ?_)
      rintro e wj ⟨rfl, hwj⟩
      go_wp2_with fail
      apply Exists.intro
      refine ⟨?_, hwj, ?_⟩
      · simp only [Act.put, List.setIfInBounds_toArray, List.set_cons_zero, List.set_cons_succ]; rfl
      have gwj : Gr W wj := Gr.trans (by have gg := gwi; have gs := gg.size; go_grown) hwj
      clear gwi
      clear hwj
      try simp only [Act.put, List.setIfInBounds_toArray, List.set_cons_zero, List.set_cons_succ]
      repeat (first | (refine Od.wpO_skip (by simp only [List.getElem?_toArray, List.getElem?_cons_succ, List.getElem?_cons_zero] <;> rfl) rfl ?_; simp only [Act.put, List.setIfInBounds_toArray, List.set_cons_zero, List.set_cons_succ]) | (refine Od.wpO_pure (by simp only [List.getElem?_toArray, List.getElem?_cons_succ, List.getElem?_cons_zero] <;> rfl) rfl ?_; apply Exists.intro; refine ⟨?_, ?_⟩; (· intro wx gx; obtain ⟨mx, rfl⟩ := spread_of_gr gx; clear gx; all_goals (apply Od.pAt_of_quiet; intro K hK; go_big_quiet_op; first | exact hK _ rfl | (apply Exists.intro; refine ⟨fun _ => ?_, ?_⟩; (· fail); exact hK _ rfl))); try simp only [Act.put, List.setIfInBounds_toArray, List.set_cons_zero, List.set_cons_succ]))
      refine Od.wpO_nil (hKQ _ _ ?_)
      clear hKQ KQ
      go_wp2_with fail
      go_ret
      exact ⟨rfl, gwj⟩
    · cases bh
      · clear HF
        go_wp2_with fail
        go_at_call 15
        refine ((H5.out _ gw8)).mono ?_
        rintro e w9 ⟨rfl, hw9⟩
        have cw9_0_0 := ci hw9 (W.heap.size) 0 k (by go_simp)
        have cw9_0_1 := cg hw9 (W.heap.size) 1 (.slice ad n cap) (by go_simp)
        have cw9_1_0 := ci hw9 (W.heap.size + 1) 0 px (by go_simp)
        have cw9_1_1 := ci hw9 (W.heap.size + 1) 1 py (by go_simp)
        have cw9_2_0 := ci hw9 (W.heap.size + 1 + 1) 0 r1 (by go_simp)
        have cw9_2_1 := ci hw9 (W.heap.size + 1 + 1) 1 r2 (by go_simp)
        have cw9_2_2 := ci hw9 (W.heap.size + 1 + 1) 2 r3 (by go_simp)
        have cw9_2_3 := ci hw9 (W.heap.size + 1 + 1) 3 r4 (by go_simp)
        have cw9_3_0 := ci hw9 (w7.heap.size) 0 p1 (by go_simp)
        have cw9_3_1 := ci hw9 (w7.heap.size) 1 p2 (by go_simp)
        have cw9_3_2 := ci hw9 (w7.heap.size) 2 p3 (by go_simp)
        have cw9_3_3 := ci hw9 (w7.heap.size) 3 p4 (by go_simp)
        have gw9 : Gr W w9 := Gr.trans (by have gg := gw8; have gs := gg.size; go_grown) hw9
        clear hw9 gw8 zw8_0 cw8_0_0 cw8_0_1 zw8_1 cw8_1_0 cw8_1_1 zw8_2 cw8_2_0 cw8_2_1 cw8_2_2 cw8_2_3 zw8_3 cw8_3_0 cw8_3_1 cw8_3_2 cw8_3_3
        go_wp2_with fail
        go_at_call 26
        refine ((H6.out _)).mono ?_
        rintro e wa ⟨rfl, hwa⟩
        have cwa_0_0 := ci hwa (W.heap.size) 0 k (by go_simp)
        have cwa_0_1 := cg hwa (W.heap.size) 1 (.slice ad n cap) (by go_simp)
        have cwa_1_0 := ci hwa (W.heap.size + 1) 0 px (by go_simp)
        have cwa_1_1 := ci hwa (W.heap.size + 1) 1 py (by go_simp)
        have cwa_2_0 := ci hwa (W.heap.size + 1 + 1) 0 r1 (by go_simp)
        have cwa_2_1 := ci hwa (W.heap.size + 1 + 1) 1 r2 (by go_simp)
        have cwa_2_2 := ci hwa (W.heap.size + 1 + 1) 2 r3 (by go_simp)
        have cwa_2_3 := ci hwa (W.heap.size + 1 + 1) 3 r4 (by go_simp)
        have cwa_3_0 := ci hwa (w7.heap.size) 0 p1 (by go_simp)
        have cwa_3_1 := ci hwa (w7.heap.size) 1 p2 (by go_simp)
        have cwa_3_2 := ci hwa (w7.heap.size) 2 p3 (by go_simp)
        have cwa_3_3 := ci hwa (w7.heap.size) 3 p4 (by go_simp)
        have gwa : Gr W wa := Gr.trans (by have gg := gw9; have gs := gg.size; go_grown) hwa
        clear hwa gw9 cw9_0_0 cw9_0_1 cw9_1_0 cw9_1_1 cw9_2_0 cw9_2_1 cw9_2_2 cw9_2_3 cw9_3_0 cw9_3_1 cw9_3_2 cw9_3_3
        go_wp2_with fail
        go_at_call 27
        refine ((H7.out _)).mono ?_
        rintro e wb ⟨rfl, hwb⟩
        have cwb_0_0 := ci hwb (W.heap.size) 0 k (by go_simp)
        have cwb_0_1 := cg hwb (W.heap.size) 1 (.slice ad n cap) (by go_simp)
        have cwb_1_0 := ci hwb (W.heap.size + 1) 0 px (by go_simp)
        have cwb_1_1 := ci hwb (W.heap.size + 1) 1 py (by go_simp)
        have cwb_2_0 := ci hwb (W.heap.size + 1 + 1) 0 r1 (by go_simp)
        have cwb_2_1 := ci hwb (W.heap.size + 1 + 1) 1 r2 (by go_simp)
        have cwb_2_2 := ci hwb (W.heap.size + 1 + 1) 2 r3 (by go_simp)
        have cwb_2_3 := ci hwb (W.heap.size + 1 + 1) 3 r4 (by go_simp)
        have cwb_3_0 := ci hwb (w7.heap.size) 0 p1 (by go_simp)
        have cwb_3_1 := ci hwb (w7.heap.size) 1 p2 (by go_simp)
        have cwb_3_2 := ci hwb (w7.heap.size) 2 p3 (by go_simp)
        have cwb_3_3 := ci hwb (w7.heap.size) 3 p4 (by go_simp)
        have gwb : Gr W wb := Gr.trans (by have gg := gwa; have gs := gg.size; go_grown) hwb
        clear hwb gwa cwa_0_0 cwa_0_1 cwa_1_0 cwa_1_1 cwa_2_0 cwa_2_1 cwa_2_2 cwa_2_3 cwa_3_0 cwa_3_1 cwa_3_2 cwa_3_3
        clear EQ HQ
        go_wp2_with fail
        try simp only [List.append]
        refine Od.wp_region_ord [(0, false), (1, false), (2, false), (3, false), (4, false), (5, true), (6, false), (7, false), (8, false), (9, false), (10, false), (11, false), (12, false), (13, false), (14, true), (15, false), (16, false), (17, false), (18, false), (19, true), (20, false), (21, false), (22, false), (23, false), (25, false), (26, false), (24, true), (27, true), (28, true), (29, false), (30, false), (31, false), (32, true), (33, false), (34, false)] (by kernel_rfl) (by kernel_rfl) ?_
        intro wc hwc KQ hKQ
        have cwc_0_0 := ci hwc (W.heap.size) 0 k (by go_simp)
        have cwc_0_1 := cg hwc (W.heap.size) 1 (.slice ad n cap) (by go_simp)
        have cwc_1_0 := ci hwc (W.heap.size + 1) 0 px (by go_simp)
        have cwc_1_1 := ci hwc (W.heap.size + 1) 1 py (by go_simp)
        have cwc_2_0 := ci hwc (W.heap.size + 1 + 1) 0 r1 (by go_simp)
        have cwc_2_1 := ci hwc (W.heap.size + 1 + 1) 1 r2 (by go_simp)
        have cwc_2_2 := ci hwc (W.heap.size + 1 + 1) 2 r3 (by go_simp)
        have cwc_2_3 := ci hwc (W.heap.size + 1 + 1) 3 r4 (by go_simp)
        have cwc_3_0 := ci hwc (w7.heap.size) 0 p1 (by go_simp)
        have cwc_3_1 := ci hwc (w7.heap.size) 1 p2 (by go_simp)
        have cwc_3_2 := ci hwc (w7.heap.size) 2 p3 (by go_simp)
        have cwc_3_3 := ci hwc (w7.heap.size) 3 p4 (by go_simp)
        have gwc : Gr W wc := Gr.trans (by have gg := gwb; have gs := gg.size; go_grown) hwc
        clear gwb cwb_0_0 cwb_0_1 cwb_1_0 cwb_1_1 cwb_2_0 cwb_2_1 cwb_2_2 cwb_2_3 cwb_3_0 cwb_3_1 cwb_3_2 cwb_3_3
        clear hwc
        repeat (first | (refine Od.wpO_skip (by simp only [List.getElem?_toArray, List.getElem?_cons_succ, List.getElem?_cons_zero] <;> rfl) rfl ?_; simp only [Act.put, List.setIfInBounds_toArray, List.set_cons_zero, List.set_cons_succ]) | (refine Od.wpO_pure (by simp only [List.getElem?_toArray, List.getElem?_cons_succ, List.getElem?_cons_zero] <;> rfl) rfl ?_; apply Exists.intro; refine ⟨?_, ?_⟩; (· intro wx gx; obtain ⟨mx, rfl⟩ := spread_of_gr gx; clear gx; all_goals (apply Od.pAt_of_quiet; intro K hK; go_big_quiet_op; first | exact hK _ rfl | (apply Exists.intro; refine ⟨fun _ => ?_, ?_⟩; (· fail); exact hK _ rfl))); try simp only [Act.put, List.setIfInBounds_toArray, List.set_cons_zero, List.set_cons_succ]))
        refine Od.wpO_call (by simp only [List.getElem?_toArray, List.getElem?_cons_succ, List.getElem?_cons_zero] <;> rfl) rfl ?_
        intro QS hQS
        go_wp2_with fail
        go_at_call 28
        (with_reducible refine ((H8.out _)).mono ?_)
        rintro e wd ⟨rfl, hwd⟩
        go_wp2_with fail
        apply Exists.intro
        refine ⟨?_, hwd, ?_⟩
        · simp only [Act.put, List.setIfInBounds_toArray, List.set_cons_zero, List.set_cons_succ]; rfl
        have cwd_0_0 := ci hwd (W.heap.size) 0 k (by go_simp)
        have cwd_0_1 := cg hwd (W.heap.size) 1 (.slice ad n cap) (by go_simp)
        have cwd_1_0 := ci hwd (W.heap.size + 1) 0 px (by go_simp)
        have cwd_1_1 := ci hwd (W.heap.size + 1) 1 py (by go_simp)
        have cwd_3_0 := ci hwd (w7.heap.size) 0 p1 (by go_simp)
        have cwd_3_1 := ci hwd (w7.heap.size) 1 p2 (by go_simp)
        have cwd_3_2 := ci hwd (w7.heap.size) 2 p3 (by go_simp)
        have cwd_3_3 := ci hwd (w7.heap.size) 3 p4 (by go_simp)
        have gwd : Gr W wd := Gr.trans (by have gg := gwc; have gs := gg.size; go_grown) hwd
        clear gwc cwc_0_0 cwc_0_1 cwc_1_0 cwc_1_1 cwc_2_0 cwc_2_1 cwc_2_2 cwc_2_3 cwc_3_0 cwc_3_1 cwc_3_2 cwc_3_3
        clear hwd
        try simp only [Act.put, List.setIfInBounds_toArray, List.set_cons_zero, List.set_cons_succ]
        repeat (first | (refine Od.wpO_skip (by simp only [List.getElem?_toArray, List.getElem?_cons_succ, List.getElem?_cons_zero] <;> rfl) rfl ?_; simp only [Act.put, List.setIfInBounds_toArray, List.set_cons_zero, List.set_cons_succ]) | (refine Od.wpO_pure (by simp only [List.getElem?_toArray, List.getElem?_cons_succ, List.getElem?_cons_zero] <;> rfl) rfl ?_; apply Exists.intro; refine ⟨?_, ?_⟩; (· intro wx gx; obtain ⟨mx, rfl⟩ := spread_of_gr gx; clear gx; all_goals (apply Od.pAt_of_quiet; intro K hK; go_big_quiet_op; first | exact hK _ rfl | (apply Exists.intro; refine ⟨fun _ => ?_, ?_⟩; (· fail); exact hK _ rfl))); try simp only [Act.put, List.setIfInBounds_toArray, List.set_cons_zero, List.set_cons_succ]))
        refine Od.wpO_call (by simp only [List.getElem?_toArray, List.getElem?_cons_succ, List.getElem?_cons_zero] <;> rfl) rfl ?_
        intro QS hQS
        go_wp2_with fail
        go_at_call 17
        (with_reducible refine ((H9.out _ gwd)).mono ?_)
        rintro e we ⟨rfl, hwe⟩
        go_wp2_with fail
        apply Exists.intro
        refine ⟨?_, hwe, ?_⟩
        · simp only [Act.put, List.setIfInBounds_toArray, List.set_cons_zero, List.set_cons_succ]; rfl
        have cwe_0_0 := ci hwe (W.heap.size) 0 k (by go_simp)
        have cwe_0_1 := cg hwe (W.heap.size) 1 (.slice ad n cap) (by go_simp)
        have cwe_1_0 := ci hwe (W.heap.size + 1) 0 px (by go_simp)
        have cwe_1_1 := ci hwe (W.heap.size + 1) 1 py (by go_simp)
        have cwe_3_0 := ci hwe (w7.heap.size) 0 p1 (by go_simp)
        have cwe_3_1 := ci hwe (w7.heap.size) 1 p2 (by go_simp)
        have cwe_3_2 := ci hwe (w7.heap.size) 2 p3 (by go_simp)
        have cwe_3_3 := ci hwe (w7.heap.size) 3 p4 (by go_simp)
        have gwe : Gr W we := Gr.trans (by have gg := gwd; have gs := gg.size; go_grown) hwe
        clear gwd cwd_0_0 cwd_0_1 cwd_1_0 cwd_1_1 cwd_3_0 cwd_3_1 cwd_3_2 cwd_3_3
        clear hwe
        try simp only [Act.put, List.setIfInBounds_toArray, List.set_cons_zero, List.set_cons_succ]
        repeat (first | (refine Od.wpO_skip (by simp only [List.getElem?_toArray, List.getElem?_cons_succ, List.getElem?_cons_zero] <;> rfl) rfl ?_; simp only [Act.put, List.setIfInBounds_toArray, List.set_cons_zero, List.set_cons_succ]) | (refine Od.wpO_pure (by simp only [List.getElem?_toArray, List.getElem?_cons_succ, List.getElem?_cons_zero] <;> rfl) rfl ?_; apply Exists.intro; refine ⟨?_, ?_⟩; (· intro wx gx; obtain ⟨mx, rfl⟩ := spread_of_gr gx; clear gx; all_goals (apply Od.pAt_of_quiet; intro K hK; go_big_quiet_op; first | exact hK _ rfl | (apply Exists.intro; refine ⟨fun _ => ?_, ?_⟩; (· fail); exact hK _ rfl))); try simp only [Act.put, List.setIfInBounds_toArray, List.set_cons_zero, List.set_cons_succ]))
        refine Od.wpO_call (by simp only [List.getElem?_toArray, List.getElem?_cons_succ, List.getElem?_cons_zero] <;> rfl) rfl ?_
        intro QS hQS
        go_wp2_with fail
        go_at_call 19
        (with_reducible refine ((HB1.out _ gwe)).mono ?_)
        rintro e wf ⟨rfl, hwf⟩
        go_wp2_with fail
        apply Exists.intro
        refine ⟨?_, hwf, ?_⟩
        · simp only [Act.put, List.setIfInBounds_toArray, List.set_cons_zero, List.set_cons_succ]; rfl
        have cwf_0_0 := ci hwf (W.heap.size) 0 k (by go_simp)
        have cwf_0_1 := cg hwf (W.heap.size) 1 (.slice ad n cap) (by go_simp)
        have cwf_1_0 := ci hwf (W.heap.size + 1) 0 px (by go_simp)
        have cwf_1_1 := ci hwf (W.heap.size + 1) 1 py (by go_simp)
        have cwf_3_0 := ci hwf (w7.heap.size) 0 p1 (by go_simp)
        have cwf_3_1 := ci hwf (w7.heap.size) 1 p2 (by go_simp)
        have cwf_3_2 := ci hwf (w7.heap.size) 2 p3 (by go_simp)
        have cwf_3_3 := ci hwf (w7.heap.size) 3 p4 (by go_simp)
        have gwf : Gr W wf := Gr.trans (by have gg := gwe; have gs := gg.size; go_grown) hwf
        clear gwe cwe_0_0 cwe_0_1 cwe_1_0 cwe_1_1 cwe_3_0 cwe_3_1 cwe_3_2 cwe_3_3
        clear hwf
        try simp only [Act.put, List.setIfInBounds_toArray, List.set_cons_zero, List.set_cons_succ]
        repeat (first | (refine Od.wpO_skip (by simp only [List.getElem?_toArray, List.getElem?_cons_succ, List.getElem?_cons_zero] <;> rfl) rfl ?_; simp only [Act.put, List.setIfInBounds_toArray, List.set_cons_zero, List.set_cons_succ]) | (refine Od.wpO_pure (by simp only [List.getElem?_toArray, List.getElem?_cons_succ, List.getElem?_cons_zero] <;> rfl) rfl ?_; apply Exists.intro; refine ⟨?_, ?_⟩; (· intro wx gx; obtain ⟨mx, rfl⟩ := spread_of_gr gx; clear gx; all_goals (apply Od.pAt_of_quiet; intro K hK; go_big_quiet_op; first | exact hK _ rfl | (apply Exists.intro; refine ⟨fun _ => ?_, ?_⟩; (· fail); exact hK _ rfl))); try simp only [Act.put, List.setIfInBounds_toArray, List.set_cons_zero, List.set_cons_succ]))
        refine Od.wpO_call (by simp only [List.getElem?_toArray, List.getElem?_cons_succ, List.getElem?_cons_zero] <;> rfl) rfl ?_
        intro QS hQS
        go_wp2_with fail
        go_at_call 30
        (with_reducible refine ((HB2.out _)).mono ?_)
        rintro e wg ⟨rfl, hwg⟩
        go_wp2_with fail
        apply Exists.intro
        refine ⟨?_, hwg, ?_⟩
        · simp only [Act.put, List.setIfInBounds_toArray, List.set_cons_zero, List.set_cons_succ]; rfl
        have gwg : Gr W wg := Gr.trans (by have gg := gwf; have gs := gg.size; go_grown) hwg
        clear gwf cwf_0_0 cwf_0_1 cwf_1_0 cwf_1_1 cwf_3_0 cwf_3_1 cwf_3_2 cwf_3_3
        clear hwg
        try simp only [Act.put, List.setIfInBounds_toArray, List.set_cons_zero, List.set_cons_succ]
        repeat (first | (refine Od.wpO_skip (by simp only [List.getElem?_toArray, List.getElem?_cons_succ, List.getElem?_cons_zero] <;> rfl) rfl ?_; simp only [Act.put, List.setIfInBounds_toArray, List.set_cons_zero, List.set_cons_succ]) | (refine Od.wpO_pure (by simp only [List.getElem?_toArray, List.getElem?_cons_succ, List.getElem?_cons_zero] <;> rfl) rfl ?_; apply Exists.intro; refine ⟨?_, ?_⟩; (· intro wx gx; obtain ⟨mx, rfl⟩ := spread_of_gr gx; clear gx; all_goals (apply Od.pAt_of_quiet; intro K hK; go_big_quiet_op; first | exact hK _ rfl | (apply Exists.intro; refine ⟨fun _ => ?_, ?_⟩; (· fail); exact hK _ rfl))); try simp only [Act.put, List.setIfInBounds_toArray, List.set_cons_zero, List.set_cons_succ]))
        refine Od.wpO_call (by simp only [List.getElem?_toArray, List.getElem?_cons_succ, List.getElem?_cons_zero] <;> rfl) rfl ?_
        intro QS hQS
        go_wp2_with fail
        go_at_call 15
        (with_reducible refine ((H5.out _ gwg)).mono ?_)
        rintro e wh ⟨rfl, hwh⟩
        go_wp2_with fail
        apply Exists.intro
        refine ⟨?_, hwh, ?_⟩
        · simp only [Act.put, List.setIfInBounds_toArray, List.set_cons_zero, List.set_cons_succ]; rfl
        have gwh : Gr W wh := Gr.trans (by have gg := gwg; have gs := gg.size; go_grown) hwh
        clear gwg
        clear hwh
        try simp only [Act.put, List.setIfInBounds_toArray, List.set_cons_zero, List.set_cons_succ]
        repeat (first | (refine Od.wpO_skip (by simp only [List.getElem?_toArray, List.getElem?_cons_succ, List.getElem?_cons_zero] <;> rfl) rfl ?_; simp only [Act.put, List.setIfInBounds_toArray, List.set_cons_zero, List.set_cons_succ]) | (refine Od.wpO_pure (by simp only [List.getElem?_toArray, List.getElem?_cons_succ, List.getElem?_cons_zero] <;> rfl) rfl ?_; apply Exists.intro; refine ⟨?_, ?_⟩; (· intro wx gx; obtain ⟨mx, rfl⟩ := spread_of_gr gx; clear gx; all_goals (apply Od.pAt_of_quiet; intro K hK; go_big_quiet_op; first | exact hK _ rfl | (apply Exists.intro; refine ⟨fun _ => ?_, ?_⟩; (· fail); exact hK _ rfl))); try simp only [Act.put, List.setIfInBounds_toArray, List.set_cons_zero, List.set_cons_succ]))
        refine Od.wpO_call (by simp only [List.getElem?_toArray, List.getElem?_cons_succ, List.getElem?_cons_zero] <;> rfl) rfl ?_
        intro QS hQS
        go_wp2_with fail
        go_at_call 29
        (with_reducible refine ((HB3.out _)).mono ?_)
        rintro e wi ⟨rfl, hwi⟩
        go_wp2_with fail
        apply Exists.intro
        refine ⟨?_, hwi, ?_⟩
        · simp only [Act.put, List.setIfInBounds_toArray, List.set_cons_zero, List.set_cons_succ]; rfl
        have gwi : Gr W wi := Gr.trans (by have gg := gwh; have gs := gg.size; go_grown) hwi
        clear gwh
        clear hwi
        try simp only [Act.put, List.setIfInBounds_toArray, List.set_cons_zero, List.set_cons_succ]
        repeat (first | (refine Od.wpO_skip (by simp only [List.getElem?_toArray, List.getElem?_cons_succ, List.getElem?_cons_zero] <;> rfl) rfl ?_; simp only [Act.put, List.setIfInBounds_toArray, List.set_cons_zero, List.set_cons_succ]) | (refine Od.wpO_pure (by simp only [List.getElem?_toArray, List.getElem?_cons_succ, List.getElem?_cons_zero] <;> rfl) rfl ?_; apply Exists.intro; refine ⟨?_, ?_⟩; (· intro wx gx; obtain ⟨mx, rfl⟩ := spread_of_gr gx; clear gx; all_goals (apply Od.pAt_of_quiet; intro K hK; go_big_quiet_op; first | exact hK _ rfl | (apply Exists.intro; refine ⟨fun _ => ?_, ?_⟩; (· fail); exact hK _ rfl))); try simp only [Act.put, List.setIfInBounds_toArray, List.set_cons_zero, List.set_cons_succ]))
        refine Od.wpO_call (by simp only [List.getElem?_toArray, List.getElem?_cons_succ, List.getElem?_cons_zero] <;> rfl) rfl ?_
        intro QS hQS
        go_wp2_with fail
        go_at_call 9
        (with_reducible refine ((HB4.out _ gwi)).mono ?_)
        rintro e wj ⟨rfl, hwj⟩
        go_wp2_with fail
        apply Exists.intro
        refine ⟨?_, hwj, ?_⟩
        · simp only [Act.put, List.setIfInBounds_toArray, List.set_cons_zero, List.set_cons_succ]; rfl
        have gwj : Gr W wj := Gr.trans (by have gg := gwi; have gs := gg.size; go_grown) hwj
        clear gwi
        clear hwj
        try simp only [Act.put, List.setIfInBounds_toArray, List.set_cons_zero, List.set_cons_succ]
        repeat (first | (refine Od.wpO_skip (by simp only [List.getElem?_toArray, List.getElem?_cons_succ, List.getElem?_cons_zero] <;> rfl) rfl ?_; simp only [Act.put, List.setIfInBounds_toArray, List.set_cons_zero, List.set_cons_succ]) | (refine Od.wpO_pure (by simp only [List.getElem?_toArray, List.getElem?_cons_succ, List.getElem?_cons_zero] <;> rfl) rfl ?_; apply Exists.intro; refine ⟨?_, ?_⟩; (· intro wx gx; obtain ⟨mx, rfl⟩ := spread_of_gr gx; clear gx; all_goals (apply Od.pAt_of_quiet; intro K hK; go_big_quiet_op; first | exact hK _ rfl | (apply Exists.intro; refine ⟨fun _ => ?_, ?_⟩; (· fail); exact hK _ rfl))); try simp only [Act.put, List.setIfInBounds_toArray, List.set_cons_zero, List.set_cons_succ]))
        refine Od.wpO_nil (hKQ _ _ ?_)
        clear hKQ KQ
        go_wp2_with fail
        go_ret
        exact ⟨rfl, gwj⟩
      · clear HF
        go_wp2_with fail
        go_at_call 15
        refine ((H5.out _ gw8)).mono ?_
        rintro e w9 ⟨rfl, hw9⟩
        have cw9_0_0 := ci hw9 (W.heap.size) 0 k (by go_simp)
        have cw9_0_1 := cg hw9 (W.heap.size) 1 (.slice ad n cap) (by go_simp)
        have cw9_1_0 := ci hw9 (W.heap.size + 1) 0 px (by go_simp)
        have cw9_1_1 := ci hw9 (W.heap.size + 1) 1 py (by go_simp)
        have cw9_2_0 := ci hw9 (W.heap.size + 1 + 1) 0 r1 (by go_simp)
        have cw9_2_1 := ci hw9 (W.heap.size + 1 + 1) 1 r2 (by go_simp)
        have cw9_2_2 := ci hw9 (W.heap.size + 1 + 1) 2 r3 (by go_simp)
        have cw9_2_3 := ci hw9 (W.heap.size + 1 + 1) 3 r4 (by go_simp)
        have cw9_3_0 := ci hw9 (w7.heap.size) 0 p1 (by go_simp)
        have cw9_3_1 := ci hw9 (w7.heap.size) 1 p2 (by go_simp)
        have cw9_3_2 := ci hw9 (w7.heap.size) 2 p3 (by go_simp)
        have cw9_3_3 := ci hw9 (w7.heap.size) 3 p4 (by go_simp)
        have gw9 : Gr W w9 := Gr.trans (by have gg := gw8; have gs := gg.size; go_grown) hw9
        clear hw9 gw8 zw8_0 cw8_0_0 cw8_0_1 zw8_1 cw8_1_0 cw8_1_1 zw8_2 cw8_2_0 cw8_2_1 cw8_2_2 cw8_2_3 zw8_3 cw8_3_0 cw8_3_1 cw8_3_2 cw8_3_3
        go_wp2_with fail
        go_at_call 26
        refine ((H6.out _)).mono ?_
        rintro e wa ⟨rfl, hwa⟩
        have cwa_0_0 := ci hwa (W.heap.size) 0 k (by go_simp)
        have cwa_0_1 := cg hwa (W.heap.size) 1 (.slice ad n cap) (by go_simp)
        have cwa_1_0 := ci hwa (W.heap.size + 1) 0 px (by go_simp)
        have cwa_1_1 := ci hwa (W.heap.size + 1) 1 py (by go_simp)
        have cwa_2_0 := ci hwa (W.heap.size + 1 + 1) 0 r1 (by go_simp)
        have cwa_2_1 := ci hwa (W.heap.size + 1 + 1) 1 r2 (by go_simp)
        have cwa_2_2 := ci hwa (W.heap.size + 1 + 1) 2 r3 (by go_simp)
        have cwa_2_3 := ci hwa (W.heap.size + 1 + 1) 3 r4 (by go_simp)
        have cwa_3_0 := ci hwa (w7.heap.size) 0 p1 (by go_simp)
        have cwa_3_1 := ci hwa (w7.heap.size) 1 p2 (by go_simp)
        have cwa_3_2 := ci hwa (w7.heap.size) 2 p3 (by go_simp)
        have cwa_3_3 := ci hwa (w7.heap.size) 3 p4 (by go_simp)
        have gwa : Gr W wa := Gr.trans (by have gg := gw9; have gs := gg.size; go_grown) hwa
        clear hwa gw9 cw9_0_0 cw9_0_1 cw9_1_0 cw9_1_1 cw9_2_0 cw9_2_1 cw9_2_2 cw9_2_3 cw9_3_0 cw9_3_1 cw9_3_2 cw9_3_3
        go_wp2_with fail
        go_at_call 27
        refine ((H7.out _)).mono ?_
        rintro e wb ⟨rfl, hwb⟩
        have cwb_0_0 := ci hwb (W.heap.size) 0 k (by go_simp)
        have cwb_0_1 := cg hwb (W.heap.size) 1 (.slice ad n cap) (by go_simp)
        have cwb_1_0 := ci hwb (W.heap.size + 1) 0 px (by go_simp)
        have cwb_1_1 := ci hwb (W.heap.size + 1) 1 py (by go_simp)
        have cwb_2_0 := ci hwb (W.heap.size + 1 + 1) 0 r1 (by go_simp)
        have cwb_2_1 := ci hwb (W.heap.size + 1 + 1) 1 r2 (by go_simp)
        have cwb_2_2 := ci hwb (W.heap.size + 1 + 1) 2 r3 (by go_simp)
        have cwb_2_3 := ci hwb (W.heap.size + 1 + 1) 3 r4 (by go_simp)
        have cwb_3_0 := ci hwb (w7.heap.size) 0 p1 (by go_simp)
        have cwb_3_1 := ci hwb (w7.heap.size) 1 p2 (by go_simp)
        have cwb_3_2 := ci hwb (w7.heap.size) 2 p3 (by go_simp)
        have cwb_3_3 := ci hwb (w7.heap.size) 3 p4 (by go_simp)
        have gwb : Gr W wb := Gr.trans (by have gg := gwa; have gs := gg.size; go_grown) hwb
        clear hwb gwa cwa_0_0 cwa_0_1 cwa_1_0 cwa_1_1 cwa_2_0 cwa_2_1 cwa_2_2 cwa_2_3 cwa_3_0 cwa_3_1 cwa_3_2 cwa_3_3
        clear EQ HQ
        go_wp2_with fail
        try simp only [List.append]
        refine Od.wp_region_ord [(0, false), (1, false), (2, false), (3, false), (4, false), (5, true), (6, false), (7, false), (8, false), (9, false), (10, false), (11, false), (12, false), (13, false), (14, true), (15, false), (16, false), (17, false), (18, false), (19, true), (20, false), (21, false), (22, false), (23, false), (25, false), (26, false), (24, true), (27, true), (28, true), (29, false), (30, false), (31, false), (32, true), (33, false), (34, false)] (by kernel_rfl) (by kernel_rfl) ?_
        intro wc hwc KQ hKQ
        have cwc_0_0 := ci hwc (W.heap.size) 0 k (by go_simp)
        have cwc_0_1 := cg hwc (W.heap.size) 1 (.slice ad n cap) (by go_simp)
        have cwc_1_0 := ci hwc (W.heap.size + 1) 0 px (by go_simp)
        have cwc_1_1 := ci hwc (W.heap.size + 1) 1 py (by go_simp)
        have cwc_2_0 := ci hwc (W.heap.size + 1 + 1) 0 r1 (by go_simp)
        have cwc_2_1 := ci hwc (W.heap.size + 1 + 1) 1 r2 (by go_simp)
        have cwc_2_2 := ci hwc (W.heap.size + 1 + 1) 2 r3 (by go_simp)
        have cwc_2_3 := ci hwc (W.heap.size + 1 + 1) 3 r4 (by go_simp)
        have cwc_3_0 := ci hwc (w7.heap.size) 0 p1 (by go_simp)
        have cwc_3_1 := ci hwc (w7.heap.size) 1 p2 (by go_simp)
        have cwc_3_2 := ci hwc (w7.heap.size) 2 p3 (by go_simp)
        have cwc_3_3 := ci hwc (w7.heap.size) 3 p4 (by go_simp)
        have gwc : Gr W wc := Gr.trans (by have gg := gwb; have gs := gg.size; go_grown) hwc
        clear gwb cwb_0_0 cwb_0_1 cwb_1_0 cwb_1_1 cwb_2_0 cwb_2_1 cwb_2_2 cwb_2_3 cwb_3_0 cwb_3_1 cwb_3_2 cwb_3_3
        clear hwc
        repeat (first | (refine Od.wpO_skip (by simp only [List.getElem?_toArray, List.getElem?_cons_succ, List.getElem?_cons_zero] <;> rfl) rfl ?_; simp only [Act.put, List.setIfInBounds_toArray, List.set_cons_zero, List.set_cons_succ]) | (refine Od.wpO_pure (by simp only [List.getElem?_toArray, List.getElem?_cons_succ, List.getElem?_cons_zero] <;> rfl) rfl ?_; apply Exists.intro; refine ⟨?_, ?_⟩; (· intro wx gx; obtain ⟨mx, rfl⟩ := spread_of_gr gx; clear gx; all_goals (apply Od.pAt_of_quiet; intro K hK; go_big_quiet_op; first | exact hK _ rfl | (apply Exists.intro; refine ⟨fun _ => ?_, ?_⟩; (· fail); exact hK _ rfl))); try simp only [Act.put, List.setIfInBounds_toArray, List.set_cons_zero, List.set_cons_succ]))
        refine Od.wpO_call (by simp only [List.getElem?_toArray, List.getElem?_cons_succ, List.getElem?_cons_zero] <;> rfl) rfl ?_
        intro QS hQS
        go_wp2_with fail
        go_at_call 28
        (with_reducible refine ((H8.out _)).mono ?_)
        rintro e wd ⟨rfl, hwd⟩
        go_wp2_with fail
        apply Exists.intro
        refine ⟨?_, hwd, ?_⟩
        · simp only [Act.put, List.setIfInBounds_toArray, List.set_cons_zero, List.set_cons_succ]; rfl
        have cwd_0_0 := ci hwd (W.heap.size) 0 k (by go_simp)
        have cwd_0_1 := cg hwd (W.heap.size) 1 (.slice ad n cap) (by go_simp)
        have cwd_1_0 := ci hwd (W.heap.size + 1) 0 px (by go_simp)
        have cwd_1_1 := ci hwd (W.heap.size + 1) 1 py (by go_simp)
        have cwd_3_0 := ci hwd (w7.heap.size) 0 p1 (by go_simp)
        have cwd_3_1 := ci hwd (w7.heap.size) 1 p2 (by go_simp)
        have cwd_3_2 := ci hwd (w7.heap.size) 2 p3 (by go_simp)
        have cwd_3_3 := ci hwd (w7.heap.size) 3 p4 (by go_simp)
        have gwd : Gr W wd := Gr.trans (by have gg := gwc; have gs := gg.size; go_grown) hwd
        clear gwc cwc_0_0 cwc_0_1 cwc_1_0 cwc_1_1 cwc_2_0 cwc_2_1 cwc_2_2 cwc_2_3 cwc_3_0 cwc_3_1 cwc_3_2 cwc_3_3
        clear hwd
        try simp only [Act.put, List.setIfInBounds_toArray, List.set_cons_zero, List.set_cons_succ]
        repeat (first | (refine Od.wpO_skip (by simp only [List.getElem?_toArray, List.getElem?_cons_succ, List.getElem?_cons_zero] <;> rfl) rfl ?_; simp only [Act.put, List.setIfInBounds_toArray, List.set_cons_zero, List.set_cons_succ]) | (refine Od.wpO_pure (by simp only [List.getElem?_toArray, List.getElem?_cons_succ, List.getElem?_cons_zero] <;> rfl) rfl ?_; apply Exists.intro; refine ⟨?_, ?_⟩; (· intro wx gx; obtain ⟨mx, rfl⟩ := spread_of_gr gx; clear gx; all_goals (apply Od.pAt_of_quiet; intro K hK; go_big_quiet_op; first | exact hK _ rfl | (apply Exists.intro; refine ⟨fun _ => ?_, ?_⟩; (· fail); exact hK _ rfl))); try simp only [Act.put, List.setIfInBounds_toArray, List.set_cons_zero, List.set_cons_succ]))
        refine Od.wpO_call (by simp only [List.getElem?_toArray, List.getElem?_cons_succ, List.getElem?_cons_zero] <;> rfl) rfl ?_
        intro QS hQS
        go_wp2_with fail
        go_at_call 17
        (with_reducible refine ((H9.out _ gwd)).mono ?_)
        rintro e we ⟨rfl, hwe⟩
        go_wp2_with fail
        apply Exists.intro
        refine ⟨?_, hwe, ?_⟩
        · simp only [Act.put, List.setIfInBounds_toArray, List.set_cons_zero, List.set_cons_succ]; rfl
        have cwe_0_0 := ci hwe (W.heap.size) 0 k (by go_simp)
        have cwe_0_1 := cg hwe (W.heap.size) 1 (.slice ad n cap) (by go_simp)
        have cwe_1_0 := ci hwe (W.heap.size + 1) 0 px (by go_simp)
        have cwe_1_1 := ci hwe (W.heap.size + 1) 1 py (by go_simp)
        have cwe_3_0 := ci hwe (w7.heap.size) 0 p1 (by go_simp)
        have cwe_3_1 := ci hwe (w7.heap.size) 1 p2 (by go_simp)
        have cwe_3_2 := ci hwe (w7.heap.size) 2 p3 (by go_simp)
        have cwe_3_3 := ci hwe (w7.heap.size) 3 p4 (by go_simp)
        have gwe : Gr W we := Gr.trans (by have gg := gwd; have gs := gg.size; go_grown) hwe
        clear gwd cwd_0_0 cwd_0_1 cwd_1_0 cwd_1_1 cwd_3_0 cwd_3_1 cwd_3_2 cwd_3_3
        clear hwe
        try simp only [Act.put, List.setIfInBounds_toArray, List.set_cons_zero, List.set_cons_succ]
        repeat (first | (refine Od.wpO_skip (by simp only [List.getElem?_toArray, List.getElem?_cons_succ, List.getElem?_cons_zero] <;> rfl) rfl ?_; simp only [Act.put, List.setIfInBounds_toArray, List.set_cons_zero, List.set_cons_succ]) | (refine Od.wpO_pure (by simp only [List.getElem?_toArray, List.getElem?_cons_succ, List.getElem?_cons_zero] <;> rfl) rfl ?_; apply Exists.intro; refine ⟨?_, ?_⟩; (· intro wx gx; obtain ⟨mx, rfl⟩ := spread_of_gr gx; clear gx; all_goals (apply Od.pAt_of_quiet; intro K hK; go_big_quiet_op; first | exact hK _ rfl | (apply Exists.intro; refine ⟨fun _ => ?_, ?_⟩; (· fail); exact hK _ rfl))); try simp only [Act.put, List.setIfInBounds_toArray, List.set_cons_zero, List.set_cons_succ]))
        refine Od.wpO_call (by simp only [List.getElem?_toArray, List.getElem?_cons_succ, List.getElem?_cons_zero] <;> rfl) rfl ?_
        intro QS hQS
        go_wp2_with fail
        go_at_call 19
        (with_reducible refine ((HB1.out _ gwe)).mono ?_)
        rintro e wf ⟨rfl, hwf⟩
        go_wp2_with fail
        apply Exists.intro
        refine ⟨?_, hwf, ?_⟩
        · simp only [Act.put, List.setIfInBounds_toArray, List.set_cons_zero, List.set_cons_succ]; rfl
        have cwf_0_0 := ci hwf (W.heap.size) 0 k (by go_simp)
        have cwf_0_1 := cg hwf (W.heap.size) 1 (.slice ad n cap) (by go_simp)
        have cwf_1_0 := ci hwf (W.heap.size + 1) 0 px (by go_simp)
        have cwf_1_1 := ci hwf (W.heap.size + 1) 1 py (by go_simp)
        have cwf_3_0 := ci hwf (w7.heap.size) 0 p1 (by go_simp)
        have cwf_3_1 := ci hwf (w7.heap.size) 1 p2 (by go_simp)
        have cwf_3_2 := ci hwf (w7.heap.size) 2 p3 (by go_simp)
        have cwf_3_3 := ci hwf (w7.heap.size) 3 p4 (by go_simp)
        have gwf : Gr W wf := Gr.trans (by have gg := gwe; have gs := gg.size; go_grown) hwf
        clear gwe cwe_0_0 cwe_0_1 cwe_1_0 cwe_1_1 cwe_3_0 cwe_3_1 cwe_3_2 cwe_3_3
        clear hwf
        try simp only [Act.put, List.setIfInBounds_toArray, List.set_cons_zero, List.set_cons_succ]
        repeat (first | (refine Od.wpO_skip (by simp only [List.getElem?_toArray, List.getElem?_cons_succ, List.getElem?_cons_zero] <;> rfl) rfl ?_; simp only [Act.put, List.setIfInBounds_toArray, List.set_cons_zero, List.set_cons_succ]) | (refine Od.wpO_pure (by simp only [List.getElem?_toArray, List.getElem?_cons_succ, List.getElem?_cons_zero] <;> rfl) rfl ?_; apply Exists.intro; refine ⟨?_, ?_⟩; (· intro wx gx; obtain ⟨mx, rfl⟩ := spread_of_gr gx; clear gx; all_goals (apply Od.pAt_of_quiet; intro K hK; go_big_quiet_op; first | exact hK _ rfl | (apply Exists.intro; refine ⟨fun _ => ?_, ?_⟩; (· fail); exact hK _ rfl))); try simp only [Act.put, List.setIfInBounds_toArray, List.set_cons_zero, List.set_cons_succ]))
        refine Od.wpO_call (by simp only [List.getElem?_toArray, List.getElem?_cons_succ, List.getElem?_cons_zero] <;> rfl) rfl ?_
        intro QS hQS
        go_wp2_with fail
        go_at_call 30
        (with_reducible refine ((HB2.out _)).mono ?_)
        rintro e wg ⟨rfl, hwg⟩
        go_wp2_with fail
        apply Exists.intro
        refine ⟨?_, hwg, ?_⟩
        · simp only [Act.put, List.setIfInBounds_toArray, List.set_cons_zero, List.set_cons_succ]; rfl
        have gwg : Gr W wg := Gr.trans (by have gg := gwf; have gs := gg.size; go_grown) hwg
        clear gwf cwf_0_0 cwf_0_1 cwf_1_0 cwf_1_1 cwf_3_0 cwf_3_1 cwf_3_2 cwf_3_3
        clear hwg
        try simp only [Act.put, List.setIfInBounds_toArray, List.set_cons_zero, List.set_cons_succ]
        repeat (first | (refine Od.wpO_skip (by simp only [List.getElem?_toArray, List.getElem?_cons_succ, List.getElem?_cons_zero] <;> rfl) rfl ?_; simp only [Act.put, List.setIfInBounds_toArray, List.set_cons_zero, List.set_cons_succ]) | (refine Od.wpO_pure (by simp only [List.getElem?_toArray, List.getElem?_cons_succ, List.getElem?_cons_zero] <;> rfl) rfl ?_; apply Exists.intro; refine ⟨?_, ?_⟩; (· intro wx gx; obtain ⟨mx, rfl⟩ := spread_of_gr gx; clear gx; all_goals (apply Od.pAt_of_quiet; intro K hK; go_big_quiet_op; first | exact hK _ rfl | (apply Exists.intro; refine ⟨fun _ => ?_, ?_⟩; (· fail); exact hK _ rfl))); try simp only [Act.put, List.setIfInBounds_toArray, List.set_cons_zero, List.set_cons_succ]))
        refine Od.wpO_call (by simp only [List.getElem?_toArray, List.getElem?_cons_succ, List.getElem?_cons_zero] <;> rfl) rfl ?_
        intro QS hQS
        go_wp2_with fail
        go_at_call 15
        (with_reducible refine ((H5.out _ gwg)).mono ?_)
        rintro e wh ⟨rfl, hwh⟩
        go_wp2_with fail
        apply Exists.intro
        refine ⟨?_, hwh, ?_⟩
        · simp only [Act.put, List.setIfInBounds_toArray, List.set_cons_zero, List.set_cons_succ]; rfl
        have gwh : Gr W wh := Gr.trans (by have gg := gwg; have gs := gg.size; go_grown) hwh
        clear gwg
        clear hwh
        try simp only [Act.put, List.setIfInBounds_toArray, List.set_cons_zero, List.set_cons_succ]
        repeat (first | (refine Od.wpO_skip (by simp only [List.getElem?_toArray, List.getElem?_cons_succ, List.getElem?_cons_zero] <;> rfl) rfl ?_; simp only [Act.put, List.setIfInBounds_toArray, List.set_cons_zero, List.set_cons_succ]) | (refine Od.wpO_pure (by simp only [List.getElem?_toArray, List.getElem?_cons_succ, List.getElem?_cons_zero] <;> rfl) rfl ?_; apply Exists.intro; refine ⟨?_, ?_⟩; (· intro wx gx; obtain ⟨mx, rfl⟩ := spread_of_gr gx; clear gx; all_goals (apply Od.pAt_of_quiet; intro K hK; go_big_quiet_op; first | exact hK _ rfl | (apply Exists.intro; refine ⟨fun _ => ?_, ?_⟩; (· fail); exact hK _ rfl))); try simp only [Act.put, List.setIfInBounds_toArray, List.set_cons_zero, List.set_cons_succ]))
        refine Od.wpO_call (by simp only [List.getElem?_toArray, List.getElem?_cons_succ, List.getElem?_cons_zero] <;> rfl) rfl ?_
        intro QS hQS
        go_wp2_with fail
        go_at_call 29
        (with_reducible refine ((HB3.out _)).mono ?_)
        rintro e wi ⟨rfl, hwi⟩
        go_wp2_with fail
        apply Exists.intro
        refine ⟨?_, hwi, ?_⟩
        · simp only [Act.put, List.setIfInBounds_toArray, List.set_cons_zero, List.set_cons_succ]; rfl
        have gwi : Gr W wi := Gr.trans (by have gg := gwh; have gs := gg.size; go_grown) hwi
        clear gwh
        clear hwi
        try simp only [Act.put, List.setIfInBounds_toArray, List.set_cons_zero, List.set_cons_succ]
        repeat (first | (refine Od.wpO_skip (by simp only [List.getElem?_toArray, List.getElem?_cons_succ, List.getElem?_cons_zero] <;> rfl) rfl ?_; simp only [Act.put, List.setIfInBounds_toArray, List.set_cons_zero, List.set_cons_succ]) | (refine Od.wpO_pure (by simp only [List.getElem?_toArray, List.getElem?_cons_succ, List.getElem?_cons_zero] <;> rfl) rfl ?_; apply Exists.intro; refine ⟨?_, ?_⟩; (· intro wx gx; obtain ⟨mx, rfl⟩ := spread_of_gr gx; clear gx; all_goals (apply Od.pAt_of_quiet; intro K hK; go_big_quiet_op; first | exact hK _ rfl | (apply Exists.intro; refine ⟨fun _ => ?_, ?_⟩; (· fail); exact hK _ rfl))); try simp only [Act.put, List.setIfInBounds_toArray, List.set_cons_zero, List.set_cons_succ]))
        refine Od.wpO_call (by simp only [List.getElem?_toArray, List.getElem?_cons_succ, List.getElem?_cons_zero] <;> rfl) rfl ?_
        intro QS hQS
        go_wp2_with fail
        go_at_call 9
        (with_reducible refine ((HB4.out _ gwi)).mono ?_)
        rintro e wj ⟨rfl, hwj⟩
        go_wp2_with fail
        apply Exists.intro
        refine ⟨?_, hwj, ?_⟩
        · simp only [Act.put, List.setIfInBounds_toArray, List.set_cons_zero, List.set_cons_succ]; rfl
        have gwj : Gr W wj := Gr.trans (by have gg := gwi; have gs := gg.size; go_grown) hwj
        clear gwi
        clear hwj
        try simp only [Act.put, List.setIfInBounds_toArray, List.set_cons_zero, List.set_cons_succ]
        repeat (first | (refine Od.wpO_skip (by simp only [List.getElem?_toArray, List.getElem?_cons_succ, List.getElem?_cons_zero] <;> rfl) rfl ?_; simp only [Act.put, List.setIfInBounds_toArray, List.set_cons_zero, List.set_cons_succ]) | (refine Od.wpO_pure (by simp only [List.getElem?_toArray, List.getElem?_cons_succ, List.getElem?_cons_zero] <;> rfl) rfl ?_; apply Exists.intro; refine ⟨?_, ?_⟩; (· intro wx gx; obtain ⟨mx, rfl⟩ := spread_of_gr gx; clear gx; all_goals (apply Od.pAt_of_quiet; intro K hK; go_big_quiet_op; first | exact hK _ rfl | (apply Exists.intro; refine ⟨fun _ => ?_, ?_⟩; (· fail); exact hK _ rfl))); try simp only [Act.put, List.setIfInBounds_toArray, List.set_cons_zero, List.set_cons_succ]))
        refine Od.wpO_nil (hKQ _ _ ?_)
        clear hKQ KQ
        go_wp2_with fail
        go_ret
        exact ⟨rfl, gwj⟩
end Go.Proofs.YtfobmlgpjhghdaaGreatDoor
namespace Go.Proofs.YtfobmlgpjhghdaaGreatDoor
set_option linter.unusedVariables false
set_option linter.unusedSimpArgs false
open Go.ChangeShapes Go.WideShapes Go.ChangeAt Go.RowKit
theorem stP_pt {px py ax ay bx by' : Int} (h : stP px py px py ax ay bx by') : onF ax ay bx by' px py = true := by
  obtain ⟨ho, p, q, r, s, h1, h2, h3, h4⟩ := h
  unfold inP at h1 h2
  obtain rfl : p = px := by omega
  obtain rfl : q = py := by omega
  obtain rfl : r = p := by omega
  obtain rfl : s = q := by omega
  rw [onF_iff, btw_iff]
  unfold ovP at ho
  exact ⟨by omega, by omega⟩
theorem rmD_point {n : Nat} {X Y : Nat → Int} {px py : Int} (h0 : (Rg.ringC n X Y).1 = 0) (hp : nearB px py = true) : rmD n X Y px py px py = Rg.hasN n X Y px py := by
  obtain ⟨h1, h2, -⟩ := Rg.ringC_ok h0
  refine bool_iff ?_
  rw [rmD_iff h0 (pt_box hp)]
  constructor
  · rintro (h | ⟨i, hi, h⟩)
    · exact h
    · unfold Rg.hasN
      rw [(Rg.onN_iff n).2 ⟨i, hi, by unfold onG; rw [h2 i hi, h2 _ (nxl_of (by omega) hi), hp, stP_pt h]; rfl⟩]
      rfl
  · exact Or.inl
theorem qC_3' {a b c d : Int} (h : nearB a b = true) : qC 3 a b c d 0 (fun _ => 0) (fun _ => 0) = 0 := by
  unfold qC; rw [if_neg (by decide), if_pos rfl, if_pos h]
theorem qC_b {kq : Int} (hq : kq = 1 ∨ kq = 2) {a b c d : Int} (h : boxB a b c d = true) : qC kq a b c d 0 (fun _ => 0) (fun _ => 0) = 0 := by
  unfold qC; rw [if_pos hq]; exact boxN_0.2 h
theorem inV_iff {a b c d p q r s : Int} (h : boxB a b c d = true) (g : boxB p q r s = true) : inV a b c d p q r s = true ↔ p ≤ a ∧ q ≤ b ∧ c ≤ r ∧ d ≤ s := by
  have h1 := (boxB_iff.1 h).2
  unfold inV
  rw [h, g, Bool.and_eq_true, Bool.and_eq_true, inB_P, inB_P]
  unfold inP
  constructor
  · rintro ⟨⟨-, k1⟩, k2⟩; omega
  · intro k; exact ⟨⟨rfl, by omega⟩, by omega⟩
theorem meV_iff {a b c d p q r s : Int} (h : boxB a b c d = true) (g : boxB p q r s = true) : meV a b c d p q r s = true ↔ a ≤ r ∧ p ≤ c ∧ b ≤ s ∧ q ≤ d := by
  unfold meV
  rw [h, g]
  simp only [Bool.and_eq_true, decide_eq_true_eq, Bool.true_and, and_assoc, true_and]
section
variable {k : Int} {n : Nat} {X Y : Nat → Int} {a b c d : Int}
theorem za1 (h : boxB a b c d = true) (hc : objC k n X Y = 0) : maA k n X Y 1 a b c d 0 (fun _ => 0) (fun _ => 0) = if k = 4 then rmD n X Y a b c d else meV (X 0) (oLy k Y) (oHx k X Y) (oHy k Y) a b c d := by
  rw [ma_doc hc (qC_b (Or.inl rfl) h)]
  unfold maD mbD
  rw [if_pos rfl]
theorem za2 : maA k n X Y 2 a b c d 0 (fun _ => 0) (fun _ => 0) = inV (bLx k n X) (bLy k n Y) (bHx k n X Y) (bHy k n Y) a b c d := by
  unfold maA mpV msV bLx bLy bHx bHy
  by_cases k4 : k = 4
  · simp only [if_pos k4]; rfl
  · simp only [if_neg k4]; rfl
theorem za3 {px py : Int} (hp : nearB px py = true) (hc : objC k n X Y = 0) : maA k n X Y 3 px py c d 0 (fun _ => 0) (fun _ => 0) = if k = 4 then Rg.hasN n X Y px py else meV (X 0) (oLy k Y) (oHx k X Y) (oHy k Y) px py px py := by
  rw [ma_doc hc (qC_3' hp)]
  unfold maD mbD
  rw [if_neg (by decide), if_neg (by decide), if_pos rfl]
  by_cases k4 : k = 4
  · rw [if_pos k4, if_pos k4]
    subst k4
    rw [objC_4] at hc
    exact rmD_point hc hp
  · rw [if_neg k4, if_neg k4]
theorem bounds_vert (hc : objC 4 n X Y = 0) : (Rg.ringC n X Y).1 = 0 ∧ 0 < n := by
  rw [objC_4] at hc
  exact ⟨hc, by have := (Rg.ringC_ok hc).1; omega⟩
theorem z_in (hc : objC k n X Y = 0) (h : boxB a b c d = true) (hz : maA k n X Y 2 a b c d 0 (fun _ => 0) (fun _ => 0) = true) : maA k n X Y 1 a b c d 0 (fun _ => 0) (fun _ => 0) = true := by
  have bo := bx_ok hc
  rw [za2, inV_iff bo h] at hz
  rw [za1 h hc]
  unfold bLx bLy bHx bHy at hz bo
  by_cases k4 : k = 4
  · rw [if_pos k4]
    subst k4
    obtain ⟨h0, hn⟩ := bounds_vert hc
    simp only [if_pos] at hz
    have := bd_mm n X Y 0 hn
    exact rmD_vert h0 h hn (by unfold inP; omega)
  · simp only [if_neg k4] at hz bo ⊢
    have := (boxB_iff.1 bo).2
    rw [meV_iff bo h]
    omega
theorem z_me (hc : objC k n X Y = 0) (h : boxB a b c d = true) (hz : maA k n X Y 1 a b c d 0 (fun _ => 0) (fun _ => 0) = true) : meV (bLx k n X) (bLy k n Y) (bHx k n X Y) (bHy k n Y) a b c d = true := by
  have bo := bx_ok hc
  rw [za1 h hc] at hz
  rw [meV_iff bo h]
  unfold bLx bLy bHx bHy at bo ⊢
  by_cases k4 : k = 4
  · rw [if_pos k4] at hz
    subst k4
    obtain ⟨h0, hn⟩ := bounds_vert hc
    simp only [if_pos]
    have := rmD_ov h0 h hz
    omega
  · simp only [if_neg k4] at hz bo ⊢
    rw [meV_iff bo h] at hz
    omega
theorem z_has {px py : Int} (hc : objC k n X Y = 0) (h : boxB a b c d = true) (hp : nearB px py = true) (hz : maA k n X Y 3 px py 0 0 0 (fun _ => 0) (fun _ => 0) = true) (hb : a ≤ px ∧ px ≤ c ∧ b ≤ py ∧ py ≤ d) : maA k n X Y 1 a b c d 0 (fun _ => 0) (fun _ => 0) = true := by
  have bo := bx_ok hc
  rw [za3 hp hc] at hz
  rw [za1 h hc]
  unfold bLx bLy bHx bHy at bo
  by_cases k4 : k = 4
  · rw [if_pos k4] at hz ⊢
    subst k4
    obtain ⟨h0, hn⟩ := bounds_vert hc
    exact rmD_pt h0 h (by unfold inP; omega) hz
  · simp only [if_neg k4] at hz bo ⊢
    rw [meV_iff bo (pt_box hp)] at hz
    rw [meV_iff bo h]
    omega
theorem dist_0 {lx ly hx hy px py : Int} (hb : lx ≤ hx ∧ ly ≤ hy) : distZ lx ly hx hy px py = 0 ↔ lx ≤ px ∧ px ≤ hx ∧ ly ≤ py ∧ py ≤ hy := by
  have sq : ∀ u : Int, 0 ≤ u → (u * u = 0 ↔ u = 0) := fun u hu => by
    constructor
    · intro h
      rcases Int.mul_eq_zero.1 h with g | g <;> exact g
    · intro h; rw [h]; rfl
  have b0 : ∀ lo hi v : Int, lo ≤ hi → (beyZ lo hi v = 0 ↔ lo ≤ v ∧ v ≤ hi) := fun lo hi v h => by
    unfold beyZ; split
    · omega
    · split <;> omega
  have n1 := Int.mul_nonneg (bey_nn lx hx px) (bey_nn lx hx px)
  have n2 := Int.mul_nonneg (bey_nn ly hy py) (bey_nn ly hy py)
  have s1 := sq _ (bey_nn lx hx px)
  have s2 := sq _ (bey_nn ly hy py)
  rw [b0 _ _ _ hb.1] at s1
  rw [b0 _ _ _ hb.2] at s2
  unfold distZ
  constructor
  · intro h
    have := s1.1 (by omega)
    have := s2.1 (by omega)
    omega
  · intro h
    have := s1.2 (by omega)
    have := s2.2 (by omega)
    omega
theorem z_dist {px py : Int} (hc : objC k n X Y = 0) (hp : nearB px py = true) : diA k n X Y px py = (0, 1) ↔ maA k n X Y 3 px py 0 0 0 (fun _ => 0) (fun _ => 0) = true := by
  have bo := bx_ok hc
  rw [za3 hp hc]
  unfold diA
  unfold bLx bLy bHx bHy at bo
  by_cases k4 : k = 4
  · rw [if_pos k4, if_pos k4]
    subst k4
    exact fa_zero (bounds_vert hc).1 hp
  · simp only [if_neg k4] at bo ⊢
    have bb := (boxB_iff.1 bo).2
    have hz := distZ_lt bo hp
    rw [meV_iff bo (pt_box hp), Prod.mk.injEq]
    have := dist_0 (px := px) (py := py) bb
    constructor
    · rintro ⟨h, -⟩
      have := this.1 (by omega)
      omega
    · intro h
      have := this.2 (by omega)
      exact ⟨by omega, rfl⟩
theorem z_touch (hc : objC k n X Y = 0) : tcA k n X Y k n X Y = true := by
  rw [tc_doc hc hc]
  have bo := bx_ok hc
  unfold tcD
  unfold bLx bLy bHx bHy at bo
  by_cases k4 : k = 4
  · rw [if_pos k4, if_pos k4]
    subst k4
    exact rgD_self (bounds_vert hc).1
  · simp only [if_neg k4] at bo ⊢
    have := (boxB_iff.1 bo).2
    rw [meV_iff bo bo]
    omega
theorem cmpD_le {va da vb db : Nat} (h1 : da ≠ 0) (h2 : db ≠ 0) (h : va * db ≤ vb * da) : cmpD va da vb db ≤ 0 := by
  unfold cmpD cmpN
  rw [if_neg h1, if_neg h2]
  split
  · omega
  · rw [if_neg (by omega)]; omega
theorem z_cmp {px py : Int} (hc : objC k n X Y = 0) (hp : nearB px py = true) : cmpD (distZ (bLx k n X) (bLy k n Y) (bHx k n X Y) (bHy k n Y) px py).toNat 1 (diA k n X Y px py).1 (diA k n X Y px py).2 ≤ 0 := by
  unfold diA bLx bLy bHx bHy
  by_cases k4 : k = 4
  · simp only [if_pos k4]
    subst k4
    have g := fa_ge (bounds_vert hc).1 hp
    exact cmpD_le (by decide) (by omega) (by omega)
  · simp only [if_neg k4]
    exact cmpD_le (by decide) (by decide) (Nat.le_refl _)
theorem z_fit {px py : Int} (hc : objC k n X Y = 0) (hp : nearB px py = true) : Fit3 (diA k n X Y px py) := by
  have bo := bx_ok hc
  unfold diA
  unfold bLx bLy bHx bHy at bo
  by_cases k4 : k = 4
  · rw [if_pos k4]
    unfold faP
    split
    · exact ⟨by decide, by decide⟩
    · exact faW_fit _ _ _ _ _ _
  · simp only [if_neg k4] at bo ⊢
    have hz := distZ_lt bo hp
    unfold Fit3
    exact ⟨by show _ < _; simp only []; omega, by show (1 : Nat) < _; decide⟩
end
theorem eqD01 (a b c : Nat) (z : Bool) (hz : z = true ↔ a = 0 ∧ b = 0 ∧ c = 1) (w : World) : (binOp .eql 42 (.agg #[.int .u64 a, .int .u64 b, .int .u64 c]) (.agg #[.int .u64 0, .int .u64 0, .int .u64 1])).run Tryz.prog w = .ok (.bool z) w := by
  by_cases ha : a = 0
  · by_cases hb : b = 0
    · by_cases hc : c = 1
      · obtain rfl : z = true := hz.2 ⟨ha, hb, hc⟩
        subst ha hb hc
        simp [go_sem]
      · obtain rfl : z = false := by
          cases z
          · rfl
          · exact absurd (hz.1 rfl).2.2 hc
        have : ¬ ((c : Int) = 1) := by omega
        subst ha hb
        simp [go_sem, this]
    · obtain rfl : z = false := by
        cases z
        · rfl
        · exact absurd (hz.1 rfl).2.1 hb
      have : ¬ ((b : Int) = 0) := by omega
      subst ha
      simp [go_sem, hb]
  · obtain rfl : z = false := by
      cases z
      · rfl
      · exact absurd (hz.1 rfl).1 ha
    have : ¬ ((a : Int) = 0) := by omega
    simp [go_sem, ha]
set_option maxHeartbeats 4000000 in
set_option maxRecDepth 100000 in
theorem zero_no {n cap c : Nat} {ad : Option Addr} (k px py r1 r2 r3 r4 : Int) (t q : Bool) (W : World) (hc : t = false ∨ (t = true ∧ q = false) ∨ (t = true ∧ q = true ∧ c ≠ 0))
    (A1 : ∀ w, Gr W w → Calls Tryz.prog 23 #[.agg #[.int .i64 k, .slice ad n cap]] w fun e w' => e = .returned (.bool t) ∧ Gr w w')
    (A2 : ∀ w, Calls Tryz.prog 24 #[.agg #[.int .i64 px, .int .i64 py]] w fun e w' => e = .returned (.bool q) ∧ Gr w w')
    (A3 : ∀ w, Calls Tryz.prog 25 #[.agg #[.int .i64 r1, .int .i64 r2, .int .i64 r3, .int .i64 r4]] w fun e w' => e = .returned (.int .i64 (c : Nat)) ∧ Gr w w')
    (A8 : ∀ w, Gr W w → Calls Tryz.prog 9 #[] w fun e w' => e = .returned (.bool true) ∧ Gr w w') :
    Calls Tryz.prog 5 #[.agg #[.int .i64 k, .slice ad n cap], .agg #[.int .i64 px, .int .i64 py], .agg #[.int .i64 r1, .int .i64 r2, .int .i64 r3, .int .i64 r4]] W fun e w' => e = .returned (.bool true) ∧ Gr W w' := by
  have H1 := Lib.hid A1
  have H2 := Lib.hid A2
  have H3 := Lib.hid A3
  have H8 := Lib.hid A8
  clear A1 A2 A3 A8
  rcases hc with rfl | ⟨rfl, rfl⟩ | ⟨rfl, rfl, h⟩
  · go_enter Tryz.func5, Tryz.ntmps5
    go_wp2_with fail
    go_at_call 23
    refine ((H1.out _ (by go_grown))).mono ?_
    rintro e w1 ⟨rfl, hw1⟩
    have gw1 : Gr W w1 := Gr.trans (by go_grown) hw1
    clear hw1
    go_wp2_with fail
    go_at_call 9
    refine ((H8.out _ gw1)).mono ?_
    rintro e w2 ⟨rfl, hw2⟩
    have gw2 : Gr W w2 := Gr.trans (by have gg := gw1; have gs := gg.size; go_grown) hw2
    clear hw2 gw1
    go_wp2_with fail
    go_ret
    exact ⟨rfl, gw2⟩
  · go_enter Tryz.func5, Tryz.ntmps5
    go_wp2_with fail
    go_at_call 23
    refine ((H1.out _ (by go_grown))).mono ?_
    rintro e w1 ⟨rfl, hw1⟩
    have cw1_1_0 := ci hw1 (W.heap.size + 1) 0 px (by go_simp)
    have cw1_1_1 := ci hw1 (W.heap.size + 1) 1 py (by go_simp)
    have gw1 : Gr W w1 := Gr.trans (by go_grown) hw1
    clear hw1
    go_wp2_with fail
    go_at_call 24
    refine ((H2.out _)).mono ?_
    rintro e w2 ⟨rfl, hw2⟩
    have gw2 : Gr W w2 := Gr.trans (by have gg := gw1; have gs := gg.size; go_grown) hw2
    clear hw2 gw1 cw1_1_0 cw1_1_1
    go_wp2_with fail
    go_at_call 9
    refine ((H8.out _ gw2)).mono ?_
    rintro e w3 ⟨rfl, hw3⟩
    have gw3 : Gr W w3 := Gr.trans (by have gg := gw2; have gs := gg.size; go_grown) hw3
    clear hw3 gw2
    go_wp2_with fail
    go_ret
    exact ⟨rfl, gw3⟩
  · have e1 : ((c : Int) != 0) = true := by simp; omega
    have e2 : (c != 0) = true := by simp; omega
    clear h
    go_enter Tryz.func5, Tryz.ntmps5
    go_wp2_with fail
    go_at_call 23
    refine ((H1.out _ (by go_grown))).mono ?_
    rintro e w1 ⟨rfl, hw1⟩
    have cw1_1_0 := ci hw1 (W.heap.size + 1) 0 px (by go_simp)
    have cw1_1_1 := ci hw1 (W.heap.size + 1) 1 py (by go_simp)
    have cw1_2_0 := ci hw1 (W.heap.size + 1 + 1) 0 r1 (by go_simp)
    have cw1_2_1 := ci hw1 (W.heap.size + 1 + 1) 1 r2 (by go_simp)
    have cw1_2_2 := ci hw1 (W.heap.size + 1 + 1) 2 r3 (by go_simp)
    have cw1_2_3 := ci hw1 (W.heap.size + 1 + 1) 3 r4 (by go_simp)
    have gw1 : Gr W w1 := Gr.trans (by go_grown) hw1
    clear hw1
    go_wp2_with fail
    go_at_call 24
    refine ((H2.out _)).mono ?_
    rintro e w2 ⟨rfl, hw2⟩
    have cw2_2_0 := ci hw2 (W.heap.size + 1 + 1) 0 r1 (by go_simp)
    have cw2_2_1 := ci hw2 (W.heap.size + 1 + 1) 1 r2 (by go_simp)
    have cw2_2_2 := ci hw2 (W.heap.size + 1 + 1) 2 r3 (by go_simp)
    have cw2_2_3 := ci hw2 (W.heap.size + 1 + 1) 3 r4 (by go_simp)
    have gw2 : Gr W w2 := Gr.trans (by have gg := gw1; have gs := gg.size; go_grown) hw2
    clear hw2 gw1 cw1_1_0 cw1_1_1 cw1_2_0 cw1_2_1 cw1_2_2 cw1_2_3
    go_wp2_with fail
    go_at_call 25
    refine ((H3.out _)).mono ?_
    rintro e w3 ⟨rfl, hw3⟩
    have gw3 : Gr W w3 := Gr.trans (by have gg := gw2; have gs := gg.size; go_grown) hw3
    clear hw3 gw2 cw2_2_0 cw2_2_1 cw2_2_2 cw2_2_3
    go_wp2_with fail
    go_at_call 9
    refine ((H8.out _ gw3)).mono ?_
    rintro e w4 ⟨rfl, hw4⟩
    have gw4 : Gr W w4 := Gr.trans (by have gg := gw3; have gs := gg.size; go_grown) hw4
    clear hw4 gw3
    go_wp2_with fail
    go_ret
    exact ⟨rfl, gw4⟩
theorem walk_RelZero (W : World) (k : Int) (v : Value) (px py r1 r2 r3 r4 : Int) (h : (-9223372036854775808 ≤ k ∧ k ≤ 9223372036854775807) ∧ ∃ (n : Nat) (X Y : Nat → Int), Pts W v n X Y) {p1 p2 : Prop} (_ : p1) (_ : p2) (hE : ErrT W) :
    Calls Tryz.prog 5 #[.agg #[.int .i64 k, v], .agg #[.int .i64 px, .int .i64 py], .agg #[.int .i64 r1, .int .i64 r2, .int .i64 r3, .int .i64 r4]] W fun e w' => e = .returned (.bool true) ∧ Gr W w' := by
  obtain ⟨-, n, X, Y, h⟩ := h
  have hh := h
  have B4 : ∀ w, Gr W w → Calls Tryz.prog 9 #[] w fun e w' => e = .returned (.bool true) ∧ Gr w w' := fun w g => p6_awake w (errT_gr hE g)
  have A1 := fun w (g : Gr W w) => c_May6 k w (pts_gr h g)
  have A2 := c_rPoint px py
  have A3 := fun w => c_rCheckBox r1 r2 r3 r4 w
  rw [boxN_code] at A3
  by_cases hc : objC k n X Y = 0
  · cases hp : nearB px py
    · rw [hp] at A2
      rw [decide_eq_true hc] at A1
      obtain ⟨ad, cap, _, _, rfl, -⟩ := h
      exact zero_no k px py r1 r2 r3 r4 true false W (Or.inr (Or.inl ⟨rfl, rfl⟩)) A1 A2 A3 B4
    by_cases hr : boxN r1 r2 r3 r4 = 0
    · rw [hp] at A2
      rw [decide_eq_true hc] at A1
      rw [hr] at A3
      replace hr := boxN_0.1 hr
      have bo := bx_ok hc
      have hz : Pts W (.slice none 0 0) 0 (fun _ => 0) (fun _ => 0) := nil_pts W
      have M1 := fun w (g : Gr W w) => c_MatchAny (k := k) 3 px py 0 0 w (errT_gr hE g) (pts_gr h g) hc (pts_gr hz g) (qC_3' hp)
      have M2 := fun w (g : Gr W w) => c_MatchAny (k := k) 2 r1 r2 r3 r4 w (errT_gr hE g) (pts_gr h g) hc (pts_gr hz g) (qC_b (Or.inr rfl) hr)
      have M3 := fun w (g : Gr W w) => c_MatchAny (k := k) 1 r1 r2 r3 r4 w (errT_gr hE g) (pts_gr h g) hc (pts_gr hz g) (qC_b (Or.inl rfl) hr)
      have A4 := fun w (g : Gr W w) => c_BoundsOk w (pts_gr h g) hc
      have A5 := fun w (g : Gr W w) => c_DistAny (k := k) px py w (errT_gr hE g) (pts_gr h g) hc hp
      have A6 := fun w => c_rBoxInside (bLx k n X) (bLy k n Y) (bHx k n X Y) (bHy k n Y) r1 r2 r3 r4 w
      have A7 := fun w => c_rBoxMeets (bLx k n X) (bLy k n Y) (bHx k n X Y) (bHy k n Y) r1 r2 r3 r4 w
      have A8 := fun w => c_rBoxHas r1 r2 r3 r4 px py w
      have A9 := fun w (g : Gr W w) => c_TouchAny (k := k) (j := k) w (errT_gr hE g) (pts_gr h g) (pts_gr h g)
      rw [decide_eq_true hc, Bool.true_and, Bool.true_and, z_touch hc] at A9
      have hn : n ≤ 64 := (objC_near6 hc).2.2.1
      have B1 := fun w (g : Gr W w) => c_Same (k := k) (j := k) true w (pts_gr h g) (pts_gr h g) (by omega) (iff_of_true rfl ⟨rfl, rfl, fun _ _ => ⟨rfl, rfl⟩⟩)
      have dz := distZ_lt bo hp
      have B2 := fun w => c_rBoxDist (bLx k n X) (bLy k n Y) (bHx k n X Y) (bHy k n Y) px py ⟨bo, hp⟩ (distZ (bLx k n X) (bLy k n Y) (bHx k n X Y) (bHy k n Y) px py).toNat (by omega) w
      have B3 := fun w => c_rcmpP (diA k n X Y px py) ((distZ (bLx k n X) (bLy k n Y) (bHx k n X Y) (bHy k n Y) px py).toNat, 1) (z_fit hc hp) ⟨by show _ < _; simp only []; omega, by show (1 : Nat) < _; decide⟩ w
      have e : dV ((distZ (bLx k n X) (bLy k n Y) (bHx k n X Y) (bHy k n Y) px py).toNat, 1) = .agg #[.int .u64 0, .int .u64 ((distZ (bLx k n X) (bLy k n Y) (bHx k n X Y) (bHy k n Y) px py).toNat : Nat), .int .u64 1] := by
        unfold dV
        show Value.agg #[.int .u64 (((distZ (bLx k n X) (bLy k n Y) (bHx k n X Y) (bHy k n Y) px py).toNat / 18446744073709551616 : Nat) : Int), .int .u64 (((distZ (bLx k n X) (bLy k n Y) (bHx k n X Y) (bHy k n Y) px py).toNat % 18446744073709551616 : Nat) : Int), .int .u64 1] = _
        rw [Nat.div_eq_of_lt (by omega), Nat.mod_eq_of_lt (by omega)]
        rfl
      rw [e] at B3
      have f1 := z_in hc hr
      have f2 := z_me hc hr
      rw [meV_m] at f2
      have f3 : maA k n X Y 3 px py 0 0 0 (fun _ => 0) (fun _ => 0) = true → (boxB r1 r2 r3 r4 && nearB px py && inB r1 r2 r3 r4 px py) = true → maA k n X Y 1 r1 r2 r3 r4 0 (fun _ => 0) (fun _ => 0) = true := fun a b => by
        rw [Bool.and_eq_true, inB_P] at b
        have := b.2
        unfold inP at this
        exact z_has hc hr hp a (by omega)
      have zd := z_dist (n := n) (X := X) (Y := Y) hc hp
      have zc := z_cmp (n := n) (X := X) (Y := Y) hc hp
      rw [za2] at M2 f1
      unfold inV at M2 f1
      unfold dV at A5 B3
      generalize diA k n X Y px py = D at A5 B3 zd zc
      obtain ⟨N, Dn⟩ := D
      dsimp only at A5 B3 zd zc
      obtain ⟨ad, cap, _, _, rfl, -⟩ := h
      refine zero_core k px py r1 r2 r3 r4 _ _ _ _ _ _ _ _ _ _ _ _ _ _ W f1 f2 f3 zc (eqD01 _ _ _ _ ?_) A1 A2 A3 M1 M2 M3 A4 A5 A6 A7 A8 A9 B1 B2 B3 B4
      rw [← zd, Prod.mk.injEq]
      constructor
      · rintro ⟨rfl, rfl⟩; exact ⟨rfl, rfl, rfl⟩
      · rintro ⟨g1, g2, g3⟩; exact ⟨by omega, g3⟩
    · rw [hp] at A2
      rw [decide_eq_true hc] at A1
      obtain ⟨ad, cap, _, _, rfl, -⟩ := h
      exact zero_no k px py r1 r2 r3 r4 true true W (Or.inr (Or.inr ⟨rfl, rfl, hr⟩)) A1 A2 A3 B4
  · rw [decide_eq_false hc] at A1
    obtain ⟨ad, cap, _, _, rfl, -⟩ := h
    exact zero_no k px py r1 r2 r3 r4 false _ W (Or.inl rfl) A1 A2 A3 B4
end Go.Proofs.YtfobmlgpjhghdaaGreatDoor
namespace Go.Proofs.YtfobmlgpjhghdaaGreatDoor.Qs
open Go.ChangeShapes Go.WideShapes
theorem laid : laidOutB Tryz.prog = true := by kernel_rfl
theorem laidP : laidOutB Tryz.pinned.checked.prog = true := laid
theorem maps : mapsRowed Tryz.pinned.checked.prog = true := by kernel_rfl
end Go.Proofs.YtfobmlgpjhghdaaGreatDoor.Qs
