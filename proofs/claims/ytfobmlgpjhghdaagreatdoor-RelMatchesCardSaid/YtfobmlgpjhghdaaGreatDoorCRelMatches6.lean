/- What RelMatches leans on: Ij Ob Ud Ik Qs -/
import Derived.Test.YtfobmlgpjhghdaaGreatDoorCRelMatches5
import Derived.Lib.SmallJoins
import Derived.Test.YtfobmlgpjhghdaaGreatDoorRows
import Derived.JoinedCond
import Derived.ProofKit
namespace Go.Proofs.YtfobmlgpjhghdaaGreatDoor
set_option linter.unusedVariables false
set_option linter.unusedSimpArgs false
open Go.ChangeShapes Go.WideShapes Go.ChangeAt Go.RowKit
theorem c_rsdG (ax ay bx by' px py : Int) (W : World) : Calls Tryz.prog 48 #[.agg #[.int .i64 ax, .int .i64 ay], .agg #[.int .i64 bx, .int .i64 by'], .agg #[.int .i64 px, .int .i64 py]] W fun e w' => e = .returned (dV (sdG ax ay bx by' px py)) ∧ Gr W w' := by
  unfold sdG
  by_cases h : (nearB ax ay && nearB bx by' && nearB px py) = true
  · rw [if_pos h]; exact c_rSegDist ax ay bx by' px py h W
  · rw [if_neg h]; exact c_rSegDist_no ax ay bx by' px py (by simpa using h) W
theorem c_rcmpP (s d : Nat × Nat) (h : Fit3 s) (k : Fit3 d) (w : World) : Calls Tryz.prog 29 #[dV d, dV s] w fun e w' => e = .returned (.int .i64 (cmpD d.1 d.2 s.1 s.2)) ∧ Gr w w' := by
  have hs := val_split s.1 h.1
  have hd := val_split d.1 k.1
  have C := c_rCompareDist (d.1 / 18446744073709551616) (d.1 % 18446744073709551616) d.2 (s.1 / 18446744073709551616) (s.1 % 18446744073709551616) s.2 hd.2.1 hd.2.2 k.2 hs.2.1 hs.2.2 h.2 w
  rw [hs.1, hd.1] at C
  exact C
section
variable {k : Int} {n cap : Nat} {ad : Option Addr}
set_option maxHeartbeats 4000000 in
set_option maxRecDepth 100000 in
theorem rdist_no (px py m1 m2 m3 m4 : Int) (c : Nat) (q : Bool) (W : World) (hc : c ≠ 0 ∨ (c = 0 ∧ q = false))
    (A1 : ∀ w, Gr W w → Calls Tryz.prog 11 #[.agg #[.int .i64 k, .slice ad n cap]] w fun e w' => e = .returned (.tuple #[.agg #[.int .i64 m1, .int .i64 m2, .int .i64 m3, .int .i64 m4], .int .i64 (c : Nat)]) ∧ Gr w w')
    (A2 : ∀ w, Calls Tryz.prog 24 #[.agg #[.int .i64 px, .int .i64 py]] w fun e w' => e = .returned (.bool q) ∧ Gr w w') :
    Calls Tryz.prog 16 #[.agg #[.int .i64 k, .slice ad n cap], .agg #[.int .i64 px, .int .i64 py]] W fun e w' => e = .returned (.agg #[.int .u64 0, .int .u64 0, .int .u64 0]) ∧ Gr W w' := by
  have H1 := Lib.hid A1
  have H2 := Lib.hid A2
  clear A1 A2
  rcases hc with h | ⟨rfl, rfl⟩
  · have e1 : ((c : Int) != 0) = true := by simp; omega
    have e2 : (c != 0) = true := by simp; omega
    clear h
    go_enter Tryz.func16, Tryz.ntmps16
    go_wp2_with fail
    go_at_call 11
    refine ((H1.out _ (by go_grown))).mono ?_
    rintro e w1 ⟨rfl, hw1⟩
    have cw1_1_0 := ci hw1 (W.heap.size + 1) 0 px (by go_simp)
    have cw1_1_1 := ci hw1 (W.heap.size + 1) 1 py (by go_simp)
    have zw1_1 := zb cw1_1_0
    have cw1_2_0 := cu hw1 (W.heap.size + 1 + 1) 0 0 (by go_simp)
    have fw1_2_0 := fq hw1 (W.heap.size + 1 + 1) 0 (.int .u64 0) (by go_simp) (by go_simp)
    have cw1_2_1 := cu hw1 (W.heap.size + 1 + 1) 1 0 (by go_simp)
    have fw1_2_1 := fq hw1 (W.heap.size + 1 + 1) 1 (.int .u64 0) (by go_simp) (by go_simp)
    have cw1_2_2 := cu hw1 (W.heap.size + 1 + 1) 2 0 (by go_simp)
    have fw1_2_2 := fq hw1 (W.heap.size + 1 + 1) 2 (.int .u64 0) (by go_simp) (by go_simp)
    have zw1_2 := zb cw1_2_0
    have gw1 : Gr W w1 := Gr.trans (by go_grown) hw1
    clear hw1
    have GS := gw1.size
    go_wp2_with fail
    refine bodyPost_ret (v := .agg #[.int .u64 0, .int .u64 0, .int .u64 0]) (by simp [results, Tryz.results16, go_sem, *]) rfl ⟨rfl, by go_grown⟩
  · go_enter Tryz.func16, Tryz.ntmps16
    go_wp2_with fail
    go_at_call 11
    refine ((H1.out _ (by go_grown))).mono ?_
    rintro e w1 ⟨rfl, hw1⟩
    have cw1_1_0 := ci hw1 (W.heap.size + 1) 0 px (by go_simp)
    have cw1_1_1 := ci hw1 (W.heap.size + 1) 1 py (by go_simp)
    have zw1_1 := zb cw1_1_0
    have cw1_2_0 := cu hw1 (W.heap.size + 1 + 1) 0 0 (by go_simp)
    have fw1_2_0 := fq hw1 (W.heap.size + 1 + 1) 0 (.int .u64 0) (by go_simp) (by go_simp)
    have cw1_2_1 := cu hw1 (W.heap.size + 1 + 1) 1 0 (by go_simp)
    have fw1_2_1 := fq hw1 (W.heap.size + 1 + 1) 1 (.int .u64 0) (by go_simp) (by go_simp)
    have cw1_2_2 := cu hw1 (W.heap.size + 1 + 1) 2 0 (by go_simp)
    have fw1_2_2 := fq hw1 (W.heap.size + 1 + 1) 2 (.int .u64 0) (by go_simp) (by go_simp)
    have zw1_2 := zb cw1_2_0
    have gw1 : Gr W w1 := Gr.trans (by go_grown) hw1
    clear hw1
    go_wp2_with fail
    go_at_call 24
    refine ((H2.out _)).mono ?_
    rintro e w2 ⟨rfl, hw2⟩
    have cw2_2_0 := cu hw2 (W.heap.size + 1 + 1) 0 0 (by go_simp)
    have fw2_2_0 := fq hw2 (W.heap.size + 1 + 1) 0 (.int .u64 0) (by go_simp) (by go_simp)
    have cw2_2_1 := cu hw2 (W.heap.size + 1 + 1) 1 0 (by go_simp)
    have fw2_2_1 := fq hw2 (W.heap.size + 1 + 1) 1 (.int .u64 0) (by go_simp) (by go_simp)
    have cw2_2_2 := cu hw2 (W.heap.size + 1 + 1) 2 0 (by go_simp)
    have fw2_2_2 := fq hw2 (W.heap.size + 1 + 1) 2 (.int .u64 0) (by go_simp) (by go_simp)
    have gw2 : Gr W w2 := Gr.trans (by have gg := gw1; have gs := gg.size; go_grown) hw2
    clear hw2 gw1 zw1_1 cw1_1_0 cw1_1_1 zw1_2 cw1_2_0 fw1_2_0 cw1_2_1 fw1_2_1 cw1_2_2 fw1_2_2
    have GS := gw2.size
    go_wp2_with fail
    refine bodyPost_ret (v := .agg #[.int .u64 0, .int .u64 0, .int .u64 0]) (by simp [results, Tryz.results16, go_sem, *]) rfl ⟨rfl, by go_grown⟩
set_option maxHeartbeats 4000000 in
set_option maxRecDepth 100000 in
theorem rdist_box (px py m1 m2 m3 m4 : Int) (s : Nat) (W : World) (hk : k ≠ 4)
    (A1 : ∀ w, Gr W w → Calls Tryz.prog 11 #[.agg #[.int .i64 k, .slice ad n cap]] w fun e w' => e = .returned (.tuple #[.agg #[.int .i64 m1, .int .i64 m2, .int .i64 m3, .int .i64 m4], .int .i64 0]) ∧ Gr w w')
    (A2 : ∀ w, Calls Tryz.prog 24 #[.agg #[.int .i64 px, .int .i64 py]] w fun e w' => e = .returned (.bool true) ∧ Gr w w')
    (A3 : ∀ w, Calls Tryz.prog 30 #[.agg #[.int .i64 m1, .int .i64 m2, .int .i64 m3, .int .i64 m4], .agg #[.int .i64 px, .int .i64 py]] w fun e w' => e = .returned (.agg #[.int .u64 0, .int .u64 s, .int .u64 1]) ∧ Gr w w') :
    Calls Tryz.prog 16 #[.agg #[.int .i64 k, .slice ad n cap], .agg #[.int .i64 px, .int .i64 py]] W fun e w' => e = .returned (.agg #[.int .u64 0, .int .u64 s, .int .u64 1]) ∧ Gr W w' := by
  have b4 : (k != 4) = true := by simp; omega
  have H1 := Lib.hid A1
  have H2 := Lib.hid A2
  have H3 := Lib.hid A3
  clear A1 A2 A3
  clear hk
  go_enter Tryz.func16, Tryz.ntmps16
  go_wp2_with fail
  go_at_call 11
  refine ((H1.out _ (by go_grown))).mono ?_
  rintro e w1 ⟨rfl, hw1⟩
  have cw1_0_0 := ci hw1 (W.heap.size) 0 k (by go_simp)
  have zw1_0 := zb cw1_0_0
  have cw1_1_0 := ci hw1 (W.heap.size + 1) 0 px (by go_simp)
  have cw1_1_1 := ci hw1 (W.heap.size + 1) 1 py (by go_simp)
  have zw1_1 := zb cw1_1_0
  have cw1_2_0 := cu hw1 (W.heap.size + 1 + 1) 0 0 (by go_simp)
  have fw1_2_0 := fq hw1 (W.heap.size + 1 + 1) 0 (.int .u64 0) (by go_simp) (by go_simp)
  have cw1_2_1 := cu hw1 (W.heap.size + 1 + 1) 1 0 (by go_simp)
  have fw1_2_1 := fq hw1 (W.heap.size + 1 + 1) 1 (.int .u64 0) (by go_simp) (by go_simp)
  have cw1_2_2 := cu hw1 (W.heap.size + 1 + 1) 2 0 (by go_simp)
  have fw1_2_2 := fq hw1 (W.heap.size + 1 + 1) 2 (.int .u64 0) (by go_simp) (by go_simp)
  have zw1_2 := zb cw1_2_0
  have gw1 : Gr W w1 := Gr.trans (by go_grown) hw1
  clear hw1
  go_wp2_with fail
  go_at_call 24
  refine ((H2.out _)).mono ?_
  rintro e w2 ⟨rfl, hw2⟩
  have cw2_0_0 := ci hw2 (W.heap.size) 0 k (by go_simp)
  have cw2_1_0 := ci hw2 (W.heap.size + 1) 0 px (by go_simp)
  have cw2_1_1 := ci hw2 (W.heap.size + 1) 1 py (by go_simp)
  have cw2_2_0 := cu hw2 (W.heap.size + 1 + 1) 0 0 (by go_simp)
  have fw2_2_0 := fq hw2 (W.heap.size + 1 + 1) 0 (.int .u64 0) (by go_simp) (by go_simp)
  have cw2_2_1 := cu hw2 (W.heap.size + 1 + 1) 1 0 (by go_simp)
  have fw2_2_1 := fq hw2 (W.heap.size + 1 + 1) 1 (.int .u64 0) (by go_simp) (by go_simp)
  have cw2_2_2 := cu hw2 (W.heap.size + 1 + 1) 2 0 (by go_simp)
  have fw2_2_2 := fq hw2 (W.heap.size + 1 + 1) 2 (.int .u64 0) (by go_simp) (by go_simp)
  have cw2_3_0 := ci hw2 (w1.heap.size) 0 m1 (by go_simp)
  have cw2_3_1 := ci hw2 (w1.heap.size) 1 m2 (by go_simp)
  have cw2_3_2 := ci hw2 (w1.heap.size) 2 m3 (by go_simp)
  have cw2_3_3 := ci hw2 (w1.heap.size) 3 m4 (by go_simp)
  have gw2 : Gr W w2 := Gr.trans (by have gg := gw1; have gs := gg.size; go_grown) hw2
  clear hw2 gw1 zw1_0 cw1_0_0 zw1_1 cw1_1_0 cw1_1_1 zw1_2 cw1_2_0 fw1_2_0 cw1_2_1 fw1_2_1 cw1_2_2 fw1_2_2
  go_wp2_with fail
  go_at_call 30
  refine ((H3.out _)).mono ?_
  rintro e w3 ⟨rfl, hw3⟩
  have cw3_2_0 := cu hw3 (W.heap.size + 1 + 1) 0 0 (by go_simp)
  have fw3_2_0 := fq hw3 (W.heap.size + 1 + 1) 0 (.int .u64 0) (by go_simp) (by go_simp)
  have cw3_2_1 := cu hw3 (W.heap.size + 1 + 1) 1 0 (by go_simp)
  have fw3_2_1 := fq hw3 (W.heap.size + 1 + 1) 1 (.int .u64 0) (by go_simp) (by go_simp)
  have cw3_2_2 := cu hw3 (W.heap.size + 1 + 1) 2 0 (by go_simp)
  have fw3_2_2 := fq hw3 (W.heap.size + 1 + 1) 2 (.int .u64 0) (by go_simp) (by go_simp)
  have gw3 : Gr W w3 := Gr.trans (by have gg := gw2; have gs := gg.size; go_grown) hw3
  clear hw3 gw2 cw2_0_0 cw2_1_0 cw2_1_1 cw2_2_0 fw2_2_0 cw2_2_1 fw2_2_1 cw2_2_2 fw2_2_2 cw2_3_0 cw2_3_1 cw2_3_2 cw2_3_3
  have GS := gw3.size
  go_wp2_with fail
  refine bodyPost_ret (v := .agg #[.int .u64 0, .int .u64 s, .int .u64 1]) (by simp [results, Tryz.results16, go_sem, *]) rfl ⟨rfl, by go_grown⟩
set_option maxHeartbeats 4000000 in
set_option maxRecDepth 100000 in
theorem rdist_in (px py m1 m2 m3 m4 : Int) (W : World)
    (A1 : ∀ w, Gr W w → Calls Tryz.prog 11 #[.agg #[.int .i64 4, .slice ad n cap]] w fun e w' => e = .returned (.tuple #[.agg #[.int .i64 m1, .int .i64 m2, .int .i64 m3, .int .i64 m4], .int .i64 0]) ∧ Gr w w')
    (A2 : ∀ w, Calls Tryz.prog 24 #[.agg #[.int .i64 px, .int .i64 py]] w fun e w' => e = .returned (.bool true) ∧ Gr w w')
    (A3 : ∀ w, Gr W w → Calls Tryz.prog 47 #[.slice ad n cap, .agg #[.int .i64 px, .int .i64 py]] w fun e w' => e = .returned (.bool true) ∧ Gr w w') :
    Calls Tryz.prog 16 #[.agg #[.int .i64 4, .slice ad n cap], .agg #[.int .i64 px, .int .i64 py]] W fun e w' => e = .returned (.agg #[.int .u64 0, .int .u64 0, .int .u64 1]) ∧ Gr W w' := by
  have H1 := Lib.hid A1
  have H2 := Lib.hid A2
  have H3 := Lib.hid A3
  clear A1 A2 A3
  go_enter Tryz.func16, Tryz.ntmps16
  go_wp2_with fail
  go_at_call 11
  refine ((H1.out _ (by go_grown))).mono ?_
  rintro e w1 ⟨rfl, hw1⟩
  have cw1_0_0 := ci hw1 (W.heap.size) 0 4 (by go_simp)
  have cw1_0_1 := cg hw1 (W.heap.size) 1 (.slice ad n cap) (by go_simp)
  have zw1_0 := zb cw1_0_0
  have cw1_1_0 := ci hw1 (W.heap.size + 1) 0 px (by go_simp)
  have cw1_1_1 := ci hw1 (W.heap.size + 1) 1 py (by go_simp)
  have zw1_1 := zb cw1_1_0
  have cw1_2_0 := cu hw1 (W.heap.size + 1 + 1) 0 0 (by go_simp)
  have fw1_2_0 := fq hw1 (W.heap.size + 1 + 1) 0 (.int .u64 0) (by go_simp) (by go_simp)
  have cw1_2_1 := cu hw1 (W.heap.size + 1 + 1) 1 0 (by go_simp)
  have fw1_2_1 := fq hw1 (W.heap.size + 1 + 1) 1 (.int .u64 0) (by go_simp) (by go_simp)
  have cw1_2_2 := cu hw1 (W.heap.size + 1 + 1) 2 0 (by go_simp)
  have fw1_2_2 := fq hw1 (W.heap.size + 1 + 1) 2 (.int .u64 0) (by go_simp) (by go_simp)
  have zw1_2 := zb cw1_2_0
  have gw1 : Gr W w1 := Gr.trans (by go_grown) hw1
  clear hw1
  go_wp2_with fail
  go_at_call 24
  refine ((H2.out _)).mono ?_
  rintro e w2 ⟨rfl, hw2⟩
  have cw2_0_0 := ci hw2 (W.heap.size) 0 4 (by go_simp)
  have cw2_0_1 := cg hw2 (W.heap.size) 1 (.slice ad n cap) (by go_simp)
  have cw2_1_0 := ci hw2 (W.heap.size + 1) 0 px (by go_simp)
  have cw2_1_1 := ci hw2 (W.heap.size + 1) 1 py (by go_simp)
  have cw2_2_0 := cu hw2 (W.heap.size + 1 + 1) 0 0 (by go_simp)
  have fw2_2_0 := fq hw2 (W.heap.size + 1 + 1) 0 (.int .u64 0) (by go_simp) (by go_simp)
  have cw2_2_1 := cu hw2 (W.heap.size + 1 + 1) 1 0 (by go_simp)
  have fw2_2_1 := fq hw2 (W.heap.size + 1 + 1) 1 (.int .u64 0) (by go_simp) (by go_simp)
  have cw2_2_2 := cu hw2 (W.heap.size + 1 + 1) 2 0 (by go_simp)
  have fw2_2_2 := fq hw2 (W.heap.size + 1 + 1) 2 (.int .u64 0) (by go_simp) (by go_simp)
  have gw2 : Gr W w2 := Gr.trans (by have gg := gw1; have gs := gg.size; go_grown) hw2
  clear hw2 gw1 zw1_0 cw1_0_0 cw1_0_1 zw1_1 cw1_1_0 cw1_1_1 zw1_2 cw1_2_0 fw1_2_0 cw1_2_1 fw1_2_1 cw1_2_2 fw1_2_2
  go_wp2_with fail
  go_at_call 47
  refine ((H3.out _ gw2)).mono ?_
  rintro e w3 ⟨rfl, hw3⟩
  have cw3_2_0 := cu hw3 (W.heap.size + 1 + 1) 0 0 (by go_simp)
  have fw3_2_0 := fq hw3 (W.heap.size + 1 + 1) 0 (.int .u64 0) (by go_simp) (by go_simp)
  have cw3_2_1 := cu hw3 (W.heap.size + 1 + 1) 1 0 (by go_simp)
  have fw3_2_1 := fq hw3 (W.heap.size + 1 + 1) 1 (.int .u64 0) (by go_simp) (by go_simp)
  have cw3_2_2 := cu hw3 (W.heap.size + 1 + 1) 2 0 (by go_simp)
  have fw3_2_2 := fq hw3 (W.heap.size + 1 + 1) 2 (.int .u64 0) (by go_simp) (by go_simp)
  have gw3 : Gr W w3 := Gr.trans (by have gg := gw2; have gs := gg.size; go_grown) hw3
  clear hw3 gw2 cw2_0_0 cw2_0_1 cw2_1_0 cw2_1_1 cw2_2_0 fw2_2_0 cw2_2_1 fw2_2_1 cw2_2_2 fw2_2_2
  have GS := gw3.size
  go_wp2_with fail
  refine bodyPost_ret (v := .agg #[.int .u64 0, .int .u64 0, .int .u64 1]) (by simp [results, Tryz.results16, go_sem, *]) rfl ⟨rfl, by go_grown⟩
end
theorem faW_fit (n : Nat) (X Y : Nat → Int) (px py : Int) : ∀ k, Fit3 (faW n X Y px py (List.range k)) := by
  intro k
  induction k with
  | zero => exact ⟨by show (0 : Nat) < _; decide, by show (0 : Nat) < _; decide⟩
  | succ k ih =>
    rw [List.range_succ, faW_snoc]
    exact faS_fit ih (sdG_fit _ _ _ _ _ _)
theorem faW_1 (n : Nat) (X Y : Nat → Int) (px py : Int) : faW n X Y px py (List.range 1) = faD n X Y px py 0 := rfl
theorem faW_den {n : Nat} {X Y : Nat → Int} {px py : Int} (h2 : ∀ k, k < n → nearB (X k) (Y k) = true) (hp : nearB px py = true) {i : Nat} (h1 : 1 ≤ i) (hi : i ≤ n) : (faW n X Y px py (List.range i)).2 ≠ 0 := by
  obtain ⟨k, hk, e⟩ := fa_pick (n := n) (X := X) (Y := Y) (px := px) (py := py) i h1
  rw [e, faD_near h2 hp (by omega)]
  have := sdD_pos (X k) (Y k) (X (Rg.nx1 n k)) (Y (Rg.nx1 n k)) px py
  show sdD _ _ _ _ _ _ ≠ 0
  omega
theorem faW_next {n : Nat} {X Y : Nat → Int} {px py : Int} (h2 : ∀ k, k < n → nearB (X k) (Y k) = true) (hp : nearB px py = true) {i : Nat} (h1 : 1 ≤ i) (hi : i < n) :
    faW n X Y px py (List.range (i + 1)) = if cmpD (faD n X Y px py i).1 (faD n X Y px py i).2 (faW n X Y px py (List.range i)).1 (faW n X Y px py (List.range i)).2 < 0 then faD n X Y px py i else faW n X Y px py (List.range i) := by
  rw [List.range_succ, faW_snoc]
  have hd := faW_den h2 hp h1 (by omega)
  unfold faS
  by_cases c : cmpD (faD n X Y px py i).1 (faD n X Y px py i).2 (faW n X Y px py (List.range i)).1 (faW n X Y px py (List.range i)).2 < 0
  · rw [if_pos c, if_pos (Or.inr c)]
  · rw [if_neg c, if_neg (by rintro (g | g); exact hd g; exact c g)]
set_option maxHeartbeats 8000000 in
set_option maxRecDepth 100000 in
theorem rdist_out {n B off cap : Nat} {X Y : Nat → Int} (px py m1 m2 m3 m4 : Int) (W : World) (hn0 : 2 ≤ n) (hn8 : n ≤ 64) (h2 : ∀ k, k < n → nearB (X k) (Y k) = true) (hp : nearB px py = true)
    (h4 : ∀ k, k < n → W.cell? ⟨B, off + k * 2, none⟩ = some (.int .i64 (X k)) ∧ W.cell? ⟨B, off + k * 2 + 1, none⟩ = some (.int .i64 (Y k)))
    (A1 : ∀ w, Gr W w → Calls Tryz.prog 11 #[.agg #[.int .i64 4, .slice (some ⟨B, off, none⟩) n cap]] w fun e w' => e = .returned (.tuple #[.agg #[.int .i64 m1, .int .i64 m2, .int .i64 m3, .int .i64 m4], .int .i64 0]) ∧ Gr w w')
    (A2 : ∀ w, Calls Tryz.prog 24 #[.agg #[.int .i64 px, .int .i64 py]] w fun e w' => e = .returned (.bool true) ∧ Gr w w')
    (A3 : ∀ w, Gr W w → Calls Tryz.prog 47 #[.slice (some ⟨B, off, none⟩) n cap, .agg #[.int .i64 px, .int .i64 py]] w fun e w' => e = .returned (.bool false) ∧ Gr w w') :
    Calls Tryz.prog 16 #[.agg #[.int .i64 4, .slice (some ⟨B, off, none⟩) n cap], .agg #[.int .i64 px, .int .i64 py]] W fun e w' => e = .returned (dV (faW n X Y px py (List.range n))) ∧ Gr W w' := by
  have H4 := Lib.hid h4
  have HN := Lib.hid (fun (i : Nat) (h1 : 1 ≤ i) (hi : i < n) => faW_next h2 hp h1 hi)
  obtain ⟨a0, a1⟩ := h4 0 (by omega)
  obtain ⟨b0, b1⟩ := h4 1 (by omega)
  rw [Nat.zero_mul, Nat.add_zero] at a0 a1
  rw [Nat.one_mul] at b0 b1
  have zB0 := zb a0
  have hn3 : (0 : Int) < n := by omega
  have hn4 : 0 < n := by omega
  have hn5 : (1 : Int) < n := by omega
  have hn6 : 1 < n := by omega
  have hn9 : (n : Int) ≤ 64 := by omega
  have nB1 : ¬ B = W.heap.size := by omega
  have nB2 : ¬ B = W.heap.size + 1 := by omega
  have nB3 : ¬ B = W.heap.size + 1 + 1 := by omega
  have nB4 : ¬ B = W.heap.size + 2 := by omega
  have C0 := c_rsdG (X 0) (Y 0) (X 1) (Y 1) px py
  have e0 : sdG (X 0) (Y 0) (X 1) (Y 1) px py = faW n X Y px py (List.range 1) := by
    rw [faW_1]; unfold faD
    rw [show Rg.nx1 n 0 = 1 by unfold Rg.nx1; rw [if_neg (by omega)]]
  rw [e0] at C0
  generalize X 0 = x0 at a0 C0
  generalize Y 0 = y0 at a1 C0
  generalize X 1 = x1 at b0 C0
  generalize Y 1 = y1 at b1 C0
  obtain ⟨s0, hs0⟩ : ∃ s, faW n X Y px py (List.range 1) = s := ⟨_, rfl⟩
  rw [hs0] at C0
  have HS0 := Lib.hid hs0
  unfold dV at C0
  obtain ⟨sh, esh⟩ : ∃ z : Nat, s0.1 / 18446744073709551616 = z := ⟨_, rfl⟩
  obtain ⟨sl, esl⟩ : ∃ z : Nat, s0.1 % 18446744073709551616 = z := ⟨_, rfl⟩
  obtain ⟨sd, esd⟩ : ∃ z : Nat, s0.2 = z := ⟨_, rfl⟩
  rw [esh, esl, esd] at C0
  have HE := Lib.hid (And.intro esh (And.intro esl esd))
  obtain ⟨F, hF⟩ : ∃ s, faW n X Y px py (List.range n) = s := ⟨_, rfl⟩
  rw [hF]
  have HF := Lib.hid hF
  have HFT := Lib.hid (fun i => faW_fit n X Y px py i)
  clear hF
  unfold dV
  obtain ⟨fh, efh⟩ : ∃ z : Nat, F.1 / 18446744073709551616 = z := ⟨_, rfl⟩
  obtain ⟨fl, efl⟩ : ∃ z : Nat, F.1 % 18446744073709551616 = z := ⟨_, rfl⟩
  obtain ⟨fd, efd⟩ : ∃ z : Nat, F.2 = z := ⟨_, rfl⟩
  rw [efh, efl, efd]
  have HFX := Lib.hid (And.intro efh (And.intro efl efd))
  clear efh efl efd
  have H1 := Lib.hid A1
  have H2 := Lib.hid A2
  have H3 := Lib.hid A3
  have H0 := Lib.hid C0
  clear A1 A2 A3 C0
  clear h4 e0 h2 hp esh esl esd hs0
  go_enter Tryz.func16, Tryz.ntmps16
  go_wp2_with fail
  go_at_call 11
  refine ((H1.out _ (by go_grown))).mono ?_
  rintro e w1 ⟨rfl, hw1⟩
  have cw1_0_0 := ci hw1 (W.heap.size) 0 4 (by go_simp)
  have cw1_0_1 := cg hw1 (W.heap.size) 1 (.slice (some ⟨B, off, none⟩) n cap) (by go_simp)
  have zw1_0 := zb cw1_0_0
  have cw1_1_0 := ci hw1 (W.heap.size + 1) 0 px (by go_simp)
  have cw1_1_1 := ci hw1 (W.heap.size + 1) 1 py (by go_simp)
  have zw1_1 := zb cw1_1_0
  have cw1_2_0 := cu hw1 (W.heap.size + 1 + 1) 0 0 (by go_simp)
  have fw1_2_0 := fq hw1 (W.heap.size + 1 + 1) 0 (.int .u64 0) (by go_simp) (by go_simp)
  have cw1_2_1 := cu hw1 (W.heap.size + 1 + 1) 1 0 (by go_simp)
  have fw1_2_1 := fq hw1 (W.heap.size + 1 + 1) 1 (.int .u64 0) (by go_simp) (by go_simp)
  have cw1_2_2 := cu hw1 (W.heap.size + 1 + 1) 2 0 (by go_simp)
  have fw1_2_2 := fq hw1 (W.heap.size + 1 + 1) 2 (.int .u64 0) (by go_simp) (by go_simp)
  have zw1_2 := zb cw1_2_0
  have gw1 : Gr W w1 := Gr.trans (by go_grown) hw1
  clear hw1
  go_wp2_with fail
  go_at_call 24
  refine ((H2.out _)).mono ?_
  rintro e w2 ⟨rfl, hw2⟩
  have cw2_0_0 := ci hw2 (W.heap.size) 0 4 (by go_simp)
  have cw2_0_1 := cg hw2 (W.heap.size) 1 (.slice (some ⟨B, off, none⟩) n cap) (by go_simp)
  have cw2_1_0 := ci hw2 (W.heap.size + 1) 0 px (by go_simp)
  have cw2_1_1 := ci hw2 (W.heap.size + 1) 1 py (by go_simp)
  have cw2_2_0 := cu hw2 (W.heap.size + 1 + 1) 0 0 (by go_simp)
  have fw2_2_0 := fq hw2 (W.heap.size + 1 + 1) 0 (.int .u64 0) (by go_simp) (by go_simp)
  have cw2_2_1 := cu hw2 (W.heap.size + 1 + 1) 1 0 (by go_simp)
  have fw2_2_1 := fq hw2 (W.heap.size + 1 + 1) 1 (.int .u64 0) (by go_simp) (by go_simp)
  have cw2_2_2 := cu hw2 (W.heap.size + 1 + 1) 2 0 (by go_simp)
  have fw2_2_2 := fq hw2 (W.heap.size + 1 + 1) 2 (.int .u64 0) (by go_simp) (by go_simp)
  have gw2 : Gr W w2 := Gr.trans (by have gg := gw1; have gs := gg.size; go_grown) hw2
  clear hw2 gw1 zw1_0 cw1_0_0 cw1_0_1 zw1_1 cw1_1_0 cw1_1_1 zw1_2 cw1_2_0 fw1_2_0 cw1_2_1 fw1_2_1 cw1_2_2 fw1_2_2
  go_wp2_with fail
  go_at_call 47
  refine ((H3.out _ gw2)).mono ?_
  rintro e w3 ⟨rfl, hw3⟩
  have cw3_0_0 := ci hw3 (W.heap.size) 0 4 (by go_simp)
  have cw3_0_1 := cg hw3 (W.heap.size) 1 (.slice (some ⟨B, off, none⟩) n cap) (by go_simp)
  have cw3_1_0 := ci hw3 (W.heap.size + 1) 0 px (by go_simp)
  have cw3_1_1 := ci hw3 (W.heap.size + 1) 1 py (by go_simp)
  have cw3_2_0 := cu hw3 (W.heap.size + 1 + 1) 0 0 (by go_simp)
  have fw3_2_0 := fq hw3 (W.heap.size + 1 + 1) 0 (.int .u64 0) (by go_simp) (by go_simp)
  have cw3_2_1 := cu hw3 (W.heap.size + 1 + 1) 1 0 (by go_simp)
  have fw3_2_1 := fq hw3 (W.heap.size + 1 + 1) 1 (.int .u64 0) (by go_simp) (by go_simp)
  have cw3_2_2 := cu hw3 (W.heap.size + 1 + 1) 2 0 (by go_simp)
  have fw3_2_2 := fq hw3 (W.heap.size + 1 + 1) 2 (.int .u64 0) (by go_simp) (by go_simp)
  have zw3_2 := zb cw3_2_0
  have gw3 : Gr W w3 := Gr.trans (by have gg := gw2; have gs := gg.size; go_grown) hw3
  clear hw3 gw2 cw2_0_0 cw2_0_1 cw2_1_0 cw2_1_1 cw2_2_0 fw2_2_0 cw2_2_1 fw2_2_1 cw2_2_2 fw2_2_2
  have Z3 := Lib.hid zw3_2
  have a0' := cell_gr gw3 a0
  have a1' := cell_gr gw3 a1
  have b0' := cell_gr gw3 b0
  have b1' := cell_gr gw3 b1
  clear a0 a1 b0 b1
  go_wp2_with fail
  refine Hm.wp_region_mk 9 8 8 #[.int .u64 0, .int .u64 0, .int .u64 0] 42 (by kernel_rfl) (by simp only [List.getElem?_toArray, List.getElem?_cons_succ, List.getElem?_cons_zero] <;> rfl) (by kernel_rfl) (fun _ _ => ?_) ?_
  · unfold Oper.wp; go_simp
  intro KQ hKQ
  repeat (first | (refine Hm.wpG_sp (by decide) ?_ ?_; (· (try dsimp only); first | (rw [if_neg (by decide)]; trivial) | (rw [if_pos rfl]; (intro B w' g hB hw; have c0 : w'.cell? ⟨B, 0, none⟩ = some (.int .u64 0) := Hm.cell_of_heap hw 0; have f0 := Hm.frozen_of_heap hw 0; have c1 : w'.cell? ⟨B, 1, none⟩ = some (.int .u64 0) := Hm.cell_of_heap hw 1; have f1 := Hm.frozen_of_heap hw 1; have c2 : w'.cell? ⟨B, 2, none⟩ = some (.int .u64 0) := Hm.cell_of_heap hw 2; have f2 := Hm.frozen_of_heap hw 2; unfold Oper.wp; go_simp; exact ⟨(((g.setCell hB _).setCell hB _).setCell hB _), (Hm.heap_set_same (Hm.heap_set_same (Hm.heap_set_same hw)))⟩)))) | (refine Hm.wpG_skip (by decide) rfl ?_; simp only [Act.put, List.setIfInBounds_toArray, List.set_cons_zero, List.set_cons_succ]) | (refine Hm.wpG_want (by decide) rfl ?_; apply Exists.intro; refine ⟨?_, ?_⟩; (· intro wx gx; (obtain ⟨mx, rfl⟩ := spread_of_gr gx; clear gx); all_goals (apply Hd.gAt_of_quiet; intro K hK; go_big_quiet_op; first | exact hK _ rfl | (apply Exists.intro; refine ⟨fun _ => ?_, ?_⟩; (· (first | (go_at_call 48; first | ((with_reducible refine ((H0.out _)).mono ?_); rintro e w' ⟨rfl, hg⟩; exact ⟨rfl, spread_gr hg⟩)))); exact hK _ rfl))); try simp only [Act.put, List.setIfInBounds_toArray, List.set_cons_zero, List.set_cons_succ]))
  refine Hm.wpG_nil (hKQ _ ?_)
  clear hKQ KQ
  intro D w3b hw3b hBw3b hhw3b
  have cw3b_0_0 := ci hw3b (W.heap.size) 0 4 (by go_simp)
  have cw3b_0_1 := cg hw3b (W.heap.size) 1 (.slice (some ⟨B, off, none⟩) n cap) (by go_simp)
  have cw3b_1_0 := ci hw3b (W.heap.size + 1) 0 px (by go_simp)
  have cw3b_1_1 := ci hw3b (W.heap.size + 1) 1 py (by go_simp)
  have cw3b_2_0 := cu hw3b (W.heap.size + 1 + 1) 0 0 (by go_simp)
  have fw3b_2_0 := fq hw3b (W.heap.size + 1 + 1) 0 (.int .u64 0) (by go_simp) (by go_simp)
  have cw3b_2_1 := cu hw3b (W.heap.size + 1 + 1) 1 0 (by go_simp)
  have fw3b_2_1 := fq hw3b (W.heap.size + 1 + 1) 1 (.int .u64 0) (by go_simp) (by go_simp)
  have cw3b_2_2 := cu hw3b (W.heap.size + 1 + 1) 2 0 (by go_simp)
  have fw3b_2_2 := fq hw3b (W.heap.size + 1 + 1) 2 (.int .u64 0) (by go_simp) (by go_simp)
  have cw3b_4_0 : w3b.cell? ⟨D, 0, none⟩ = some (.int .u64 0) := Hm.cell_of_heap hhw3b 0
  have cw3b_4_1 : w3b.cell? ⟨D, 1, none⟩ = some (.int .u64 0) := Hm.cell_of_heap hhw3b 1
  have cw3b_4_2 : w3b.cell? ⟨D, 2, none⟩ = some (.int .u64 0) := Hm.cell_of_heap hhw3b 2
  have gw3b : Gr W w3b := Gr.trans (by have gg := gw3; have gs := gg.size; go_grown) hw3b
  have fw3b_4_0 : w3b.frozen? ⟨D, 0, none⟩ = false := Hm.frozen_of_heap hhw3b 0
  have fw3b_4_1 : w3b.frozen? ⟨D, 1, none⟩ = false := Hm.frozen_of_heap hhw3b 1
  have fw3b_4_2 : w3b.frozen? ⟨D, 2, none⟩ = false := Hm.frozen_of_heap hhw3b 2
  clear hw3b hhw3b gw3 cw3_0_0 cw3_0_1 cw3_1_0 cw3_1_1 zw3_2 cw3_2_0 fw3_2_0 cw3_2_1 fw3_2_1 cw3_2_2 fw3_2_2
  have zD : W.heap.size + 1 + 1 < D := by have := Z3.out; omega
  have nD1 : ¬ D = W.heap.size + 1 := by omega
  have nD2 : ¬ W.heap.size + 1 = D := by omega
  have nD3 : ¬ D = W.heap.size + 1 + 1 := by omega
  have nD4 : ¬ W.heap.size + 1 + 1 = D := by omega
  have nD5 : ¬ D = W.heap.size := by omega
  have nD6 : ¬ W.heap.size = D := by omega
  have nD7 : ¬ D = B := by omega
  have nD8 : ¬ B = D := by omega
  have zD3 : W.heap.size ≤ D := by omega
  go_wp2_with fail
  generalize hhw4 : (((w3b.setCell ⟨D, 0, none⟩ (.int .u64 sh)).setCell ⟨D, 1, none⟩ (.int .u64 sl)).setCell ⟨D, 2, none⟩ (.int .u64 sd)) = w4
  have cw4_0_0 : w4.cell? ⟨W.heap.size, 0, none⟩ = some (.int .i64 4) := by subst hhw4; go_simp
  have cw4_0_1 : w4.cell? ⟨W.heap.size, 1, none⟩ = some (.slice (some ⟨B, off, none⟩) n cap) := by subst hhw4; go_simp
  have zw4_0 := zb cw4_0_0
  have cw4_1_0 : w4.cell? ⟨W.heap.size + 1, 0, none⟩ = some (.int .i64 px) := by subst hhw4; go_simp
  have cw4_1_1 : w4.cell? ⟨W.heap.size + 1, 1, none⟩ = some (.int .i64 py) := by subst hhw4; go_simp
  have zw4_1 := zb cw4_1_0
  have cw4_2_0 : w4.cell? ⟨W.heap.size + 1 + 1, 0, none⟩ = some (.int .u64 0) := by subst hhw4; go_simp
  have fw4_2_0 : w4.frozen? ⟨W.heap.size + 1 + 1, 0, none⟩ = false := by subst hhw4; go_simp
  have cw4_2_1 : w4.cell? ⟨W.heap.size + 1 + 1, 1, none⟩ = some (.int .u64 0) := by subst hhw4; go_simp
  have fw4_2_1 : w4.frozen? ⟨W.heap.size + 1 + 1, 1, none⟩ = false := by subst hhw4; go_simp
  have cw4_2_2 : w4.cell? ⟨W.heap.size + 1 + 1, 2, none⟩ = some (.int .u64 0) := by subst hhw4; go_simp
  have fw4_2_2 : w4.frozen? ⟨W.heap.size + 1 + 1, 2, none⟩ = false := by subst hhw4; go_simp
  have zw4_2 := zb cw4_2_0
  have cw4_3_0 : w4.cell? ⟨D, 0, none⟩ = some (.int .u64 sh) := by subst hhw4; go_simp
  have fw4_3_0 : w4.frozen? ⟨D, 0, none⟩ = false := by subst hhw4; go_simp
  have cw4_3_1 : w4.cell? ⟨D, 1, none⟩ = some (.int .u64 sl) := by subst hhw4; go_simp
  have fw4_3_1 : w4.frozen? ⟨D, 1, none⟩ = false := by subst hhw4; go_simp
  have cw4_3_2 : w4.cell? ⟨D, 2, none⟩ = some (.int .u64 sd) := by subst hhw4; go_simp
  have fw4_3_2 : w4.frozen? ⟨D, 2, none⟩ = false := by subst hhw4; go_simp
  have zw4_3 := zb cw4_3_0
  have gw4 : Gr W w4 := by subst hhw4; have gg := gw3b; have gs := gg.size; go_grown
  clear hhw4 gw3b cw3b_0_0 cw3b_0_1 cw3b_1_0 cw3b_1_1 cw3b_2_0 fw3b_2_0 cw3b_2_1 fw3b_2_1 cw3b_2_2 fw3b_2_2 cw3b_4_0 fw3b_4_0 cw3b_4_1 fw3b_4_1 cw3b_4_2 fw3b_4_2
  clear H1 H2 H3 H0 Z3
  have q1 := cw4_1_0
  have q2 := cw4_1_1
  have q3 := cw4_2_0
  have q4 := cw4_2_1
  have q5 := cw4_2_2
  have q6 := fw4_2_0
  have q7 := fw4_2_1
  have q8 := fw4_2_2
  have d0 := cw4_3_0
  have d1 := cw4_3_1
  have d2 := cw4_3_2
  have e0 := fw4_3_0
  have e1 := fw4_3_1
  have e2 := fw4_3_2
  clear cw4_0_0 cw4_0_1 cw4_1_0 cw4_1_1 cw4_2_0 cw4_2_1 cw4_2_2 fw4_2_0 fw4_2_1 fw4_2_2 cw4_3_0 cw4_3_1 cw4_3_2 fw4_3_0 fw4_3_1 fw4_3_2
  go_wp2_with fail
  go_loopg [9] (n - 1) (fun g u wr => ∃ i : Nat, u = .int .i64 i ∧ 1 ≤ i ∧ i ≤ n ∧ g = n - i ∧ (∃ ch cl cd : Nat, Hid (∃ s, faW n X Y px py (List.range i) = s ∧ s.1 / 18446744073709551616 = ch ∧ s.1 % 18446744073709551616 = cl ∧ s.2 = cd) ∧ wr.cell? ⟨D, 0, none⟩ = some (.int .u64 ch) ∧ wr.cell? ⟨D, 1, none⟩ = some (.int .u64 cl) ∧ wr.cell? ⟨D, 2, none⟩ = some (.int .u64 cd)) ∧ (wr.frozen? ⟨D, 0, none⟩ = false ∧ wr.frozen? ⟨D, 1, none⟩ = false ∧ wr.frozen? ⟨D, 2, none⟩ = false) ∧
    (wr.cell? ⟨W.heap.size + 1, 0, none⟩ = some (.int .i64 px) ∧ wr.cell? ⟨W.heap.size + 1, 1, none⟩ = some (.int .i64 py)) ∧ (wr.cell? ⟨W.heap.size + 1 + 1, 0, none⟩ = some (.int .u64 0) ∧ wr.cell? ⟨W.heap.size + 1 + 1, 1, none⟩ = some (.int .u64 0) ∧ wr.cell? ⟨W.heap.size + 1 + 1, 2, none⟩ = some (.int .u64 0)) ∧
    (wr.frozen? ⟨W.heap.size + 1 + 1, 0, none⟩ = false ∧ wr.frozen? ⟨W.heap.size + 1 + 1, 1, none⟩ = false ∧ wr.frozen? ⟨W.heap.size + 1 + 1, 2, none⟩ = false) ∧ Gr W wr)
  case atStart => exact ⟨1, rfl, Nat.le_refl _, by omega, by omega, ⟨sh, sl, sd, Lib.hid ⟨s0, HS0.out, HE.out.1, HE.out.2.1, HE.out.2.2⟩, d0, d1, d2⟩, ⟨e0, e1, e2⟩, ⟨q1, q2⟩, ⟨q3, q4, q5⟩, ⟨q6, q7, q8⟩, gw4⟩
  case round =>
    obtain ⟨i, rfl, hi1, hi, hgk, ⟨ch, cl, cd, HS, y0, y1, y2⟩, ⟨v0, v1, v2⟩, ⟨u0, u1⟩, ⟨r0, r1, r2⟩, ⟨g0, g1, g2⟩, gwr⟩ := hrel
    clear q1 q2 q3 q4 q5 q6 q7 q8 d0 d1 d2 e0 e1 e2 HS0 HE gw4 zw4_0 zw4_1 zw4_2 zw4_3
    by_cases hlt : i < n
    · have ti : decide ((i : Int) < (n : Int)) = true := decide_eq_true (by omega)
      have ti2 : decide (i < n) = true := decide_eq_true hlt
      have hii : (i : Int) ≤ 1000 := by omega
      have hmm : n - (i + 1) < gk := by omega
      have hnx := nx_lt hlt
      obtain ⟨k0, k1⟩ := H4.out i hlt
      obtain ⟨m0, m1⟩ := H4.out _ hnx
      have s0 := cell_gr gwr k0
      have s1 := cell_gr gwr k1
      have j0 := cell_gr gwr m0
      have j1 := cell_gr gwr m1
      have zB := zb s0
      have zD2 := zb y0
      have hrem := nx_rem hlt (by omega : n ≤ 1000000)
      have CD := c_rsdG (X i) (Y i) (X (Rg.nx1 n i)) (Y (Rg.nx1 n i)) px py
      have NX := HN.out i hi1 hlt
      have hfd := sdG_fit (X i) (Y i) (X (Rg.nx1 n i)) (Y (Rg.nx1 n i)) px py
      unfold faD at NX
      generalize sdG (X i) (Y i) (X (Rg.nx1 n i)) (Y (Rg.nx1 n i)) px py = d at CD NX hfd
      obtain ⟨s, hs, hsh, hsl, hsd⟩ := HS.out
      have hfs := HFT.out i
      rw [hs] at NX hfs
      have CC := c_rcmpP s d hfs hfd
      unfold dV at CD CC
      generalize cmpD d.1 d.2 s.1 s.2 = cz at CC NX
      obtain ⟨dh, edh⟩ : ∃ z : Nat, d.1 / 18446744073709551616 = z := ⟨_, rfl⟩
      obtain ⟨dl, edl⟩ : ∃ z : Nat, d.1 % 18446744073709551616 = z := ⟨_, rfl⟩
      obtain ⟨dd, edd⟩ : ∃ z : Nat, d.2 = z := ⟨_, rfl⟩
      rw [edh, edl, edd] at CD CC
      rw [hsh, hsl, hsd] at CC
      have HDX := Lib.hid (And.intro edh (And.intro edl edd))
      have HSX := Lib.hid (And.intro hsh (And.intro hsl hsd))
      have HNX := Lib.hid NX
      have HCD := Lib.hid CD
      have HCC := Lib.hid CC
      clear CD CC NX hfd hfs hs hsh hsl hsd edh edl edd HS
      generalize X (Rg.nx1 n i) = xj at HCD j0
      generalize Y (Rg.nx1 n i) = yj at HCD j1
      generalize X i = xi at HCD s0
      generalize Y i = yi at HCD s1
      generalize Rg.nx1 n i = j at j0 j1 hnx hrem
      have hj9 : (j : Int) ≤ 1000 := by omega
      have tj : decide ((j : Int) < (n : Int)) = true := decide_eq_true (by omega)
      have tj3 : (j : Int) < (n : Int) := by omega
      have ti3 : (i : Int) < (n : Int) := by omega
      have nz : ((n : Int) == 0) = false := by simp; omega
      have nz2 : (n : Int) ≠ 0 := by omega
      have q1 := hrem.1
      have q2 := hrem.2
      have w1' : IntKind.i64.wrap ((i : Int) + 1) = (i : Int) + 1 := IntWalk.i64_in _ (by omega)
      have w2' : IntKind.i64.wrap (j : Int) = (j : Int) := IntWalk.i64_in _ (by omega)
      clear k0 k1 m0 m1 hgk hrem
      go_wp2_with fail
      refine Hm.wp_region_mk 15 14 10 #[.int .u64 0, .int .u64 0, .int .u64 0] 42 (by kernel_rfl) (by simp only [List.getElem?_toArray, List.getElem?_cons_succ, List.getElem?_cons_zero] <;> rfl) (by kernel_rfl) (fun _ _ => ?_) ?_
      · unfold Oper.wp; go_simp
      intro KQ hKQ
      repeat (first | (refine Hm.wpG_sp (by decide) ?_ ?_; (· (try dsimp only); first | (rw [if_neg (by decide)]; trivial) | (rw [if_pos rfl]; (intro B w' g hB hw; have c0 : w'.cell? ⟨B, 0, none⟩ = some (.int .u64 0) := Hm.cell_of_heap hw 0; have f0 := Hm.frozen_of_heap hw 0; have c1 : w'.cell? ⟨B, 1, none⟩ = some (.int .u64 0) := Hm.cell_of_heap hw 1; have f1 := Hm.frozen_of_heap hw 1; have c2 : w'.cell? ⟨B, 2, none⟩ = some (.int .u64 0) := Hm.cell_of_heap hw 2; have f2 := Hm.frozen_of_heap hw 2; unfold Oper.wp; go_simp; exact ⟨(((g.setCell hB _).setCell hB _).setCell hB _), (Hm.heap_set_same (Hm.heap_set_same (Hm.heap_set_same hw)))⟩)))) | (refine Hm.wpG_skip (by decide) rfl ?_; simp only [Act.put, List.setIfInBounds_toArray, List.set_cons_zero, List.set_cons_succ]) | (refine Hm.wpG_want (by decide) rfl ?_; apply Exists.intro; refine ⟨?_, ?_⟩; (· intro wx gx; (obtain ⟨mx, rfl⟩ := spread_of_gr gx; clear gx); all_goals (apply Hd.gAt_of_quiet; intro K hK; go_big_quiet_op; first | exact hK _ rfl | (apply Exists.intro; refine ⟨fun _ => ?_, ?_⟩; (· (first | (go_at_call 48; first | ((with_reducible refine ((HCD.out _)).mono ?_); rintro e w' ⟨rfl, hg⟩; exact ⟨rfl, spread_gr hg⟩)))); exact hK _ rfl))); try simp only [Act.put, List.setIfInBounds_toArray, List.set_cons_zero, List.set_cons_succ]))
      refine Hm.wpG_nil (hKQ _ ?_)
      clear hKQ KQ
      intro E w5a hw5a hBw5a hhw5a
      have cw5a_0_0 := ci hw5a (W.heap.size + 1) 0 px (by go_simp)
      have cw5a_0_1 := ci hw5a (W.heap.size + 1) 1 py (by go_simp)
      have cw5a_1_0 := cu hw5a (W.heap.size + 1 + 1) 0 0 (by go_simp)
      have fw5a_1_0 := fq hw5a (W.heap.size + 1 + 1) 0 (.int .u64 0) (by go_simp) (by go_simp)
      have cw5a_1_1 := cu hw5a (W.heap.size + 1 + 1) 1 0 (by go_simp)
      have fw5a_1_1 := fq hw5a (W.heap.size + 1 + 1) 1 (.int .u64 0) (by go_simp) (by go_simp)
      have cw5a_1_2 := cu hw5a (W.heap.size + 1 + 1) 2 0 (by go_simp)
      have fw5a_1_2 := fq hw5a (W.heap.size + 1 + 1) 2 (.int .u64 0) (by go_simp) (by go_simp)
      have cw5a_3_0 := cu hw5a D 0 ch (by go_simp)
      have fw5a_3_0 := fq hw5a D 0 (.int .u64 ch) (by go_simp) (by go_simp)
      have cw5a_3_1 := cu hw5a D 1 cl (by go_simp)
      have fw5a_3_1 := fq hw5a D 1 (.int .u64 cl) (by go_simp) (by go_simp)
      have cw5a_3_2 := cu hw5a D 2 cd (by go_simp)
      have fw5a_3_2 := fq hw5a D 2 (.int .u64 cd) (by go_simp) (by go_simp)
      have cw5a_4_0 : w5a.cell? ⟨E, 0, none⟩ = some (.int .u64 0) := Hm.cell_of_heap hhw5a 0
      have cw5a_4_1 : w5a.cell? ⟨E, 1, none⟩ = some (.int .u64 0) := Hm.cell_of_heap hhw5a 1
      have cw5a_4_2 : w5a.cell? ⟨E, 2, none⟩ = some (.int .u64 0) := Hm.cell_of_heap hhw5a 2
      have gw5a : Gr W w5a := Gr.trans (by have gg := gwr; have gs := gg.size; go_grown) hw5a
      have fw5a_4_0 : w5a.frozen? ⟨E, 0, none⟩ = false := Hm.frozen_of_heap hhw5a 0
      have fw5a_4_1 : w5a.frozen? ⟨E, 1, none⟩ = false := Hm.frozen_of_heap hhw5a 1
      have fw5a_4_2 : w5a.frozen? ⟨E, 2, none⟩ = false := Hm.frozen_of_heap hhw5a 2
      clear hw5a hhw5a gwr
      have nE : ¬ D = E := by omega
      have nE2 : ¬ E = D := by omega
      have nE3 : ¬ E = W.heap.size + 1 := by omega
      have nE4 : ¬ W.heap.size + 1 = E := by omega
      have nE5 : ¬ E = W.heap.size + 1 + 1 := by omega
      have nE6 : ¬ W.heap.size + 1 + 1 = E := by omega
      have zE : W.heap.size ≤ E := by omega
      go_wp2_with fail
      generalize hhw5 : (((w5a.setCell ⟨E, 0, none⟩ (.int .u64 dh)).setCell ⟨E, 1, none⟩ (.int .u64 dl)).setCell ⟨E, 2, none⟩ (.int .u64 dd)) = w5
      have cw5_0_0 : w5.cell? ⟨W.heap.size + 1, 0, none⟩ = some (.int .i64 px) := by subst hhw5; go_simp
      have cw5_0_1 : w5.cell? ⟨W.heap.size + 1, 1, none⟩ = some (.int .i64 py) := by subst hhw5; go_simp
      have zw5_0 := zb cw5_0_0
      have cw5_1_0 : w5.cell? ⟨W.heap.size + 1 + 1, 0, none⟩ = some (.int .u64 0) := by subst hhw5; go_simp
      have fw5_1_0 : w5.frozen? ⟨W.heap.size + 1 + 1, 0, none⟩ = false := by subst hhw5; go_simp
      have cw5_1_1 : w5.cell? ⟨W.heap.size + 1 + 1, 1, none⟩ = some (.int .u64 0) := by subst hhw5; go_simp
      have fw5_1_1 : w5.frozen? ⟨W.heap.size + 1 + 1, 1, none⟩ = false := by subst hhw5; go_simp
      have cw5_1_2 : w5.cell? ⟨W.heap.size + 1 + 1, 2, none⟩ = some (.int .u64 0) := by subst hhw5; go_simp
      have fw5_1_2 : w5.frozen? ⟨W.heap.size + 1 + 1, 2, none⟩ = false := by subst hhw5; go_simp
      have zw5_1 := zb cw5_1_0
      have cw5_2_0 : w5.cell? ⟨D, 0, none⟩ = some (.int .u64 ch) := by subst hhw5; go_simp
      have fw5_2_0 : w5.frozen? ⟨D, 0, none⟩ = false := by subst hhw5; go_simp
      have cw5_2_1 : w5.cell? ⟨D, 1, none⟩ = some (.int .u64 cl) := by subst hhw5; go_simp
      have fw5_2_1 : w5.frozen? ⟨D, 1, none⟩ = false := by subst hhw5; go_simp
      have cw5_2_2 : w5.cell? ⟨D, 2, none⟩ = some (.int .u64 cd) := by subst hhw5; go_simp
      have fw5_2_2 : w5.frozen? ⟨D, 2, none⟩ = false := by subst hhw5; go_simp
      have zw5_2 := zb cw5_2_0
      have cw5_3_0 : w5.cell? ⟨E, 0, none⟩ = some (.int .u64 dh) := by subst hhw5; go_simp
      have fw5_3_0 : w5.frozen? ⟨E, 0, none⟩ = false := by subst hhw5; go_simp
      have cw5_3_1 : w5.cell? ⟨E, 1, none⟩ = some (.int .u64 dl) := by subst hhw5; go_simp
      have fw5_3_1 : w5.frozen? ⟨E, 1, none⟩ = false := by subst hhw5; go_simp
      have cw5_3_2 : w5.cell? ⟨E, 2, none⟩ = some (.int .u64 dd) := by subst hhw5; go_simp
      have fw5_3_2 : w5.frozen? ⟨E, 2, none⟩ = false := by subst hhw5; go_simp
      have zw5_3 := zb cw5_3_0
      have gw5 : Gr W w5 := by subst hhw5; have gg := gw5a; have gs := gg.size; go_grown
      clear hhw5 gw5a cw5a_0_0 cw5a_0_1 cw5a_1_0 fw5a_1_0 cw5a_1_1 fw5a_1_1 cw5a_1_2 fw5a_1_2 cw5a_3_0 fw5a_3_0 cw5a_3_1 fw5a_3_1 cw5a_3_2 fw5a_3_2 cw5a_4_0 fw5a_4_0 cw5a_4_1 fw5a_4_1 cw5a_4_2 fw5a_4_2
      go_wp2_with fail
      go_at_call 29
      refine ((HCC.out _)).mono ?_
      rintro e w6 ⟨rfl, hw6⟩
      have cw6_0_0 := ci hw6 (W.heap.size + 1) 0 px (by go_simp)
      have cw6_0_1 := ci hw6 (W.heap.size + 1) 1 py (by go_simp)
      have cw6_1_0 := cu hw6 (W.heap.size + 1 + 1) 0 0 (by go_simp)
      have fw6_1_0 := fq hw6 (W.heap.size + 1 + 1) 0 (.int .u64 0) (by go_simp) (by go_simp)
      have cw6_1_1 := cu hw6 (W.heap.size + 1 + 1) 1 0 (by go_simp)
      have fw6_1_1 := fq hw6 (W.heap.size + 1 + 1) 1 (.int .u64 0) (by go_simp) (by go_simp)
      have cw6_1_2 := cu hw6 (W.heap.size + 1 + 1) 2 0 (by go_simp)
      have fw6_1_2 := fq hw6 (W.heap.size + 1 + 1) 2 (.int .u64 0) (by go_simp) (by go_simp)
      have cw6_2_0 := cu hw6 D 0 ch (by go_simp)
      have fw6_2_0 := fq hw6 D 0 (.int .u64 ch) (by go_simp) (by go_simp)
      have cw6_2_1 := cu hw6 D 1 cl (by go_simp)
      have fw6_2_1 := fq hw6 D 1 (.int .u64 cl) (by go_simp) (by go_simp)
      have cw6_2_2 := cu hw6 D 2 cd (by go_simp)
      have fw6_2_2 := fq hw6 D 2 (.int .u64 cd) (by go_simp) (by go_simp)
      have cw6_3_0 := cu hw6 E 0 dh (by go_simp)
      have cw6_3_1 := cu hw6 E 1 dl (by go_simp)
      have cw6_3_2 := cu hw6 E 2 dd (by go_simp)
      have gw6 : Gr W w6 := Gr.trans (by have gg := gw5; have gs := gg.size; go_grown) hw6
      clear hw6 gw5 zw5_0 cw5_0_0 cw5_0_1 zw5_1 cw5_1_0 fw5_1_0 cw5_1_1 fw5_1_1 cw5_1_2 fw5_1_2 zw5_2 cw5_2_0 fw5_2_0 cw5_2_1 fw5_2_1 cw5_2_2 fw5_2_2 zw5_3 cw5_3_0 fw5_3_0 cw5_3_1 fw5_3_1 cw5_3_2 fw5_3_2
      by_cases hc : cz < 0
      · have tc : decide (cz < 0) = true := decide_eq_true hc
        have HX := Lib.hid (show ∃ s, faW n X Y px py (List.range (i + 1)) = s ∧ s.1 / 18446744073709551616 = dh ∧ s.1 % 18446744073709551616 = dl ∧ s.2 = dd from ⟨d, by rw [HNX.out, if_pos hc], HDX.out.1, HDX.out.2.1, HDX.out.2.2⟩)
        go_wp2_with fail
        go_roundg (n - (i + 1))
        case measure => exact hmm
        case rel => exact ⟨i + 1, by go_num, by omega, hlt, rfl, ⟨dh, dl, dd, HX, by go_simp, by go_simp, by go_simp⟩, ⟨by go_simp, by go_simp, by go_simp⟩, ⟨by go_simp, by go_simp⟩, ⟨by go_simp, by go_simp, by go_simp⟩, ⟨by go_simp, by go_simp, by go_simp⟩, by have gg := gw6; have gs := gg.size; go_grown⟩
      · have tc : decide (cz < 0) = false := decide_eq_false hc
        have HX := Lib.hid (show ∃ t, faW n X Y px py (List.range (i + 1)) = t ∧ t.1 / 18446744073709551616 = ch ∧ t.1 % 18446744073709551616 = cl ∧ t.2 = cd from ⟨s, by rw [HNX.out, if_neg hc], HSX.out.1, HSX.out.2.1, HSX.out.2.2⟩)
        go_wp2_with fail
        go_roundg (n - (i + 1))
        case measure => exact hmm
        case rel => exact ⟨i + 1, by go_num, by omega, hlt, rfl, ⟨ch, cl, cd, HX, by go_simp, by go_simp, by go_simp⟩, ⟨by go_simp, by go_simp, by go_simp⟩, ⟨by go_simp, by go_simp⟩, ⟨by go_simp, by go_simp, by go_simp⟩, ⟨by go_simp, by go_simp, by go_simp⟩, by have gg := gw6; have gs := gg.size; go_grown⟩
    · obtain rfl : i = n := by omega
      have ti : decide ((i : Int) < (i : Int)) = false := decide_eq_false (by omega)
      have ti2 : decide (i < i) = false := decide_eq_false (by omega)
      obtain ⟨s, hs, hs1, hs2, hs3⟩ := HS.out
      obtain rfl : s = F := by rw [← HF.out, hs]
      obtain rfl : ch = fh := hs1.symm.trans HFX.out.1
      obtain rfl : cl = fl := hs2.symm.trans HFX.out.2.1
      obtain rfl : cd = fd := hs3.symm.trans HFX.out.2.2
      clear hgk HS hs hs1 hs2 hs3
      have GS := gwr.size
      have zR := zb r0
      go_wp2_with fail
      refine bodyPost_ret (v := .agg #[.int .u64 ch, .int .u64 cl, .int .u64 cd]) (by simp [results, Tryz.results16, go_sem, *]) rfl ⟨rfl, by go_grown⟩
theorem c_rDistG {k : Int} {n : Nat} {X Y : Nat → Int} {v : Value} (px py : Int) (W : World) (h : Pts W v n X Y) :
    Calls Tryz.prog 16 #[.agg #[.int .i64 k, v], .agg #[.int .i64 px, .int .i64 py]] W fun e w' => e = .returned (dG (decide (objC k n X Y = 0) && nearB px py) (diA k n X Y px py)) ∧ Gr W w' := by
  have A2 := c_rPoint px py
  have hh := h
  by_cases hc : objC k n X Y = 0
  · rw [decide_eq_true hc, Bool.true_and]
    have A1 := fun w (g : Gr W w) => c_rBoundsOk w (pts_gr h g) hc
    have bo := bx_ok hc
    cases hp : nearB px py
    · rw [hp] at A2
      obtain ⟨ad, cap, _, _, rfl, -⟩ := h
      exact rdist_no px py _ _ _ _ 0 false W (Or.inr ⟨rfl, rfl⟩) A1 A2
    · rw [hp] at A2
      unfold diA
      show Calls Tryz.prog 16 #[.agg #[.int .i64 k, v], .agg #[.int .i64 px, .int .i64 py]] W fun e w' => e = .returned (dV (if k = 4 then faP n X Y px py else ((distZ (X 0) (oLy k Y) (oHx k X Y) (oHy k Y) px py).toNat, 1))) ∧ Gr W w'
      by_cases k4 : k = 4
      · rw [if_pos k4]
        subst k4
        rw [objC_4] at hc
        obtain ⟨h1, h2, -⟩ := Rg.ringC_ok hc
        have A3 := fun w (g : Gr W w) => c_rhas w (pts_gr h g) (by omega) h2 px py hp
        unfold faP
        obtain ⟨ad, cap, B, off, rfl, q1, q2, q3, q4⟩ := h
        cases hs : Rg.hasN n X Y px py
        · rw [hs] at A3
          obtain rfl := q3 (by omega)
          rw [if_neg (by decide)]
          exact rdist_out px py _ _ _ _ W (by omega) (by omega) h2 hp q4 A1 A2 A3
        · rw [hs] at A3
          rw [if_pos rfl]
          exact rdist_in px py _ _ _ _ W A1 A2 A3
      · rw [if_neg k4]
        unfold bLx bLy bHx bHy at A1 bo
        simp only [if_neg k4] at A1 bo
        have hz := distZ_lt bo hp
        have A3 := fun w => c_rBoxDist (X 0) (oLy k Y) (oHx k X Y) (oHy k Y) px py ⟨bo, hp⟩ (distZ (X 0) (oLy k Y) (oHx k X Y) (oHy k Y) px py).toNat (by omega) w
        obtain ⟨ad, cap, _, _, rfl, -⟩ := h
        have R := rdist_box px py _ _ _ _ _ W k4 A1 A2 A3
        have e : dV ((distZ (X 0) (oLy k Y) (oHx k X Y) (oHy k Y) px py).toNat, 1) = .agg #[.int .u64 0, .int .u64 ((distZ (X 0) (oLy k Y) (oHx k X Y) (oHy k Y) px py).toNat : Nat), .int .u64 1] := by
          unfold dV
          show Value.agg #[.int .u64 (((distZ (X 0) (oLy k Y) (oHx k X Y) (oHy k Y) px py).toNat / 18446744073709551616 : Nat) : Int), .int .u64 (((distZ (X 0) (oLy k Y) (oHx k X Y) (oHy k Y) px py).toNat % 18446744073709551616 : Nat) : Int), .int .u64 1] = _
          rw [Nat.div_eq_of_lt (by omega), Nat.mod_eq_of_lt (by omega)]
          rfl
        rw [e]
        exact R
  · rw [decide_eq_false hc, Bool.false_and]
    have A1 := fun w (g : Gr W w) => c_rBoundsNo w (pts_gr h g) hc
    obtain ⟨ad, cap, _, _, rfl, -⟩ := h
    exact rdist_no px py _ _ _ _ _ _ W (Or.inl hc) A1 A2
end Go.Proofs.YtfobmlgpjhghdaaGreatDoor
namespace Go.Proofs.YtfobmlgpjhghdaaGreatDoor
set_option linter.unusedVariables false
set_option linter.unusedSimpArgs false
open Go.ChangeShapes Go.WideShapes Go.ChangeAt Go.RowKit
theorem addr_addO (b off n : Nat) : (⟨b, off, none⟩ : Addr).add n = ⟨b, off + n, none⟩ := by
  unfold Addr.add; split <;> simp_all
section
variable {H : Type} {enc : TypeId × Value → H} {P : Program} {w : World} {base : Nat} {sp : Nat → Bool} {held : Bool} {r : Reach} {b0 : Nat}
theorem spot_cell {a : Addr} {v : Value} (h : w.cell? a = some v) : a.spot = none := by
  unfold World.cell? at h
  split at h
  · split at h
    · cases h
    · rename_i hs; simpa using hs
  · cases h
theorem cells2s {a : Addr} {x0 x1 : Value} (h : w.cells? base a 2 = some [x0, x1]) : w.cell? (a.add 0) = some x0 ∧ w.cell? (a.add 1) = some x1 := by
  unfold World.cells? at h
  split at h
  · rw [show List.range 2 = [0, 1] from rfl] at h
    simp only [List.mapM_cons, List.mapM_nil] at h
    obtain ⟨y0, h0, h⟩ := Option.bind_eq_some_iff.1 h
    obtain ⟨t0, h, e0⟩ := Option.bind_eq_some_iff.1 h
    obtain ⟨y1, h1, h⟩ := Option.bind_eq_some_iff.1 h
    obtain ⟨t1, h, e1⟩ := Option.bind_eq_some_iff.1 h
    cases h
    cases e1
    cases e0
    exact ⟨h0, h1⟩
  · cases h
theorem trod_ptsC {t p u : TypeId} {G0 G1 : Field} {x : Value} {fuel : Nat} {y : DataW H × List MemPlace} (ht : P.underlying t = some (.slice p)) (hp : P.underlying p = some (.struct #[G0, G1])) (hu : P.underlying u = some (.int .i64))
    (hG0 : G0.type = u ∧ G0.offset = 0) (hG1 : G1.type = u ∧ G1.offset = 1) (cp : P.cellsOf p = 2) (cu : P.cellsOf u = 1)
    (hd : DataW.trod enc P w base sp held fuel t [x] = some y) : ∃ (n : Nat) (X Y : Nat → Int), Pts w x n X Y := by
  rcases Deep.open_slice ht hd with ⟨h, -⟩ | ⟨a, n, cap, m, q, D, Pl, hv, -, hl, hcap, hm, -, hel⟩
  · simp only [List.cons.injEq, and_true] at h
    subst h
    exact ⟨0, fun _ => 0, fun _ => 0, none, 0, 0, 0, rfl, Nat.le_refl _, by decide, fun h => absurd h (by omega), fun k h => absurd h (by omega)⟩
  · simp only [List.cons.injEq, and_true] at hv
    subst hv
    have hlm : n ≤ m := by rw [hm]; split <;> omega
    have hcap' : cap ≤ 9223372036854775807 := by unfold maxLen at hcap; omega
    obtain ⟨b, off, s⟩ := a
    have key : ∀ k, k < n → ∃ z : Int × Int, w.cell? (((⟨b, off, s⟩ : Addr).add (k * 2)).add 0) = some (.int .i64 z.1) ∧ w.cell? (((⟨b, off, s⟩ : Addr).add (k * 2)).add 1) = some (.int .i64 z.2) := fun k hk => by
      obtain ⟨cs', hc, htr⟩ := hel k (by omega)
      rw [cp] at hc
      obtain ⟨y0, y1, j, -, hlen, t0, t1⟩ := trod_struct2 hp htr
      rw [cp] at hlen
      match cs', hlen with
      | [x0, x1], _ =>
        rw [hG0.1, hG0.2, cu] at t0
        rw [hG1.1, hG1.2, cu] at t1
        obtain ⟨z0, q0, -, -⟩ := DataW.trod_int hu t0
        obtain ⟨z1, q1, -, -⟩ := DataW.trod_int hu t1
        simp at q0 q1
        subst q0 q1
        exact ⟨(z0, z1), cells2s hc⟩
    by_cases h0 : n = 0
    · subst h0
      exact ⟨0, fun _ => 0, fun _ => 0, some ⟨b, off, s⟩, cap, b, off, rfl, Nat.zero_le _, hcap', fun h => absurd h (by omega), fun k h => absurd h (by omega)⟩
    · have hs : s = none := by
        obtain ⟨z, hz, -⟩ := key 0 (by omega)
        have := spot_cell hz
        unfold Addr.add at this
        (repeat' split at this) <;> simp_all
      subst hs
      have key2 : ∀ k, k < n → ∃ z : Int × Int, w.cell? ⟨b, off + k * 2, none⟩ = some (.int .i64 z.1) ∧ w.cell? ⟨b, off + k * 2 + 1, none⟩ = some (.int .i64 z.2) := fun k hk => by
        obtain ⟨z, h0, h1⟩ := key k hk
        rw [addr_addO, addr_addO] at h0 h1
        exact ⟨z, h0, h1⟩
      refine ⟨n, fun k => if h : k < n then (key2 k h).choose.1 else 0, fun k => if h : k < n then (key2 k h).choose.2 else 0, some ⟨b, off, none⟩, cap, b, off, rfl, hl, hcap', fun _ => rfl, fun k hk => ?_⟩
      simp only [dif_pos hk]
      exact (key2 k hk).choose_spec
theorem open_obj {t s p u : TypeId} {F0 F1 G0 G1 : Field} {v : Value} {d : DataW H} {ps : List MemPlace} (hs : P.underlying t = some (.struct #[F0, F1])) (hF0 : F0.type = u) (hF1 : F1.type = s) (hone : Go.Deep.oneCellFields P #[F0, F1] = true) (hC : P.cellsOf t = 2)
    (ht : P.underlying s = some (.slice p)) (hp : P.underlying p = some (.struct #[G0, G1])) (hu : P.underlying u = some (.int .i64))
    (hG0 : G0.type = u ∧ G0.offset = 0) (hG1 : G1.type = u ∧ G1.offset = 1) (cp : P.cellsOf p = 2) (cu : P.cellsOf u = 1)
    (hval : Value.okWide P w r b0 t v) (hd : DataW.Trod enc P w base sp held t v d ps) : ∃ (k : Int) (x : Value) (n : Nat) (X Y : Nat → Int), v = .agg #[.int .i64 k, x] ∧ (-9223372036854775808 ≤ k ∧ k ≤ 9223372036854775807) ∧ Pts w x n X Y := by
  obtain ⟨v0, v1, y0, y1, j, rfl, -, -, h0, h1⟩ := Joins.open_agg2 hs hone hC hval hd
  rw [hF0] at h0
  rw [hF1] at h1
  obtain ⟨z0, q0, -, wf⟩ := DataW.trod_int hu h0
  simp at q0
  subst q0
  obtain ⟨n, X, Y, hP⟩ := trod_ptsC ht hp hu hG0 hG1 cp cu h1
  exact ⟨z0, v1, n, X, Y, rfl, bounds_i64 wf, hP⟩
theorem open_query {t tb s p u : TypeId} {F0 F1 F2 B0 B1 G0 G1 : Field} {v : Value} {d : DataW H} {ps : List MemPlace} (hs : P.underlying t = some (.struct #[F0, F1, F2])) (hsb : P.underlying tb = some (.struct #[B0, B1]))
    (hF0 : F0.type = u ∧ F0.offset = 0) (hF1 : F1.type = tb ∧ F1.offset = 1) (hF2 : F2.type = s ∧ F2.offset = 5) (hB0 : B0.type = p ∧ B0.offset = 0) (hB1 : B1.type = p ∧ B1.offset = 2)
    (ct : P.cellsOf t = 6) (cb : P.cellsOf tb = 4) (cs' : P.cellsOf s = 1)
    (ht : P.underlying s = some (.slice p)) (hp : P.underlying p = some (.struct #[G0, G1])) (hu : P.underlying u = some (.int .i64))
    (hG0 : G0.type = u ∧ G0.offset = 0) (hG1 : G1.type = u ∧ G1.offset = 1) (cp : P.cellsOf p = 2) (cu : P.cellsOf u = 1)
    (hval : Value.okWide P w r b0 t v) (hd : DataW.Trod enc P w base sp held t v d ps) : ∃ (k lx ly hx hy : Int) (x : Value) (n : Nat) (X Y : Nat → Int), v = .agg #[.int .i64 k, .int .i64 lx, .int .i64 ly, .int .i64 hx, .int .i64 hy, x] ∧ Pts w x n X Y := by
  obtain ⟨cs, rfl, hsz⟩ := okWide_struct hs hval
  obtain ⟨fuel, hf⟩ := hd
  obtain ⟨y0, y1, y2, j, -, hlen, t0, t1, t2⟩ := Deep.trod_struct3 hs hf
  rw [ct] at hlen
  replace hlen : cs.toList.length = 6 := hlen
  obtain ⟨l, rfl⟩ : ∃ l : List Value, cs = l.toArray := ⟨cs.toList, by simp⟩
  match l, hlen with
  | [a, b, c, e, f, g], _ =>
    rw [hF0.1, hF0.2, cu] at t0
    rw [hF1.1, hF1.2, cb] at t1
    rw [hF2.1, hF2.2, cs'] at t2
    obtain ⟨z0, q0, -, -⟩ := DataW.trod_int hu t0
    simp [Value.cells] at q0
    obtain ⟨y3, y4, j2, -, -, t3, t4⟩ := trod_struct2 hsb t1
    rw [hB0.1, hB0.2, cp] at t3
    rw [hB1.1, hB1.2, cp] at t4
    obtain ⟨y5, y6, j3, -, -, t5, t6⟩ := trod_struct2 hp t3
    rw [hG0.1, hG0.2, cu] at t5
    rw [hG1.1, hG1.2, cu] at t6
    obtain ⟨y7, y8, j4, -, -, t7, t8⟩ := trod_struct2 hp t4
    rw [hG0.1, hG0.2, cu] at t7
    rw [hG1.1, hG1.2, cu] at t8
    obtain ⟨z1, q1, -, -⟩ := DataW.trod_int hu t5
    obtain ⟨z2, q2, -, -⟩ := DataW.trod_int hu t6
    obtain ⟨z3, q3, -, -⟩ := DataW.trod_int hu t7
    obtain ⟨z4, q4, -, -⟩ := DataW.trod_int hu t8
    simp [Value.cells] at q1 q2 q3 q4
    subst q0 q1 q2 q3 q4
    have t9 : DataW.trod enc P w base sp held j s [g] = some y2 := by simpa [Value.cells] using t2
    obtain ⟨n, X, Y, hP⟩ := trod_ptsC ht hp hu hG0 hG1 cp cu t9
    exact ⟨z0, z1, z2, z3, z4, g, n, X, Y, rfl, hP⟩
end
end Go.Proofs.YtfobmlgpjhghdaaGreatDoor
namespace Go.Proofs.YtfobmlgpjhghdaaGreatDoor
set_option linter.unusedVariables false
set_option linter.unusedSimpArgs false
open Go.ChangeShapes Go.WideShapes Go.ChangeAt Go.RowKit
set_option maxRecDepth 100000 in
theorem c_small6 (k kq lx ly hx hy : Int) (ad bd : Option Addr) (n cap m bcap : Nat) (W : World) :
    Calls Tryz.prog 8 #[.agg #[.int .i64 k, .slice ad n cap], qryV kq lx ly hx hy (.slice bd m bcap)] W fun e w' => e = .returned (.bool (decide (n ≤ 70) && decide (m ≤ 70))) ∧ Gr W w' := by
  by_cases h1 : n ≤ 70
  · have t1 : decide ((n : Int) ≤ 70) = true := decide_eq_true (by omega)
    have t2 : decide (n ≤ 70) = true := decide_eq_true h1
    by_cases h2 : m ≤ 70
    · have u1 : decide ((m : Int) ≤ 70) = true := decide_eq_true (by omega)
      have u2 : decide (m ≤ 70) = true := decide_eq_true h2
      rw [t2, u2]
      clear h1 h2
      go_enter Tryz.func8, Tryz.ntmps8
      go_wp2_with fail
      go_ret
      exact ⟨rfl, by go_grown⟩
    · have u1 : decide ((m : Int) ≤ 70) = false := decide_eq_false (by omega)
      have u2 : decide (m ≤ 70) = false := decide_eq_false h2
      rw [t2, u2]
      clear h1 h2
      go_enter Tryz.func8, Tryz.ntmps8
      go_wp2_with fail
      go_ret
      exact ⟨rfl, by go_grown⟩
  · have t1 : decide ((n : Int) ≤ 70) = false := decide_eq_false (by omega)
    have t2 : decide (n ≤ 70) = false := decide_eq_false h1
    rw [t2]
    clear h1
    go_enter Tryz.func8, Tryz.ntmps8
    go_wp2_with fail
    go_ret
    exact ⟨rfl, by go_grown⟩
end Go.Proofs.YtfobmlgpjhghdaaGreatDoor
namespace Go.Proofs.YtfobmlgpjhghdaaGreatDoor
set_option linter.unusedVariables false
set_option linter.unusedSimpArgs false
open Go.ChangeShapes Go.WideShapes Go.ChangeAt Go.RowKit
theorem eqBox6 (a b c d : Int) (w : World) : (binOp .eql 28 (.agg #[.int .i64 a, .int .i64 b, .int .i64 c, .int .i64 d]) (.agg #[.int .i64 a, .int .i64 b, .int .i64 c, .int .i64 d])).run Tryz.prog w = .ok (.bool true) w := by simp [go_sem]
theorem eqDist6 (a b c : Int) (w : World) : (binOp .eql 42 (.agg #[.int .u64 a, .int .u64 b, .int .u64 c]) (.agg #[.int .u64 a, .int .u64 b, .int .u64 c])).run Tryz.prog w = .ok (.bool true) w := by simp [go_sem]
set_option maxHeartbeats 8000000 in
set_option maxRecDepth 100000 in
theorem matches_core (k kq lx ly hx hy px py m1 m2 m3 m4 dh dl dd : Int) (ad bd : Option Addr) (n cap m bcap c : Nat) (z : Bool) (W : World) (hs : (decide (n ≤ 70) && decide (m ≤ 70)) = true)
    (A1 : ∀ w, Gr W w → Calls Tryz.prog 10 #[.agg #[.int .i64 k, .slice ad n cap]] w fun e w' => ∃ x, e = .returned (.tuple #[.agg #[.int .i64 m1, .int .i64 m2, .int .i64 m3, .int .i64 m4], x]) ∧ OErr w' x c ∧ Gr w w')
    (A2 : ∀ w, Gr W w → Calls Tryz.prog 11 #[.agg #[.int .i64 k, .slice ad n cap]] w fun e w' => e = .returned (.tuple #[.agg #[.int .i64 m1, .int .i64 m2, .int .i64 m3, .int .i64 m4], .int .i64 (c : Nat)]) ∧ Gr w w')
    (A3 : ∀ w, Gr W w → Calls Tryz.prog 13 #[.agg #[.int .i64 k, .slice ad n cap], qryV kq lx ly hx hy (.slice bd m bcap)] w fun e w' => e = .returned (.bool z) ∧ Gr w w')
    (A4 : ∀ w, Gr W w → Calls Tryz.prog 14 #[.agg #[.int .i64 k, .slice ad n cap], qryV kq lx ly hx hy (.slice bd m bcap)] w fun e w' => e = .returned (.bool z) ∧ Gr w w')
    (A5 : ∀ w, Gr W w → Calls Tryz.prog 15 #[.agg #[.int .i64 k, .slice ad n cap], .agg #[.int .i64 px, .int .i64 py]] w fun e w' => e = .returned (.agg #[.int .u64 dh, .int .u64 dl, .int .u64 dd]) ∧ Gr w w')
    (A6 : ∀ w, Gr W w → Calls Tryz.prog 16 #[.agg #[.int .i64 k, .slice ad n cap], .agg #[.int .i64 px, .int .i64 py]] w fun e w' => e = .returned (.agg #[.int .u64 dh, .int .u64 dl, .int .u64 dd]) ∧ Gr w w')
    (A7 : ∀ w, Gr W w → Calls Tryz.prog 9 #[] w fun e w' => e = .returned (.bool true) ∧ Gr w w') :
    Calls Tryz.prog 3 #[.agg #[.int .i64 k, .slice ad n cap], qryV kq lx ly hx hy (.slice bd m bcap), .agg #[.int .i64 px, .int .i64 py]] W fun e w' => e = .returned (.bool true) ∧ Gr W w' := by
  have A8 := fun w => c_small6 k kq lx ly hx hy ad bd n cap m bcap w
  rw [hs] at A8
  have B1 := eqBox6 m1 m2 m3 m4
  have B2 := eqDist6 dh dl dd
  have t1 : (z == z) = true := by simp
  have t2 : decide (z = z) = true := by simp
  have t3 : ((c : Int) == (c : Int)) = true := by simp
  have t4 : decide ((c : Int) = (c : Int)) = true := by simp
  have H1 := Lib.hid A1
  have H2 := Lib.hid A2
  have H3 := Lib.hid A3
  have H4 := Lib.hid A4
  have H5 := Lib.hid A5
  have H6 := Lib.hid A6
  have H7 := Lib.hid A7
  have H8 := Lib.hid A8
  clear A1 A2 A3 A4 A5 A6 A7 A8
  clear hs
  go_enter Tryz.func3, Tryz.ntmps3
  go_wp2_with fail
  go_at_call 8
  refine ((H8.out _)).mono ?_
  rintro e w1 ⟨rfl, hw1⟩
  have cw1_0_0 := ci hw1 (W.heap.size) 0 k (by go_simp)
  have cw1_0_1 := cg hw1 (W.heap.size) 1 (.slice ad n cap) (by go_simp)
  have cw1_1_0 := ci hw1 (W.heap.size + 1) 0 kq (by go_simp)
  have cw1_1_1 := ci hw1 (W.heap.size + 1) 1 lx (by go_simp)
  have cw1_1_2 := ci hw1 (W.heap.size + 1) 2 ly (by go_simp)
  have cw1_1_3 := ci hw1 (W.heap.size + 1) 3 hx (by go_simp)
  have cw1_1_4 := ci hw1 (W.heap.size + 1) 4 hy (by go_simp)
  have cw1_1_5 := cg hw1 (W.heap.size + 1) 5 (.slice bd m bcap) (by go_simp)
  have cw1_2_0 := ci hw1 (W.heap.size + 1 + 1) 0 px (by go_simp)
  have cw1_2_1 := ci hw1 (W.heap.size + 1 + 1) 1 py (by go_simp)
  have gw1 : Gr W w1 := Gr.trans (by go_grown) hw1
  clear hw1
  go_wp2_with fail
  go_at_call 10
  refine ((H1.out _ (by have gg := gw1; have gs := gg.size; go_grown))).mono ?_
  rintro e w2 ⟨x2, rfl, E2, hw2⟩
  have cw2_0_0 := ci hw2 (W.heap.size) 0 k (by go_simp)
  have cw2_0_1 := cg hw2 (W.heap.size) 1 (.slice ad n cap) (by go_simp)
  have zw2_0 := zb cw2_0_0
  have cw2_1_0 := ci hw2 (W.heap.size + 1) 0 kq (by go_simp)
  have cw2_1_1 := ci hw2 (W.heap.size + 1) 1 lx (by go_simp)
  have cw2_1_2 := ci hw2 (W.heap.size + 1) 2 ly (by go_simp)
  have cw2_1_3 := ci hw2 (W.heap.size + 1) 3 hx (by go_simp)
  have cw2_1_4 := ci hw2 (W.heap.size + 1) 4 hy (by go_simp)
  have cw2_1_5 := cg hw2 (W.heap.size + 1) 5 (.slice bd m bcap) (by go_simp)
  have zw2_1 := zb cw2_1_0
  have cw2_2_0 := ci hw2 (W.heap.size + 1 + 1) 0 px (by go_simp)
  have cw2_2_1 := ci hw2 (W.heap.size + 1 + 1) 1 py (by go_simp)
  have zw2_2 := zb cw2_2_0
  have gw2 : Gr W w2 := Gr.trans (by have gg := gw1; have gs := gg.size; go_grown) hw2
  clear hw2 gw1 cw1_0_0 cw1_0_1 cw1_1_0 cw1_1_1 cw1_1_2 cw1_1_3 cw1_1_4 cw1_1_5 cw1_2_0 cw1_2_1
  have HE2 := Lib.hid E2
  have G2 := Lib.hid gw2
  clear E2 gw2
  go_wp2_with fail
  go_at_call 11
  refine ((H2.out _ (Gr.trans G2.out (by go_grown)))).mono ?_
  rintro e w3 ⟨rfl, hw3⟩
  have cw3_0_0 := ci hw3 (W.heap.size) 0 k (by go_simp)
  have cw3_0_1 := cg hw3 (W.heap.size) 1 (.slice ad n cap) (by go_simp)
  have zw3_0 := zb cw3_0_0
  have cw3_1_0 := ci hw3 (W.heap.size + 1) 0 kq (by go_simp)
  have cw3_1_1 := ci hw3 (W.heap.size + 1) 1 lx (by go_simp)
  have cw3_1_2 := ci hw3 (W.heap.size + 1) 2 ly (by go_simp)
  have cw3_1_3 := ci hw3 (W.heap.size + 1) 3 hx (by go_simp)
  have cw3_1_4 := ci hw3 (W.heap.size + 1) 4 hy (by go_simp)
  have cw3_1_5 := cg hw3 (W.heap.size + 1) 5 (.slice bd m bcap) (by go_simp)
  have zw3_1 := zb cw3_1_0
  have cw3_2_0 := ci hw3 (W.heap.size + 1 + 1) 0 px (by go_simp)
  have cw3_2_1 := ci hw3 (W.heap.size + 1 + 1) 1 py (by go_simp)
  have zw3_2 := zb cw3_2_0
  have cw3_3_0 := ci hw3 (w2.heap.size) 0 m1 (by go_simp)
  have cw3_3_1 := ci hw3 (w2.heap.size) 1 m2 (by go_simp)
  have cw3_3_2 := ci hw3 (w2.heap.size) 2 m3 (by go_simp)
  have cw3_3_3 := ci hw3 (w2.heap.size) 3 m4 (by go_simp)
  have zw3_3 := zb cw3_3_0
  have gw3 : Gr w2 w3 := Gr.trans (by go_grown) hw3
  clear hw3
  go_wp2_with fail
  try simp only [List.append]
  refine Od.wp_region_ord [(0, false), (1, false), (2, false), (3, false), (4, false), (6, false), (5, true), (7, false), (8, false), (9, false), (10, false), (11, false), (13, false), (14, false), (12, true), (15, true), (16, false), (17, false), (18, false), (19, false), (20, false), (22, false), (23, false), (21, true), (24, true), (25, false), (26, false), (27, false), (28, true), (29, false), (30, false)] (by kernel_rfl) (by kernel_rfl) ?_
  intro w4 hw4 KQ hKQ
  have cw4_0_0 := ci hw4 (W.heap.size) 0 k (by go_simp)
  have cw4_0_1 := cg hw4 (W.heap.size) 1 (.slice ad n cap) (by go_simp)
  have cw4_1_0 := ci hw4 (W.heap.size + 1) 0 kq (by go_simp)
  have cw4_1_1 := ci hw4 (W.heap.size + 1) 1 lx (by go_simp)
  have cw4_1_2 := ci hw4 (W.heap.size + 1) 2 ly (by go_simp)
  have cw4_1_3 := ci hw4 (W.heap.size + 1) 3 hx (by go_simp)
  have cw4_1_4 := ci hw4 (W.heap.size + 1) 4 hy (by go_simp)
  have cw4_1_5 := cg hw4 (W.heap.size + 1) 5 (.slice bd m bcap) (by go_simp)
  have cw4_2_0 := ci hw4 (W.heap.size + 1 + 1) 0 px (by go_simp)
  have cw4_2_1 := ci hw4 (W.heap.size + 1 + 1) 1 py (by go_simp)
  have cw4_3_0 := ci hw4 (w2.heap.size) 0 m1 (by go_simp)
  have cw4_3_1 := ci hw4 (w2.heap.size) 1 m2 (by go_simp)
  have cw4_3_2 := ci hw4 (w2.heap.size) 2 m3 (by go_simp)
  have cw4_3_3 := ci hw4 (w2.heap.size) 3 m4 (by go_simp)
  have cw4_4_0 := ci hw4 (w3.heap.size) 0 m1 (by go_simp)
  have cw4_4_1 := ci hw4 (w3.heap.size) 1 m2 (by go_simp)
  have cw4_4_2 := ci hw4 (w3.heap.size) 2 m3 (by go_simp)
  have cw4_4_3 := ci hw4 (w3.heap.size) 3 m4 (by go_simp)
  have gw4 : Gr w2 w4 := Gr.trans (by have gg := gw3; have gs := gg.size; go_grown) hw4
  clear gw3 zw3_0 cw3_0_0 cw3_0_1 zw3_1 cw3_1_0 cw3_1_1 cw3_1_2 cw3_1_3 cw3_1_4 cw3_1_5 zw3_2 cw3_2_0 cw3_2_1 zw3_3 cw3_3_0 cw3_3_1 cw3_3_2 cw3_3_3
  clear hw4
  repeat (first | (refine Od.wpO_skip (by simp only [List.getElem?_toArray, List.getElem?_cons_succ, List.getElem?_cons_zero] <;> rfl) rfl ?_; simp only [Act.put, List.setIfInBounds_toArray, List.set_cons_zero, List.set_cons_succ]) | (refine Od.wpO_pure (by simp only [List.getElem?_toArray, List.getElem?_cons_succ, List.getElem?_cons_zero] <;> rfl) rfl ?_; apply Exists.intro; refine ⟨?_, ?_⟩; (· intro wx gx; obtain ⟨mx, rfl⟩ := spread_of_gr gx; clear gx; all_goals (apply Od.pAt_of_quiet; intro K hK; go_big_quiet_op; first | exact hK _ rfl | (apply Exists.intro; refine ⟨fun _ => ?_, ?_⟩; (· fail); exact hK _ rfl))); try simp only [Act.put, List.setIfInBounds_toArray, List.set_cons_zero, List.set_cons_succ]))
  refine Od.wpO_call (by simp only [List.getElem?_toArray, List.getElem?_cons_succ, List.getElem?_cons_zero] <;> rfl) rfl ?_
  intro QS hQS
  go_wp2_with fail
  go_at_call 12
  (with_reducible refine ((c_Code_oerr _ (oerr_gr HE2.out gw4))).mono ?_)
  rintro e w5 ⟨rfl, hw5⟩
  go_wp2_with fail
  apply Exists.intro
  refine ⟨?_, hw5, ?_⟩
  · simp only [Act.put, List.setIfInBounds_toArray, List.set_cons_zero, List.set_cons_succ]; rfl
  have cw5_0_0 := ci hw5 (W.heap.size) 0 k (by go_simp)
  have cw5_0_1 := cg hw5 (W.heap.size) 1 (.slice ad n cap) (by go_simp)
  have cw5_1_0 := ci hw5 (W.heap.size + 1) 0 kq (by go_simp)
  have cw5_1_1 := ci hw5 (W.heap.size + 1) 1 lx (by go_simp)
  have cw5_1_2 := ci hw5 (W.heap.size + 1) 2 ly (by go_simp)
  have cw5_1_3 := ci hw5 (W.heap.size + 1) 3 hx (by go_simp)
  have cw5_1_4 := ci hw5 (W.heap.size + 1) 4 hy (by go_simp)
  have cw5_1_5 := cg hw5 (W.heap.size + 1) 5 (.slice bd m bcap) (by go_simp)
  have cw5_2_0 := ci hw5 (W.heap.size + 1 + 1) 0 px (by go_simp)
  have cw5_2_1 := ci hw5 (W.heap.size + 1 + 1) 1 py (by go_simp)
  have gw5 : Gr w2 w5 := Gr.trans (by have gg := gw4; have gs := gg.size; go_grown) hw5
  clear gw4 cw4_0_0 cw4_0_1 cw4_1_0 cw4_1_1 cw4_1_2 cw4_1_3 cw4_1_4 cw4_1_5 cw4_2_0 cw4_2_1 cw4_3_0 cw4_3_1 cw4_3_2 cw4_3_3 cw4_4_0 cw4_4_1 cw4_4_2 cw4_4_3
  clear hw5
  try simp only [Act.put, List.setIfInBounds_toArray, List.set_cons_zero, List.set_cons_succ]
  repeat (first | (refine Od.wpO_skip (by simp only [List.getElem?_toArray, List.getElem?_cons_succ, List.getElem?_cons_zero] <;> rfl) rfl ?_; simp only [Act.put, List.setIfInBounds_toArray, List.set_cons_zero, List.set_cons_succ]) | (refine Od.wpO_pure (by simp only [List.getElem?_toArray, List.getElem?_cons_succ, List.getElem?_cons_zero] <;> rfl) rfl ?_; apply Exists.intro; refine ⟨?_, ?_⟩; (· intro wx gx; obtain ⟨mx, rfl⟩ := spread_of_gr gx; clear gx; all_goals (apply Od.pAt_of_quiet; intro K hK; go_big_quiet_op; first | exact hK _ rfl | (apply Exists.intro; refine ⟨fun _ => ?_, ?_⟩; (· fail); exact hK _ rfl))); try simp only [Act.put, List.setIfInBounds_toArray, List.set_cons_zero, List.set_cons_succ]))
  refine Od.wpO_call (by simp only [List.getElem?_toArray, List.getElem?_cons_succ, List.getElem?_cons_zero] <;> rfl) rfl ?_
  intro QS hQS
  go_wp2_with fail
  go_at_call 13
  (with_reducible refine ((H3.out _ (Gr.trans G2.out gw5))).mono ?_)
  rintro e w6 ⟨rfl, hw6⟩
  go_wp2_with fail
  apply Exists.intro
  refine ⟨?_, hw6, ?_⟩
  · simp only [Act.put, List.setIfInBounds_toArray, List.set_cons_zero, List.set_cons_succ]; rfl
  have cw6_0_0 := ci hw6 (W.heap.size) 0 k (by go_simp)
  have cw6_0_1 := cg hw6 (W.heap.size) 1 (.slice ad n cap) (by go_simp)
  have cw6_2_0 := ci hw6 (W.heap.size + 1 + 1) 0 px (by go_simp)
  have cw6_2_1 := ci hw6 (W.heap.size + 1 + 1) 1 py (by go_simp)
  have gw6 : Gr w2 w6 := Gr.trans (by have gg := gw5; have gs := gg.size; go_grown) hw6
  clear gw5 cw5_0_0 cw5_0_1 cw5_1_0 cw5_1_1 cw5_1_2 cw5_1_3 cw5_1_4 cw5_1_5 cw5_2_0 cw5_2_1
  clear hw6
  try simp only [Act.put, List.setIfInBounds_toArray, List.set_cons_zero, List.set_cons_succ]
  repeat (first | (refine Od.wpO_skip (by simp only [List.getElem?_toArray, List.getElem?_cons_succ, List.getElem?_cons_zero] <;> rfl) rfl ?_; simp only [Act.put, List.setIfInBounds_toArray, List.set_cons_zero, List.set_cons_succ]) | (refine Od.wpO_pure (by simp only [List.getElem?_toArray, List.getElem?_cons_succ, List.getElem?_cons_zero] <;> rfl) rfl ?_; apply Exists.intro; refine ⟨?_, ?_⟩; (· intro wx gx; obtain ⟨mx, rfl⟩ := spread_of_gr gx; clear gx; all_goals (apply Od.pAt_of_quiet; intro K hK; go_big_quiet_op; first | exact hK _ rfl | (apply Exists.intro; refine ⟨fun _ => ?_, ?_⟩; (· fail); exact hK _ rfl))); try simp only [Act.put, List.setIfInBounds_toArray, List.set_cons_zero, List.set_cons_succ]))
  refine Od.wpO_call (by simp only [List.getElem?_toArray, List.getElem?_cons_succ, List.getElem?_cons_zero] <;> rfl) rfl ?_
  intro QS hQS
  go_wp2_with fail
  go_at_call 14
  (with_reducible refine ((H4.out _ (Gr.trans G2.out gw6))).mono ?_)
  rintro e w7 ⟨rfl, hw7⟩
  go_wp2_with fail
  apply Exists.intro
  refine ⟨?_, hw7, ?_⟩
  · simp only [Act.put, List.setIfInBounds_toArray, List.set_cons_zero, List.set_cons_succ]; rfl
  have cw7_0_0 := ci hw7 (W.heap.size) 0 k (by go_simp)
  have cw7_0_1 := cg hw7 (W.heap.size) 1 (.slice ad n cap) (by go_simp)
  have cw7_2_0 := ci hw7 (W.heap.size + 1 + 1) 0 px (by go_simp)
  have cw7_2_1 := ci hw7 (W.heap.size + 1 + 1) 1 py (by go_simp)
  have gw7 : Gr w2 w7 := Gr.trans (by have gg := gw6; have gs := gg.size; go_grown) hw7
  clear gw6 cw6_0_0 cw6_0_1 cw6_2_0 cw6_2_1
  clear hw7
  try simp only [Act.put, List.setIfInBounds_toArray, List.set_cons_zero, List.set_cons_succ]
  repeat (first | (refine Od.wpO_skip (by simp only [List.getElem?_toArray, List.getElem?_cons_succ, List.getElem?_cons_zero] <;> rfl) rfl ?_; simp only [Act.put, List.setIfInBounds_toArray, List.set_cons_zero, List.set_cons_succ]) | (refine Od.wpO_pure (by simp only [List.getElem?_toArray, List.getElem?_cons_succ, List.getElem?_cons_zero] <;> rfl) rfl ?_; apply Exists.intro; refine ⟨?_, ?_⟩; (· intro wx gx; obtain ⟨mx, rfl⟩ := spread_of_gr gx; clear gx; all_goals (apply Od.pAt_of_quiet; intro K hK; go_big_quiet_op; first | exact hK _ rfl | (apply Exists.intro; refine ⟨fun _ => ?_, ?_⟩; (· fail); exact hK _ rfl))); try simp only [Act.put, List.setIfInBounds_toArray, List.set_cons_zero, List.set_cons_succ]))
  refine Od.wpO_call (by simp only [List.getElem?_toArray, List.getElem?_cons_succ, List.getElem?_cons_zero] <;> rfl) rfl ?_
  intro QS hQS
  go_wp2_with fail
  go_at_call 15
  (with_reducible refine ((H5.out _ (Gr.trans G2.out gw7))).mono ?_)
  rintro e w8 ⟨rfl, hw8⟩
  go_wp2_with fail
  apply Exists.intro
  refine ⟨?_, hw8, ?_⟩
  · simp only [Act.put, List.setIfInBounds_toArray, List.set_cons_zero, List.set_cons_succ]; rfl
  have gw8 : Gr w2 w8 := Gr.trans (by have gg := gw7; have gs := gg.size; go_grown) hw8
  clear gw7 cw7_0_0 cw7_0_1 cw7_2_0 cw7_2_1
  clear hw8
  try simp only [Act.put, List.setIfInBounds_toArray, List.set_cons_zero, List.set_cons_succ]
  repeat (first | (refine Od.wpO_skip (by simp only [List.getElem?_toArray, List.getElem?_cons_succ, List.getElem?_cons_zero] <;> rfl) rfl ?_; simp only [Act.put, List.setIfInBounds_toArray, List.set_cons_zero, List.set_cons_succ]) | (refine Od.wpO_pure (by simp only [List.getElem?_toArray, List.getElem?_cons_succ, List.getElem?_cons_zero] <;> rfl) rfl ?_; apply Exists.intro; refine ⟨?_, ?_⟩; (· intro wx gx; obtain ⟨mx, rfl⟩ := spread_of_gr gx; clear gx; all_goals (apply Od.pAt_of_quiet; intro K hK; go_big_quiet_op; first | exact hK _ rfl | (apply Exists.intro; refine ⟨fun _ => ?_, ?_⟩; (· fail); exact hK _ rfl))); try simp only [Act.put, List.setIfInBounds_toArray, List.set_cons_zero, List.set_cons_succ]))
  refine Od.wpO_call (by simp only [List.getElem?_toArray, List.getElem?_cons_succ, List.getElem?_cons_zero] <;> rfl) rfl ?_
  intro QS hQS
  go_wp2_with fail
  go_at_call 16
  (with_reducible refine ((H6.out _ (Gr.trans G2.out gw8))).mono ?_)
  rintro e w9 ⟨rfl, hw9⟩
  go_wp2_with fail
  apply Exists.intro
  refine ⟨?_, hw9, ?_⟩
  · simp only [Act.put, List.setIfInBounds_toArray, List.set_cons_zero, List.set_cons_succ]; rfl
  have gw9 : Gr w2 w9 := Gr.trans (by have gg := gw8; have gs := gg.size; go_grown) hw9
  clear gw8
  clear hw9
  try simp only [Act.put, List.setIfInBounds_toArray, List.set_cons_zero, List.set_cons_succ]
  repeat (first | (refine Od.wpO_skip (by simp only [List.getElem?_toArray, List.getElem?_cons_succ, List.getElem?_cons_zero] <;> rfl) rfl ?_; simp only [Act.put, List.setIfInBounds_toArray, List.set_cons_zero, List.set_cons_succ]) | (refine Od.wpO_pure (by simp only [List.getElem?_toArray, List.getElem?_cons_succ, List.getElem?_cons_zero] <;> rfl) rfl ?_; apply Exists.intro; refine ⟨?_, ?_⟩; (· intro wx gx; obtain ⟨mx, rfl⟩ := spread_of_gr gx; clear gx; all_goals (apply Od.pAt_of_quiet; intro K hK; go_big_quiet_op; first | exact hK _ rfl | (apply Exists.intro; refine ⟨fun _ => ?_, ?_⟩; (· fail); exact hK _ rfl))); try simp only [Act.put, List.setIfInBounds_toArray, List.set_cons_zero, List.set_cons_succ]))
  refine Od.wpO_call (by simp only [List.getElem?_toArray, List.getElem?_cons_succ, List.getElem?_cons_zero] <;> rfl) rfl ?_
  intro QS hQS
  go_wp2_with fail
  go_at_call 9
  (with_reducible refine ((H7.out _ (Gr.trans G2.out gw9))).mono ?_)
  rintro e wa ⟨rfl, hwa⟩
  go_wp2_with fail
  apply Exists.intro
  refine ⟨?_, hwa, ?_⟩
  · simp only [Act.put, List.setIfInBounds_toArray, List.set_cons_zero, List.set_cons_succ]; rfl
  have gwa : Gr w2 wa := Gr.trans (by have gg := gw9; have gs := gg.size; go_grown) hwa
  clear gw9
  clear hwa
  try simp only [Act.put, List.setIfInBounds_toArray, List.set_cons_zero, List.set_cons_succ]
  repeat (first | (refine Od.wpO_skip (by simp only [List.getElem?_toArray, List.getElem?_cons_succ, List.getElem?_cons_zero] <;> rfl) rfl ?_; simp only [Act.put, List.setIfInBounds_toArray, List.set_cons_zero, List.set_cons_succ]) | (refine Od.wpO_pure (by simp only [List.getElem?_toArray, List.getElem?_cons_succ, List.getElem?_cons_zero] <;> rfl) rfl ?_; apply Exists.intro; refine ⟨?_, ?_⟩; (· intro wx gx; obtain ⟨mx, rfl⟩ := spread_of_gr gx; clear gx; all_goals (apply Od.pAt_of_quiet; intro K hK; go_big_quiet_op; first | exact hK _ rfl | (apply Exists.intro; refine ⟨fun _ => ?_, ?_⟩; (· fail); exact hK _ rfl))); try simp only [Act.put, List.setIfInBounds_toArray, List.set_cons_zero, List.set_cons_succ]))
  refine Od.wpO_nil (hKQ _ _ ?_)
  clear hKQ KQ
  go_wp2_with fail
  go_ret
  exact ⟨rfl, Gr.trans G2.out gwa⟩
theorem dG_val (ok : Bool) (s : Nat × Nat) : ∃ a b c : Int, dG ok s = .agg #[.int .u64 a, .int .u64 b, .int .u64 c] := by
  unfold dG dV
  cases ok
  · exact ⟨0, 0, 0, rfl⟩
  · exact ⟨_, _, _, rfl⟩
theorem walk_RelMatches (W : World) (k : Int) (v : Value) (kq lx ly hx hy : Int) (u : Value) (px py : Int) (h : (-9223372036854775808 ≤ k ∧ k ≤ 9223372036854775807) ∧ ∃ (n : Nat) (X Y : Nat → Int), Pts W v n X Y) (hu : ∃ (n : Nat) (X Y : Nat → Int), Pts W u n X Y) (B2 : (-9223372036854775808 ≤ px ∧ px ≤ 9223372036854775807) ∧ (-9223372036854775808 ≤ py ∧ py ≤ 9223372036854775807)) (hE : ErrT W) :
    Calls Tryz.prog 3 #[.agg #[.int .i64 k, v], qryV kq lx ly hx hy u, .agg #[.int .i64 px, .int .i64 py]] W fun e w' => e = .returned (.bool true) ∧ Gr W w' := by
  obtain ⟨-, n, X, Y, h⟩ := h
  obtain ⟨m, P, Q, hu⟩ := hu
  have A7 : ∀ w, Gr W w → Calls Tryz.prog 9 #[] w fun e w' => e = .returned (.bool true) ∧ Gr w w' := fun w g => p6_awake w (errT_gr hE g)
  cases hs : (decide (n ≤ 70) && decide (m ≤ 70))
  · obtain ⟨ad, cap, B, off, rfl, _⟩ := h
    obtain ⟨bd, bcap, C, oc, rfl, _⟩ := hu
    have A8 := fun w => c_small6 k kq lx ly hx hy ad bd n cap m bcap w
    rw [hs] at A8
    have H7 := Lib.hid A7
    have H8 := Lib.hid A8
    clear A7 A8
    clear hs hE
    go_enter Tryz.func3, Tryz.ntmps3
    go_wp2_with fail
    go_at_call 8
    refine ((H8.out _)).mono ?_
    rintro e w1 ⟨rfl, hw1⟩
    have gw1 : Gr W w1 := Gr.trans (by go_grown) hw1
    clear hw1
    go_wp2_with fail
    go_at_call 9
    refine ((H7.out _ (by have gg := gw1; have gs := gg.size; go_grown))).mono ?_
    rintro e w2 ⟨rfl, hw2⟩
    have gw2 : Gr W w2 := Gr.trans (by have gg := gw1; have gs := gg.size; go_grown) hw2
    clear hw2 gw1
    go_wp2_with fail
    go_ret
    exact ⟨rfl, gw2⟩
  · have A3 := fun w (g : Gr W w) => c_MatchG (k := k) kq lx ly hx hy w (errT_gr hE g) (pts_gr h g) (pts_gr hu g)
    have A4 := fun w (g : Gr W w) => c_rMatchG (k := k) kq lx ly hx hy w (pts_gr h g) (pts_gr hu g)
    have em : (decide (objC k n X Y = 0) && decide (qC kq lx ly hx hy m P Q = 0) && maA k n X Y kq lx ly hx hy m P Q) = (decide (objC k n X Y = 0) && decide (qC kq lx ly hx hy m P Q = 0) && maD k n X Y kq lx ly hx hy m P Q) := by
      by_cases hc : objC k n X Y = 0
      · by_cases hd : qC kq lx ly hx hy m P Q = 0
        · rw [ma_doc hc hd]
        · simp [hd]
      · simp [hc]
    rw [em] at A3
    have A5 := fun w (g : Gr W w) => c_DistG (k := k) px py w (errT_gr hE g) (pts_gr h g)
    have A6 := fun w (g : Gr W w) => c_rDistG (k := k) px py w (pts_gr h g)
    obtain ⟨dh, dl, dd, e⟩ := dG_val (decide (objC k n X Y = 0) && nearB px py) (diA k n X Y px py)
    rw [e] at A5 A6
    by_cases hc : objC k n X Y = 0
    · have A1 : ∀ w, Gr W w → Calls Tryz.prog 10 #[.agg #[.int .i64 k, v]] w fun e w' => ∃ x, e = .returned (.tuple #[.agg #[.int .i64 (bLx k n X), .int .i64 (bLy k n Y), .int .i64 (bHx k n X Y), .int .i64 (bHy k n Y)], x]) ∧ OErr w' x 0 ∧ Gr w w' := fun w g => (c_BoundsOk w (pts_gr h g) hc).mono fun e w' ⟨a, b⟩ => ⟨_, a, Or.inl ⟨rfl, rfl⟩, b⟩
      have A2 := fun w (g : Gr W w) => c_rBoundsOk w (pts_gr h g) hc
      obtain ⟨ad, cap, B, off, rfl, _⟩ := h
      obtain ⟨bd, bcap, C, oc, rfl, _⟩ := hu
      exact matches_core k kq lx ly hx hy px py _ _ _ _ dh dl dd ad bd n cap m bcap 0 _ W hs A1 A2 A3 A4 A5 A6 A7
    · have A1 : ∀ w, Gr W w → Calls Tryz.prog 10 #[.agg #[.int .i64 k, v]] w fun e w' => ∃ x, e = .returned (.tuple #[.agg #[.int .i64 0, .int .i64 0, .int .i64 0, .int .i64 0], x]) ∧ OErr w' x (objC k n X Y) ∧ Gr w w' := fun w g => (c_BoundsNo w (pts_gr h g) hc).mono fun e w' ⟨x, a, b, c⟩ => ⟨x, a, oerr_werr b, c⟩
      have A2 := fun w (g : Gr W w) => c_rBoundsNo w (pts_gr h g) hc
      obtain ⟨ad, cap, B, off, rfl, _⟩ := h
      obtain ⟨bd, bcap, C, oc, rfl, _⟩ := hu
      exact matches_core k kq lx ly hx hy px py _ _ _ _ dh dl dd ad bd n cap m bcap _ _ W hs A1 A2 A3 A4 A5 A6 A7
end Go.Proofs.YtfobmlgpjhghdaaGreatDoor
namespace Go.Proofs.YtfobmlgpjhghdaaGreatDoor.Qs
open Go.ChangeShapes Go.WideShapes
theorem laid : laidOutB Tryz.prog = true := by kernel_rfl
theorem laidP : laidOutB Tryz.pinned.checked.prog = true := laid
theorem maps : mapsRowed Tryz.pinned.checked.prog = true := by kernel_rfl
end Go.Proofs.YtfobmlgpjhghdaaGreatDoor.Qs
