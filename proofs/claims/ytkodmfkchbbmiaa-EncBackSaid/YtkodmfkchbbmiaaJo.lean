/- EncBack: the walk -/
import Derived.Test.YtkodmfkchbbmiaaJn
import Derived.Test.YtkodmfkchbbmiaaEv
import Derived.Test.YtkodmfkchbbmiaaOj
namespace Go.Proofs.Ytkodmfkchbbmiaa
set_option linter.unusedVariables false
set_option linter.unusedSimpArgs false
open Go.ChangeShapes Go.WideShapes Go.ChangeAt Go.RowKit

theorem own_size (w : World) : (w.alloc (.cells #[] 5)).heap.size = w.heap.size + 1 := by simp
theorem own_empty (w : World) : Own (w.alloc (.cells #[] 5)) w.heap.size (.slice (some ⟨w.heap.size, 0, none⟩) 0 0) [] := by
  have h := World.ownsRow_lit (base := w.heap.size) (e := 5) (size := 1) w #[] 0 (Nat.le_refl _) (by decide) (by simp)
  simpa [Own] using h
set_option maxHeartbeats 8000000 in
set_option maxRecDepth 100000 in
theorem back_bad {n : Nat} {X Y : Nat → Int} {v b : Value} {L : List UInt8} (k id z cut : Int) (W : World) (h : Pts W v n X Y) (hb : Row W b L) (hn : n ≤ 80) (hl : L.length ≤ 1000) (hz : Iw z) (hc : objC k n X Y ≠ 0) :
    Calls Try.prog 7 #[.agg #[.int .i64 k, v], .int .i64 id, .int .i64 z, b, .int .i64 cut] W fun e w' => e = .returned (.bool true) ∧ Gr W w' := by
  have A1 := fun w => c_SignedI hz w
  have A2 := fun (w : World) (u : Value) (r : Row w u (Ec.vr (zz z) ++ L)) => us_back hz w r (by omega)
  have hls := (Ec.vr_len10 (iw_wd hz))
  have A3 : ∀ w, Gr W w → Calls Try.prog 28 #[.agg #[.int .i64 k, v]] w fun e w' => ∃ ad cap B, e = .returned (.tuple #[.slice ad 0 cap, .iface 33 (.pointer (some ⟨B, 0, none⟩))]) ∧ Gr w w' := fun w g => by
    refine (c_Object k w (pts_gr h g)).mono ?_
    rintro e w' ⟨x, u, rfl, hu, hr, g'⟩
    rcases hu with ⟨_, bad⟩ | ⟨B, _, _, rfl, _⟩
    · exact absurd bad hc
    · have hR : objR k n X Y = [] := if_neg hc
      rw [hR] at hr
      obtain ⟨ad, cap, _, _, rfl, _⟩ := hr
      exact ⟨ad, cap, B, rfl, g'⟩
  generalize Ec.vr (zz z) = LS at A1 A2 hls
  obtain ⟨ls, els⟩ : ∃ ls, ls = LS.length := ⟨_, rfl⟩
  rw [← els] at A1 A2 hls
  have HB := Lib.hid hb
  obtain ⟨ad, cap, _, _, rfl, _⟩ := h
  obtain ⟨bd, bcap, _, _, rfl, _⟩ := hb
  obtain ⟨len, el⟩ : ∃ len, len = L.length := ⟨_, rfl⟩
  have HL := Lib.hid (show LS.length + L.length ≤ 2000 by omega)
  rw [← el] at HB ⊢
  have d1 : decide ((80 : Int) < (n : Int)) = false := decide_eq_false (by omega)
  have d2 : decide (80 < n) = false := decide_eq_false (by omega)
  have d3 : decide ((1000 : Int) < (len : Int)) = false := decide_eq_false (by omega)
  have d4 : decide (1000 < len) = false := decide_eq_false (by omega)
  have tz : ((z : Int) == (z : Int)) = true := by simp
  have tz2 : ((z : Int) != (z : Int)) = false := by simp
  have ts : ((ls : Int) == (ls : Int)) = true := by simp
  have ts2 : ((ls : Int) != (ls : Int)) = false := by simp
  have H1 := Lib.hid A1
  have H2 := Lib.hid A2
  have H3 := Lib.hid A3
  clear A1 A2 A3
  clear el els hl hn hz hc
  go_enter Try.func7, Try.ntmps7
  go_wp2_with fail
  go_at_call 26
  refine (H1.out _).mono ?_
  rintro e w1 ⟨ad1, cap1, rfl, r1, g1⟩
  have c0 : w1.cell? ⟨W.heap.size, 0, none⟩ = some (.int .i64 k) := cell_gr g1 (by go_simp)
  have c1 : w1.cell? ⟨W.heap.size, 1, none⟩ = some (.slice ad n cap) := cell_gr g1 (by go_simp)
  have G1 : Gr W w1 := Gr.trans (by go_grown) g1
  have R1 := Lib.hid r1
  clear r1 g1 H1
  go_wp2_with (first | (at_builtin; (refine wpList_app rfl (.tmp 42) (.tmp 43) rfl w1.heap.size (.slice (some ⟨w1.heap.size, 0, none⟩) 0 0) (.slice ad1 ls cap1) [] LS rfl (own_empty _) rfl (row_gr R1.out (by go_grown)) (by have := HL.out; simp only [List.length_nil]; omega) (by have := own_size w1; omega) ?_); intro ba1 wa1 oa1 ga1; (have KA1 : Gr w1 wa1 := ga1.gr (by go_grown) (fun j hj => (own_at (own_empty w1) hj).1)); have OA1 := Lib.hid oa1; (have za1 := KA1.size); clear oa1 ga1) | (at_builtin; (refine wpList_app rfl (.tmp 44) (.tmp 45) rfl w1.heap.size ba1 (.slice bd len bcap) ([] ++ LS) L rfl OA1.out rfl (row_gr HB.out (Gr.trans G1 KA1)) (by have := HL.out; simp only [List.length_append, List.length_nil]; omega) za1 ?_); intro bb1 wb1 ob1 gb1; (have KB1 : Gr w1 wb1 := gb1.gr KA1 (fun j hj => (own_at OA1.out hj).1)); (have OB1 := Lib.hid (show Row wb1 bb1 (LS ++ L) from row_own ob1)); clear ob1 gb1 KA1 OA1 za1))
  go_at_call 27
  refine (H2.out _ _ OB1.out).mono ?_
  rintro e w2 ⟨rfl, g2⟩
  have K2 : Gr w1 w2 := Gr.trans KB1 g2
  have e0 := cell_gr K2 c0
  have e1 := cell_gr K2 c1
  have G2 : Gr W w2 := Gr.trans G1 K2
  clear g2 K2 KB1 OB1 H2 c0 c1 G1 R1
  go_wp2_with fail
  go_at_call 28
  refine (H3.out _ G2).mono ?_
  rintro e w3 ⟨ad3, cap3, B3, rfl, g3⟩
  have G3 : Gr W w3 := Gr.trans G2 g3
  clear g3 e0 e1 H3 G2
  go_wp2_with fail
  go_at_call 25
  refine ((p8_awake _)).mono ?_
  rintro e w4 ⟨rfl, hw4⟩
  have gw4 : Gr w3 w4 := Gr.trans (by go_grown) hw4
  clear hw4
  go_wp2_with fail
  go_ret
  exact ⟨rfl, Gr.trans G3 gw4⟩
/-! ### it is read back -/
set_option maxHeartbeats 16000000 in
set_option maxRecDepth 100000 in
theorem back_ok {n : Nat} {X Y : Nat → Int} {v b : Value} {L : List UInt8} (k id z cut : Int) (W : World) (h : Pts W v n X Y) (hb : Row W b L) (hn : n ≤ 80) (hl : L.length ≤ 1000) (hz : Iw z) (hk : -9223372036854775808 ≤ cut ∧ cut ≤ 9223372036854775807) (hc : objC k n X Y = 0) (hcc : chgC 1 id k n X Y = 0) (hi : 0 ≤ id ∧ id ≤ 1099511627776) :
    Calls Try.prog 7 #[.agg #[.int .i64 k, v], .int .i64 id, .int .i64 z, b, .int .i64 cut] W fun e w' => e = .returned (.bool true) ∧ Gr W w' := by
  have A1 := fun w => c_SignedI hz w
  have A2 := fun (w : World) (u : Value) (r : Row w u (Ec.vr (zz z) ++ L)) => us_back hz w r (by omega)
  have hls := (Ec.vr_len10 (iw_wd hz))
  have A3 : ∀ w, Gr W w → Calls Try.prog 28 #[.agg #[.int .i64 k, v]] w fun e w' => ∃ ad cap, e = .returned (.tuple #[.slice ad (objB k n X Y).length cap, .nilIface]) ∧ Row w' (.slice ad (objB k n X Y).length cap) (objB k n X Y) ∧ Gr w w' := fun w g => by
    refine (c_Object k w (pts_gr h g)).mono ?_
    rintro e w' ⟨x, u, rfl, hu, hr, g'⟩
    rw [hc] at hu
    have hR : objR k n X Y = objB k n X Y := if_pos hc
    rw [hR] at hr
    rcases hu with ⟨rfl, _⟩ | ⟨B, _, _, _, bad, _⟩
    · obtain ⟨ad, cap, _, _, rfl, _⟩ := _root_.id hr
      exact ⟨ad, cap, rfl, hr, g'⟩
    · omega
  have A4 : ∀ w u, Row w u (objB k n X Y ++ L) → Calls Try.prog 29 #[u] w fun e w' => ∃ ad cap, e = .returned (.tuple #[.agg #[.int .i64 k, .slice ad n cap], .int .i64 ((objB k n X Y).length : Nat), .nilIface]) ∧ Pts w' (.slice ad n cap) n X Y ∧ Gr w w' := fun w u r => by
    refine (uo_back hc w r (by omega)).mono ?_
    rintro e w' ⟨x, rfl, hP, g⟩
    obtain ⟨ad, cap, _, _, rfl, _⟩ := _root_.id hP
    exact ⟨ad, cap, rfl, hP, g⟩
  have A5 : ∀ (c : Nat) w u, c < (objB k n X Y).length → Row w u ((objB k n X Y).take c) → Calls Try.prog 29 #[u] w fun e w' => ∃ B, e = .returned (.tuple #[.agg #[.int .i64 0, .slice none 0 0], .int .i64 0, .iface 33 (.pointer (some ⟨B, 0, none⟩))]) ∧ FaultAt w' B objectS 0 10 ∧ Gr w w' := fun c w u hcl r => uo_cut hc hcl w r
  have hlb : 1 ≤ (objB k n X Y).length ∧ (objB k n X Y).length ≤ 1320 := by
    refine ⟨?_, objB_len hc⟩
    have h1 := objC_near hc
    have a := (Ec.vr_len10 (v := k.toNat) (by omega)).1
    unfold objB
    simp only [List.length_append]
    omega
  have A6 : ∀ w, Gr W w → Calls Try.prog 31 #[.agg #[.int .i64 1, .int .i64 id, .int .i64 k, v]] w fun e w' => ∃ ad cap, e = .returned (.tuple #[.slice ad (chgB 1 id k n X Y).length cap, .nilIface]) ∧ Row w' (.slice ad (chgB 1 id k n X Y).length cap) (chgB 1 id k n X Y) ∧ Gr w w' := fun w g => by
    refine (c_Change 1 id k w (pts_gr h g)).mono ?_
    rintro e w' ⟨x, u, rfl, hu, hr, g'⟩
    rw [hcc] at hu
    have hR : chgR 1 id k n X Y = chgB 1 id k n X Y := if_pos hcc
    rw [hR] at hr
    rcases hu with ⟨rfl, _⟩ | ⟨B, _, _, _, bad, _⟩
    · obtain ⟨ad, cap, _, _, rfl, _⟩ := _root_.id hr
      exact ⟨ad, cap, rfl, hr, g'⟩
    · omega
  have A7 : ∀ w u, Row w u (chgB 1 id k n X Y ++ L) → Calls Try.prog 33 #[u] w fun e w' => ∃ ad cap, e = .returned (.tuple #[.agg #[.int .i64 1, .int .i64 id, .int .i64 k, .slice ad n cap], .int .i64 ((chgB 1 id k n X Y).length : Nat), .nilIface]) ∧ Pts w' (.slice ad n cap) n X Y ∧ Gr w w' := fun w u r => by
    refine (uc_back hcc w r (by omega)).mono ?_
    rintro e w' ⟨x, rfl, hP, g⟩
    obtain ⟨ad, cap, _, _, rfl, _⟩ := _root_.id hP
    exact ⟨ad, cap, rfl, hP, g⟩
  have hlc := chgB_len hcc
  obtain ⟨LC, eLC⟩ : ∃ LC, LC = chgB 1 id k n X Y := ⟨_, rfl⟩
  rw [← eLC] at A6 A7 hlc
  obtain ⟨lc, elc⟩ : ∃ lc, lc = LC.length := ⟨_, rfl⟩
  rw [← elc] at A6 A7 hlc
  have A8 := fun w => c_Round cut hk.1 hk.2 (objB k n X Y).length (by omega) (by omega) w
  have A9 := fun (w : World) (B : Nat) (hF : FaultAt w B objectS 0 10) => c_CodeF B 10 (by omega) w hF.2.2
  have SM := Lib.hid (fun (w : World) (u x : Value) (p : Pts w u n X Y) (q : Pts w x n X Y) => c_rSame k k true w p q (by omega) (by simp))
  generalize Ec.vr (zz z) = LS at A1 A2 hls
  obtain ⟨ls, els⟩ : ∃ ls, ls = LS.length := ⟨_, rfl⟩
  rw [← els] at A1 A2 hls
  obtain ⟨LB, eLB⟩ : ∃ LB, LB = objB k n X Y := ⟨_, rfl⟩
  rw [← eLB] at A3 A4 A5 A8 hlb
  obtain ⟨lb, elb⟩ : ∃ lb, lb = LB.length := ⟨_, rfl⟩
  rw [← elb] at A3 A4 A5 A8 hlb
  have HB := Lib.hid hb
  have HP := Lib.hid h
  obtain ⟨ad, cap, _, _, rfl, _⟩ := h
  obtain ⟨bd, bcap, _, _, rfl, _⟩ := hb
  obtain ⟨len, el⟩ : ∃ len, len = L.length := ⟨_, rfl⟩
  have HL := Lib.hid (show LS.length + L.length ≤ 9000 by omega)
  have HLB := Lib.hid (show LB.length + L.length ≤ 9000 by omega)
  have HLC := Lib.hid (show LC.length + L.length ≤ 9000 by omega)
  have HEB := Lib.hid elb
  rw [← el] at HB ⊢
  have d1 : decide ((80 : Int) < (n : Int)) = false := decide_eq_false (by omega)
  have d2 : decide (80 < n) = false := decide_eq_false (by omega)
  have d3 : decide ((1000 : Int) < (len : Int)) = false := decide_eq_false (by omega)
  have d4 : decide (1000 < len) = false := decide_eq_false (by omega)
  have tz : ((z : Int) == (z : Int)) = true := by simp
  have tz2 : ((z : Int) != (z : Int)) = false := by simp
  have ts : ((ls : Int) == (ls : Int)) = true := by simp
  have ts2 : ((ls : Int) != (ls : Int)) = false := by simp
  have tb : ((lb : Int) == (lb : Int)) = true := by simp
  have tb2 : ((lb : Int) != (lb : Int)) = false := by simp
  have tb3 : ((lb : Int) == 0) = false := by simp; omega
  have tb4 : (lb == 0) = false := by simp; omega
  have ti : ((id : Int) == (id : Int)) = true := by simp
  have tc : ((lc : Int) == (lc : Int)) = true := by simp
  have di1 : decide ((0 : Int) ≤ id) = true := decide_eq_true hi.1
  have di2 : decide (id ≤ (1099511627776 : Int)) = true := decide_eq_true hi.2
  clear eLC elc hlc
  have H1 := Lib.hid A1
  have H2 := Lib.hid A2
  have H3 := Lib.hid A3
  have H4 := Lib.hid A4
  have H5 := Lib.hid A5
  have H6 := Lib.hid A6
  have H7 := Lib.hid A7
  have H8 := Lib.hid A8
  have H9 := Lib.hid A9
  clear A1 A2 A3 A4 A5 A6 A7 A8 A9
  clear el els elb eLB hl hn hz hc hcc hls hlb hi hk
  go_enter Try.func7, Try.ntmps7
  go_wp2_with fail
  go_at_call 26
  refine (H1.out _).mono ?_
  rintro e w1 ⟨ad1, cap1, rfl, r1, g1⟩
  have c0 : w1.cell? ⟨W.heap.size, 0, none⟩ = some (.int .i64 k) := cell_gr g1 (by go_simp)
  have c1 : w1.cell? ⟨W.heap.size, 1, none⟩ = some (.slice ad n cap) := cell_gr g1 (by go_simp)
  have G1 : Gr W w1 := Gr.trans (by go_grown) g1
  have R1 := Lib.hid r1
  clear r1 g1 H1
  go_wp2_with (first | (at_builtin; (refine wpList_app rfl (.tmp 42) (.tmp 43) rfl w1.heap.size (.slice (some ⟨w1.heap.size, 0, none⟩) 0 0) (.slice ad1 ls cap1) [] LS rfl (own_empty _) rfl (row_gr R1.out (by go_grown)) (by have := HL.out; simp only [List.length_nil]; omega) (by have := own_size w1; omega) ?_); intro ba1 wa1 oa1 ga1; (have KA1 : Gr w1 wa1 := ga1.gr (by go_grown) (fun j hj => (own_at (own_empty w1) hj).1)); have OA1 := Lib.hid oa1; (have za1 := KA1.size); clear oa1 ga1) | (at_builtin; (refine wpList_app rfl (.tmp 44) (.tmp 45) rfl w1.heap.size ba1 (.slice bd len bcap) ([] ++ LS) L rfl OA1.out rfl (row_gr HB.out (Gr.trans G1 KA1)) (by have := HL.out; simp only [List.length_append, List.length_nil]; omega) za1 ?_); intro bb1 wb1 ob1 gb1; (have KB1 : Gr w1 wb1 := gb1.gr KA1 (fun j hj => (own_at OA1.out hj).1)); (have OB1 := Lib.hid (show Row wb1 bb1 (LS ++ L) from row_own ob1)); clear ob1 gb1 KA1 OA1 za1))
  go_at_call 27
  refine (H2.out _ _ OB1.out).mono ?_
  rintro e w2 ⟨rfl, g2⟩
  have K2 : Gr w1 w2 := Gr.trans KB1 g2
  have e0 := cell_gr K2 c0
  have e1 := cell_gr K2 c1
  have G2 : Gr W w2 := Gr.trans G1 K2
  clear g2 K2 KB1 OB1 H2 c0 c1 G1 R1
  go_wp2_with fail
  go_at_call 28
  refine (H3.out _ G2).mono ?_
  rintro e w3 ⟨ad3, cap3, rfl, r3, g3⟩
  have G3 : Gr W w3 := Gr.trans G2 g3
  have R3 := Lib.hid r3
  have i0 := cell_gr g3 e0
  have i1 := cell_gr g3 e1
  clear g3 r3 e0 e1 H3 G2
  go_wp2_with (first | (at_builtin; (refine wpList_app rfl (.tmp 78) (.tmp 79) rfl w3.heap.size (.slice (some ⟨w3.heap.size, 0, none⟩) 0 0) (.slice ad3 lb cap3) [] LB rfl (own_empty _) rfl (row_gr R3.out (by go_grown)) (by have := HLB.out; simp only [List.length_nil]; omega) (by have := own_size w3; omega) ?_); intro ba2 wa2 oa2 ga2; (have KA2 : Gr w3 wa2 := ga2.gr (by go_grown) (fun j hj => (own_at (own_empty w3) hj).1)); have OA2 := Lib.hid oa2; (have za2 := KA2.size); clear oa2 ga2) | (at_builtin; (refine wpList_app rfl (.tmp 80) (.tmp 81) rfl w3.heap.size ba2 (.slice bd len bcap) ([] ++ LB) L rfl OA2.out rfl (row_gr HB.out (Gr.trans G3 KA2)) (by have := HLB.out; simp only [List.length_append, List.length_nil]; omega) za2 ?_); intro bb2 wb2 ob2 gb2; (have KB2 : Gr w3 wb2 := gb2.gr KA2 (fun j hj => (own_at OA2.out hj).1)); (have OB2 := Lib.hid (show Row wb2 bb2 (LB ++ L) from row_own ob2)); clear ob2 gb2 KA2 OA2 za2))
  go_at_call 29
  refine (H4.out _ _ OB2.out).mono ?_
  rintro e w4 ⟨ad4, cap4, rfl, p4, g4⟩
  have K4 : Gr w3 w4 := Gr.trans KB2 g4
  have j0 := cell_gr K4 i0
  have j1 := cell_gr K4 i1
  have zj := World.block_lt_of_cell? _ _ j0
  have R4 := Lib.hid (row_gr R3.out K4)
  have P4 := Lib.hid p4
  have G4 : Gr W w4 := Gr.trans G3 K4
  clear g4 K4 KB2 OB2 H4 i0 i1 G3 R3 p4
  go_wp2_with fail
  go_at_call 30
  refine ((SM.out _ _ _ (pts_gr P4.out (by go_grown)) (pts_gr HP.out (Gr.trans G4 (by go_grown))))).mono ?_
  rintro e w5 ⟨rfl, hw5⟩
  have cw5_0_0 : w5.cell? ⟨W.heap.size, 0, none⟩ = some (.int .i64 k) := cell_gr hw5 (by go_simp)
  have cw5_0_1 : w5.cell? ⟨W.heap.size, 1, none⟩ = some (.slice ad n cap) := cell_gr hw5 (by go_simp)
  have zw5_0 : W.heap.size < w5.heap.size := World.block_lt_of_cell? _ _ cw5_0_0
  have cw5_1_0 : w5.cell? ⟨w4.heap.size, 0, none⟩ = some (.int .i64 k) := cell_gr hw5 (by go_simp)
  have cw5_1_1 : w5.cell? ⟨w4.heap.size, 1, none⟩ = some (.slice ad4 n cap4) := cell_gr hw5 (by go_simp)
  have zw5_1 : w4.heap.size < w5.heap.size := World.block_lt_of_cell? _ _ cw5_1_0
  have gw5 : Gr w4 w5 := Gr.trans (by go_grown) hw5
  clear hw5
  go_wp2_with fail
  go_at_call 20
  refine (H8.out _).mono ?_
  rintro e w6 ⟨c, hcl, rfl, g6⟩
  have K6 : Gr w4 w6 := Gr.trans gw5 g6
  have k0 := cell_gr g6 cw5_0_0
  have k1 := cell_gr g6 cw5_0_1
  have zk := World.block_lt_of_cell? _ _ k0
  have R6 := Lib.hid (row_gr R4.out K6)
  have G6 : Gr W w6 := Gr.trans G4 K6
  obtain ⟨u6, ks, r6⟩ := row_to c (by rw [← HEB.out]; omega) R6.out
  have U6 := Lib.hid r6
  have HCL := Lib.hid hcl
  clear g6 K6 cw5_0_0 cw5_0_1 zw5_0 cw5_1_0 cw5_1_1 zw5_1 gw5 H8 R4 G4 j0 j1 zj P4 r6 hcl
  go_wp2_with fail
  go_at_call 29
  refine (H5.out c _ _ HCL.out U6.out).mono ?_
  rintro e w7 ⟨B7, rfl, f7, g7⟩
  have l0 := cell_gr g7 k0
  have l1 := cell_gr g7 k1
  have zl := World.block_lt_of_cell? _ _ l0
  have F7 := Lib.hid f7
  have G7 : Gr W w7 := Gr.trans G6 g7
  clear g7 f7 k0 k1 zk U6 H5 R6 G6 ks
  go_wp2_with fail
  go_at_call 31
  refine (H6.out _ (Gr.trans G7 (by go_grown))).mono ?_
  rintro e w8 ⟨ad8, cap8, rfl, r8, g8⟩
  have K8 : Gr w7 w8 := Gr.trans (by go_grown) g8
  have m0 := cell_gr K8 l0
  have m1 := cell_gr K8 l1
  have zm := World.block_lt_of_cell? _ _ m0
  have F8 := Lib.hid (faultAt_gr F7.out K8)
  have R8 := Lib.hid r8
  have G8 : Gr W w8 := Gr.trans G7 K8
  clear g8 K8 r8 l0 l1 zl F7 H6 G7
  go_wp2_with fail
  go_at_call 32
  refine (H9.out _ _ F8.out).mono ?_
  rintro e w9 ⟨rfl, g9⟩
  have n0 := cell_gr g9 m0
  have n1 := cell_gr g9 m1
  have R9 := Lib.hid (row_gr R8.out g9)
  have G9 : Gr W w9 := Gr.trans G8 g9
  clear g9 m0 m1 zm F8 R8 G8 H9
  go_wp2_with (first | (at_builtin; (refine wpList_app rfl (.tmp 147) (.tmp 148) rfl w9.heap.size (.slice (some ⟨w9.heap.size, 0, none⟩) 0 0) (.slice ad8 lc cap8) [] LC rfl (own_empty _) rfl (row_gr R9.out (by go_grown)) (by have := HLC.out; simp only [List.length_nil]; omega) (by have := own_size w9; omega) ?_); intro ba3 wa3 oa3 ga3; (have KA3 : Gr w9 wa3 := ga3.gr (by go_grown) (fun j hj => (own_at (own_empty w9) hj).1)); have OA3 := Lib.hid oa3; (have za3 := KA3.size); clear oa3 ga3) | (at_builtin; (refine wpList_app rfl (.tmp 149) (.tmp 150) rfl w9.heap.size ba3 (.slice bd len bcap) ([] ++ LC) L rfl OA3.out rfl (row_gr HB.out (Gr.trans G9 KA3)) (by have := HLC.out; simp only [List.length_append, List.length_nil]; omega) za3 ?_); intro bb3 wb3 ob3 gb3; (have KB3 : Gr w9 wb3 := gb3.gr KA3 (fun j hj => (own_at OA3.out hj).1)); (have OB3 := Lib.hid (show Row wb3 bb3 (LC ++ L) from row_own ob3)); clear ob3 gb3 KA3 OA3 za3))
  go_at_call 33
  refine (H7.out _ _ OB3.out).mono ?_
  rintro e wA ⟨adA, capA, rfl, pA, gA⟩
  have KA : Gr w9 wA := Gr.trans KB3 gA
  have o0 := cell_gr KA n0
  have o1 := cell_gr KA n1
  have zo := World.block_lt_of_cell? _ _ o0
  have PA := Lib.hid pA
  have GA : Gr W wA := Gr.trans G9 KA
  clear gA KA KB3 OB3 H7 n0 n1 G9 R9 pA
  go_wp2_with fail
  go_at_call 30
  refine ((SM.out _ _ _ (pts_gr PA.out (by go_grown)) (pts_gr HP.out (Gr.trans GA (by go_grown))))).mono ?_
  rintro e wB ⟨rfl, hwB⟩
  have cwB_0_0 : wB.cell? ⟨W.heap.size, 0, none⟩ = some (.int .i64 k) := cell_gr hwB (by go_simp)
  have cwB_0_1 : wB.cell? ⟨W.heap.size, 1, none⟩ = some (.slice ad n cap) := cell_gr hwB (by go_simp)
  have zwB_0 : W.heap.size < wB.heap.size := World.block_lt_of_cell? _ _ cwB_0_0
  have cwB_1_0 : wB.cell? ⟨wA.heap.size, 0, none⟩ = some (.int .i64 1) := cell_gr hwB (by go_simp)
  have cwB_1_1 : wB.cell? ⟨wA.heap.size, 1, none⟩ = some (.int .i64 id) := cell_gr hwB (by go_simp)
  have cwB_1_2 : wB.cell? ⟨wA.heap.size, 2, none⟩ = some (.int .i64 k) := cell_gr hwB (by go_simp)
  have cwB_1_3 : wB.cell? ⟨wA.heap.size, 3, none⟩ = some (.slice adA n capA) := cell_gr hwB (by go_simp)
  have zwB_1 : wA.heap.size < wB.heap.size := World.block_lt_of_cell? _ _ cwB_1_0
  have gwB : Gr wA wB := Gr.trans (by go_grown) hwB
  clear hwB
  go_wp2_with fail
  go_at_call 25
  refine ((p8_awake _)).mono ?_
  rintro e wC ⟨rfl, hwC⟩
  have cwC_0_0 : wC.cell? ⟨W.heap.size, 0, none⟩ = some (.int .i64 k) := cell_gr hwC (by go_simp)
  have cwC_0_1 : wC.cell? ⟨W.heap.size, 1, none⟩ = some (.slice ad n cap) := cell_gr hwC (by go_simp)
  have zwC_0 : W.heap.size < wC.heap.size := World.block_lt_of_cell? _ _ cwC_0_0
  have cwC_1_0 : wC.cell? ⟨wA.heap.size, 0, none⟩ = some (.int .i64 1) := cell_gr hwC (by go_simp)
  have cwC_1_1 : wC.cell? ⟨wA.heap.size, 1, none⟩ = some (.int .i64 id) := cell_gr hwC (by go_simp)
  have cwC_1_2 : wC.cell? ⟨wA.heap.size, 2, none⟩ = some (.int .i64 k) := cell_gr hwC (by go_simp)
  have cwC_1_3 : wC.cell? ⟨wA.heap.size, 3, none⟩ = some (.slice adA n capA) := cell_gr hwC (by go_simp)
  have zwC_1 : wA.heap.size < wC.heap.size := World.block_lt_of_cell? _ _ cwC_1_0
  have gwC : Gr wA wC := Gr.trans (by have gg := gwB; have gs := gg.size; go_grown) hwC
  clear hwC gwB zwB_0 cwB_0_0 cwB_0_1 zwB_1 cwB_1_0 cwB_1_1 cwB_1_2 cwB_1_3
  go_wp2_with fail
  go_ret
  exact ⟨rfl, Gr.trans GA gwC⟩
set_option maxHeartbeats 16000000 in
set_option maxRecDepth 100000 in
theorem back_neg {n : Nat} {X Y : Nat → Int} {v b : Value} {L : List UInt8} (k id z cut : Int) (W : World) (h : Pts W v n X Y) (hb : Row W b L) (hn : n ≤ 80) (hl : L.length ≤ 1000) (hz : Iw z) (hk : -9223372036854775808 ≤ cut ∧ cut ≤ 9223372036854775807) (hc : objC k n X Y = 0) (hcc : chgC 1 id k n X Y = 1) (hi : id < 0) :
    Calls Try.prog 7 #[.agg #[.int .i64 k, v], .int .i64 id, .int .i64 z, b, .int .i64 cut] W fun e w' => e = .returned (.bool true) ∧ Gr W w' := by
  have A1 := fun w => c_SignedI hz w
  have A2 := fun (w : World) (u : Value) (r : Row w u (Ec.vr (zz z) ++ L)) => us_back hz w r (by omega)
  have hls := (Ec.vr_len10 (iw_wd hz))
  have A3 : ∀ w, Gr W w → Calls Try.prog 28 #[.agg #[.int .i64 k, v]] w fun e w' => ∃ ad cap, e = .returned (.tuple #[.slice ad (objB k n X Y).length cap, .nilIface]) ∧ Row w' (.slice ad (objB k n X Y).length cap) (objB k n X Y) ∧ Gr w w' := fun w g => by
    refine (c_Object k w (pts_gr h g)).mono ?_
    rintro e w' ⟨x, u, rfl, hu, hr, g'⟩
    rw [hc] at hu
    have hR : objR k n X Y = objB k n X Y := if_pos hc
    rw [hR] at hr
    rcases hu with ⟨rfl, _⟩ | ⟨B, _, _, _, bad, _⟩
    · obtain ⟨ad, cap, _, _, rfl, _⟩ := _root_.id hr
      exact ⟨ad, cap, rfl, hr, g'⟩
    · omega
  have A4 : ∀ w u, Row w u (objB k n X Y ++ L) → Calls Try.prog 29 #[u] w fun e w' => ∃ ad cap, e = .returned (.tuple #[.agg #[.int .i64 k, .slice ad n cap], .int .i64 ((objB k n X Y).length : Nat), .nilIface]) ∧ Pts w' (.slice ad n cap) n X Y ∧ Gr w w' := fun w u r => by
    refine (uo_back hc w r (by omega)).mono ?_
    rintro e w' ⟨x, rfl, hP, g⟩
    obtain ⟨ad, cap, _, _, rfl, _⟩ := _root_.id hP
    exact ⟨ad, cap, rfl, hP, g⟩
  have A5 : ∀ (c : Nat) w u, c < (objB k n X Y).length → Row w u ((objB k n X Y).take c) → Calls Try.prog 29 #[u] w fun e w' => ∃ B, e = .returned (.tuple #[.agg #[.int .i64 0, .slice none 0 0], .int .i64 0, .iface 33 (.pointer (some ⟨B, 0, none⟩))]) ∧ FaultAt w' B objectS 0 10 ∧ Gr w w' := fun c w u hcl r => uo_cut hc hcl w r
  have hlb : 1 ≤ (objB k n X Y).length ∧ (objB k n X Y).length ≤ 1320 := by
    refine ⟨?_, objB_len hc⟩
    have h1 := objC_near hc
    have a := (Ec.vr_len10 (v := k.toNat) (by omega)).1
    unfold objB
    simp only [List.length_append]
    omega
  have A6 : ∀ w, Gr W w → Calls Try.prog 31 #[.agg #[.int .i64 1, .int .i64 id, .int .i64 k, v]] w fun e w' => ∃ x B, e = .returned (.tuple #[x, .iface 33 (.pointer (some ⟨B, 0, none⟩))]) ∧ Gr w w' := fun w g => by
    refine (c_Change 1 id k w (pts_gr h g)).mono ?_
    rintro e w' ⟨x, u, rfl, hu, hr, g'⟩
    rw [hcc] at hu
    rcases hu with ⟨_, bad⟩ | ⟨B, _, _, rfl, _⟩
    · cases bad
    · exact ⟨x, B, rfl, g'⟩
  have A8 := fun w => c_Round cut hk.1 hk.2 (objB k n X Y).length (by omega) (by omega) w
  have A9 := fun (w : World) (B : Nat) (hF : FaultAt w B objectS 0 10) => c_CodeF B 10 (by omega) w hF.2.2
  have SM := Lib.hid (fun (w : World) (u x : Value) (p : Pts w u n X Y) (q : Pts w x n X Y) => c_rSame k k true w p q (by omega) (by simp))
  generalize Ec.vr (zz z) = LS at A1 A2 hls
  obtain ⟨ls, els⟩ : ∃ ls, ls = LS.length := ⟨_, rfl⟩
  rw [← els] at A1 A2 hls
  obtain ⟨LB, eLB⟩ : ∃ LB, LB = objB k n X Y := ⟨_, rfl⟩
  rw [← eLB] at A3 A4 A5 A8 hlb
  obtain ⟨lb, elb⟩ : ∃ lb, lb = LB.length := ⟨_, rfl⟩
  rw [← elb] at A3 A4 A5 A8 hlb
  have HB := Lib.hid hb
  have HP := Lib.hid h
  obtain ⟨ad, cap, _, _, rfl, _⟩ := h
  obtain ⟨bd, bcap, _, _, rfl, _⟩ := hb
  obtain ⟨len, el⟩ : ∃ len, len = L.length := ⟨_, rfl⟩
  have HL := Lib.hid (show LS.length + L.length ≤ 9000 by omega)
  have HLB := Lib.hid (show LB.length + L.length ≤ 9000 by omega)
  skip
  have HEB := Lib.hid elb
  rw [← el] at HB ⊢
  have d1 : decide ((80 : Int) < (n : Int)) = false := decide_eq_false (by omega)
  have d2 : decide (80 < n) = false := decide_eq_false (by omega)
  have d3 : decide ((1000 : Int) < (len : Int)) = false := decide_eq_false (by omega)
  have d4 : decide (1000 < len) = false := decide_eq_false (by omega)
  have tz : ((z : Int) == (z : Int)) = true := by simp
  have tz2 : ((z : Int) != (z : Int)) = false := by simp
  have ts : ((ls : Int) == (ls : Int)) = true := by simp
  have ts2 : ((ls : Int) != (ls : Int)) = false := by simp
  have tb : ((lb : Int) == (lb : Int)) = true := by simp
  have tb2 : ((lb : Int) != (lb : Int)) = false := by simp
  have tb3 : ((lb : Int) == 0) = false := by simp; omega
  have tb4 : (lb == 0) = false := by simp; omega
  have ti : ((id : Int) == (id : Int)) = true := by simp
  have di1 : decide ((0 : Int) ≤ id) = false := decide_eq_false (by omega)
  have H1 := Lib.hid A1
  have H2 := Lib.hid A2
  have H3 := Lib.hid A3
  have H4 := Lib.hid A4
  have H5 := Lib.hid A5
  have H6 := Lib.hid A6
  have H8 := Lib.hid A8
  have H9 := Lib.hid A9
  clear A1 A2 A3 A4 A5 A6 A8 A9
  clear el els elb eLB hl hn hz hc hcc hls hlb hi hk
  go_enter Try.func7, Try.ntmps7
  go_wp2_with fail
  go_at_call 26
  refine (H1.out _).mono ?_
  rintro e w1 ⟨ad1, cap1, rfl, r1, g1⟩
  have c0 : w1.cell? ⟨W.heap.size, 0, none⟩ = some (.int .i64 k) := cell_gr g1 (by go_simp)
  have c1 : w1.cell? ⟨W.heap.size, 1, none⟩ = some (.slice ad n cap) := cell_gr g1 (by go_simp)
  have G1 : Gr W w1 := Gr.trans (by go_grown) g1
  have R1 := Lib.hid r1
  clear r1 g1 H1
  go_wp2_with (first | (at_builtin; (refine wpList_app rfl (.tmp 42) (.tmp 43) rfl w1.heap.size (.slice (some ⟨w1.heap.size, 0, none⟩) 0 0) (.slice ad1 ls cap1) [] LS rfl (own_empty _) rfl (row_gr R1.out (by go_grown)) (by have := HL.out; simp only [List.length_nil]; omega) (by have := own_size w1; omega) ?_); intro ba1 wa1 oa1 ga1; (have KA1 : Gr w1 wa1 := ga1.gr (by go_grown) (fun j hj => (own_at (own_empty w1) hj).1)); have OA1 := Lib.hid oa1; (have za1 := KA1.size); clear oa1 ga1) | (at_builtin; (refine wpList_app rfl (.tmp 44) (.tmp 45) rfl w1.heap.size ba1 (.slice bd len bcap) ([] ++ LS) L rfl OA1.out rfl (row_gr HB.out (Gr.trans G1 KA1)) (by have := HL.out; simp only [List.length_append, List.length_nil]; omega) za1 ?_); intro bb1 wb1 ob1 gb1; (have KB1 : Gr w1 wb1 := gb1.gr KA1 (fun j hj => (own_at OA1.out hj).1)); (have OB1 := Lib.hid (show Row wb1 bb1 (LS ++ L) from row_own ob1)); clear ob1 gb1 KA1 OA1 za1))
  go_at_call 27
  refine (H2.out _ _ OB1.out).mono ?_
  rintro e w2 ⟨rfl, g2⟩
  have K2 : Gr w1 w2 := Gr.trans KB1 g2
  have e0 := cell_gr K2 c0
  have e1 := cell_gr K2 c1
  have G2 : Gr W w2 := Gr.trans G1 K2
  clear g2 K2 KB1 OB1 H2 c0 c1 G1 R1
  go_wp2_with fail
  go_at_call 28
  refine (H3.out _ G2).mono ?_
  rintro e w3 ⟨ad3, cap3, rfl, r3, g3⟩
  have G3 : Gr W w3 := Gr.trans G2 g3
  have R3 := Lib.hid r3
  have i0 := cell_gr g3 e0
  have i1 := cell_gr g3 e1
  clear g3 r3 e0 e1 H3 G2
  go_wp2_with (first | (at_builtin; (refine wpList_app rfl (.tmp 78) (.tmp 79) rfl w3.heap.size (.slice (some ⟨w3.heap.size, 0, none⟩) 0 0) (.slice ad3 lb cap3) [] LB rfl (own_empty _) rfl (row_gr R3.out (by go_grown)) (by have := HLB.out; simp only [List.length_nil]; omega) (by have := own_size w3; omega) ?_); intro ba2 wa2 oa2 ga2; (have KA2 : Gr w3 wa2 := ga2.gr (by go_grown) (fun j hj => (own_at (own_empty w3) hj).1)); have OA2 := Lib.hid oa2; (have za2 := KA2.size); clear oa2 ga2) | (at_builtin; (refine wpList_app rfl (.tmp 80) (.tmp 81) rfl w3.heap.size ba2 (.slice bd len bcap) ([] ++ LB) L rfl OA2.out rfl (row_gr HB.out (Gr.trans G3 KA2)) (by have := HLB.out; simp only [List.length_append, List.length_nil]; omega) za2 ?_); intro bb2 wb2 ob2 gb2; (have KB2 : Gr w3 wb2 := gb2.gr KA2 (fun j hj => (own_at OA2.out hj).1)); (have OB2 := Lib.hid (show Row wb2 bb2 (LB ++ L) from row_own ob2)); clear ob2 gb2 KA2 OA2 za2))
  go_at_call 29
  refine (H4.out _ _ OB2.out).mono ?_
  rintro e w4 ⟨ad4, cap4, rfl, p4, g4⟩
  have K4 : Gr w3 w4 := Gr.trans KB2 g4
  have j0 := cell_gr K4 i0
  have j1 := cell_gr K4 i1
  have zj := World.block_lt_of_cell? _ _ j0
  have R4 := Lib.hid (row_gr R3.out K4)
  have P4 := Lib.hid p4
  have G4 : Gr W w4 := Gr.trans G3 K4
  clear g4 K4 KB2 OB2 H4 i0 i1 G3 R3 p4
  go_wp2_with fail
  go_at_call 30
  refine ((SM.out _ _ _ (pts_gr P4.out (by go_grown)) (pts_gr HP.out (Gr.trans G4 (by go_grown))))).mono ?_
  rintro e w5 ⟨rfl, hw5⟩
  have cw5_0_0 : w5.cell? ⟨W.heap.size, 0, none⟩ = some (.int .i64 k) := cell_gr hw5 (by go_simp)
  have cw5_0_1 : w5.cell? ⟨W.heap.size, 1, none⟩ = some (.slice ad n cap) := cell_gr hw5 (by go_simp)
  have zw5_0 : W.heap.size < w5.heap.size := World.block_lt_of_cell? _ _ cw5_0_0
  have cw5_1_0 : w5.cell? ⟨w4.heap.size, 0, none⟩ = some (.int .i64 k) := cell_gr hw5 (by go_simp)
  have cw5_1_1 : w5.cell? ⟨w4.heap.size, 1, none⟩ = some (.slice ad4 n cap4) := cell_gr hw5 (by go_simp)
  have zw5_1 : w4.heap.size < w5.heap.size := World.block_lt_of_cell? _ _ cw5_1_0
  have gw5 : Gr w4 w5 := Gr.trans (by go_grown) hw5
  clear hw5
  go_wp2_with fail
  go_at_call 20
  refine (H8.out _).mono ?_
  rintro e w6 ⟨c, hcl, rfl, g6⟩
  have K6 : Gr w4 w6 := Gr.trans gw5 g6
  have k0 := cell_gr g6 cw5_0_0
  have k1 := cell_gr g6 cw5_0_1
  have zk := World.block_lt_of_cell? _ _ k0
  have R6 := Lib.hid (row_gr R4.out K6)
  have G6 : Gr W w6 := Gr.trans G4 K6
  obtain ⟨u6, ks, r6⟩ := row_to c (by rw [← HEB.out]; omega) R6.out
  have U6 := Lib.hid r6
  have HCL := Lib.hid hcl
  clear g6 K6 cw5_0_0 cw5_0_1 zw5_0 cw5_1_0 cw5_1_1 zw5_1 gw5 H8 R4 G4 j0 j1 zj P4 r6 hcl
  go_wp2_with fail
  go_at_call 29
  refine (H5.out c _ _ HCL.out U6.out).mono ?_
  rintro e w7 ⟨B7, rfl, f7, g7⟩
  have l0 := cell_gr g7 k0
  have l1 := cell_gr g7 k1
  have zl := World.block_lt_of_cell? _ _ l0
  have F7 := Lib.hid f7
  have G7 : Gr W w7 := Gr.trans G6 g7
  clear g7 f7 k0 k1 zk U6 H5 R6 G6 ks
  go_wp2_with fail
  go_at_call 31
  refine (H6.out _ (Gr.trans G7 (by go_grown))).mono ?_
  rintro e w8 ⟨x8, B8, rfl, g8⟩
  have K8 : Gr w7 w8 := Gr.trans (by go_grown) g8
  have F8 := Lib.hid (faultAt_gr F7.out K8)
  have G8 : Gr W w8 := Gr.trans G7 K8
  clear g8 K8 l0 l1 zl F7 H6 G7
  go_wp2_with fail
  go_at_call 32
  refine (H9.out _ _ F8.out).mono ?_
  rintro e w9 ⟨rfl, g9⟩
  have G9 : Gr W w9 := Gr.trans G8 g9
  clear g9 F8 G8 H9
  go_wp2_with fail
  go_at_call 25
  refine ((p8_awake _)).mono ?_
  rintro e wA ⟨rfl, hwA⟩
  have gwA : Gr w9 wA := Gr.trans (by go_grown) hwA
  clear hwA
  go_wp2_with fail
  go_ret
  exact ⟨rfl, Gr.trans G9 gwA⟩
set_option maxHeartbeats 16000000 in
set_option maxRecDepth 100000 in
theorem back_big {n : Nat} {X Y : Nat → Int} {v b : Value} {L : List UInt8} (k id z cut : Int) (W : World) (h : Pts W v n X Y) (hb : Row W b L) (hn : n ≤ 80) (hl : L.length ≤ 1000) (hz : Iw z) (hk : -9223372036854775808 ≤ cut ∧ cut ≤ 9223372036854775807) (hc : objC k n X Y = 0) (hcc : chgC 1 id k n X Y = 1) (hi : 0 ≤ id ∧ 1099511627776 < id) :
    Calls Try.prog 7 #[.agg #[.int .i64 k, v], .int .i64 id, .int .i64 z, b, .int .i64 cut] W fun e w' => e = .returned (.bool true) ∧ Gr W w' := by
  have A1 := fun w => c_SignedI hz w
  have A2 := fun (w : World) (u : Value) (r : Row w u (Ec.vr (zz z) ++ L)) => us_back hz w r (by omega)
  have hls := (Ec.vr_len10 (iw_wd hz))
  have A3 : ∀ w, Gr W w → Calls Try.prog 28 #[.agg #[.int .i64 k, v]] w fun e w' => ∃ ad cap, e = .returned (.tuple #[.slice ad (objB k n X Y).length cap, .nilIface]) ∧ Row w' (.slice ad (objB k n X Y).length cap) (objB k n X Y) ∧ Gr w w' := fun w g => by
    refine (c_Object k w (pts_gr h g)).mono ?_
    rintro e w' ⟨x, u, rfl, hu, hr, g'⟩
    rw [hc] at hu
    have hR : objR k n X Y = objB k n X Y := if_pos hc
    rw [hR] at hr
    rcases hu with ⟨rfl, _⟩ | ⟨B, _, _, _, bad, _⟩
    · obtain ⟨ad, cap, _, _, rfl, _⟩ := _root_.id hr
      exact ⟨ad, cap, rfl, hr, g'⟩
    · omega
  have A4 : ∀ w u, Row w u (objB k n X Y ++ L) → Calls Try.prog 29 #[u] w fun e w' => ∃ ad cap, e = .returned (.tuple #[.agg #[.int .i64 k, .slice ad n cap], .int .i64 ((objB k n X Y).length : Nat), .nilIface]) ∧ Pts w' (.slice ad n cap) n X Y ∧ Gr w w' := fun w u r => by
    refine (uo_back hc w r (by omega)).mono ?_
    rintro e w' ⟨x, rfl, hP, g⟩
    obtain ⟨ad, cap, _, _, rfl, _⟩ := _root_.id hP
    exact ⟨ad, cap, rfl, hP, g⟩
  have A5 : ∀ (c : Nat) w u, c < (objB k n X Y).length → Row w u ((objB k n X Y).take c) → Calls Try.prog 29 #[u] w fun e w' => ∃ B, e = .returned (.tuple #[.agg #[.int .i64 0, .slice none 0 0], .int .i64 0, .iface 33 (.pointer (some ⟨B, 0, none⟩))]) ∧ FaultAt w' B objectS 0 10 ∧ Gr w w' := fun c w u hcl r => uo_cut hc hcl w r
  have hlb : 1 ≤ (objB k n X Y).length ∧ (objB k n X Y).length ≤ 1320 := by
    refine ⟨?_, objB_len hc⟩
    have h1 := objC_near hc
    have a := (Ec.vr_len10 (v := k.toNat) (by omega)).1
    unfold objB
    simp only [List.length_append]
    omega
  have A6 : ∀ w, Gr W w → Calls Try.prog 31 #[.agg #[.int .i64 1, .int .i64 id, .int .i64 k, v]] w fun e w' => ∃ x B, e = .returned (.tuple #[x, .iface 33 (.pointer (some ⟨B, 0, none⟩))]) ∧ Gr w w' := fun w g => by
    refine (c_Change 1 id k w (pts_gr h g)).mono ?_
    rintro e w' ⟨x, u, rfl, hu, hr, g'⟩
    rw [hcc] at hu
    rcases hu with ⟨_, bad⟩ | ⟨B, _, _, rfl, _⟩
    · cases bad
    · exact ⟨x, B, rfl, g'⟩
  have A8 := fun w => c_Round cut hk.1 hk.2 (objB k n X Y).length (by omega) (by omega) w
  have A9 := fun (w : World) (B : Nat) (hF : FaultAt w B objectS 0 10) => c_CodeF B 10 (by omega) w hF.2.2
  have SM := Lib.hid (fun (w : World) (u x : Value) (p : Pts w u n X Y) (q : Pts w x n X Y) => c_rSame k k true w p q (by omega) (by simp))
  generalize Ec.vr (zz z) = LS at A1 A2 hls
  obtain ⟨ls, els⟩ : ∃ ls, ls = LS.length := ⟨_, rfl⟩
  rw [← els] at A1 A2 hls
  obtain ⟨LB, eLB⟩ : ∃ LB, LB = objB k n X Y := ⟨_, rfl⟩
  rw [← eLB] at A3 A4 A5 A8 hlb
  obtain ⟨lb, elb⟩ : ∃ lb, lb = LB.length := ⟨_, rfl⟩
  rw [← elb] at A3 A4 A5 A8 hlb
  have HB := Lib.hid hb
  have HP := Lib.hid h
  obtain ⟨ad, cap, _, _, rfl, _⟩ := h
  obtain ⟨bd, bcap, _, _, rfl, _⟩ := hb
  obtain ⟨len, el⟩ : ∃ len, len = L.length := ⟨_, rfl⟩
  have HL := Lib.hid (show LS.length + L.length ≤ 9000 by omega)
  have HLB := Lib.hid (show LB.length + L.length ≤ 9000 by omega)
  skip
  have HEB := Lib.hid elb
  rw [← el] at HB ⊢
  have d1 : decide ((80 : Int) < (n : Int)) = false := decide_eq_false (by omega)
  have d2 : decide (80 < n) = false := decide_eq_false (by omega)
  have d3 : decide ((1000 : Int) < (len : Int)) = false := decide_eq_false (by omega)
  have d4 : decide (1000 < len) = false := decide_eq_false (by omega)
  have tz : ((z : Int) == (z : Int)) = true := by simp
  have tz2 : ((z : Int) != (z : Int)) = false := by simp
  have ts : ((ls : Int) == (ls : Int)) = true := by simp
  have ts2 : ((ls : Int) != (ls : Int)) = false := by simp
  have tb : ((lb : Int) == (lb : Int)) = true := by simp
  have tb2 : ((lb : Int) != (lb : Int)) = false := by simp
  have tb3 : ((lb : Int) == 0) = false := by simp; omega
  have tb4 : (lb == 0) = false := by simp; omega
  have ti : ((id : Int) == (id : Int)) = true := by simp
  have di1 : decide ((0 : Int) ≤ id) = true := decide_eq_true hi.1
  have di2 : decide (id ≤ (1099511627776 : Int)) = false := decide_eq_false (by omega)
  have H1 := Lib.hid A1
  have H2 := Lib.hid A2
  have H3 := Lib.hid A3
  have H4 := Lib.hid A4
  have H5 := Lib.hid A5
  have H6 := Lib.hid A6
  have H8 := Lib.hid A8
  have H9 := Lib.hid A9
  clear A1 A2 A3 A4 A5 A6 A8 A9
  clear el els elb eLB hl hn hz hc hcc hls hlb hi hk
  go_enter Try.func7, Try.ntmps7
  go_wp2_with fail
  go_at_call 26
  refine (H1.out _).mono ?_
  rintro e w1 ⟨ad1, cap1, rfl, r1, g1⟩
  have c0 : w1.cell? ⟨W.heap.size, 0, none⟩ = some (.int .i64 k) := cell_gr g1 (by go_simp)
  have c1 : w1.cell? ⟨W.heap.size, 1, none⟩ = some (.slice ad n cap) := cell_gr g1 (by go_simp)
  have G1 : Gr W w1 := Gr.trans (by go_grown) g1
  have R1 := Lib.hid r1
  clear r1 g1 H1
  go_wp2_with (first | (at_builtin; (refine wpList_app rfl (.tmp 42) (.tmp 43) rfl w1.heap.size (.slice (some ⟨w1.heap.size, 0, none⟩) 0 0) (.slice ad1 ls cap1) [] LS rfl (own_empty _) rfl (row_gr R1.out (by go_grown)) (by have := HL.out; simp only [List.length_nil]; omega) (by have := own_size w1; omega) ?_); intro ba1 wa1 oa1 ga1; (have KA1 : Gr w1 wa1 := ga1.gr (by go_grown) (fun j hj => (own_at (own_empty w1) hj).1)); have OA1 := Lib.hid oa1; (have za1 := KA1.size); clear oa1 ga1) | (at_builtin; (refine wpList_app rfl (.tmp 44) (.tmp 45) rfl w1.heap.size ba1 (.slice bd len bcap) ([] ++ LS) L rfl OA1.out rfl (row_gr HB.out (Gr.trans G1 KA1)) (by have := HL.out; simp only [List.length_append, List.length_nil]; omega) za1 ?_); intro bb1 wb1 ob1 gb1; (have KB1 : Gr w1 wb1 := gb1.gr KA1 (fun j hj => (own_at OA1.out hj).1)); (have OB1 := Lib.hid (show Row wb1 bb1 (LS ++ L) from row_own ob1)); clear ob1 gb1 KA1 OA1 za1))
  go_at_call 27
  refine (H2.out _ _ OB1.out).mono ?_
  rintro e w2 ⟨rfl, g2⟩
  have K2 : Gr w1 w2 := Gr.trans KB1 g2
  have e0 := cell_gr K2 c0
  have e1 := cell_gr K2 c1
  have G2 : Gr W w2 := Gr.trans G1 K2
  clear g2 K2 KB1 OB1 H2 c0 c1 G1 R1
  go_wp2_with fail
  go_at_call 28
  refine (H3.out _ G2).mono ?_
  rintro e w3 ⟨ad3, cap3, rfl, r3, g3⟩
  have G3 : Gr W w3 := Gr.trans G2 g3
  have R3 := Lib.hid r3
  have i0 := cell_gr g3 e0
  have i1 := cell_gr g3 e1
  clear g3 r3 e0 e1 H3 G2
  go_wp2_with (first | (at_builtin; (refine wpList_app rfl (.tmp 78) (.tmp 79) rfl w3.heap.size (.slice (some ⟨w3.heap.size, 0, none⟩) 0 0) (.slice ad3 lb cap3) [] LB rfl (own_empty _) rfl (row_gr R3.out (by go_grown)) (by have := HLB.out; simp only [List.length_nil]; omega) (by have := own_size w3; omega) ?_); intro ba2 wa2 oa2 ga2; (have KA2 : Gr w3 wa2 := ga2.gr (by go_grown) (fun j hj => (own_at (own_empty w3) hj).1)); have OA2 := Lib.hid oa2; (have za2 := KA2.size); clear oa2 ga2) | (at_builtin; (refine wpList_app rfl (.tmp 80) (.tmp 81) rfl w3.heap.size ba2 (.slice bd len bcap) ([] ++ LB) L rfl OA2.out rfl (row_gr HB.out (Gr.trans G3 KA2)) (by have := HLB.out; simp only [List.length_append, List.length_nil]; omega) za2 ?_); intro bb2 wb2 ob2 gb2; (have KB2 : Gr w3 wb2 := gb2.gr KA2 (fun j hj => (own_at OA2.out hj).1)); (have OB2 := Lib.hid (show Row wb2 bb2 (LB ++ L) from row_own ob2)); clear ob2 gb2 KA2 OA2 za2))
  go_at_call 29
  refine (H4.out _ _ OB2.out).mono ?_
  rintro e w4 ⟨ad4, cap4, rfl, p4, g4⟩
  have K4 : Gr w3 w4 := Gr.trans KB2 g4
  have j0 := cell_gr K4 i0
  have j1 := cell_gr K4 i1
  have zj := World.block_lt_of_cell? _ _ j0
  have R4 := Lib.hid (row_gr R3.out K4)
  have P4 := Lib.hid p4
  have G4 : Gr W w4 := Gr.trans G3 K4
  clear g4 K4 KB2 OB2 H4 i0 i1 G3 R3 p4
  go_wp2_with fail
  go_at_call 30
  refine ((SM.out _ _ _ (pts_gr P4.out (by go_grown)) (pts_gr HP.out (Gr.trans G4 (by go_grown))))).mono ?_
  rintro e w5 ⟨rfl, hw5⟩
  have cw5_0_0 : w5.cell? ⟨W.heap.size, 0, none⟩ = some (.int .i64 k) := cell_gr hw5 (by go_simp)
  have cw5_0_1 : w5.cell? ⟨W.heap.size, 1, none⟩ = some (.slice ad n cap) := cell_gr hw5 (by go_simp)
  have zw5_0 : W.heap.size < w5.heap.size := World.block_lt_of_cell? _ _ cw5_0_0
  have cw5_1_0 : w5.cell? ⟨w4.heap.size, 0, none⟩ = some (.int .i64 k) := cell_gr hw5 (by go_simp)
  have cw5_1_1 : w5.cell? ⟨w4.heap.size, 1, none⟩ = some (.slice ad4 n cap4) := cell_gr hw5 (by go_simp)
  have zw5_1 : w4.heap.size < w5.heap.size := World.block_lt_of_cell? _ _ cw5_1_0
  have gw5 : Gr w4 w5 := Gr.trans (by go_grown) hw5
  clear hw5
  go_wp2_with fail
  go_at_call 20
  refine (H8.out _).mono ?_
  rintro e w6 ⟨c, hcl, rfl, g6⟩
  have K6 : Gr w4 w6 := Gr.trans gw5 g6
  have k0 := cell_gr g6 cw5_0_0
  have k1 := cell_gr g6 cw5_0_1
  have zk := World.block_lt_of_cell? _ _ k0
  have R6 := Lib.hid (row_gr R4.out K6)
  have G6 : Gr W w6 := Gr.trans G4 K6
  obtain ⟨u6, ks, r6⟩ := row_to c (by rw [← HEB.out]; omega) R6.out
  have U6 := Lib.hid r6
  have HCL := Lib.hid hcl
  clear g6 K6 cw5_0_0 cw5_0_1 zw5_0 cw5_1_0 cw5_1_1 zw5_1 gw5 H8 R4 G4 j0 j1 zj P4 r6 hcl
  go_wp2_with fail
  go_at_call 29
  refine (H5.out c _ _ HCL.out U6.out).mono ?_
  rintro e w7 ⟨B7, rfl, f7, g7⟩
  have l0 := cell_gr g7 k0
  have l1 := cell_gr g7 k1
  have zl := World.block_lt_of_cell? _ _ l0
  have F7 := Lib.hid f7
  have G7 : Gr W w7 := Gr.trans G6 g7
  clear g7 f7 k0 k1 zk U6 H5 R6 G6 ks
  go_wp2_with fail
  go_at_call 31
  refine (H6.out _ (Gr.trans G7 (by go_grown))).mono ?_
  rintro e w8 ⟨x8, B8, rfl, g8⟩
  have K8 : Gr w7 w8 := Gr.trans (by go_grown) g8
  have F8 := Lib.hid (faultAt_gr F7.out K8)
  have G8 : Gr W w8 := Gr.trans G7 K8
  clear g8 K8 l0 l1 zl F7 H6 G7
  go_wp2_with fail
  go_at_call 32
  refine (H9.out _ _ F8.out).mono ?_
  rintro e w9 ⟨rfl, g9⟩
  have G9 : Gr W w9 := Gr.trans G8 g9
  clear g9 F8 G8 H9
  go_wp2_with fail
  go_at_call 25
  refine ((p8_awake _)).mono ?_
  rintro e wA ⟨rfl, hwA⟩
  have gwA : Gr w9 wA := Gr.trans (by go_grown) hwA
  clear hwA
  go_wp2_with fail
  go_ret
  exact ⟨rfl, Gr.trans G9 gwA⟩
set_option maxHeartbeats 4000000 in
set_option maxRecDepth 100000 in
theorem walk_EncBack (W : World) (k : Int) (v : Value) (id z : Int) (b : Value) (L : List UInt8) (cut : Int) (h : (-9223372036854775808 ≤ k ∧ k ≤ 9223372036854775807) ∧ ∃ (n : Nat) (X Y : Nat → Int), Pts W v n X Y) (hid : -9223372036854775808 ≤ id ∧ id ≤ 9223372036854775807) (hz : -9223372036854775808 ≤ z ∧ z ≤ 9223372036854775807) (hb : Row W b L) (hk : -9223372036854775808 ≤ cut ∧ cut ≤ 9223372036854775807) :
    Calls Try.prog 7 #[.agg #[.int .i64 k, v], .int .i64 id, .int .i64 z, b, .int .i64 cut] W fun e w' => e = .returned (.bool true) ∧ Gr W w' := by
  obtain ⟨-, n, X, Y, h⟩ := h
  have hz' : Iw z := by unfold Iw; omega
  by_cases hn : n ≤ 80
  · by_cases hl : L.length ≤ 1000
    · by_cases hc : objC k n X Y = 0
      · by_cases i1 : id < 0
        · exact back_neg k id z cut W h hb hn hl hz' hk hc (chgC_no (Or.inr (Or.inl i1))) i1
        · by_cases i2 : 1099511627776 < id
          · exact back_big k id z cut W h hb hn hl hz' hk hc (chgC_no (Or.inr (Or.inr i2))) ⟨by omega, i2⟩
          · exact back_ok k id z cut W h hb hn hl hz' hk hc (by rw [chgC_1 (by omega) (by omega)]; exact hc) ⟨by omega, by omega⟩
      · exact back_bad k id z cut W h hb hn hl hz' hc
    · obtain ⟨ad, cap, _, _, rfl, _⟩ := h
      obtain ⟨bd, bcap, _, _, rfl, _⟩ := hb
      obtain ⟨len, el⟩ : ∃ len, len = L.length := ⟨_, rfl⟩
      rw [← el] at hl ⊢
      have d1 : decide ((80 : Int) < (n : Int)) = false := decide_eq_false (by omega)
      have d2 : decide (80 < n) = false := decide_eq_false (by omega)
      have d3 : decide ((1000 : Int) < (len : Int)) = true := decide_eq_true (by omega)
      have d4 : decide (1000 < len) = true := decide_eq_true (by omega)
      clear el hl hn
      go_enter Try.func7, Try.ntmps7
      go_wp2_with fail
      go_at_call 25
      refine ((p8_awake _)).mono ?_
      rintro e w1 ⟨rfl, hw1⟩
      have gw1 : Gr W w1 := Gr.trans (by go_grown) hw1
      clear hw1
      go_wp2_with fail
      go_ret
      exact ⟨rfl, gw1⟩
  · obtain ⟨ad, cap, _, _, rfl, _⟩ := h
    obtain ⟨bd, bcap, _, _, rfl, _⟩ := hb
    have d1 : decide ((80 : Int) < (n : Int)) = true := decide_eq_true (by omega)
    have d2 : decide (80 < n) = true := decide_eq_true (by omega)
    clear hn
    go_enter Try.func7, Try.ntmps7
    go_wp2_with fail
    go_at_call 25
    refine ((p8_awake _)).mono ?_
    rintro e w1 ⟨rfl, hw1⟩
    have gw1 : Gr W w1 := Gr.trans (by go_grown) hw1
    clear hw1
    go_wp2_with fail
    go_ret
    exact ⟨rfl, gw1⟩
end Go.Proofs.Ytkodmfkchbbmiaa
