/- EncApart: the walk -/
import Derived.Test.YtkldgfpkjaokaaaJn
import Derived.Test.YtkldgfpkjaokaaaJq
namespace Go.Proofs.Ytkldgfpkjaokaaa
set_option linter.unusedVariables false
set_option linter.unusedSimpArgs false
open Go.ChangeShapes Go.WideShapes Go.ChangeAt Go.RowKit

theorem ch_of (kd id k : Int) {v : Value} {n : Nat} {X Y : Nat → Int} (W : World) (h : Pts W v n X Y) :
    Calls Try.prog 5 #[.agg #[.int .i64 kd, .int .i64 id, .int .i64 k, v]] W fun e w' =>
      (chgC kd id k n X Y = 0 ∧ ∃ ad cap, e = .returned (.tuple #[.slice ad (chgB kd id k n X Y).length cap, .nilIface]) ∧ Row w' (.slice ad (chgB kd id k n X Y).length cap) (chgB kd id k n X Y) ∧ New W (.slice ad (chgB kd id k n X Y).length cap) ∧ Gr W w') ∨
      (chgC kd id k n X Y ≠ 0 ∧ ∃ x B, e = .returned (.tuple #[x, .iface 61 (.pointer (some ⟨B, 0, none⟩))]) ∧ Gr W w') := by
  by_cases hc : chgC kd id k n X Y = 0
  · refine (c_Change0 kd id k W h hc).mono ?_
    rintro e w' ⟨b, rfl, hr, hm, g⟩
    obtain ⟨ad, cap, _, _, rfl, _⟩ := _root_.id hr
    exact Or.inl ⟨hc, ad, cap, rfl, hr, hm, g⟩
  · refine (c_Change kd id k W h).mono ?_
    rintro e w' ⟨x, u, rfl, hu, hr, g⟩
    rcases hu with ⟨rfl, hc2⟩ | ⟨B, _, _, rfl, h1, _⟩
    · exact absurd hc2 hc
    · exact Or.inr ⟨hc, x, B, rfl, g⟩
theorem row_grown {w w' : World} {v u u' : Value} {L : List UInt8} (h : Row w v L) (g : Grown w w' u u') (hn : ∀ (ad : Addr) (m c : Nat), v = .slice (some ad) m c → ∀ k, u.ownBlock = some k → k ≠ ad.block) : Row w' v L := by
  obtain ⟨ad, cap, B, off, rfl, h1, h2, h3, h4⟩ := h
  refine ⟨ad, cap, B, off, rfl, h1, h2, h3, fun j hj => g.cell (h4 j hj) (fun k hk => ?_)⟩
  obtain rfl := h3 (by omega)
  exact hn _ _ _ rfl k hk
theorem catF_len (D : Nat → Chg) : ∀ i, (∀ j, j < i → (D j).code = 0) → (catF D i).length ≤ i * 1340
  | 0, _ => by simp [catF]
  | i + 1, h => by
    have a := catF_len D i (fun j hj => h j (by omega))
    have b : (D i).bytes.length ≤ 1340 := chgB_len (h i (by omega))
    simp only [catF, List.length_append]
    omega
set_option maxHeartbeats 16000000 in
set_option maxRecDepth 100000 in
theorem apart_in {n : Nat} {D : Nat → Chg} {v : Value} (W : World) (h : Chs W v n D) (hn : n ≤ 12) :
    Calls Try.prog 3 #[v] W fun e w' => e = .returned (.bool true) ∧ Gr W w' := by
  obtain ⟨ad, cap, B, off, rfl, h1, h2, h3, h4⟩ := h
  have HX := Lib.hid h4
  have HA := Lib.hid h3
  have HN := Lib.hid hn
  have d1 : decide ((12 : Int) < (n : Int)) = false := decide_eq_false (by omega)
  have d2 : decide (12 < n) = false := decide_eq_false (by omega)
  have hn0 : (n : Int) ≤ 12 := by omega
  clear h1 h2 h3 h4
  go_enter Try.func3, Try.ntmps3
  go_wp2_with fail
  go_loopg [3, 4] n (fun k x y wr => ∃ i : Nat, y = .int .i64 i ∧ i ≤ n ∧ k = n - i ∧ Own wr W.heap.size x (catF D i) ∧ (∀ j, j < i → (D j).code = 0 ∧ (D j).n ≤ 64) ∧ Gr W wr)
  case atStart => exact ⟨0, rfl, Nat.zero_le _, by omega, own_nil _ _, fun j hj => absurd hj (by omega), Below.refl _ _⟩
  case round =>
    obtain ⟨i, rfl, hi, hk, hO, hco, hg⟩ := hrel
    have HO := Lib.hid hO
    have HC := Lib.hid hco
    clear hO hco
    by_cases hin : i < n
    · have ti : decide ((i : Int) < (n : Int)) = true := decide_eq_true (by omega)
      have ti2 : decide (i < n) = true := decide_eq_true hin
      have ti3 : (i : Int) < (n : Int) := by omega
      have ti4 : (i : Int) ≤ 12 := by omega
      obtain rfl := HA.out (by omega)
      have q := HX.out i hin
      rcases ec : D i with ⟨kd, id, kk, vv, m, P, Q⟩
      rw [ec] at q
      obtain ⟨q0, q1, q2, q3, q4⟩ := q
      simp only at q0 q1 q2 q3 q4
      have p0 := cell_gr hg q0
      have p1 := cell_gr hg q1
      have p2 := cell_gr hg q2
      have p3 := cell_gr hg q3
      have CH := Lib.hid (fun (w : World) (g : Gr W w) => ch_of kd id kk w (pts_gr q4 g))
      have HE := Lib.hid ec
      have hmm : n - (i + 1) < gk := by omega
      have PP := Lib.hid q4
      obtain ⟨ad', cap', _, _, rfl, _⟩ := q4
      clear q0 q1 q2 q3 hk ec
      by_cases hm : m ≤ 64
      · have dm : decide ((64 : Int) < (m : Int)) = false := decide_eq_false (by omega)
        have dm2 : decide (64 < m) = false := decide_eq_false (by omega)
        go_wp2_with fail
        go_at_call 5
        refine (CH.out _ hg).mono ?_
        rintro e w1 (⟨hc, ad1, cap1, rfl, r1, nw1, g1⟩ | ⟨hc, x1, B1, rfl, g1⟩)
        · have G1 : Gr W w1 := Gr.trans hg g1
          have O1 := Lib.hid (show Own w1 W.heap.size u3 (catF D i) from rowOwn_gr HO.out g1)
          have R1 := Lib.hid r1
          have hcl := catF_len D i (fun j hj => (HC.out j hj).1)
          have hbl := chgB_len hc
          have HCC := Lib.hid hc
          have hlb : 1 ≤ (chgB kd id kk m P Q).length := by
            have := (Ec.vr_len10 (v := kd.toNat) (by have := chgC_ok hc; omega)).1
            unfold chgB; simp only [List.length_append]; omega
          obtain ⟨LB, eLB⟩ : ∃ LB, LB = chgB kd id kk m P Q := ⟨_, rfl⟩
          have HLB := Lib.hid eLB
          rw [← eLB] at R1 nw1 hbl hlb ⊢
          obtain ⟨lb, elb⟩ : ∃ lb, lb = LB.length := ⟨_, rfl⟩
          have HEB := Lib.hid elb
          rw [← elb] at R1 nw1 hbl hlb ⊢
          have FR := Lib.hid (fun (ad : Addr) (z c : Nat) (e : Value.slice ad1 lb cap1 = .slice (some ad) z c) (k : Nat) (hk : u3.ownBlock = some k) => (show k ≠ ad.block from by have a := nw1 ad z c e; have b := (own_at HO.out hk).2; omega))
          have hs1 : W.heap.size ≤ w1.heap.size := G1.size
          have hlen : (catF D i).length + LB.length ≤ 1000000000 := by omega
          clear r1 nw1 g1 eLB elb hc hcl CH
          go_wp2_with (at_builtin; (refine wpList_app rfl (.tmp 47) (.tmp 48) rfl W.heap.size u3 (.slice ad1 lb cap1) (catF D i) LB rfl O1.out rfl R1.out hlen hs1 ?_); intro x2 w2 o2 g2; (have G2 : Gr W w2 := g2.gr G1 (fun k hk => (own_at O1.out hk).1)); (have R2 := Lib.hid (row_grown R1.out g2 FR.out)); (have O2 := Lib.hid o2); clear o2 g2 R1 O1 G1 FR)
          go_loopg [7] i (fun k y wr' => ∃ j : Nat, y = .int .i64 j ∧ j ≤ i ∧ k = i - j ∧ Gr w2 wr')
          case atStart => exact ⟨0, rfl, Nat.zero_le _, by omega, Below.refl _ _⟩
          case round =>
            obtain ⟨j, rfl, hj, hk, hg2⟩ := hrel
            have hmm2 : i - (j + 1) < gk ∨ ¬ j < i := by omega
            by_cases hji : j < i
            · have tj : decide ((j : Int) < (i : Int)) = true := decide_eq_true (by omega)
              have tj2 : decide (j < i) = true := decide_eq_true hji
              have tj3 : (j : Int) < (n : Int) := by omega
              replace hmm2 : i - (j + 1) < gk := by omega
              have tj4 : (j : Int) < (i : Int) := by omega
              have q := HX.out j (by omega)
              have hcj := (HC.out j hji).1
              rcases ed : D j with ⟨kdj, idj, kkj, vj, mj, Pj, Qj⟩
              rw [ed] at q hcj
              obtain ⟨q0, q1, q2, q3, q4⟩ := q
              simp only at q0 q1 q2 q3 q4 hcj
              have GG := Gr.trans G2 hg2
              have s0 := cell_gr GG q0
              have s1 := cell_gr GG q1
              have s2 := cell_gr GG q2
              have s3 := cell_gr GG q3
              have PJ := Lib.hid q4
              have CJ := Lib.hid (fun (w : World) (g : Gr W w) => c_Change0 kdj idj kkj w (pts_gr q4 g) hcj)
              have hbj := chgB_len hcj
              have HCJ := Lib.hid hcj
              have HD := Lib.hid ed
              obtain ⟨adj, capj, _, _, rfl, _⟩ := q4
              clear q0 q1 q2 q3 hk ed hcj
              go_wp2_with fail
              go_at_call 5
              refine (CJ.out _ GG).mono ?_
              rintro e w3 ⟨d, rfl, r3, _, g3⟩
              obtain ⟨LJ, eLJ⟩ : ∃ LJ, LJ = chgB kdj idj kkj mj Pj Qj := ⟨_, rfl⟩
              have HLJ := Lib.hid eLJ
              rw [← eLJ] at r3 hbj
              have R3 := Lib.hid r3
              have R2' := Lib.hid (row_gr R2.out (Gr.trans hg2 g3))
              obtain ⟨ad3, cap3, _, _, rfl, _⟩ := r3
              obtain ⟨lj, elj⟩ : ∃ lj, lj = LJ.length := ⟨_, rfl⟩
              have HEJ := Lib.hid elj
              rw [← elj] at R3 hbj ⊢
              have t0 := cell_gr g3 s0
              have t1 := cell_gr g3 s1
              have t2 := cell_gr g3 s2
              have t3 := cell_gr g3 s3
              have G3 := Gr.trans GG g3
              have K3 : Gr w2 w3 := Gr.trans hg2 g3
              obtain ⟨mn, emn⟩ : ∃ mn, mn = min lb lj := ⟨_, rfl⟩
              have tmn : min (lb : Int) (lj : Int) = (mn : Int) := by omega
              obtain ⟨ua, ka, ra⟩ := row_to mn (by rw [← HEB.out]; omega) R2'.out
              obtain ⟨ub, kb, rb⟩ := row_to mn (by rw [← HEJ.out]; omega) R3.out
              have RA := Lib.hid ra
              have RB := Lib.hid rb
              have qi := HX.out i hin
              rw [HE.out] at qi
              obtain ⟨i0, i1, i2, i3, -⟩ := qi
              simp only at i0 i1 i2 i3
              have y0 := cell_gr G3 i0
              have y1 := cell_gr G3 i1
              have y2 := cell_gr G3 i2
              have y3 := cell_gr G3 i3
              have zB := World.block_lt_of_cell? _ _ y0
              have AP : LB.take mn = LJ.take mn ↔ Chg.same ⟨kd, id, kk, .slice ad' m cap', m, P, Q⟩ ⟨kdj, idj, kkj, .slice adj mj capj, mj, Pj, Qj⟩ := by
                have a := Chg.apart (a := ⟨kd, id, kk, .slice ad' m cap', m, P, Q⟩) (b := ⟨kdj, idj, kkj, .slice adj mj capj, mj, Pj, Qj⟩) HCC.out HCJ.out (n := mn) (by
                  show mn = min (chgB kd id kk m P Q).length (chgB kdj idj kkj mj Pj Qj).length
                  rw [← HLB.out, ← HLJ.out, ← HEB.out, ← HEJ.out]; exact emn)
                have e1 : Chg.bytes ⟨kd, id, kk, .slice ad' m cap', m, P, Q⟩ = LB := HLB.out.symm
                have e2 : Chg.bytes ⟨kdj, idj, kkj, .slice adj mj capj, mj, Pj, Qj⟩ = LJ := HLJ.out.symm
                rwa [e1, e2] at a
              have CB := fun w (g : Gr w3 w) => c_Bytes w (row_gr RA.out g) (row_gr RB.out g) (by rw [List.length_take, ← HEB.out]; omega)
              have hj9 : (j : Int) ≤ 12 := by omega
              clear s0 s1 s2 s3 GG g3 CJ elj eLJ ra rb emn i0 i1 i2 i3 p0 p1 p2 p3
              by_cases e1 : kd = kdj
              · have u1 : ((kd : Int) == kdj) = true := by simp [e1]
                by_cases e2 : id = idj
                · have v1 : ((id : Int) == idj) = true := by simp [e2]
                  by_cases e3 : kk = kkj ∧ m = mj ∧ ∀ i, i < m → P i = Pj i ∧ Q i = Qj i
                  · have SM := Lib.hid (fun w (g : Gr w3 w) => c_rSame kk kkj true w (pts_gr PP.out (Gr.trans G3 g)) (pts_gr PJ.out (Gr.trans G3 g)) (by omega) ⟨fun _ => e3, fun _ => rfl⟩)
                    rw [decide_eq_true (AP.2 ⟨e1, e2, e3.1, e3.2.1, e3.2.2⟩)] at CB
                    have HCB := Lib.hid CB
                    clear CB e1 e2 e3 AP
                    go_wp2_with fail
                    go_wp2_with fail
                    try simp only [List.append]
                    refine Od.wp_region_ord [(0, false), (1, false), (2, false), (3, false), (4, false), (5, false), (6, false), (7, false), (8, false), (9, false), (10, false), (11, false), (12, false), (13, false), (14, false), (15, false), (16, false), (17, false), (18, false), (19, false), (20, false), (21, false), (22, false), (23, false), (24, false), (25, false), (26, false), (27, false), (28, false), (29, false), (30, false), (31, false), (32, false), (33, false), (34, false), (35, false), (36, false), (37, false), (38, false), (39, true), (40, false), (41, false)] (by kernel_rfl) (by kernel_rfl) ?_
                    intro w4 hw4 KQ hKQ
                    have cw4_0_0 : w4.cell? ⟨B, off + i * 4, none⟩ = some (.int .i64 kd) := cell_gr hw4 (by go_simp)
                    have cw4_0_1 : w4.cell? ⟨B, off + i * 4 + 1, none⟩ = some (.int .i64 id) := cell_gr hw4 (by go_simp)
                    have cw4_0_2 : w4.cell? ⟨B, off + i * 4 + 2, none⟩ = some (.int .i64 kk) := cell_gr hw4 (by go_simp)
                    have cw4_0_3 : w4.cell? ⟨B, off + i * 4 + 3, none⟩ = some (.slice ad' m cap') := cell_gr hw4 (by go_simp)
                    have cw4_0_4 : w4.cell? ⟨B, off + j * 4, none⟩ = some (.int .i64 kdj) := cell_gr hw4 (by go_simp)
                    have cw4_0_5 : w4.cell? ⟨B, off + j * 4 + 1, none⟩ = some (.int .i64 idj) := cell_gr hw4 (by go_simp)
                    have cw4_0_6 : w4.cell? ⟨B, off + j * 4 + 2, none⟩ = some (.int .i64 kkj) := cell_gr hw4 (by go_simp)
                    have cw4_0_7 : w4.cell? ⟨B, off + j * 4 + 3, none⟩ = some (.slice adj mj capj) := cell_gr hw4 (by go_simp)
                    have zw4_0 : B < w4.heap.size := World.block_lt_of_cell? _ _ cw4_0_0
                    have gw4 : Gr w3 w4 := Gr.trans (by go_grown) hw4
                    skip
                    clear hw4
                    repeat (first | (refine Od.wpO_skip (by simp only [List.getElem?_toArray, List.getElem?_cons_succ, List.getElem?_cons_zero] <;> rfl) rfl ?_; simp only [Act.put, List.setIfInBounds_toArray, List.set_cons_zero, List.set_cons_succ]) | (refine Od.wpO_pure (by simp only [List.getElem?_toArray, List.getElem?_cons_succ, List.getElem?_cons_zero] <;> rfl) rfl ?_; apply Exists.intro; refine ⟨?_, ?_⟩; (· intro wx gx; obtain ⟨mx, rfl⟩ := spread_of_gr gx; clear gx; all_goals (apply Od.pAt_of_quiet; intro K hK; go_big_quiet_op; first | exact hK _ rfl | (apply Exists.intro; refine ⟨fun _ => ?_, ?_⟩; (· fail); exact hK _ rfl))); try simp only [Act.put, List.setIfInBounds_toArray, List.set_cons_zero, List.set_cons_succ]))
                    refine Od.wpO_call (by simp only [List.getElem?_toArray, List.getElem?_cons_succ, List.getElem?_cons_zero] <;> rfl) rfl ?_
                    intro QS hQS
                    go_wp2_with fail
                    go_at_call 6
                    (with_reducible refine ((SM.out _ gw4)).mono ?_)
                    rintro e w5 ⟨rfl, hw5⟩
                    go_wp2_with fail
                    apply Exists.intro
                    refine ⟨?_, hw5, ?_⟩
                    · simp only [Act.put, List.setIfInBounds_toArray, List.set_cons_zero, List.set_cons_succ]; rfl
                    have cw5_0_0 : w5.cell? ⟨B, off + i * 4, none⟩ = some (.int .i64 kd) := cell_gr hw5 (by go_simp)
                    have cw5_0_1 : w5.cell? ⟨B, off + i * 4 + 1, none⟩ = some (.int .i64 id) := cell_gr hw5 (by go_simp)
                    have cw5_0_2 : w5.cell? ⟨B, off + i * 4 + 2, none⟩ = some (.int .i64 kk) := cell_gr hw5 (by go_simp)
                    have cw5_0_3 : w5.cell? ⟨B, off + i * 4 + 3, none⟩ = some (.slice ad' m cap') := cell_gr hw5 (by go_simp)
                    have cw5_0_4 : w5.cell? ⟨B, off + j * 4, none⟩ = some (.int .i64 kdj) := cell_gr hw5 (by go_simp)
                    have cw5_0_5 : w5.cell? ⟨B, off + j * 4 + 1, none⟩ = some (.int .i64 idj) := cell_gr hw5 (by go_simp)
                    have cw5_0_6 : w5.cell? ⟨B, off + j * 4 + 2, none⟩ = some (.int .i64 kkj) := cell_gr hw5 (by go_simp)
                    have cw5_0_7 : w5.cell? ⟨B, off + j * 4 + 3, none⟩ = some (.slice adj mj capj) := cell_gr hw5 (by go_simp)
                    have zw5_0 : B < w5.heap.size := World.block_lt_of_cell? _ _ cw5_0_0
                    have gw5 : Gr w3 w5 := Gr.trans (by have gg := gw4; have gs := gg.size; go_grown) hw5
                    clear gw4 zw4_0 cw4_0_0 cw4_0_1 cw4_0_2 cw4_0_3 cw4_0_4 cw4_0_5 cw4_0_6 cw4_0_7
                    clear hw5
                    try simp only [Act.put, List.setIfInBounds_toArray, List.set_cons_zero, List.set_cons_succ]
                    repeat (first | (refine Od.wpO_skip (by simp only [List.getElem?_toArray, List.getElem?_cons_succ, List.getElem?_cons_zero] <;> rfl) rfl ?_; simp only [Act.put, List.setIfInBounds_toArray, List.set_cons_zero, List.set_cons_succ]) | (refine Od.wpO_pure (by simp only [List.getElem?_toArray, List.getElem?_cons_succ, List.getElem?_cons_zero] <;> rfl) rfl ?_; apply Exists.intro; refine ⟨?_, ?_⟩; (· intro wx gx; obtain ⟨mx, rfl⟩ := spread_of_gr gx; clear gx; all_goals (apply Od.pAt_of_quiet; intro K hK; go_big_quiet_op; first | exact hK _ rfl | (apply Exists.intro; refine ⟨fun _ => ?_, ?_⟩; (· fail); exact hK _ rfl))); try simp only [Act.put, List.setIfInBounds_toArray, List.set_cons_zero, List.set_cons_succ]))
                    refine Od.wpO_nil (hKQ _ _ ?_)
                    clear hKQ KQ
                    go_wp2_with fail
                    go_wp2_with fail
                    try simp only [List.append]
                    refine Od.wp_region_ord [(0, false), (1, false), (2, false), (3, false), (4, false), (5, false), (6, false), (7, false), (8, false), (10, false), (9, true), (11, false), (12, false)] (by kernel_rfl) (by kernel_rfl) ?_
                    intro w6 hw6 KQ hKQ
                    have cw6_0_0 : w6.cell? ⟨B, off + i * 4, none⟩ = some (.int .i64 kd) := cell_gr hw6 (by go_simp)
                    have cw6_0_1 : w6.cell? ⟨B, off + i * 4 + 1, none⟩ = some (.int .i64 id) := cell_gr hw6 (by go_simp)
                    have cw6_0_2 : w6.cell? ⟨B, off + i * 4 + 2, none⟩ = some (.int .i64 kk) := cell_gr hw6 (by go_simp)
                    have cw6_0_3 : w6.cell? ⟨B, off + i * 4 + 3, none⟩ = some (.slice ad' m cap') := cell_gr hw6 (by go_simp)
                    have cw6_0_4 : w6.cell? ⟨B, off + j * 4, none⟩ = some (.int .i64 kdj) := cell_gr hw6 (by go_simp)
                    have cw6_0_5 : w6.cell? ⟨B, off + j * 4 + 1, none⟩ = some (.int .i64 idj) := cell_gr hw6 (by go_simp)
                    have cw6_0_6 : w6.cell? ⟨B, off + j * 4 + 2, none⟩ = some (.int .i64 kkj) := cell_gr hw6 (by go_simp)
                    have cw6_0_7 : w6.cell? ⟨B, off + j * 4 + 3, none⟩ = some (.slice adj mj capj) := cell_gr hw6 (by go_simp)
                    have zw6_0 : B < w6.heap.size := World.block_lt_of_cell? _ _ cw6_0_0
                    have gw6 : Gr w3 w6 := Gr.trans (by have gg := gw5; have gs := gg.size; go_grown) hw6
                    clear gw5 zw5_0 cw5_0_0 cw5_0_1 cw5_0_2 cw5_0_3 cw5_0_4 cw5_0_5 cw5_0_6 cw5_0_7
                    clear hw6
                    repeat (first | (refine Od.wpO_skip (by simp only [List.getElem?_toArray, List.getElem?_cons_succ, List.getElem?_cons_zero] <;> rfl) rfl ?_; simp only [Act.put, List.setIfInBounds_toArray, List.set_cons_zero, List.set_cons_succ]) | (refine Od.wpO_pure (by simp only [List.getElem?_toArray, List.getElem?_cons_succ, List.getElem?_cons_zero] <;> rfl) rfl ?_; apply Exists.intro; refine ⟨?_, ?_⟩; (· intro wx gx; obtain ⟨mx, rfl⟩ := spread_of_gr gx; clear gx; all_goals (apply Od.pAt_of_quiet; intro K hK; go_big_quiet_op; first | exact hK _ rfl | (apply Exists.intro; refine ⟨fun _ => ?_, ?_⟩; (· fail); exact hK _ rfl))); try simp only [Act.put, List.setIfInBounds_toArray, List.set_cons_zero, List.set_cons_succ]))
                    refine Od.wpO_call (by simp only [List.getElem?_toArray, List.getElem?_cons_succ, List.getElem?_cons_zero] <;> rfl) rfl ?_
                    intro QS hQS
                    go_wp2_with fail
                    go_at_call 7
                    (with_reducible refine ((HCB.out _ gw6)).mono ?_)
                    rintro e w7 ⟨rfl, hw7⟩
                    go_wp2_with fail
                    apply Exists.intro
                    refine ⟨?_, hw7, ?_⟩
                    · simp only [Act.put, List.setIfInBounds_toArray, List.set_cons_zero, List.set_cons_succ]; rfl
                    have cw7_0_0 : w7.cell? ⟨B, off + i * 4, none⟩ = some (.int .i64 kd) := cell_gr hw7 (by go_simp)
                    have cw7_0_1 : w7.cell? ⟨B, off + i * 4 + 1, none⟩ = some (.int .i64 id) := cell_gr hw7 (by go_simp)
                    have cw7_0_2 : w7.cell? ⟨B, off + i * 4 + 2, none⟩ = some (.int .i64 kk) := cell_gr hw7 (by go_simp)
                    have cw7_0_3 : w7.cell? ⟨B, off + i * 4 + 3, none⟩ = some (.slice ad' m cap') := cell_gr hw7 (by go_simp)
                    have cw7_0_4 : w7.cell? ⟨B, off + j * 4, none⟩ = some (.int .i64 kdj) := cell_gr hw7 (by go_simp)
                    have cw7_0_5 : w7.cell? ⟨B, off + j * 4 + 1, none⟩ = some (.int .i64 idj) := cell_gr hw7 (by go_simp)
                    have cw7_0_6 : w7.cell? ⟨B, off + j * 4 + 2, none⟩ = some (.int .i64 kkj) := cell_gr hw7 (by go_simp)
                    have cw7_0_7 : w7.cell? ⟨B, off + j * 4 + 3, none⟩ = some (.slice adj mj capj) := cell_gr hw7 (by go_simp)
                    have zw7_0 : B < w7.heap.size := World.block_lt_of_cell? _ _ cw7_0_0
                    have gw7 : Gr w3 w7 := Gr.trans (by have gg := gw6; have gs := gg.size; go_grown) hw7
                    clear gw6 zw6_0 cw6_0_0 cw6_0_1 cw6_0_2 cw6_0_3 cw6_0_4 cw6_0_5 cw6_0_6 cw6_0_7
                    clear hw7
                    try simp only [Act.put, List.setIfInBounds_toArray, List.set_cons_zero, List.set_cons_succ]
                    repeat (first | (refine Od.wpO_skip (by simp only [List.getElem?_toArray, List.getElem?_cons_succ, List.getElem?_cons_zero] <;> rfl) rfl ?_; simp only [Act.put, List.setIfInBounds_toArray, List.set_cons_zero, List.set_cons_succ]) | (refine Od.wpO_pure (by simp only [List.getElem?_toArray, List.getElem?_cons_succ, List.getElem?_cons_zero] <;> rfl) rfl ?_; apply Exists.intro; refine ⟨?_, ?_⟩; (· intro wx gx; obtain ⟨mx, rfl⟩ := spread_of_gr gx; clear gx; all_goals (apply Od.pAt_of_quiet; intro K hK; go_big_quiet_op; first | exact hK _ rfl | (apply Exists.intro; refine ⟨fun _ => ?_, ?_⟩; (· fail); exact hK _ rfl))); try simp only [Act.put, List.setIfInBounds_toArray, List.set_cons_zero, List.set_cons_succ]))
                    refine Od.wpO_nil (hKQ _ _ ?_)
                    clear hKQ KQ
                    go_wp2_with fail
                    go_roundg (i - (j + 1))
                    case measure => exact hmm2
                    case rel => exact ⟨j + 1, by go_num, by omega, rfl, Gr.trans K3 gw7⟩
                  · have SM := Lib.hid (fun w (g : Gr w3 w) => c_rSame kk kkj false w (pts_gr PP.out (Gr.trans G3 g)) (pts_gr PJ.out (Gr.trans G3 g)) (by omega) ⟨fun h => (by cases h), fun h => absurd h e3⟩)
                    rw [decide_eq_false (fun h => e3 (by obtain ⟨_, _, a, b, c⟩ := AP.1 h; exact ⟨a, b, c⟩))] at CB
                    have HCB := Lib.hid CB
                    clear CB e1 e2 e3 AP
                    go_wp2_with fail
                    go_wp2_with fail
                    try simp only [List.append]
                    refine Od.wp_region_ord [(0, false), (1, false), (2, false), (3, false), (4, false), (5, false), (6, false), (7, false), (8, false), (9, false), (10, false), (11, false), (12, false), (13, false), (14, false), (15, false), (16, false), (17, false), (18, false), (19, false), (20, false), (21, false), (22, false), (23, false), (24, false), (25, false), (26, false), (27, false), (28, false), (29, false), (30, false), (31, false), (32, false), (33, false), (34, false), (35, false), (36, false), (37, false), (38, false), (39, true), (40, false), (41, false)] (by kernel_rfl) (by kernel_rfl) ?_
                    intro w4 hw4 KQ hKQ
                    have cw4_0_0 : w4.cell? ⟨B, off + i * 4, none⟩ = some (.int .i64 kd) := cell_gr hw4 (by go_simp)
                    have cw4_0_1 : w4.cell? ⟨B, off + i * 4 + 1, none⟩ = some (.int .i64 id) := cell_gr hw4 (by go_simp)
                    have cw4_0_2 : w4.cell? ⟨B, off + i * 4 + 2, none⟩ = some (.int .i64 kk) := cell_gr hw4 (by go_simp)
                    have cw4_0_3 : w4.cell? ⟨B, off + i * 4 + 3, none⟩ = some (.slice ad' m cap') := cell_gr hw4 (by go_simp)
                    have cw4_0_4 : w4.cell? ⟨B, off + j * 4, none⟩ = some (.int .i64 kdj) := cell_gr hw4 (by go_simp)
                    have cw4_0_5 : w4.cell? ⟨B, off + j * 4 + 1, none⟩ = some (.int .i64 idj) := cell_gr hw4 (by go_simp)
                    have cw4_0_6 : w4.cell? ⟨B, off + j * 4 + 2, none⟩ = some (.int .i64 kkj) := cell_gr hw4 (by go_simp)
                    have cw4_0_7 : w4.cell? ⟨B, off + j * 4 + 3, none⟩ = some (.slice adj mj capj) := cell_gr hw4 (by go_simp)
                    have zw4_0 : B < w4.heap.size := World.block_lt_of_cell? _ _ cw4_0_0
                    have gw4 : Gr w3 w4 := Gr.trans (by go_grown) hw4
                    skip
                    clear hw4
                    repeat (first | (refine Od.wpO_skip (by simp only [List.getElem?_toArray, List.getElem?_cons_succ, List.getElem?_cons_zero] <;> rfl) rfl ?_; simp only [Act.put, List.setIfInBounds_toArray, List.set_cons_zero, List.set_cons_succ]) | (refine Od.wpO_pure (by simp only [List.getElem?_toArray, List.getElem?_cons_succ, List.getElem?_cons_zero] <;> rfl) rfl ?_; apply Exists.intro; refine ⟨?_, ?_⟩; (· intro wx gx; obtain ⟨mx, rfl⟩ := spread_of_gr gx; clear gx; all_goals (apply Od.pAt_of_quiet; intro K hK; go_big_quiet_op; first | exact hK _ rfl | (apply Exists.intro; refine ⟨fun _ => ?_, ?_⟩; (· fail); exact hK _ rfl))); try simp only [Act.put, List.setIfInBounds_toArray, List.set_cons_zero, List.set_cons_succ]))
                    refine Od.wpO_call (by simp only [List.getElem?_toArray, List.getElem?_cons_succ, List.getElem?_cons_zero] <;> rfl) rfl ?_
                    intro QS hQS
                    go_wp2_with fail
                    go_at_call 6
                    (with_reducible refine ((SM.out _ gw4)).mono ?_)
                    rintro e w5 ⟨rfl, hw5⟩
                    go_wp2_with fail
                    apply Exists.intro
                    refine ⟨?_, hw5, ?_⟩
                    · simp only [Act.put, List.setIfInBounds_toArray, List.set_cons_zero, List.set_cons_succ]; rfl
                    have cw5_0_0 : w5.cell? ⟨B, off + i * 4, none⟩ = some (.int .i64 kd) := cell_gr hw5 (by go_simp)
                    have cw5_0_1 : w5.cell? ⟨B, off + i * 4 + 1, none⟩ = some (.int .i64 id) := cell_gr hw5 (by go_simp)
                    have cw5_0_2 : w5.cell? ⟨B, off + i * 4 + 2, none⟩ = some (.int .i64 kk) := cell_gr hw5 (by go_simp)
                    have cw5_0_3 : w5.cell? ⟨B, off + i * 4 + 3, none⟩ = some (.slice ad' m cap') := cell_gr hw5 (by go_simp)
                    have cw5_0_4 : w5.cell? ⟨B, off + j * 4, none⟩ = some (.int .i64 kdj) := cell_gr hw5 (by go_simp)
                    have cw5_0_5 : w5.cell? ⟨B, off + j * 4 + 1, none⟩ = some (.int .i64 idj) := cell_gr hw5 (by go_simp)
                    have cw5_0_6 : w5.cell? ⟨B, off + j * 4 + 2, none⟩ = some (.int .i64 kkj) := cell_gr hw5 (by go_simp)
                    have cw5_0_7 : w5.cell? ⟨B, off + j * 4 + 3, none⟩ = some (.slice adj mj capj) := cell_gr hw5 (by go_simp)
                    have zw5_0 : B < w5.heap.size := World.block_lt_of_cell? _ _ cw5_0_0
                    have gw5 : Gr w3 w5 := Gr.trans (by have gg := gw4; have gs := gg.size; go_grown) hw5
                    clear gw4 zw4_0 cw4_0_0 cw4_0_1 cw4_0_2 cw4_0_3 cw4_0_4 cw4_0_5 cw4_0_6 cw4_0_7
                    clear hw5
                    try simp only [Act.put, List.setIfInBounds_toArray, List.set_cons_zero, List.set_cons_succ]
                    repeat (first | (refine Od.wpO_skip (by simp only [List.getElem?_toArray, List.getElem?_cons_succ, List.getElem?_cons_zero] <;> rfl) rfl ?_; simp only [Act.put, List.setIfInBounds_toArray, List.set_cons_zero, List.set_cons_succ]) | (refine Od.wpO_pure (by simp only [List.getElem?_toArray, List.getElem?_cons_succ, List.getElem?_cons_zero] <;> rfl) rfl ?_; apply Exists.intro; refine ⟨?_, ?_⟩; (· intro wx gx; obtain ⟨mx, rfl⟩ := spread_of_gr gx; clear gx; all_goals (apply Od.pAt_of_quiet; intro K hK; go_big_quiet_op; first | exact hK _ rfl | (apply Exists.intro; refine ⟨fun _ => ?_, ?_⟩; (· fail); exact hK _ rfl))); try simp only [Act.put, List.setIfInBounds_toArray, List.set_cons_zero, List.set_cons_succ]))
                    refine Od.wpO_nil (hKQ _ _ ?_)
                    clear hKQ KQ
                    go_wp2_with fail
                    go_wp2_with fail
                    try simp only [List.append]
                    refine Od.wp_region_ord [(0, false), (1, false), (2, false), (3, false), (4, false), (5, false), (6, false), (7, false), (8, false), (10, false), (9, true), (11, false), (12, false)] (by kernel_rfl) (by kernel_rfl) ?_
                    intro w6 hw6 KQ hKQ
                    have cw6_0_0 : w6.cell? ⟨B, off + i * 4, none⟩ = some (.int .i64 kd) := cell_gr hw6 (by go_simp)
                    have cw6_0_1 : w6.cell? ⟨B, off + i * 4 + 1, none⟩ = some (.int .i64 id) := cell_gr hw6 (by go_simp)
                    have cw6_0_2 : w6.cell? ⟨B, off + i * 4 + 2, none⟩ = some (.int .i64 kk) := cell_gr hw6 (by go_simp)
                    have cw6_0_3 : w6.cell? ⟨B, off + i * 4 + 3, none⟩ = some (.slice ad' m cap') := cell_gr hw6 (by go_simp)
                    have cw6_0_4 : w6.cell? ⟨B, off + j * 4, none⟩ = some (.int .i64 kdj) := cell_gr hw6 (by go_simp)
                    have cw6_0_5 : w6.cell? ⟨B, off + j * 4 + 1, none⟩ = some (.int .i64 idj) := cell_gr hw6 (by go_simp)
                    have cw6_0_6 : w6.cell? ⟨B, off + j * 4 + 2, none⟩ = some (.int .i64 kkj) := cell_gr hw6 (by go_simp)
                    have cw6_0_7 : w6.cell? ⟨B, off + j * 4 + 3, none⟩ = some (.slice adj mj capj) := cell_gr hw6 (by go_simp)
                    have zw6_0 : B < w6.heap.size := World.block_lt_of_cell? _ _ cw6_0_0
                    have gw6 : Gr w3 w6 := Gr.trans (by have gg := gw5; have gs := gg.size; go_grown) hw6
                    clear gw5 zw5_0 cw5_0_0 cw5_0_1 cw5_0_2 cw5_0_3 cw5_0_4 cw5_0_5 cw5_0_6 cw5_0_7
                    clear hw6
                    repeat (first | (refine Od.wpO_skip (by simp only [List.getElem?_toArray, List.getElem?_cons_succ, List.getElem?_cons_zero] <;> rfl) rfl ?_; simp only [Act.put, List.setIfInBounds_toArray, List.set_cons_zero, List.set_cons_succ]) | (refine Od.wpO_pure (by simp only [List.getElem?_toArray, List.getElem?_cons_succ, List.getElem?_cons_zero] <;> rfl) rfl ?_; apply Exists.intro; refine ⟨?_, ?_⟩; (· intro wx gx; obtain ⟨mx, rfl⟩ := spread_of_gr gx; clear gx; all_goals (apply Od.pAt_of_quiet; intro K hK; go_big_quiet_op; first | exact hK _ rfl | (apply Exists.intro; refine ⟨fun _ => ?_, ?_⟩; (· fail); exact hK _ rfl))); try simp only [Act.put, List.setIfInBounds_toArray, List.set_cons_zero, List.set_cons_succ]))
                    refine Od.wpO_call (by simp only [List.getElem?_toArray, List.getElem?_cons_succ, List.getElem?_cons_zero] <;> rfl) rfl ?_
                    intro QS hQS
                    go_wp2_with fail
                    go_at_call 7
                    (with_reducible refine ((HCB.out _ gw6)).mono ?_)
                    rintro e w7 ⟨rfl, hw7⟩
                    go_wp2_with fail
                    apply Exists.intro
                    refine ⟨?_, hw7, ?_⟩
                    · simp only [Act.put, List.setIfInBounds_toArray, List.set_cons_zero, List.set_cons_succ]; rfl
                    have cw7_0_0 : w7.cell? ⟨B, off + i * 4, none⟩ = some (.int .i64 kd) := cell_gr hw7 (by go_simp)
                    have cw7_0_1 : w7.cell? ⟨B, off + i * 4 + 1, none⟩ = some (.int .i64 id) := cell_gr hw7 (by go_simp)
                    have cw7_0_2 : w7.cell? ⟨B, off + i * 4 + 2, none⟩ = some (.int .i64 kk) := cell_gr hw7 (by go_simp)
                    have cw7_0_3 : w7.cell? ⟨B, off + i * 4 + 3, none⟩ = some (.slice ad' m cap') := cell_gr hw7 (by go_simp)
                    have cw7_0_4 : w7.cell? ⟨B, off + j * 4, none⟩ = some (.int .i64 kdj) := cell_gr hw7 (by go_simp)
                    have cw7_0_5 : w7.cell? ⟨B, off + j * 4 + 1, none⟩ = some (.int .i64 idj) := cell_gr hw7 (by go_simp)
                    have cw7_0_6 : w7.cell? ⟨B, off + j * 4 + 2, none⟩ = some (.int .i64 kkj) := cell_gr hw7 (by go_simp)
                    have cw7_0_7 : w7.cell? ⟨B, off + j * 4 + 3, none⟩ = some (.slice adj mj capj) := cell_gr hw7 (by go_simp)
                    have zw7_0 : B < w7.heap.size := World.block_lt_of_cell? _ _ cw7_0_0
                    have gw7 : Gr w3 w7 := Gr.trans (by have gg := gw6; have gs := gg.size; go_grown) hw7
                    clear gw6 zw6_0 cw6_0_0 cw6_0_1 cw6_0_2 cw6_0_3 cw6_0_4 cw6_0_5 cw6_0_6 cw6_0_7
                    clear hw7
                    try simp only [Act.put, List.setIfInBounds_toArray, List.set_cons_zero, List.set_cons_succ]
                    repeat (first | (refine Od.wpO_skip (by simp only [List.getElem?_toArray, List.getElem?_cons_succ, List.getElem?_cons_zero] <;> rfl) rfl ?_; simp only [Act.put, List.setIfInBounds_toArray, List.set_cons_zero, List.set_cons_succ]) | (refine Od.wpO_pure (by simp only [List.getElem?_toArray, List.getElem?_cons_succ, List.getElem?_cons_zero] <;> rfl) rfl ?_; apply Exists.intro; refine ⟨?_, ?_⟩; (· intro wx gx; obtain ⟨mx, rfl⟩ := spread_of_gr gx; clear gx; all_goals (apply Od.pAt_of_quiet; intro K hK; go_big_quiet_op; first | exact hK _ rfl | (apply Exists.intro; refine ⟨fun _ => ?_, ?_⟩; (· fail); exact hK _ rfl))); try simp only [Act.put, List.setIfInBounds_toArray, List.set_cons_zero, List.set_cons_succ]))
                    refine Od.wpO_nil (hKQ _ _ ?_)
                    clear hKQ KQ
                    go_wp2_with fail
                    go_roundg (i - (j + 1))
                    case measure => exact hmm2
                    case rel => exact ⟨j + 1, by go_num, by omega, rfl, Gr.trans K3 gw7⟩
                · have v1 : ((id : Int) == idj) = false := by simp [e2]
                  rw [decide_eq_false (fun h => e2 (AP.1 h).2.1)] at CB
                  have HCB := Lib.hid CB
                  clear CB e1 e2 AP
                  go_wp2_with fail
                  go_wp2_with fail
                  try simp only [List.append]
                  refine Od.wp_region_ord [(0, false), (1, false), (2, false), (3, false), (4, false), (5, false), (6, false), (7, false), (8, false), (9, false), (10, false), (11, false), (12, false), (13, false), (14, false), (15, false), (16, false), (17, false), (18, false), (19, false), (20, false), (21, false), (22, false), (23, false), (24, false), (25, false), (26, false), (27, false), (28, false), (29, false), (30, false), (31, false), (32, false), (33, false), (34, false), (35, false), (36, false), (37, false), (38, false), (39, true), (40, false), (41, false)] (by kernel_rfl) (by kernel_rfl) ?_
                  intro w4 hw4 KQ hKQ
                  have cw4_0_0 : w4.cell? ⟨B, off + i * 4, none⟩ = some (.int .i64 kd) := cell_gr hw4 (by go_simp)
                  have cw4_0_1 : w4.cell? ⟨B, off + i * 4 + 1, none⟩ = some (.int .i64 id) := cell_gr hw4 (by go_simp)
                  have cw4_0_2 : w4.cell? ⟨B, off + i * 4 + 2, none⟩ = some (.int .i64 kk) := cell_gr hw4 (by go_simp)
                  have cw4_0_3 : w4.cell? ⟨B, off + i * 4 + 3, none⟩ = some (.slice ad' m cap') := cell_gr hw4 (by go_simp)
                  have cw4_0_4 : w4.cell? ⟨B, off + j * 4, none⟩ = some (.int .i64 kdj) := cell_gr hw4 (by go_simp)
                  have cw4_0_5 : w4.cell? ⟨B, off + j * 4 + 1, none⟩ = some (.int .i64 idj) := cell_gr hw4 (by go_simp)
                  have cw4_0_6 : w4.cell? ⟨B, off + j * 4 + 2, none⟩ = some (.int .i64 kkj) := cell_gr hw4 (by go_simp)
                  have cw4_0_7 : w4.cell? ⟨B, off + j * 4 + 3, none⟩ = some (.slice adj mj capj) := cell_gr hw4 (by go_simp)
                  have zw4_0 : B < w4.heap.size := World.block_lt_of_cell? _ _ cw4_0_0
                  have gw4 : Gr w3 w4 := Gr.trans (by go_grown) hw4
                  skip
                  clear hw4
                  repeat (first | (refine Od.wpO_skip (by simp only [List.getElem?_toArray, List.getElem?_cons_succ, List.getElem?_cons_zero] <;> rfl) rfl ?_; simp only [Act.put, List.setIfInBounds_toArray, List.set_cons_zero, List.set_cons_succ]) | (refine Od.wpO_pure (by simp only [List.getElem?_toArray, List.getElem?_cons_succ, List.getElem?_cons_zero] <;> rfl) rfl ?_; apply Exists.intro; refine ⟨?_, ?_⟩; (· intro wx gx; obtain ⟨mx, rfl⟩ := spread_of_gr gx; clear gx; all_goals (apply Od.pAt_of_quiet; intro K hK; go_big_quiet_op; first | exact hK _ rfl | (apply Exists.intro; refine ⟨fun _ => ?_, ?_⟩; (· fail); exact hK _ rfl))); try simp only [Act.put, List.setIfInBounds_toArray, List.set_cons_zero, List.set_cons_succ]))
                  refine Od.wpO_nil (hKQ _ _ ?_)
                  clear hKQ KQ
                  go_wp2_with fail
                  go_wp2_with fail
                  try simp only [List.append]
                  refine Od.wp_region_ord [(0, false), (1, false), (2, false), (3, false), (4, false), (5, false), (6, false), (7, false), (8, false), (10, false), (9, true), (11, false), (12, false)] (by kernel_rfl) (by kernel_rfl) ?_
                  intro w6 hw6 KQ hKQ
                  have cw6_0_0 : w6.cell? ⟨B, off + i * 4, none⟩ = some (.int .i64 kd) := cell_gr hw6 (by go_simp)
                  have cw6_0_1 : w6.cell? ⟨B, off + i * 4 + 1, none⟩ = some (.int .i64 id) := cell_gr hw6 (by go_simp)
                  have cw6_0_2 : w6.cell? ⟨B, off + i * 4 + 2, none⟩ = some (.int .i64 kk) := cell_gr hw6 (by go_simp)
                  have cw6_0_3 : w6.cell? ⟨B, off + i * 4 + 3, none⟩ = some (.slice ad' m cap') := cell_gr hw6 (by go_simp)
                  have cw6_0_4 : w6.cell? ⟨B, off + j * 4, none⟩ = some (.int .i64 kdj) := cell_gr hw6 (by go_simp)
                  have cw6_0_5 : w6.cell? ⟨B, off + j * 4 + 1, none⟩ = some (.int .i64 idj) := cell_gr hw6 (by go_simp)
                  have cw6_0_6 : w6.cell? ⟨B, off + j * 4 + 2, none⟩ = some (.int .i64 kkj) := cell_gr hw6 (by go_simp)
                  have cw6_0_7 : w6.cell? ⟨B, off + j * 4 + 3, none⟩ = some (.slice adj mj capj) := cell_gr hw6 (by go_simp)
                  have zw6_0 : B < w6.heap.size := World.block_lt_of_cell? _ _ cw6_0_0
                  have gw6 : Gr w3 w6 := Gr.trans (by have gg := gw4; have gs := gg.size; go_grown) hw6
                  clear gw4 zw4_0 cw4_0_0 cw4_0_1 cw4_0_2 cw4_0_3 cw4_0_4 cw4_0_5 cw4_0_6 cw4_0_7
                  clear hw6
                  repeat (first | (refine Od.wpO_skip (by simp only [List.getElem?_toArray, List.getElem?_cons_succ, List.getElem?_cons_zero] <;> rfl) rfl ?_; simp only [Act.put, List.setIfInBounds_toArray, List.set_cons_zero, List.set_cons_succ]) | (refine Od.wpO_pure (by simp only [List.getElem?_toArray, List.getElem?_cons_succ, List.getElem?_cons_zero] <;> rfl) rfl ?_; apply Exists.intro; refine ⟨?_, ?_⟩; (· intro wx gx; obtain ⟨mx, rfl⟩ := spread_of_gr gx; clear gx; all_goals (apply Od.pAt_of_quiet; intro K hK; go_big_quiet_op; first | exact hK _ rfl | (apply Exists.intro; refine ⟨fun _ => ?_, ?_⟩; (· fail); exact hK _ rfl))); try simp only [Act.put, List.setIfInBounds_toArray, List.set_cons_zero, List.set_cons_succ]))
                  refine Od.wpO_call (by simp only [List.getElem?_toArray, List.getElem?_cons_succ, List.getElem?_cons_zero] <;> rfl) rfl ?_
                  intro QS hQS
                  go_wp2_with fail
                  go_at_call 7
                  (with_reducible refine ((HCB.out _ gw6)).mono ?_)
                  rintro e w7 ⟨rfl, hw7⟩
                  go_wp2_with fail
                  apply Exists.intro
                  refine ⟨?_, hw7, ?_⟩
                  · simp only [Act.put, List.setIfInBounds_toArray, List.set_cons_zero, List.set_cons_succ]; rfl
                  have cw7_0_0 : w7.cell? ⟨B, off + i * 4, none⟩ = some (.int .i64 kd) := cell_gr hw7 (by go_simp)
                  have cw7_0_1 : w7.cell? ⟨B, off + i * 4 + 1, none⟩ = some (.int .i64 id) := cell_gr hw7 (by go_simp)
                  have cw7_0_2 : w7.cell? ⟨B, off + i * 4 + 2, none⟩ = some (.int .i64 kk) := cell_gr hw7 (by go_simp)
                  have cw7_0_3 : w7.cell? ⟨B, off + i * 4 + 3, none⟩ = some (.slice ad' m cap') := cell_gr hw7 (by go_simp)
                  have cw7_0_4 : w7.cell? ⟨B, off + j * 4, none⟩ = some (.int .i64 kdj) := cell_gr hw7 (by go_simp)
                  have cw7_0_5 : w7.cell? ⟨B, off + j * 4 + 1, none⟩ = some (.int .i64 idj) := cell_gr hw7 (by go_simp)
                  have cw7_0_6 : w7.cell? ⟨B, off + j * 4 + 2, none⟩ = some (.int .i64 kkj) := cell_gr hw7 (by go_simp)
                  have cw7_0_7 : w7.cell? ⟨B, off + j * 4 + 3, none⟩ = some (.slice adj mj capj) := cell_gr hw7 (by go_simp)
                  have zw7_0 : B < w7.heap.size := World.block_lt_of_cell? _ _ cw7_0_0
                  have gw7 : Gr w3 w7 := Gr.trans (by have gg := gw6; have gs := gg.size; go_grown) hw7
                  clear gw6 zw6_0 cw6_0_0 cw6_0_1 cw6_0_2 cw6_0_3 cw6_0_4 cw6_0_5 cw6_0_6 cw6_0_7
                  clear hw7
                  try simp only [Act.put, List.setIfInBounds_toArray, List.set_cons_zero, List.set_cons_succ]
                  repeat (first | (refine Od.wpO_skip (by simp only [List.getElem?_toArray, List.getElem?_cons_succ, List.getElem?_cons_zero] <;> rfl) rfl ?_; simp only [Act.put, List.setIfInBounds_toArray, List.set_cons_zero, List.set_cons_succ]) | (refine Od.wpO_pure (by simp only [List.getElem?_toArray, List.getElem?_cons_succ, List.getElem?_cons_zero] <;> rfl) rfl ?_; apply Exists.intro; refine ⟨?_, ?_⟩; (· intro wx gx; obtain ⟨mx, rfl⟩ := spread_of_gr gx; clear gx; all_goals (apply Od.pAt_of_quiet; intro K hK; go_big_quiet_op; first | exact hK _ rfl | (apply Exists.intro; refine ⟨fun _ => ?_, ?_⟩; (· fail); exact hK _ rfl))); try simp only [Act.put, List.setIfInBounds_toArray, List.set_cons_zero, List.set_cons_succ]))
                  refine Od.wpO_nil (hKQ _ _ ?_)
                  clear hKQ KQ
                  go_wp2_with fail
                  go_roundg (i - (j + 1))
                  case measure => exact hmm2
                  case rel => exact ⟨j + 1, by go_num, by omega, rfl, Gr.trans K3 gw7⟩
              · have u1 : ((kd : Int) == kdj) = false := by simp [e1]
                rw [decide_eq_false (fun h => e1 (AP.1 h).1)] at CB
                have HCB := Lib.hid CB
                clear CB e1 AP
                go_wp2_with fail
                go_wp2_with fail
                try simp only [List.append]
                refine Od.wp_region_ord [(0, false), (1, false), (2, false), (3, false), (4, false), (5, false), (6, false), (7, false), (8, false), (9, false), (10, false), (11, false), (12, false), (13, false), (14, false), (15, false), (16, false), (17, false), (18, false), (19, false), (20, false), (21, false), (22, false), (23, false), (24, false), (25, false), (26, false), (27, false), (28, false), (29, false), (30, false), (31, false), (32, false), (33, false), (34, false), (35, false), (36, false), (37, false), (38, false), (39, true), (40, false), (41, false)] (by kernel_rfl) (by kernel_rfl) ?_
                intro w4 hw4 KQ hKQ
                have cw4_0_0 : w4.cell? ⟨B, off + i * 4, none⟩ = some (.int .i64 kd) := cell_gr hw4 (by go_simp)
                have cw4_0_1 : w4.cell? ⟨B, off + i * 4 + 1, none⟩ = some (.int .i64 id) := cell_gr hw4 (by go_simp)
                have cw4_0_2 : w4.cell? ⟨B, off + i * 4 + 2, none⟩ = some (.int .i64 kk) := cell_gr hw4 (by go_simp)
                have cw4_0_3 : w4.cell? ⟨B, off + i * 4 + 3, none⟩ = some (.slice ad' m cap') := cell_gr hw4 (by go_simp)
                have cw4_0_4 : w4.cell? ⟨B, off + j * 4, none⟩ = some (.int .i64 kdj) := cell_gr hw4 (by go_simp)
                have cw4_0_5 : w4.cell? ⟨B, off + j * 4 + 1, none⟩ = some (.int .i64 idj) := cell_gr hw4 (by go_simp)
                have cw4_0_6 : w4.cell? ⟨B, off + j * 4 + 2, none⟩ = some (.int .i64 kkj) := cell_gr hw4 (by go_simp)
                have cw4_0_7 : w4.cell? ⟨B, off + j * 4 + 3, none⟩ = some (.slice adj mj capj) := cell_gr hw4 (by go_simp)
                have zw4_0 : B < w4.heap.size := World.block_lt_of_cell? _ _ cw4_0_0
                have gw4 : Gr w3 w4 := Gr.trans (by go_grown) hw4
                skip
                clear hw4
                repeat (first | (refine Od.wpO_skip (by simp only [List.getElem?_toArray, List.getElem?_cons_succ, List.getElem?_cons_zero] <;> rfl) rfl ?_; simp only [Act.put, List.setIfInBounds_toArray, List.set_cons_zero, List.set_cons_succ]) | (refine Od.wpO_pure (by simp only [List.getElem?_toArray, List.getElem?_cons_succ, List.getElem?_cons_zero] <;> rfl) rfl ?_; apply Exists.intro; refine ⟨?_, ?_⟩; (· intro wx gx; obtain ⟨mx, rfl⟩ := spread_of_gr gx; clear gx; all_goals (apply Od.pAt_of_quiet; intro K hK; go_big_quiet_op; first | exact hK _ rfl | (apply Exists.intro; refine ⟨fun _ => ?_, ?_⟩; (· fail); exact hK _ rfl))); try simp only [Act.put, List.setIfInBounds_toArray, List.set_cons_zero, List.set_cons_succ]))
                refine Od.wpO_nil (hKQ _ _ ?_)
                clear hKQ KQ
                go_wp2_with fail
                go_wp2_with fail
                try simp only [List.append]
                refine Od.wp_region_ord [(0, false), (1, false), (2, false), (3, false), (4, false), (5, false), (6, false), (7, false), (8, false), (10, false), (9, true), (11, false), (12, false)] (by kernel_rfl) (by kernel_rfl) ?_
                intro w6 hw6 KQ hKQ
                have cw6_0_0 : w6.cell? ⟨B, off + i * 4, none⟩ = some (.int .i64 kd) := cell_gr hw6 (by go_simp)
                have cw6_0_1 : w6.cell? ⟨B, off + i * 4 + 1, none⟩ = some (.int .i64 id) := cell_gr hw6 (by go_simp)
                have cw6_0_2 : w6.cell? ⟨B, off + i * 4 + 2, none⟩ = some (.int .i64 kk) := cell_gr hw6 (by go_simp)
                have cw6_0_3 : w6.cell? ⟨B, off + i * 4 + 3, none⟩ = some (.slice ad' m cap') := cell_gr hw6 (by go_simp)
                have cw6_0_4 : w6.cell? ⟨B, off + j * 4, none⟩ = some (.int .i64 kdj) := cell_gr hw6 (by go_simp)
                have cw6_0_5 : w6.cell? ⟨B, off + j * 4 + 1, none⟩ = some (.int .i64 idj) := cell_gr hw6 (by go_simp)
                have cw6_0_6 : w6.cell? ⟨B, off + j * 4 + 2, none⟩ = some (.int .i64 kkj) := cell_gr hw6 (by go_simp)
                have cw6_0_7 : w6.cell? ⟨B, off + j * 4 + 3, none⟩ = some (.slice adj mj capj) := cell_gr hw6 (by go_simp)
                have zw6_0 : B < w6.heap.size := World.block_lt_of_cell? _ _ cw6_0_0
                have gw6 : Gr w3 w6 := Gr.trans (by have gg := gw4; have gs := gg.size; go_grown) hw6
                clear gw4 zw4_0 cw4_0_0 cw4_0_1 cw4_0_2 cw4_0_3 cw4_0_4 cw4_0_5 cw4_0_6 cw4_0_7
                clear hw6
                repeat (first | (refine Od.wpO_skip (by simp only [List.getElem?_toArray, List.getElem?_cons_succ, List.getElem?_cons_zero] <;> rfl) rfl ?_; simp only [Act.put, List.setIfInBounds_toArray, List.set_cons_zero, List.set_cons_succ]) | (refine Od.wpO_pure (by simp only [List.getElem?_toArray, List.getElem?_cons_succ, List.getElem?_cons_zero] <;> rfl) rfl ?_; apply Exists.intro; refine ⟨?_, ?_⟩; (· intro wx gx; obtain ⟨mx, rfl⟩ := spread_of_gr gx; clear gx; all_goals (apply Od.pAt_of_quiet; intro K hK; go_big_quiet_op; first | exact hK _ rfl | (apply Exists.intro; refine ⟨fun _ => ?_, ?_⟩; (· fail); exact hK _ rfl))); try simp only [Act.put, List.setIfInBounds_toArray, List.set_cons_zero, List.set_cons_succ]))
                refine Od.wpO_call (by simp only [List.getElem?_toArray, List.getElem?_cons_succ, List.getElem?_cons_zero] <;> rfl) rfl ?_
                intro QS hQS
                go_wp2_with fail
                go_at_call 7
                (with_reducible refine ((HCB.out _ gw6)).mono ?_)
                rintro e w7 ⟨rfl, hw7⟩
                go_wp2_with fail
                apply Exists.intro
                refine ⟨?_, hw7, ?_⟩
                · simp only [Act.put, List.setIfInBounds_toArray, List.set_cons_zero, List.set_cons_succ]; rfl
                have cw7_0_0 : w7.cell? ⟨B, off + i * 4, none⟩ = some (.int .i64 kd) := cell_gr hw7 (by go_simp)
                have cw7_0_1 : w7.cell? ⟨B, off + i * 4 + 1, none⟩ = some (.int .i64 id) := cell_gr hw7 (by go_simp)
                have cw7_0_2 : w7.cell? ⟨B, off + i * 4 + 2, none⟩ = some (.int .i64 kk) := cell_gr hw7 (by go_simp)
                have cw7_0_3 : w7.cell? ⟨B, off + i * 4 + 3, none⟩ = some (.slice ad' m cap') := cell_gr hw7 (by go_simp)
                have cw7_0_4 : w7.cell? ⟨B, off + j * 4, none⟩ = some (.int .i64 kdj) := cell_gr hw7 (by go_simp)
                have cw7_0_5 : w7.cell? ⟨B, off + j * 4 + 1, none⟩ = some (.int .i64 idj) := cell_gr hw7 (by go_simp)
                have cw7_0_6 : w7.cell? ⟨B, off + j * 4 + 2, none⟩ = some (.int .i64 kkj) := cell_gr hw7 (by go_simp)
                have cw7_0_7 : w7.cell? ⟨B, off + j * 4 + 3, none⟩ = some (.slice adj mj capj) := cell_gr hw7 (by go_simp)
                have zw7_0 : B < w7.heap.size := World.block_lt_of_cell? _ _ cw7_0_0
                have gw7 : Gr w3 w7 := Gr.trans (by have gg := gw6; have gs := gg.size; go_grown) hw7
                clear gw6 zw6_0 cw6_0_0 cw6_0_1 cw6_0_2 cw6_0_3 cw6_0_4 cw6_0_5 cw6_0_6 cw6_0_7
                clear hw7
                try simp only [Act.put, List.setIfInBounds_toArray, List.set_cons_zero, List.set_cons_succ]
                repeat (first | (refine Od.wpO_skip (by simp only [List.getElem?_toArray, List.getElem?_cons_succ, List.getElem?_cons_zero] <;> rfl) rfl ?_; simp only [Act.put, List.setIfInBounds_toArray, List.set_cons_zero, List.set_cons_succ]) | (refine Od.wpO_pure (by simp only [List.getElem?_toArray, List.getElem?_cons_succ, List.getElem?_cons_zero] <;> rfl) rfl ?_; apply Exists.intro; refine ⟨?_, ?_⟩; (· intro wx gx; obtain ⟨mx, rfl⟩ := spread_of_gr gx; clear gx; all_goals (apply Od.pAt_of_quiet; intro K hK; go_big_quiet_op; first | exact hK _ rfl | (apply Exists.intro; refine ⟨fun _ => ?_, ?_⟩; (· fail); exact hK _ rfl))); try simp only [Act.put, List.setIfInBounds_toArray, List.set_cons_zero, List.set_cons_succ]))
                refine Od.wpO_nil (hKQ _ _ ?_)
                clear hKQ KQ
                go_wp2_with fail
                go_roundg (i - (j + 1))
                case measure => exact hmm2
                case rel => exact ⟨j + 1, by go_num, by omega, rfl, Gr.trans K3 gw7⟩
            · obtain rfl : j = i := by omega
              have tj : decide ((j : Int) < (j : Int)) = false := decide_eq_false (by omega)
              have tj2 : decide (j < j) = false := decide_eq_false (by omega)
              have OF : Own wr W.heap.size x2 (catF D (j + 1)) := by
                have a := rowOwn_gr O2.out hg2
                have e : catF D (j + 1) = catF D j ++ LB := by show catF D j ++ (D j).bytes = _; rw [HE.out, HLB.out]
                rw [e]; exact a
              have HOF := Lib.hid OF
              clear hk OF
              go_wp2_with fail
              go_roundg (n - (j + 1))
              case measure => exact hmm
              case rel => exact ⟨j + 1, by go_num, by omega, rfl, HOF.out, fun z hz => (by
                rcases Nat.lt_succ_iff_lt_or_eq.1 hz with h | rfl
                · exact HC.out z h
                · rw [HE.out]; exact ⟨HCC.out, hm⟩), Gr.trans G2 hg2⟩
        · have G1 : Gr W w1 := Gr.trans hg g1
          clear g1 p0 p1 p2 p3
          go_wp2_with fail
          go_at_call 4
          refine ((p8_awake _)).mono ?_
          rintro e w2 ⟨rfl, hw2⟩
          have gw2 : Gr w1 w2 := Gr.trans (by go_grown) hw2
          clear hw2
          go_wp2_with fail
          go_ret
          exact ⟨rfl, Gr.trans G1 gw2⟩
      · have dm : decide ((64 : Int) < (m : Int)) = true := decide_eq_true (by omega)
        have dm2 : decide (64 < m) = true := decide_eq_true (by omega)
        go_wp2_with fail
        go_at_call 4
        refine ((p8_awake _)).mono ?_
        rintro e w2 ⟨rfl, hw2⟩
        have gw2 : Gr wr w2 := Gr.trans (by go_grown) hw2
        clear hw2
        go_wp2_with fail
        go_ret
        exact ⟨rfl, Gr.trans hg gw2⟩
    · obtain rfl : i = n := by omega
      have ti : decide ((i : Int) < (i : Int)) = false := decide_eq_false (by omega)
      have ti2 : decide (i < i) = false := decide_eq_false (by omega)
      clear hk
      go_wp2_with fail
      go_loopg [3, 12] i (fun k x y wr' => ∃ t : Nat, y = .int .i64 t ∧ t ≤ i ∧ k = i - t ∧ Row wr' x (catB D i t) ∧ Gr W wr')
      case atStart => exact ⟨0, rfl, Nat.zero_le _, by omega, by rw [catB_zero]; exact row_own HO.out, hg⟩
      case round =>
        obtain ⟨t, rfl, ht, hk, hR, hg2⟩ := hrel
        by_cases htn : t < i
        · have tt : decide ((t : Int) < (i : Int)) = true := decide_eq_true (by omega)
          have tt2 : decide (t < i) = true := decide_eq_true htn
          have tt3 : (t : Int) < (i : Int) := by omega
          have tt9 : (t : Int) ≤ 12 := by omega
          obtain rfl := HA.out (by omega)
          have hmm : i - (t + 1) < gk := by omega
          have q := HX.out t htn
          have hct := (HC.out t htn).1
          have hmt := (HC.out t htn).2
          have hst := catB_step D htn
          have hdr := catB_drop D htn
          have hML : (catB D i (t + 1)).length ≤ 60000 := by
            have a := catF_len D i (fun j hj => (HC.out j hj).1)
            unfold catB
            rw [List.length_drop]
            omega
          rcases ed : D t with ⟨kd, id, kk, vv, m, P, Q⟩
          rw [ed] at q hct hst hmt hdr
          obtain ⟨q0, q1, q2, q3, q4⟩ := q
          simp only at q0 q1 q2 q3 q4 hct hmt
          replace hct : chgC kd id kk m P Q = 0 := hct
          have PP := Lib.hid q4
          have CU := Lib.hid (fun (w : World) (u : Value) (r : Row w u (catB D i t)) => uc_back hct w (M := catB D i (t + 1)) (by rw [hst] at r; exact r) hML)
          have hlc : (chgB kd id kk m P Q).length ≤ (catB D i t).length := by rw [hst]; show _ ≤ (chgB kd id kk m P Q ++ _).length; rw [List.length_append]; omega
          have hl1 : 1 ≤ (chgB kd id kk m P Q).length := by
            have := (Ec.vr_len10 (v := kd.toNat) (by have := chgC_ok hct; omega)).1
            unfold chgB; simp only [List.length_append]; omega
          have hdr' : (catB D i t).drop (chgB kd id kk m P Q).length = catB D i (t + 1) := hdr
          obtain ⟨lc, elc⟩ : ∃ lc, lc = (chgB kd id kk m P Q).length := ⟨_, rfl⟩
          rw [← elc] at CU hlc hl1 hdr'
          obtain ⟨ub, ks, rb⟩ := row_from lc hlc hR
          rw [hdr'] at rb
          have RB := Lib.hid rb
          have HR := Lib.hid hR
          obtain ⟨adb, capb, _, _, rfl, _⟩ := hR
          obtain ⟨lt, elt⟩ : ∃ lt, lt = (catB D i t).length := ⟨_, rfl⟩
          rw [← elt] at HR hlc ks ⊢
          obtain ⟨ad', cap', _, _, rfl, _⟩ := q4
          have x1 : decide ((lc : Int) < 1) = false := decide_eq_false (by omega)
          have x2 : decide ((lt : Int) < (lc : Int)) = false := decide_eq_false (by omega)
          have x7 : decide (lc < 1) = false := decide_eq_false (by omega)
          have x8 : decide (lt < lc) = false := decide_eq_false (by omega)
          have x9 : decide (lc = 0) = false := decide_eq_false (by omega)
          have xa : lc ≠ 0 := by omega
          have xb : ¬ lt < lc := by omega
          have xc : (lc == 0) = false := by simp; omega
          have x3 : ((kd : Int) != kd) = false := by simp
          have x4 : ((id : Int) != id) = false := by simp
          have x5 : ((kd : Int) == kd) = true := by simp
          have x6 : ((id : Int) == id) = true := by simp
          clear hk elc elt hst hdr hdr' rb ed hML
          go_wp2_with fail
          go_at_call 8
          refine (CU.out _ _ HR.out).mono ?_
          rintro e w1 ⟨v1, rfl, p1, g1⟩
          have G1 := Gr.trans hg2 g1
          have P1 := Lib.hid p1
          obtain ⟨ad1, cap1, _, _, rfl, _⟩ := p1
          have RB1 := Lib.hid (row_gr RB.out g1)
          have y0 := cell_gr G1 q0
          have y1 := cell_gr G1 q1
          have y2 := cell_gr G1 q2
          have y3 := cell_gr G1 q3
          have zB := World.block_lt_of_cell? _ _ y0
          have SM := Lib.hid (fun w (g : Gr w1 w) => c_rSame kk kk true w (pts_gr P1.out g) (pts_gr PP.out (Gr.trans G1 g)) (by omega) (by simp))
          clear q0 q1 q2 q3 g1 CU
          go_wp2_with fail
          go_wp2_with fail
          try simp only [List.append]
          refine Od.wp_region_ord [(0, false), (1, false), (2, false), (3, false), (4, false), (5, false), (6, false), (7, false), (8, false), (9, false), (10, false), (11, false), (12, false), (13, false), (14, false), (15, false), (16, false), (17, false), (18, false), (19, false), (20, false), (21, false), (22, false), (23, false), (24, false), (25, false), (26, false), (27, false), (28, false), (29, false), (30, false), (31, false), (32, false), (33, false), (34, false), (35, false), (36, false), (37, false), (38, false), (39, false), (40, false), (41, false), (42, false), (43, false), (44, true), (45, false), (46, false)] (by kernel_rfl) (by kernel_rfl) ?_
          intro w2 hw2 KQ hKQ
          have cw2_0_0 : w2.cell? ⟨w1.heap.size, 0, none⟩ = some (.int .i64 kd) := cell_gr hw2 (by go_simp)
          have cw2_0_1 : w2.cell? ⟨w1.heap.size, 1, none⟩ = some (.int .i64 id) := cell_gr hw2 (by go_simp)
          have cw2_0_2 : w2.cell? ⟨w1.heap.size, 2, none⟩ = some (.int .i64 kk) := cell_gr hw2 (by go_simp)
          have cw2_0_3 : w2.cell? ⟨w1.heap.size, 3, none⟩ = some (.slice ad1 m cap1) := cell_gr hw2 (by go_simp)
          have zw2_0 : w1.heap.size < w2.heap.size := World.block_lt_of_cell? _ _ cw2_0_0
          have cw2_1_0 : w2.cell? ⟨B, off + t * 4, none⟩ = some (.int .i64 kd) := cell_gr hw2 (by go_simp)
          have cw2_1_1 : w2.cell? ⟨B, off + t * 4 + 1, none⟩ = some (.int .i64 id) := cell_gr hw2 (by go_simp)
          have cw2_1_2 : w2.cell? ⟨B, off + t * 4 + 2, none⟩ = some (.int .i64 kk) := cell_gr hw2 (by go_simp)
          have cw2_1_3 : w2.cell? ⟨B, off + t * 4 + 3, none⟩ = some (.slice ad' m cap') := cell_gr hw2 (by go_simp)
          have zw2_1 : B < w2.heap.size := World.block_lt_of_cell? _ _ cw2_1_0
          have gw2 : Gr w1 w2 := Gr.trans (by go_grown) hw2
          skip
          clear hw2
          repeat (first | (refine Od.wpO_skip (by simp only [List.getElem?_toArray, List.getElem?_cons_succ, List.getElem?_cons_zero] <;> rfl) rfl ?_; simp only [Act.put, List.setIfInBounds_toArray, List.set_cons_zero, List.set_cons_succ]) | (refine Od.wpO_pure (by simp only [List.getElem?_toArray, List.getElem?_cons_succ, List.getElem?_cons_zero] <;> rfl) rfl ?_; apply Exists.intro; refine ⟨?_, ?_⟩; (· intro wx gx; obtain ⟨mx, rfl⟩ := spread_of_gr gx; clear gx; all_goals (apply Od.pAt_of_quiet; intro K hK; go_big_quiet_op; first | exact hK _ rfl | (apply Exists.intro; refine ⟨fun _ => ?_, ?_⟩; (· fail); exact hK _ rfl))); try simp only [Act.put, List.setIfInBounds_toArray, List.set_cons_zero, List.set_cons_succ]))
          refine Od.wpO_call (by simp only [List.getElem?_toArray, List.getElem?_cons_succ, List.getElem?_cons_zero] <;> rfl) rfl ?_
          intro QS hQS
          go_wp2_with fail
          go_at_call 6
          (with_reducible refine ((SM.out _ gw2)).mono ?_)
          rintro e w3 ⟨rfl, hw3⟩
          go_wp2_with fail
          apply Exists.intro
          refine ⟨?_, hw3, ?_⟩
          · simp only [Act.put, List.setIfInBounds_toArray, List.set_cons_zero, List.set_cons_succ]; rfl
          have cw3_0_0 : w3.cell? ⟨w1.heap.size, 0, none⟩ = some (.int .i64 kd) := cell_gr hw3 (by go_simp)
          have cw3_0_1 : w3.cell? ⟨w1.heap.size, 1, none⟩ = some (.int .i64 id) := cell_gr hw3 (by go_simp)
          have cw3_0_2 : w3.cell? ⟨w1.heap.size, 2, none⟩ = some (.int .i64 kk) := cell_gr hw3 (by go_simp)
          have cw3_0_3 : w3.cell? ⟨w1.heap.size, 3, none⟩ = some (.slice ad1 m cap1) := cell_gr hw3 (by go_simp)
          have zw3_0 : w1.heap.size < w3.heap.size := World.block_lt_of_cell? _ _ cw3_0_0
          have cw3_1_0 : w3.cell? ⟨B, off + t * 4, none⟩ = some (.int .i64 kd) := cell_gr hw3 (by go_simp)
          have cw3_1_1 : w3.cell? ⟨B, off + t * 4 + 1, none⟩ = some (.int .i64 id) := cell_gr hw3 (by go_simp)
          have cw3_1_2 : w3.cell? ⟨B, off + t * 4 + 2, none⟩ = some (.int .i64 kk) := cell_gr hw3 (by go_simp)
          have cw3_1_3 : w3.cell? ⟨B, off + t * 4 + 3, none⟩ = some (.slice ad' m cap') := cell_gr hw3 (by go_simp)
          have zw3_1 : B < w3.heap.size := World.block_lt_of_cell? _ _ cw3_1_0
          have gw3 : Gr w1 w3 := Gr.trans (by have gg := gw2; have gs := gg.size; go_grown) hw3
          clear gw2 zw2_0 cw2_0_0 cw2_0_1 cw2_0_2 cw2_0_3 zw2_1 cw2_1_0 cw2_1_1 cw2_1_2 cw2_1_3
          clear hw3
          try simp only [Act.put, List.setIfInBounds_toArray, List.set_cons_zero, List.set_cons_succ]
          repeat (first | (refine Od.wpO_skip (by simp only [List.getElem?_toArray, List.getElem?_cons_succ, List.getElem?_cons_zero] <;> rfl) rfl ?_; simp only [Act.put, List.setIfInBounds_toArray, List.set_cons_zero, List.set_cons_succ]) | (refine Od.wpO_pure (by simp only [List.getElem?_toArray, List.getElem?_cons_succ, List.getElem?_cons_zero] <;> rfl) rfl ?_; apply Exists.intro; refine ⟨?_, ?_⟩; (· intro wx gx; obtain ⟨mx, rfl⟩ := spread_of_gr gx; clear gx; all_goals (apply Od.pAt_of_quiet; intro K hK; go_big_quiet_op; first | exact hK _ rfl | (apply Exists.intro; refine ⟨fun _ => ?_, ?_⟩; (· fail); exact hK _ rfl))); try simp only [Act.put, List.setIfInBounds_toArray, List.set_cons_zero, List.set_cons_succ]))
          refine Od.wpO_nil (hKQ _ _ ?_)
          clear hKQ KQ
          go_wp2_with fail
          go_roundg (i - (t + 1))
          case measure => exact hmm
          case rel => exact ⟨t + 1, by go_num, by omega, rfl, row_gr RB1.out gw3, Gr.trans G1 gw3⟩
        · obtain rfl : t = i := by omega
          have tt : decide ((t : Int) < (t : Int)) = false := decide_eq_false (by omega)
          have tt2 : decide (t < t) = false := decide_eq_false (by omega)
          rw [catB_last] at hR
          obtain ⟨adb, capb, _, _, rfl, _⟩ := hR
          clear hk
          go_wp2_with fail
          go_at_call 4
          refine ((p8_awake _)).mono ?_
          rintro e w2 ⟨rfl, hw2⟩
          have gw2 : Gr wr w2 := Gr.trans (by go_grown) hw2
          clear hw2
          go_wp2_with fail
          go_ret
          exact ⟨rfl, Gr.trans hg2 gw2⟩
set_option maxHeartbeats 4000000 in
set_option maxRecDepth 100000 in
theorem walk_EncApart (W : World) (v : Value) (h : ∃ (n : Nat) (D : Nat → Chg), Chs W v n D) :
    Calls Try.prog 3 #[v] W fun e w' => e = .returned (.bool true) ∧ Gr W w' := by
  obtain ⟨n, D, h⟩ := h
  by_cases hn : n ≤ 12
  · exact apart_in W h hn
  · obtain ⟨ad, cap, B, off, rfl, -⟩ := h
    have d1 : decide ((12 : Int) < (n : Int)) = true := decide_eq_true (by omega)
    have d2 : decide (12 < n) = true := decide_eq_true (by omega)
    clear hn
    go_enter Try.func3, Try.ntmps3
    go_wp2_with fail
    go_at_call 4
    refine ((p8_awake _)).mono ?_
    rintro e w1 ⟨rfl, hw1⟩
    have gw1 : Gr W w1 := Gr.trans (by go_grown) hw1
    clear hw1
    go_wp2_with fail
    go_ret
    exact ⟨rfl, gw1⟩
end Go.Proofs.Ytkldgfpkjaokaaa
