/- StageSees: the walk -/
import Derived.Test.YtpomllpplpalkaaGreatDoorTt
import Derived.Test.YtpomllpplpalkaaGreatDoorTx
namespace Go.Proofs.YtpomllpplpalkaaGreatDoor
set_option linter.unusedVariables false
set_option linter.unusedSimpArgs false
open Go.ChangeShapes Go.WideShapes Go.ChangeAt Go.RowKit Go.Maps

def fS (sm s s0 : Int → Option MO) (i : Nat) : Int → Option MO := if i = 0 then sm else if i = 1 then s else if i = 3 then s else s0
section
variable {P w : World} {N k : Nat} {Q : Nat → Nat} {M : Nat → Option Nat} {σ : Nat → Int → Option MO} {S b j : Nat} {op : Bool} {G : List CS}
theorem st_appC {i : Nat} {kd id kk : Int} {n : Nat} {X Y : Nat → Int} {v : Value} (hi : i < k) (hid : i64R id) (hN : N < 1000000) (F : StF P w N k Q M σ S b j op G) (hp : Pts w v n X Y) : Calls Tryz.prog 27 #[.pointer (some ⟨Q i, 0, none⟩), chgV kd id kk v] w fun e w' => ∃ u o M', e = .returned u ∧ WErr o w' u id (apc (σ i) (stp ⟨kd, id, kk, v, n, X, Y⟩)) ∧ StF P w' (N + 1) k Q M' (fun a => if a = i then aps (σ i) (stp ⟨kd, id, kk, v, n, X, Y⟩) else σ a) S b j op G := by
  by_cases h : kd = 2
  · rw [show chgV kd id kk v = .agg #[.int .i64 2, .int .i64 id, .int .i64 0, .slice none 0 0] from if_pos h, show stp ⟨kd, id, kk, v, n, X, Y⟩ = delC id from if_pos h]
    refine (md_Apply (kd := 2) (k := 0) (v := .slice none 0 0) (n := 0) (X := fun _ => 0) (Y := fun _ => 0) hid hN w (F.fam.md i hi) (pts_any0 _ _)).mono ?_
    intro e w' h5
    obtain ⟨o, u, M', rfl, hw, -, F'⟩ := F.done hi h5
    exact ⟨u, o, M', rfl, hw, F'⟩
  · rw [show chgV kd id kk v = .agg #[.int .i64 1, .int .i64 id, .int .i64 kk, v] from if_neg h, show stp ⟨kd, id, kk, v, n, X, Y⟩ = ⟨1, id, ⟨kk, n, X, Y⟩⟩ from if_neg h]
    refine (md_Apply (kd := 1) (k := kk) hid hN w (F.fam.md i hi) hp).mono ?_
    intro e w' h5
    obtain ⟨o, u, M', rfl, hw, -, F'⟩ := F.done hi h5
    exact ⟨u, o, M', rfl, hw, F'⟩
theorem do_see {c : CS} {e : Ending} {w' : World} {s0 sm : Int → Option MO} (h : DoTo P N 4 Q (fS sm (apL s0 G) s0) S 2 3 true G c e w') (ok : OkL s0 G) :
    ∃ u M', e = .returned u ∧ ((u = .nilIface ∧ apc (apL s0 G) c = 0 ∧ OkL s0 (G ++ [c]) ∧ StF P w' (N + 1) 4 Q M' (fun a => if a = 3 then apL s0 (G ++ [c]) else fS sm (apL s0 G) s0 a) S 2 3 true (G ++ [c])) ∨ ((∃ F, u = .iface 108 (.pointer (some ⟨F, 0, none⟩))) ∧ StF P w' (N + 1) 4 Q M' (fS sm (apL s0 G) s0) S 2 3 true G)) := by
  obtain ⟨u, M', rfl, hu, F⟩ := h
  have e3 : fS sm (apL s0 G) s0 3 = apL s0 G := rfl
  rw [e3] at F hu
  by_cases hc : doC true G (apL s0 G) c = 0
  · rw [show doS true G (apL s0 G) c = aps (apL s0 G) c from if_pos hc, show doG true G (apL s0 G) c = G ++ [c] from if_pos hc] at F
    rw [hc] at hu
    have ea : apL s0 (G ++ [c]) = aps (apL s0 G) c := apL_app s0 G [c]
    refine ⟨u, M', rfl, Or.inl ⟨werr_0 hu, apC_of hc, (okL_app s0 G [c]).2 ⟨ok, apC_of hc, trivial⟩, F.as (fun i hi => ?_)⟩⟩
    rw [ea]
  · rw [show doS true G (apL s0 G) c = apL s0 G from if_neg hc, show doG true G (apL s0 G) c = G from if_neg hc] at F
    refine ⟨u, M', rfl, Or.inr ⟨werr_form hu hc, F.as (fun i hi => ?_)⟩⟩
    by_cases q : i = 3
    · subst q; rfl
    · simp only [q, if_false]
end
theorem its_nil (W : World) : Its W (.slice none 0 0) 0 (fun _ => MChg.nul) := ⟨none, 0, 0, 0, rfl, Nat.le_refl _, by decide, fun h => absurd h (Nat.lt_irrefl _), fun k h => absurd h (Nat.not_lt_zero _)⟩
set_option maxHeartbeats 16000000 in
set_option maxRecDepth 100000 in
theorem walk_StageSees (W : World) (vb vl vm : Value) (kq qlx qly qhx qhy : Int) (uq : Value) (hb0 : ∃ (n : Nat) (D : Nat → MChg), Its W vb n D) (hl0 : ∃ (n : Nat) (D : Nat → MChg), MChs W vl n D) (hm0 : ∃ (n : Nat) (D : Nat → MChg), MChs W vm n D) (hu0 : ∃ (n : Nat) (X Y : Nat → Int), Pts W uq n X Y) (hE : ErrT W) : Calls Tryz.prog 6 #[vb, vl, vm, qryV kq qlx qly qhx qhy uq] W fun e w' => e = .returned (.bool true) ∧ Gr W w' := by
  obtain ⟨nb, Db, hb⟩ := hb0
  obtain ⟨n, D, hl⟩ := hl0
  obtain ⟨nm, Dm, hm⟩ := hm0
  obtain ⟨mq, Pq, Rq, hu⟩ := hu0
  have HE := Lib.hid hE
  have AS := Lib.hid (fun w (g : Gr W w) => st_small w (its_gr hb g) (mChs_gr hl g))
  have AS2 := Lib.hid (fun w (g : Gr W w) => st_small w (its_nil w) (mChs_gr hm g))
  have HB := Lib.hid hb
  have HU := Lib.hid hu
  obtain ⟨bd, bcap, _, _, rfl, -, -, -, -⟩ := hb
  obtain ⟨ad, cap, B, off, rfl, h1, h2, h3, h4⟩ := hl
  obtain ⟨md, mcap, Bm, offm, rfl, k1, k2, k3, k4⟩ := hm
  obtain ⟨ud, uc, _, _, rfl, hu1, hu2, -, -⟩ := hu
  have HX := Lib.hid h4
  have HA := Lib.hid h3
  have HXm := Lib.hid k4
  have HAm := Lib.hid k3
  have hmq9 : (mq : Int) ≤ 9223372036854775807 := by omega
  clear hE h3 h4 k3 k4
  go_enter Tryz.func6, Tryz.ntmps6
  go_wp2_with fail
  go_at_call 24
  refine (AS.out _ (by go_grown)).mono ?_
  rintro e w1 ⟨⟨b, rfl, hb⟩, g1⟩
  have b0 : w1.cell? ⟨W.heap.size, 0, none⟩ = some (.int .i64 kq) := cell_gr g1 (by go_simp)
  have b1 : w1.cell? ⟨W.heap.size, 1, none⟩ = some (.int .i64 qlx) := cell_gr g1 (by go_simp)
  have b2 : w1.cell? ⟨W.heap.size, 2, none⟩ = some (.int .i64 qly) := cell_gr g1 (by go_simp)
  have b3 : w1.cell? ⟨W.heap.size, 3, none⟩ = some (.int .i64 qhx) := cell_gr g1 (by go_simp)
  have b4 : w1.cell? ⟨W.heap.size, 4, none⟩ = some (.int .i64 qhy) := cell_gr g1 (by go_simp)
  have b5 : w1.cell? ⟨W.heap.size, 5, none⟩ = some (.slice ud mq uc) := cell_gr g1 (by go_simp)
  have zb := World.block_lt_of_cell? _ _ b0
  have HG1 : Hid (Gr W w1) := Lib.hid (Gr.trans (by go_grown) g1)
  clear AS g1
  cases b with
  | false =>
    clear hb b1 b2 b3 b4 b5
    have AW := Lib.hid (p24_awake w1 (errT_gr HE.out HG1.out))
    go_wp2_with fail
    go_at_call 10
    refine (AW.out).mono ?_
    rintro e w99 ⟨rfl, g99⟩
    go_wp2_with fail
    go_ret
    exact ⟨rfl, Gr.trans HG1.out g99⟩
  | true =>
    obtain ⟨hnb, hn, hDn⟩ := hb rfl
    have HDn := Lib.hid hDn
    clear hb hDn
    have AS3 := Lib.hid (AS2.out _ HG1.out)
    go_wp2_with fail
    go_at_call 24
    refine (AS3.out).mono ?_
    rintro e w2 ⟨⟨b, rfl, hb⟩, g2⟩
    clear AS2 AS3
    have HG12 := Lib.hid g2
    have HG2 := Lib.hid (Gr.trans HG1.out g2)
    have d5 := cell_gr g2 b5
    have zd := World.block_lt_of_cell? _ _ d5
    clear g2
    cases b with
    | false =>
      clear hb
      have AW := Lib.hid (p24_awake w2 (errT_gr HE.out HG2.out))
      go_wp2_with fail
      go_at_call 10
      refine (AW.out).mono ?_
      rintro e w99 ⟨rfl, g99⟩
      go_wp2_with fail
      go_ret
      exact ⟨rfl, Gr.trans HG2.out g99⟩
    | true =>
      obtain ⟨-, hnm, hDm⟩ := hb rfl
      have HDm := Lib.hid hDm
      clear hb hDm
      by_cases hq70 : mq ≤ 70
      · have tq : decide ((70 : Int) < (mq : Int)) = false := decide_eq_false (by omega)
        have tq2 : decide (70 < mq) = false := decide_eq_false (by omega)
        have hn9 : (n : Int) ≤ 100 := by omega
        have hnm9 : (nm : Int) ≤ 100 := by omega
        have AM := Lib.hid (st_made hnb w2 (its_gr HB.out HG2.out))
        clear hq70
        go_wp2_with fail
        go_at_call 20
        refine (AM.out).mono ?_
        rintro e w3 ⟨Q1, X1, M1, L1, rfl, F1, -⟩
        have hok0 := okS_stM Db nb
        obtain ⟨s0, hs0⟩ : ∃ s0, s0 = stM Db nb := ⟨_, rfl⟩
        rw [← hs0] at F1 hok0
        have HOK := Lib.hid hok0
        have HF1 := Lib.hid F1
        have AC := Lib.hid (md_Copy w3 (F1.md 0 (by decide)))
        clear F1 AM hs0 hok0
        go_wp2_with fail
        go_at_call 25
        refine (AC.out).mono ?_
        rintro e w4 ⟨C1, MC1, rfl, a1, a2, a3, g4⟩
        have F4 : Fam w2 w4 nb 2 (fun j => if j = 1 then C1 else Q1) (fun j => if j = 1 then MC1 else M1 j) (fun _ => s0) := (HF1.out.more a3 a1 a2 g4).as (fun _ _ => rfl) (fun j hj => by
          rcases (by omega : j = 0 ∨ j = 1) with rfl | rfl <;> rfl)
        have AN := Lib.hid (st_New (b := 0) (by decide) F4)
        clear F4 a1 a2 a3 g4 AC
        go_wp2_with fail
        go_at_call 11
        refine (AN.out).mono ?_
        rintro e w5 ⟨S, Q, M5, rfl, hQ, F5⟩
        have e0 : Q 0 = Q1 := hQ 0 (by decide)
        have e1 : Q 1 = C1 := hQ 1 (by decide)
        have HF5 : Hid (StF w2 w5 nb 4 Q M5 (fS s0 (apL s0 []) s0) S 2 3 true []) := Lib.hid (F5.as (fun a ha => by
          rcases (by omega : a = 0 ∨ a = 1 ∨ a = 2 ∨ a = 3) with rfl | rfl | rfl | rfl <;> rfl))
        clear F5 AN hQ HF1
        subst e0
        subst e1
        obtain ⟨mx, hmx⟩ : ∃ mx, mx = max n nm := ⟨_, rfl⟩
        have hmx1 : n ≤ mx := by omega
        have hmx2 : nm ≤ mx := by omega
        have hmx3 : mx ≤ 100 := by omega
        have hmx4 : ∀ i, ¬ i < n → ¬ i < nm → mx ≤ i := fun i h1 h2 => by omega
        have HMX := Lib.hid hmx4
        clear hmx hmx4 d5 zd
        go_wp2_with fail
        go_loopg [14] mx (fun m x wq => ∃ (i : Nat) (M : Nat → Option Nat) (G : List CS) (sm : Int → Option MO), x = .int .i64 i ∧ i ≤ mx ∧ m = mx - i ∧ Hid (OkL s0 G ∧ G.length ≤ i ∧ StF w2 wq (nb + 3 * i) 4 Q M (fS sm (apL s0 G) s0) S 2 3 true G))
        case atStart => exact ⟨0, M5, [], s0, rfl, Nat.zero_le _, by omega, Lib.hid ⟨trivial, Nat.le_refl _, HF5.out⟩⟩
        case round =>
          obtain ⟨i, M, G, sm, rfl, hi, hk, HF⟩ := hrel
          have hi9 : (i : Int) ≤ 100 := by omega
          have hGl : G.length ≤ 100 := by have := HF.out.2.1; omega
          by_cases hlm : i < nm
          · have tm : decide ((i : Int) < (nm : Int)) = true := decide_eq_true (by omega)
            have tm2 : decide (i < nm) = true := decide_eq_true hlm
            have tm3 : (i : Int) < (nm : Int) := by omega
            have tm4 : (i : Int) < (mcap : Int) := by omega
            have hmm2 : mx - (i + 1) < gk := by omega
            have hdm := HDm.out i hlm
            obtain rfl := HAm.out (by omega)
            rcases ec : Dm i with ⟨kdm, idm, kkm, vvm, mm, Xm, Ym⟩
            have q := HXm.out i hlm
            rw [ec] at q hdm
            obtain ⟨q0, q1, q2, q3, q4, q5⟩ := q
            simp only at q0 q1 q2 q3 q4 q5 hdm
            have HQm := Lib.hid (And.intro q4 q5)
            have G01 := Gr.trans HG2.out HF.out.2.2.fam.gr
            have p0 := cell_gr G01 q0
            have p1 := cell_gr G01 q1
            have p2 := cell_gr G01 q2
            obtain ⟨pdm, pcm, _, _, rfl, _⟩ := q4
            have p3 := cell_gr G01 q3
            have zBm := World.block_lt_of_cell? _ _ p0
            have HG01 := Lib.hid G01
            have AAm := Lib.hid (fun w' (g : Gr wr w') => st_appC (i := 0) (kd := kdm) (kk := kkm) (v := .slice pdm mm pcm) (by decide) HQm.out.2 (show nb + 3 * i < 1000000 by omega) (HF.out.2.2.to g) (pts_gr HQm.out.1 (Gr.trans HG01.out g)))
            clear q0 q1 q2 q3 q5 ec G01
            by_cases hlt : i < n
            · have ti : decide ((i : Int) < (n : Int)) = true := decide_eq_true (by omega)
              have ti2 : decide (i < n) = true := decide_eq_true hlt
              go_wp2_with fail
              go_at_call 29
              refine (st_change kdm idm kkm pdm mm pcm _).mono ?_
              rintro e w6 ⟨rfl, g6⟩
              have AA6 := Lib.hid (AAm.out _ g6)
              clear g6 AAm p0 p1 p2 p3 zBm
              go_wp2_with fail
              go_at_call 27
              refine (AA6.out).mono ?_
              rintro e w7 ⟨u7, o7, M7, rfl, hu7, F7⟩
              obtain ⟨s7, hs7⟩ : ∃ s7, s7 = aps (fS sm (apL s0 G) s0 0) (stp ⟨kdm, idm, kkm, .slice pdm mm pcm, mm, Xm, Ym⟩) := ⟨_, rfl⟩
              rw [← hs7] at F7
              have HF7 : Hid (StF w2 w7 (nb + 3 * i + 1) 4 Q M7 (fS s7 (apL s0 G) s0) S 2 3 true G) := Lib.hid (F7.as (fun a ha => by
                rcases (by omega : a = 0 ∨ a = 1 ∨ a = 2 ∨ a = 3) with rfl | rfl | rfl | rfl <;> rfl))
              clear F7 hs7 hu7 AA6
              have ti3 : (i : Int) < (n : Int) := by omega
              have ti4 : (i : Int) < (cap : Int) := by omega
              have hDi := HDn.out i hlt
              obtain rfl := HA.out (by omega)
              rcases ec : D i with ⟨kd, id, kk, vv, m, Xf, Yf⟩
              have q := HX.out i hlt
              rw [ec] at q hDi
              obtain ⟨q0, q1, q2, q3, q4, q5⟩ := q
              simp only at q0 q1 q2 q3 q4 q5 hDi
              have HQ := Lib.hid (And.intro q4 q5)
              have G07 := Gr.trans HG2.out HF7.out.fam.gr
              have p0 := cell_gr G07 q0
              have p1 := cell_gr G07 q1
              have p2 := cell_gr G07 q2
              obtain ⟨pad, pcap, _, _, rfl, _⟩ := q4
              have p3 := cell_gr G07 q3
              have HC := Lib.hid (And.intro q0 (And.intro q1 (And.intro q2 q3)))
              have zB := World.block_lt_of_cell? _ _ p0
              have HG07 := Lib.hid G07
              clear q0 q1 q2 q3 q5 ec G07
              by_cases hkd : kd = 2
              · have tk : (kd == 2) = true := by simpa using hkd
                have HKD := Lib.hid hkd
                have AD := Lib.hid (st_Del HQ.out.2 (show nb + 3 * i + 1 < 1000000 by omega) (by omega) HF7.out)
                clear hkd
                go_wp2_with fail
                go_at_call 21
                refine (AD.out).mono ?_
                intro e w9 h9
                clear p0 p1 p2 p3 zB AD
                obtain ⟨u9, M9, rfl, hcase⟩ := do_see h9 HF.out.1
                rcases hcase with ⟨rfl, hap, ok9, F9⟩ | ⟨⟨Fx, rfl⟩, F9⟩
                · clear h9
                  have HF9 := Lib.hid (And.intro ok9 (And.intro hap F9))
                  have p0 := cell_gr (Gr.trans HG2.out F9.fam.gr) HC.out.1
                  have p1 := cell_gr (Gr.trans HG2.out F9.fam.gr) HC.out.2.1
                  have p2 := cell_gr (Gr.trans HG2.out F9.fam.gr) HC.out.2.2.1
                  have p3 := cell_gr (Gr.trans HG2.out F9.fam.gr) HC.out.2.2.2
                  have zB := World.block_lt_of_cell? _ _ p0
                  clear ok9 hap F9
                  go_wp2_with fail
                  go_at_call 29
                  refine (st_change kd id kk pad m pcap _).mono ?_
                  rintro e w10 ⟨rfl, g10⟩
                  have AA := Lib.hid (st_appC (i := 1) (kd := kd) (kk := kk) (v := .slice pad m pcap) (by decide) HQ.out.2 (by omega) (HF9.out.2.2.to g10) (pts_gr HQ.out.1 (Gr.trans HG2.out (Gr.trans HF9.out.2.2.fam.gr g10))))
                  clear g10 p0 p1 p2 p3 zB
                  go_wp2_with fail
                  go_at_call 27
                  refine (AA.out).mono ?_
                  rintro e w11 ⟨u11, o11, M11, rfl, hu11, F11⟩
                  have hst : stp ⟨kd, id, kk, .slice pad m pcap, m, Xf, Yf⟩ = delC id := if_pos HKD.out
                  rw [hst] at hu11 F11
                  have hu12 : WErr o11 w11 u11 id 0 := by
                    have h := HF9.out.2.1
                    rw [← h]
                    exact hu11
                  obtain rfl := werr_0 hu12
                  have HF11 : Hid (StF w2 w11 (nb + 3 * (i + 1)) 4 Q M11 (fS s7 (apL s0 (G ++ [delC id])) s0) S 2 3 true (G ++ [delC id])) := Lib.hid ((F11.as (fun a ha => by
                    have ea : apL s0 (G ++ [delC id]) = aps (apL s0 G) (delC id) := apL_app s0 G _
                    rcases (by omega : a = 0 ∨ a = 1 ∨ a = 2 ∨ a = 3) with rfl | rfl | rfl | rfl
                    · rfl
                    · rw [ea]; rfl
                    · rfl
                    · rfl)).le (by omega))
                  clear hu11 F11 hu12 AA hst
                  go_wp2_with fail
                  go_roundg (mx - (i + 1))
                  case measure => omega
                  case rel => exact ⟨i + 1, M11, _, s7, by go_num, by omega, rfl, Lib.hid ⟨HF9.out.1, by rw [List.length_append]; have := HF.out.2.1; show _ + 1 ≤ _; omega, HF11.out⟩⟩
                · have HF9 := Lib.hid F9
                  clear h9 F9
                  go_wp2_with fail
                  go_roundg (mx - (i + 1))
                  case measure => omega
                  case rel => exact ⟨i + 1, M9, G, s7, by go_num, by omega, rfl, Lib.hid ⟨HF.out.1, by have := HF.out.2.1; omega, HF9.out.le (by omega)⟩⟩
              · have tk : (kd == 2) = false := by simpa using hkd
                have HKD := Lib.hid hkd
                clear hkd
                go_wp2_with fail
                try simp only [List.append]
                refine Od.wp_region_ordT 11 [(0, false), (1, false), (2, false), (3, false), (4, false), (5, false), (6, false), (7, false), (8, false), (9, false), (10, false)] (by kernel_rfl) (by kernel_rfl) ?_
                intro w8 hw8 KQ hKQ
                have r1 := cell_gr hw8 p1
                have r2 := cell_gr hw8 p2
                have r3 := cell_gr hw8 p3
                have r3' : w8.cell? ⟨B, off + i * 4 + 2 + 1, none⟩ = _ := r3
                have zr := World.block_lt_of_cell? _ _ r1
                have HW8 := Lib.hid hw8
                clear hw8 p0 p1 p2 p3 zB
                repeat (first | (refine Od.wpO_skip (by simp only [List.getElem?_toArray, List.getElem?_cons_succ, List.getElem?_cons_zero] <;> rfl) rfl ?_; simp only [Act.put, List.setIfInBounds_toArray, List.set_cons_zero, List.set_cons_succ]) | (refine Od.wpO_pure (by simp only [List.getElem?_toArray, List.getElem?_cons_succ, List.getElem?_cons_zero] <;> rfl) rfl ?_; apply Exists.intro; refine ⟨?_, ?_⟩; (· intro wx gx; obtain ⟨mx, rfl⟩ := spread_of_gr gx; clear gx; all_goals (apply Od.pAt_of_quiet; intro K hK; go_big_quiet_op; first | exact hK _ rfl | (apply Exists.intro; refine ⟨fun _ => ?_, ?_⟩; (· fail); exact hK _ rfl))); try simp only [Act.put, List.setIfInBounds_toArray, List.set_cons_zero, List.set_cons_succ]))
                refine Od.wpO_nil (hKQ _ _ ?_)
                clear hKQ KQ
                have AP := Lib.hid (st_Put (kk := kk) (n := m) (v := .slice pad m pcap) HQ.out.2 (show nb + 3 * i + 1 < 1000000 by omega) (by omega) (by omega) (HF7.out.to HW8.out) (pts_gr HQ.out.1 (Gr.trans HG07.out HW8.out)))
                go_wp2_with fail
                go_at_call 15
                refine (AP.out).mono ?_
                intro e w9 h9
                clear r1 r2 r3 r3' zr AP
                obtain ⟨u9, M9, rfl, hcase⟩ := do_see h9 HF.out.1
                rcases hcase with ⟨rfl, hap, ok9, F9⟩ | ⟨⟨Fx, rfl⟩, F9⟩
                · clear h9
                  have HF9 := Lib.hid (And.intro ok9 (And.intro hap F9))
                  have p0 := cell_gr (Gr.trans HG2.out F9.fam.gr) HC.out.1
                  have p1 := cell_gr (Gr.trans HG2.out F9.fam.gr) HC.out.2.1
                  have p2 := cell_gr (Gr.trans HG2.out F9.fam.gr) HC.out.2.2.1
                  have p3 := cell_gr (Gr.trans HG2.out F9.fam.gr) HC.out.2.2.2
                  have zB := World.block_lt_of_cell? _ _ p0
                  clear ok9 hap F9
                  go_wp2_with fail
                  go_at_call 29
                  refine (st_change kd id kk pad m pcap _).mono ?_
                  rintro e w10 ⟨rfl, g10⟩
                  have AA := Lib.hid (st_appC (i := 1) (kd := kd) (kk := kk) (v := .slice pad m pcap) (by decide) HQ.out.2 (by omega) (HF9.out.2.2.to g10) (pts_gr HQ.out.1 (Gr.trans HG2.out (Gr.trans HF9.out.2.2.fam.gr g10))))
                  clear g10 p0 p1 p2 p3 zB
                  go_wp2_with fail
                  go_at_call 27
                  refine (AA.out).mono ?_
                  rintro e w11 ⟨u11, o11, M11, rfl, hu11, F11⟩
                  have hst : stp ⟨kd, id, kk, .slice pad m pcap, m, Xf, Yf⟩ = ⟨1, id, ⟨kk, m, Xf, Yf⟩⟩ := if_neg HKD.out
                  rw [hst] at hu11 F11
                  have hu12 : WErr o11 w11 u11 id 0 := by
                    have h := HF9.out.2.1
                    rw [← h]
                    exact hu11
                  obtain rfl := werr_0 hu12
                  have HF11 : Hid (StF w2 w11 (nb + 3 * (i + 1)) 4 Q M11 (fS s7 (apL s0 (G ++ [⟨1, id, ⟨kk, m, Xf, Yf⟩⟩])) s0) S 2 3 true (G ++ [⟨1, id, ⟨kk, m, Xf, Yf⟩⟩])) := Lib.hid ((F11.as (fun a ha => by
                    have ea : apL s0 (G ++ [⟨1, id, ⟨kk, m, Xf, Yf⟩⟩]) = aps (apL s0 G) (⟨1, id, ⟨kk, m, Xf, Yf⟩⟩) := apL_app s0 G _
                    rcases (by omega : a = 0 ∨ a = 1 ∨ a = 2 ∨ a = 3) with rfl | rfl | rfl | rfl
                    · rfl
                    · rw [ea]; rfl
                    · rfl
                    · rfl)).le (by omega))
                  clear hu11 F11 hu12 AA hst
                  go_wp2_with fail
                  go_roundg (mx - (i + 1))
                  case measure => omega
                  case rel => exact ⟨i + 1, M11, _, s7, by go_num, by omega, rfl, Lib.hid ⟨HF9.out.1, by rw [List.length_append]; have := HF.out.2.1; show _ + 1 ≤ _; omega, HF11.out⟩⟩
                · have HF9 := Lib.hid F9
                  clear h9 F9
                  go_wp2_with fail
                  go_roundg (mx - (i + 1))
                  case measure => omega
                  case rel => exact ⟨i + 1, M9, G, s7, by go_num, by omega, rfl, Lib.hid ⟨HF.out.1, by have := HF.out.2.1; omega, HF9.out.le (by omega)⟩⟩
            · have ti : decide ((i : Int) < (n : Int)) = false := decide_eq_false (by omega)
              have ti2 : decide (i < n) = false := decide_eq_false hlt
              go_wp2_with fail
              go_at_call 29
              refine (st_change kdm idm kkm pdm mm pcm _).mono ?_
              rintro e w6 ⟨rfl, g6⟩
              have AA6 := Lib.hid (AAm.out _ g6)
              clear g6 AAm p0 p1 p2 p3 zBm
              go_wp2_with fail
              go_at_call 27
              refine (AA6.out).mono ?_
              rintro e w7 ⟨u7, o7, M7, rfl, hu7, F7⟩
              obtain ⟨s7, hs7⟩ : ∃ s7, s7 = aps (fS sm (apL s0 G) s0 0) (stp ⟨kdm, idm, kkm, .slice pdm mm pcm, mm, Xm, Ym⟩) := ⟨_, rfl⟩
              rw [← hs7] at F7
              have HF7 : Hid (StF w2 w7 (nb + 3 * i + 1) 4 Q M7 (fS s7 (apL s0 G) s0) S 2 3 true G) := Lib.hid (F7.as (fun a ha => by
                rcases (by omega : a = 0 ∨ a = 1 ∨ a = 2 ∨ a = 3) with rfl | rfl | rfl | rfl <;> rfl))
              clear F7 hs7 hu7 AA6
              go_wp2_with fail
              go_roundg (mx - (i + 1))
              case measure => omega
              case rel => exact ⟨i + 1, M7, G, _, by go_num, by omega, rfl, Lib.hid ⟨HF.out.1, by have := HF.out.2.1; omega, HF7.out.le (by omega)⟩⟩
          · have tm : decide ((i : Int) < (nm : Int)) = false := decide_eq_false (by omega)
            have tm2 : decide (i < nm) = false := decide_eq_false hlm
            by_cases hlt : i < n
            · have ti : decide ((i : Int) < (n : Int)) = true := decide_eq_true (by omega)
              have ti2 : decide (i < n) = true := decide_eq_true hlt
              have hmm2 : mx - (i + 1) < gk := by omega
              obtain ⟨w7, hw7⟩ : ∃ w7, w7 = wr := ⟨_, rfl⟩
              obtain ⟨M7, hM7⟩ : ∃ M7, M7 = M := ⟨_, rfl⟩
              obtain ⟨s7, hs7⟩ : ∃ s7, s7 = sm := ⟨_, rfl⟩
              have HF7 : Hid (StF w2 w7 (nb + 3 * i + 1) 4 Q M7 (fS s7 (apL s0 G) s0) S 2 3 true G) := Lib.hid (by rw [hw7, hM7, hs7]; exact HF.out.2.2.le (Nat.le_succ _))
              clear hM7 hs7
              subst hw7
              have ti3 : (i : Int) < (n : Int) := by omega
              have ti4 : (i : Int) < (cap : Int) := by omega
              have hDi := HDn.out i hlt
              obtain rfl := HA.out (by omega)
              rcases ec : D i with ⟨kd, id, kk, vv, m, Xf, Yf⟩
              have q := HX.out i hlt
              rw [ec] at q hDi
              obtain ⟨q0, q1, q2, q3, q4, q5⟩ := q
              simp only at q0 q1 q2 q3 q4 q5 hDi
              have HQ := Lib.hid (And.intro q4 q5)
              have G07 := Gr.trans HG2.out HF7.out.fam.gr
              have p0 := cell_gr G07 q0
              have p1 := cell_gr G07 q1
              have p2 := cell_gr G07 q2
              obtain ⟨pad, pcap, _, _, rfl, _⟩ := q4
              have p3 := cell_gr G07 q3
              have HC := Lib.hid (And.intro q0 (And.intro q1 (And.intro q2 q3)))
              have zB := World.block_lt_of_cell? _ _ p0
              have HG07 := Lib.hid G07
              clear q0 q1 q2 q3 q5 ec G07
              by_cases hkd : kd = 2
              · have tk : (kd == 2) = true := by simpa using hkd
                have HKD := Lib.hid hkd
                have AD := Lib.hid (st_Del HQ.out.2 (show nb + 3 * i + 1 < 1000000 by omega) (by omega) HF7.out)
                clear hkd
                go_wp2_with fail
                go_at_call 21
                refine (AD.out).mono ?_
                intro e w9 h9
                clear p0 p1 p2 p3 zB AD
                obtain ⟨u9, M9, rfl, hcase⟩ := do_see h9 HF.out.1
                rcases hcase with ⟨rfl, hap, ok9, F9⟩ | ⟨⟨Fx, rfl⟩, F9⟩
                · clear h9
                  have HF9 := Lib.hid (And.intro ok9 (And.intro hap F9))
                  have p0 := cell_gr (Gr.trans HG2.out F9.fam.gr) HC.out.1
                  have p1 := cell_gr (Gr.trans HG2.out F9.fam.gr) HC.out.2.1
                  have p2 := cell_gr (Gr.trans HG2.out F9.fam.gr) HC.out.2.2.1
                  have p3 := cell_gr (Gr.trans HG2.out F9.fam.gr) HC.out.2.2.2
                  have zB := World.block_lt_of_cell? _ _ p0
                  clear ok9 hap F9
                  go_wp2_with fail
                  go_at_call 29
                  refine (st_change kd id kk pad m pcap _).mono ?_
                  rintro e w10 ⟨rfl, g10⟩
                  have AA := Lib.hid (st_appC (i := 1) (kd := kd) (kk := kk) (v := .slice pad m pcap) (by decide) HQ.out.2 (by omega) (HF9.out.2.2.to g10) (pts_gr HQ.out.1 (Gr.trans HG2.out (Gr.trans HF9.out.2.2.fam.gr g10))))
                  clear g10 p0 p1 p2 p3 zB
                  go_wp2_with fail
                  go_at_call 27
                  refine (AA.out).mono ?_
                  rintro e w11 ⟨u11, o11, M11, rfl, hu11, F11⟩
                  have hst : stp ⟨kd, id, kk, .slice pad m pcap, m, Xf, Yf⟩ = delC id := if_pos HKD.out
                  rw [hst] at hu11 F11
                  have hu12 : WErr o11 w11 u11 id 0 := by
                    have h := HF9.out.2.1
                    rw [← h]
                    exact hu11
                  obtain rfl := werr_0 hu12
                  have HF11 : Hid (StF w2 w11 (nb + 3 * (i + 1)) 4 Q M11 (fS s7 (apL s0 (G ++ [delC id])) s0) S 2 3 true (G ++ [delC id])) := Lib.hid ((F11.as (fun a ha => by
                    have ea : apL s0 (G ++ [delC id]) = aps (apL s0 G) (delC id) := apL_app s0 G _
                    rcases (by omega : a = 0 ∨ a = 1 ∨ a = 2 ∨ a = 3) with rfl | rfl | rfl | rfl
                    · rfl
                    · rw [ea]; rfl
                    · rfl
                    · rfl)).le (by omega))
                  clear hu11 F11 hu12 AA hst
                  go_wp2_with fail
                  go_roundg (mx - (i + 1))
                  case measure => omega
                  case rel => exact ⟨i + 1, M11, _, s7, by go_num, by omega, rfl, Lib.hid ⟨HF9.out.1, by rw [List.length_append]; have := HF.out.2.1; show _ + 1 ≤ _; omega, HF11.out⟩⟩
                · have HF9 := Lib.hid F9
                  clear h9 F9
                  go_wp2_with fail
                  go_roundg (mx - (i + 1))
                  case measure => omega
                  case rel => exact ⟨i + 1, M9, G, s7, by go_num, by omega, rfl, Lib.hid ⟨HF.out.1, by have := HF.out.2.1; omega, HF9.out.le (by omega)⟩⟩
              · have tk : (kd == 2) = false := by simpa using hkd
                have HKD := Lib.hid hkd
                clear hkd
                go_wp2_with fail
                try simp only [List.append]
                refine Od.wp_region_ordT 11 [(0, false), (1, false), (2, false), (3, false), (4, false), (5, false), (6, false), (7, false), (8, false), (9, false), (10, false)] (by kernel_rfl) (by kernel_rfl) ?_
                intro w8 hw8 KQ hKQ
                have r1 := cell_gr hw8 p1
                have r2 := cell_gr hw8 p2
                have r3 := cell_gr hw8 p3
                have r3' : w8.cell? ⟨B, off + i * 4 + 2 + 1, none⟩ = _ := r3
                have zr := World.block_lt_of_cell? _ _ r1
                have HW8 := Lib.hid hw8
                clear hw8 p0 p1 p2 p3 zB
                repeat (first | (refine Od.wpO_skip (by simp only [List.getElem?_toArray, List.getElem?_cons_succ, List.getElem?_cons_zero] <;> rfl) rfl ?_; simp only [Act.put, List.setIfInBounds_toArray, List.set_cons_zero, List.set_cons_succ]) | (refine Od.wpO_pure (by simp only [List.getElem?_toArray, List.getElem?_cons_succ, List.getElem?_cons_zero] <;> rfl) rfl ?_; apply Exists.intro; refine ⟨?_, ?_⟩; (· intro wx gx; obtain ⟨mx, rfl⟩ := spread_of_gr gx; clear gx; all_goals (apply Od.pAt_of_quiet; intro K hK; go_big_quiet_op; first | exact hK _ rfl | (apply Exists.intro; refine ⟨fun _ => ?_, ?_⟩; (· fail); exact hK _ rfl))); try simp only [Act.put, List.setIfInBounds_toArray, List.set_cons_zero, List.set_cons_succ]))
                refine Od.wpO_nil (hKQ _ _ ?_)
                clear hKQ KQ
                have AP := Lib.hid (st_Put (kk := kk) (n := m) (v := .slice pad m pcap) HQ.out.2 (show nb + 3 * i + 1 < 1000000 by omega) (by omega) (by omega) (HF7.out.to HW8.out) (pts_gr HQ.out.1 (Gr.trans HG07.out HW8.out)))
                go_wp2_with fail
                go_at_call 15
                refine (AP.out).mono ?_
                intro e w9 h9
                clear r1 r2 r3 r3' zr AP
                obtain ⟨u9, M9, rfl, hcase⟩ := do_see h9 HF.out.1
                rcases hcase with ⟨rfl, hap, ok9, F9⟩ | ⟨⟨Fx, rfl⟩, F9⟩
                · clear h9
                  have HF9 := Lib.hid (And.intro ok9 (And.intro hap F9))
                  have p0 := cell_gr (Gr.trans HG2.out F9.fam.gr) HC.out.1
                  have p1 := cell_gr (Gr.trans HG2.out F9.fam.gr) HC.out.2.1
                  have p2 := cell_gr (Gr.trans HG2.out F9.fam.gr) HC.out.2.2.1
                  have p3 := cell_gr (Gr.trans HG2.out F9.fam.gr) HC.out.2.2.2
                  have zB := World.block_lt_of_cell? _ _ p0
                  clear ok9 hap F9
                  go_wp2_with fail
                  go_at_call 29
                  refine (st_change kd id kk pad m pcap _).mono ?_
                  rintro e w10 ⟨rfl, g10⟩
                  have AA := Lib.hid (st_appC (i := 1) (kd := kd) (kk := kk) (v := .slice pad m pcap) (by decide) HQ.out.2 (by omega) (HF9.out.2.2.to g10) (pts_gr HQ.out.1 (Gr.trans HG2.out (Gr.trans HF9.out.2.2.fam.gr g10))))
                  clear g10 p0 p1 p2 p3 zB
                  go_wp2_with fail
                  go_at_call 27
                  refine (AA.out).mono ?_
                  rintro e w11 ⟨u11, o11, M11, rfl, hu11, F11⟩
                  have hst : stp ⟨kd, id, kk, .slice pad m pcap, m, Xf, Yf⟩ = ⟨1, id, ⟨kk, m, Xf, Yf⟩⟩ := if_neg HKD.out
                  rw [hst] at hu11 F11
                  have hu12 : WErr o11 w11 u11 id 0 := by
                    have h := HF9.out.2.1
                    rw [← h]
                    exact hu11
                  obtain rfl := werr_0 hu12
                  have HF11 : Hid (StF w2 w11 (nb + 3 * (i + 1)) 4 Q M11 (fS s7 (apL s0 (G ++ [⟨1, id, ⟨kk, m, Xf, Yf⟩⟩])) s0) S 2 3 true (G ++ [⟨1, id, ⟨kk, m, Xf, Yf⟩⟩])) := Lib.hid ((F11.as (fun a ha => by
                    have ea : apL s0 (G ++ [⟨1, id, ⟨kk, m, Xf, Yf⟩⟩]) = aps (apL s0 G) (⟨1, id, ⟨kk, m, Xf, Yf⟩⟩) := apL_app s0 G _
                    rcases (by omega : a = 0 ∨ a = 1 ∨ a = 2 ∨ a = 3) with rfl | rfl | rfl | rfl
                    · rfl
                    · rw [ea]; rfl
                    · rfl
                    · rfl)).le (by omega))
                  clear hu11 F11 hu12 AA hst
                  go_wp2_with fail
                  go_roundg (mx - (i + 1))
                  case measure => omega
                  case rel => exact ⟨i + 1, M11, _, s7, by go_num, by omega, rfl, Lib.hid ⟨HF9.out.1, by rw [List.length_append]; have := HF.out.2.1; show _ + 1 ≤ _; omega, HF11.out⟩⟩
                · have HF9 := Lib.hid F9
                  clear h9 F9
                  go_wp2_with fail
                  go_roundg (mx - (i + 1))
                  case measure => omega
                  case rel => exact ⟨i + 1, M9, G, s7, by go_num, by omega, rfl, Lib.hid ⟨HF.out.1, by have := HF.out.2.1; omega, HF9.out.le (by omega)⟩⟩
            · have ti : decide ((i : Int) < (n : Int)) = false := decide_eq_false (by omega)
              have ti2 : decide (i < n) = false := decide_eq_false hlt
              have hie : i = mx := by have := HMX.out i hlt hlm; omega
              have d0 := cell_gr (Gr.trans HG12.out HF.out.2.2.fam.gr) b0
              have d1 := cell_gr (Gr.trans HG12.out HF.out.2.2.fam.gr) b1
              have d2 := cell_gr (Gr.trans HG12.out HF.out.2.2.fam.gr) b2
              have d3 := cell_gr (Gr.trans HG12.out HF.out.2.2.fam.gr) b3
              have d4 := cell_gr (Gr.trans HG12.out HF.out.2.2.fam.gr) b4
              have d5 := cell_gr (Gr.trans HG12.out HF.out.2.2.fam.gr) b5
              have zd := World.block_lt_of_cell? _ _ d0
              obtain ⟨l9, hl9, hl9n⟩ := ids_ex (HF.out.2.2.fam.md 3 (by decide))
              have hl9b : l9.length ≤ 100000 := by omega
              have hok9 : OkS (apL s0 G) := okS_apL G s0 HOK.out
              have AL := Lib.hid (fun w' (g : Gr wr w') => st_Len (HF.out.2.2.to g) hl9)
              have AL2 := Lib.hid (fun w' (g : Gr wr w') => md_lenS hl9 w' ((HF.out.2.2.to g).fam.md 1 (by decide)))
              have ASr := Lib.hid (fun w' (g : Gr wr w') => st_Search kq qlx qly qhx qhy (HF.out.2.2.to g) hl9 (by omega) hl9b hok9 (pts_gr HU.out (Gr.trans HG2.out (Gr.trans HF.out.2.2.fam.gr g))))
              have ASr2 := Lib.hid (fun w' (g : Gr wr w') => md_Search kq qlx qly qhx qhy hl9 (show nb + 3 * i ≤ 1000000 by omega) hl9b hok9 w' ((HF.out.2.2.to g).fam.md 1 (by decide)) (pts_gr HU.out (Gr.trans HG2.out (Gr.trans HF.out.2.2.fam.gr g))))
              obtain ⟨y, hy⟩ : ∃ y, y = l9.length := ⟨_, rfl⟩
              rw [← hy] at AL AL2
              obtain ⟨rr, hrr⟩ : ∃ rr, rr = srL kq qlx qly qhx qhy mq Pq Rq (apL s0 G) l9 := ⟨_, rfl⟩
              have hrl : rr.length ≤ 1000000 := by
                rw [hrr]
                unfold srL
                split
                · exact Nat.le_trans (List.length_filter_le _ _) (by omega)
                · exact Nat.zero_le _
              have ASr : Hid (∀ w', Gr wr w' → Calls Tryz.prog 31 #[.pointer (some ⟨S, 0, none⟩), qryV kq qlx qly qhx qhy (.slice ud mq uc)] w' fun e w'' => SearchTo w' rr e w'') := Lib.hid (by rw [hrr]; exact ASr.out)
              have ASr2 : Hid (∀ w', Gr wr w' → Calls Tryz.prog 32 #[.pointer (some ⟨Q 1, 0, none⟩), qryV kq qlx qly qhx qhy (.slice ud mq uc)] w' fun e w'' => SearchTo w' rr e w'' ∧ Gr w' w'') := Lib.hid (by rw [hrr]; exact fun w' g => (ASr2.out w' g).mono (fun e w'' h => ⟨h, by obtain ⟨_, _, _, g5⟩ := h; exact g5⟩))
              have ty : ((y : Int) == (y : Int)) = true := beq_self_eq_true _
              have HGW := Lib.hid (Gr.trans HG2.out HF.out.2.2.fam.gr)
              have HRL := Lib.hid hrl
              clear hk hy hrr hl9 hl9n hl9b hok9 hrl HF5 b1 b2 b3 b4 b5 hie
              go_wp2_with fail
              try simp only [List.append]
              refine Od.wp_region_ord [(0, false), (2, false), (1, true), (3, true), (4, false), (5, false), (6, false), (7, false), (9, false), (10, false), (8, true), (11, true), (12, true), (13, false), (14, false), (15, true), (16, false), (17, false)] (by kernel_rfl) (by kernel_rfl) ?_
              intro wa hwa KQ hKQ
              have cwa_0_0 : wa.cell? ⟨W.heap.size, 0, none⟩ = some (.int .i64 kq) := cell_gr hwa (by go_simp)
              have cwa_0_1 : wa.cell? ⟨W.heap.size, 1, none⟩ = some (.int .i64 qlx) := cell_gr hwa (by go_simp)
              have cwa_0_2 : wa.cell? ⟨W.heap.size, 2, none⟩ = some (.int .i64 qly) := cell_gr hwa (by go_simp)
              have cwa_0_3 : wa.cell? ⟨W.heap.size, 3, none⟩ = some (.int .i64 qhx) := cell_gr hwa (by go_simp)
              have cwa_0_4 : wa.cell? ⟨W.heap.size, 4, none⟩ = some (.int .i64 qhy) := cell_gr hwa (by go_simp)
              have cwa_0_5 : wa.cell? ⟨W.heap.size, 5, none⟩ = some (.slice ud mq uc) := cell_gr hwa (by go_simp)
              have zwa_0 : W.heap.size < wa.heap.size := World.block_lt_of_cell? _ _ cwa_0_0
              have gwa : Gr wr wa := Gr.trans (by go_grown) hwa
              skip
              clear hwa
              repeat (first | (refine Od.wpO_skip (by simp only [List.getElem?_toArray, List.getElem?_cons_succ, List.getElem?_cons_zero] <;> rfl) rfl ?_; simp only [Act.put, List.setIfInBounds_toArray, List.set_cons_zero, List.set_cons_succ]) | (refine Od.wpO_pure (by simp only [List.getElem?_toArray, List.getElem?_cons_succ, List.getElem?_cons_zero] <;> rfl) rfl ?_; apply Exists.intro; refine ⟨?_, ?_⟩; (· intro wx gx; obtain ⟨mx, rfl⟩ := spread_of_gr gx; clear gx; all_goals (apply Od.pAt_of_quiet; intro K hK; go_big_quiet_op; first | exact hK _ rfl | (apply Exists.intro; refine ⟨fun _ => ?_, ?_⟩; (· fail); exact hK _ rfl))); try simp only [Act.put, List.setIfInBounds_toArray, List.set_cons_zero, List.set_cons_succ]))
              refine Od.wpO_call (by simp only [List.getElem?_toArray, List.getElem?_cons_succ, List.getElem?_cons_zero] <;> rfl) rfl ?_
              intro QS hQS
              go_wp2_with fail
              go_at_call 18
              (with_reducible refine ((AL.out _ gwa)).mono ?_)
              rintro e wb ⟨rfl, hwb⟩
              go_wp2_with fail
              apply Exists.intro
              refine ⟨?_, hwb, ?_⟩
              · simp only [Act.put, List.setIfInBounds_toArray, List.set_cons_zero, List.set_cons_succ]; rfl
              have cwb_0_0 : wb.cell? ⟨W.heap.size, 0, none⟩ = some (.int .i64 kq) := cell_gr hwb (by go_simp)
              have cwb_0_1 : wb.cell? ⟨W.heap.size, 1, none⟩ = some (.int .i64 qlx) := cell_gr hwb (by go_simp)
              have cwb_0_2 : wb.cell? ⟨W.heap.size, 2, none⟩ = some (.int .i64 qly) := cell_gr hwb (by go_simp)
              have cwb_0_3 : wb.cell? ⟨W.heap.size, 3, none⟩ = some (.int .i64 qhx) := cell_gr hwb (by go_simp)
              have cwb_0_4 : wb.cell? ⟨W.heap.size, 4, none⟩ = some (.int .i64 qhy) := cell_gr hwb (by go_simp)
              have cwb_0_5 : wb.cell? ⟨W.heap.size, 5, none⟩ = some (.slice ud mq uc) := cell_gr hwb (by go_simp)
              have zwb_0 : W.heap.size < wb.heap.size := World.block_lt_of_cell? _ _ cwb_0_0
              have gwb : Gr wr wb := Gr.trans (by have gg := gwa; have gs := gg.size; go_grown) hwb
              clear gwa zwa_0 cwa_0_0 cwa_0_1 cwa_0_2 cwa_0_3 cwa_0_4 cwa_0_5
              clear hwb
              try simp only [Act.put, List.setIfInBounds_toArray, List.set_cons_zero, List.set_cons_succ]
              repeat (first | (refine Od.wpO_skip (by simp only [List.getElem?_toArray, List.getElem?_cons_succ, List.getElem?_cons_zero] <;> rfl) rfl ?_; simp only [Act.put, List.setIfInBounds_toArray, List.set_cons_zero, List.set_cons_succ]) | (refine Od.wpO_pure (by simp only [List.getElem?_toArray, List.getElem?_cons_succ, List.getElem?_cons_zero] <;> rfl) rfl ?_; apply Exists.intro; refine ⟨?_, ?_⟩; (· intro wx gx; obtain ⟨mx, rfl⟩ := spread_of_gr gx; clear gx; all_goals (apply Od.pAt_of_quiet; intro K hK; go_big_quiet_op; first | exact hK _ rfl | (apply Exists.intro; refine ⟨fun _ => ?_, ?_⟩; (· fail); exact hK _ rfl))); try simp only [Act.put, List.setIfInBounds_toArray, List.set_cons_zero, List.set_cons_succ]))
              refine Od.wpO_call (by simp only [List.getElem?_toArray, List.getElem?_cons_succ, List.getElem?_cons_zero] <;> rfl) rfl ?_
              intro QS hQS
              go_wp2_with fail
              go_at_call 28
              (with_reducible refine ((AL2.out _ gwb)).mono ?_)
              rintro e wc ⟨rfl, hwc⟩
              go_wp2_with fail
              apply Exists.intro
              refine ⟨?_, hwc, ?_⟩
              · simp only [Act.put, List.setIfInBounds_toArray, List.set_cons_zero, List.set_cons_succ]; rfl
              have cwc_0_0 : wc.cell? ⟨W.heap.size, 0, none⟩ = some (.int .i64 kq) := cell_gr hwc (by go_simp)
              have cwc_0_1 : wc.cell? ⟨W.heap.size, 1, none⟩ = some (.int .i64 qlx) := cell_gr hwc (by go_simp)
              have cwc_0_2 : wc.cell? ⟨W.heap.size, 2, none⟩ = some (.int .i64 qly) := cell_gr hwc (by go_simp)
              have cwc_0_3 : wc.cell? ⟨W.heap.size, 3, none⟩ = some (.int .i64 qhx) := cell_gr hwc (by go_simp)
              have cwc_0_4 : wc.cell? ⟨W.heap.size, 4, none⟩ = some (.int .i64 qhy) := cell_gr hwc (by go_simp)
              have cwc_0_5 : wc.cell? ⟨W.heap.size, 5, none⟩ = some (.slice ud mq uc) := cell_gr hwc (by go_simp)
              have zwc_0 : W.heap.size < wc.heap.size := World.block_lt_of_cell? _ _ cwc_0_0
              have gwc : Gr wr wc := Gr.trans (by have gg := gwb; have gs := gg.size; go_grown) hwc
              clear gwb zwb_0 cwb_0_0 cwb_0_1 cwb_0_2 cwb_0_3 cwb_0_4 cwb_0_5
              clear hwc
              try simp only [Act.put, List.setIfInBounds_toArray, List.set_cons_zero, List.set_cons_succ]
              repeat (first | (refine Od.wpO_skip (by simp only [List.getElem?_toArray, List.getElem?_cons_succ, List.getElem?_cons_zero] <;> rfl) rfl ?_; simp only [Act.put, List.setIfInBounds_toArray, List.set_cons_zero, List.set_cons_succ]) | (refine Od.wpO_pure (by simp only [List.getElem?_toArray, List.getElem?_cons_succ, List.getElem?_cons_zero] <;> rfl) rfl ?_; apply Exists.intro; refine ⟨?_, ?_⟩; (· intro wx gx; obtain ⟨mx, rfl⟩ := spread_of_gr gx; clear gx; all_goals (apply Od.pAt_of_quiet; intro K hK; go_big_quiet_op; first | exact hK _ rfl | (apply Exists.intro; refine ⟨fun _ => ?_, ?_⟩; (· fail); exact hK _ rfl))); try simp only [Act.put, List.setIfInBounds_toArray, List.set_cons_zero, List.set_cons_succ]))
              refine Od.wpO_call (by simp only [List.getElem?_toArray, List.getElem?_cons_succ, List.getElem?_cons_zero] <;> rfl) rfl ?_
              intro QS hQS
              go_wp2_with fail
              go_at_call 31
              (with_reducible refine ((ASr.out _ gwc)).mono ?_)
              rintro e wd ⟨v1, rfl, o1, hwd⟩
              go_wp2_with fail
              apply Exists.intro
              refine ⟨?_, hwd, ?_⟩
              · simp only [Act.put, List.setIfInBounds_toArray, List.set_cons_zero, List.set_cons_succ]; rfl
              have cwd_0_0 : wd.cell? ⟨W.heap.size, 0, none⟩ = some (.int .i64 kq) := cell_gr hwd (by go_simp)
              have cwd_0_1 : wd.cell? ⟨W.heap.size, 1, none⟩ = some (.int .i64 qlx) := cell_gr hwd (by go_simp)
              have cwd_0_2 : wd.cell? ⟨W.heap.size, 2, none⟩ = some (.int .i64 qly) := cell_gr hwd (by go_simp)
              have cwd_0_3 : wd.cell? ⟨W.heap.size, 3, none⟩ = some (.int .i64 qhx) := cell_gr hwd (by go_simp)
              have cwd_0_4 : wd.cell? ⟨W.heap.size, 4, none⟩ = some (.int .i64 qhy) := cell_gr hwd (by go_simp)
              have cwd_0_5 : wd.cell? ⟨W.heap.size, 5, none⟩ = some (.slice ud mq uc) := cell_gr hwd (by go_simp)
              have zwd_0 : W.heap.size < wd.heap.size := World.block_lt_of_cell? _ _ cwd_0_0
              have gwd : Gr wr wd := Gr.trans (by have gg := gwc; have gs := gg.size; go_grown) hwd
              clear gwc zwc_0 cwc_0_0 cwc_0_1 cwc_0_2 cwc_0_3 cwc_0_4 cwc_0_5
              clear hwd
              try simp only [Act.put, List.setIfInBounds_toArray, List.set_cons_zero, List.set_cons_succ]
              repeat (first | (refine Od.wpO_skip (by simp only [List.getElem?_toArray, List.getElem?_cons_succ, List.getElem?_cons_zero] <;> rfl) rfl ?_; simp only [Act.put, List.setIfInBounds_toArray, List.set_cons_zero, List.set_cons_succ]) | (refine Od.wpO_pure (by simp only [List.getElem?_toArray, List.getElem?_cons_succ, List.getElem?_cons_zero] <;> rfl) rfl ?_; apply Exists.intro; refine ⟨?_, ?_⟩; (· intro wx gx; obtain ⟨mx, rfl⟩ := spread_of_gr gx; clear gx; all_goals (apply Od.pAt_of_quiet; intro K hK; go_big_quiet_op; first | exact hK _ rfl | (apply Exists.intro; refine ⟨fun _ => ?_, ?_⟩; (· fail); exact hK _ rfl))); try simp only [Act.put, List.setIfInBounds_toArray, List.set_cons_zero, List.set_cons_succ]))
              have HO1 := Lib.hid o1
              clear o1
              refine Od.wpO_call (by simp only [List.getElem?_toArray, List.getElem?_cons_succ, List.getElem?_cons_zero] <;> rfl) rfl ?_
              intro QS hQS
              go_wp2_with fail
              go_at_call 32
              (with_reducible refine ((ASr2.out _ gwd)).mono ?_)
              rintro e we ⟨⟨v2, rfl, o2, hk2⟩, hwe⟩
              go_wp2_with fail
              apply Exists.intro
              refine ⟨?_, hwe, ?_⟩
              · simp only [Act.put, List.setIfInBounds_toArray, List.set_cons_zero, List.set_cons_succ]; rfl
              have cwe_0_0 : we.cell? ⟨W.heap.size, 0, none⟩ = some (.int .i64 kq) := cell_gr hwe (by go_simp)
              have cwe_0_1 : we.cell? ⟨W.heap.size, 1, none⟩ = some (.int .i64 qlx) := cell_gr hwe (by go_simp)
              have cwe_0_2 : we.cell? ⟨W.heap.size, 2, none⟩ = some (.int .i64 qly) := cell_gr hwe (by go_simp)
              have cwe_0_3 : we.cell? ⟨W.heap.size, 3, none⟩ = some (.int .i64 qhx) := cell_gr hwe (by go_simp)
              have cwe_0_4 : we.cell? ⟨W.heap.size, 4, none⟩ = some (.int .i64 qhy) := cell_gr hwe (by go_simp)
              have cwe_0_5 : we.cell? ⟨W.heap.size, 5, none⟩ = some (.slice ud mq uc) := cell_gr hwe (by go_simp)
              have zwe_0 : W.heap.size < we.heap.size := World.block_lt_of_cell? _ _ cwe_0_0
              have gwe : Gr wr we := Gr.trans (by have gg := gwd; have gs := gg.size; go_grown) hwe
              clear gwd zwd_0 cwd_0_0 cwd_0_1 cwd_0_2 cwd_0_3 cwd_0_4 cwd_0_5
              clear hwe
              try simp only [Act.put, List.setIfInBounds_toArray, List.set_cons_zero, List.set_cons_succ]
              repeat (first | (refine Od.wpO_skip (by simp only [List.getElem?_toArray, List.getElem?_cons_succ, List.getElem?_cons_zero] <;> rfl) rfl ?_; simp only [Act.put, List.setIfInBounds_toArray, List.set_cons_zero, List.set_cons_succ]) | (refine Od.wpO_pure (by simp only [List.getElem?_toArray, List.getElem?_cons_succ, List.getElem?_cons_zero] <;> rfl) rfl ?_; apply Exists.intro; refine ⟨?_, ?_⟩; (· intro wx gx; obtain ⟨mx, rfl⟩ := spread_of_gr gx; clear gx; all_goals (apply Od.pAt_of_quiet; intro K hK; go_big_quiet_op; first | exact hK _ rfl | (apply Exists.intro; refine ⟨fun _ => ?_, ?_⟩; (· fail); exact hK _ rfl))); try simp only [Act.put, List.setIfInBounds_toArray, List.set_cons_zero, List.set_cons_succ]))
              have HO2 := Lib.hid (And.intro o2 (rowOwn_gr HO1.out hk2))
              clear o2 hk2
              refine Od.wpO_call (by simp only [List.getElem?_toArray, List.getElem?_cons_succ, List.getElem?_cons_zero] <;> rfl) rfl ?_
              intro QS hQS
              go_wp2_with fail
              go_at_call 30
              (with_reducible refine ((al_Ints HRL.out _ HO2.out.2 HO2.out.1)).mono ?_)
              rintro e wf ⟨rfl, hwf⟩
              go_wp2_with fail
              apply Exists.intro
              refine ⟨?_, hwf, ?_⟩
              · simp only [Act.put, List.setIfInBounds_toArray, List.set_cons_zero, List.set_cons_succ]; rfl
              have cwf_0_0 : wf.cell? ⟨W.heap.size, 0, none⟩ = some (.int .i64 kq) := cell_gr hwf (by go_simp)
              have cwf_0_1 : wf.cell? ⟨W.heap.size, 1, none⟩ = some (.int .i64 qlx) := cell_gr hwf (by go_simp)
              have cwf_0_2 : wf.cell? ⟨W.heap.size, 2, none⟩ = some (.int .i64 qly) := cell_gr hwf (by go_simp)
              have cwf_0_3 : wf.cell? ⟨W.heap.size, 3, none⟩ = some (.int .i64 qhx) := cell_gr hwf (by go_simp)
              have cwf_0_4 : wf.cell? ⟨W.heap.size, 4, none⟩ = some (.int .i64 qhy) := cell_gr hwf (by go_simp)
              have cwf_0_5 : wf.cell? ⟨W.heap.size, 5, none⟩ = some (.slice ud mq uc) := cell_gr hwf (by go_simp)
              have zwf_0 : W.heap.size < wf.heap.size := World.block_lt_of_cell? _ _ cwf_0_0
              have gwf : Gr wr wf := Gr.trans (by have gg := gwe; have gs := gg.size; go_grown) hwf
              clear gwe zwe_0 cwe_0_0 cwe_0_1 cwe_0_2 cwe_0_3 cwe_0_4 cwe_0_5
              clear hwf
              try simp only [Act.put, List.setIfInBounds_toArray, List.set_cons_zero, List.set_cons_succ]
              repeat (first | (refine Od.wpO_skip (by simp only [List.getElem?_toArray, List.getElem?_cons_succ, List.getElem?_cons_zero] <;> rfl) rfl ?_; simp only [Act.put, List.setIfInBounds_toArray, List.set_cons_zero, List.set_cons_succ]) | (refine Od.wpO_pure (by simp only [List.getElem?_toArray, List.getElem?_cons_succ, List.getElem?_cons_zero] <;> rfl) rfl ?_; apply Exists.intro; refine ⟨?_, ?_⟩; (· intro wx gx; obtain ⟨mx, rfl⟩ := spread_of_gr gx; clear gx; all_goals (apply Od.pAt_of_quiet; intro K hK; go_big_quiet_op; first | exact hK _ rfl | (apply Exists.intro; refine ⟨fun _ => ?_, ?_⟩; (· fail); exact hK _ rfl))); try simp only [Act.put, List.setIfInBounds_toArray, List.set_cons_zero, List.set_cons_succ]))
              have AW := Lib.hid (p24_awake wf (errT_gr HE.out (Gr.trans HGW.out gwf)))
              refine Od.wpO_call (by simp only [List.getElem?_toArray, List.getElem?_cons_succ, List.getElem?_cons_zero] <;> rfl) rfl ?_
              intro QS hQS
              go_wp2_with fail
              go_at_call 10
              (with_reducible refine ((AW.out)).mono ?_)
              rintro e wg ⟨rfl, hwg⟩
              go_wp2_with fail
              apply Exists.intro
              refine ⟨?_, hwg, ?_⟩
              · simp only [Act.put, List.setIfInBounds_toArray, List.set_cons_zero, List.set_cons_succ]; rfl
              have cwg_0_0 : wg.cell? ⟨W.heap.size, 0, none⟩ = some (.int .i64 kq) := cell_gr hwg (by go_simp)
              have cwg_0_1 : wg.cell? ⟨W.heap.size, 1, none⟩ = some (.int .i64 qlx) := cell_gr hwg (by go_simp)
              have cwg_0_2 : wg.cell? ⟨W.heap.size, 2, none⟩ = some (.int .i64 qly) := cell_gr hwg (by go_simp)
              have cwg_0_3 : wg.cell? ⟨W.heap.size, 3, none⟩ = some (.int .i64 qhx) := cell_gr hwg (by go_simp)
              have cwg_0_4 : wg.cell? ⟨W.heap.size, 4, none⟩ = some (.int .i64 qhy) := cell_gr hwg (by go_simp)
              have cwg_0_5 : wg.cell? ⟨W.heap.size, 5, none⟩ = some (.slice ud mq uc) := cell_gr hwg (by go_simp)
              have zwg_0 : W.heap.size < wg.heap.size := World.block_lt_of_cell? _ _ cwg_0_0
              have gwg : Gr wr wg := Gr.trans (by have gg := gwf; have gs := gg.size; go_grown) hwg
              clear gwf zwf_0 cwf_0_0 cwf_0_1 cwf_0_2 cwf_0_3 cwf_0_4 cwf_0_5
              clear hwg
              try simp only [Act.put, List.setIfInBounds_toArray, List.set_cons_zero, List.set_cons_succ]
              repeat (first | (refine Od.wpO_skip (by simp only [List.getElem?_toArray, List.getElem?_cons_succ, List.getElem?_cons_zero] <;> rfl) rfl ?_; simp only [Act.put, List.setIfInBounds_toArray, List.set_cons_zero, List.set_cons_succ]) | (refine Od.wpO_pure (by simp only [List.getElem?_toArray, List.getElem?_cons_succ, List.getElem?_cons_zero] <;> rfl) rfl ?_; apply Exists.intro; refine ⟨?_, ?_⟩; (· intro wx gx; obtain ⟨mx, rfl⟩ := spread_of_gr gx; clear gx; all_goals (apply Od.pAt_of_quiet; intro K hK; go_big_quiet_op; first | exact hK _ rfl | (apply Exists.intro; refine ⟨fun _ => ?_, ?_⟩; (· fail); exact hK _ rfl))); try simp only [Act.put, List.setIfInBounds_toArray, List.set_cons_zero, List.set_cons_succ]))
              refine Od.wpO_nil (hKQ _ _ ?_)
              clear hKQ KQ
              go_wp2_with fail
              go_ret
              exact ⟨rfl, Gr.trans HGW.out gwg⟩
      · have tq : decide ((70 : Int) < (mq : Int)) = true := decide_eq_true (by omega)
        have tq2 : decide (70 < mq) = true := decide_eq_true (by omega)
        have AW := Lib.hid (p24_awake w2 (errT_gr HE.out HG2.out))
        clear hq70
        go_wp2_with fail
        go_at_call 10
        refine (AW.out).mono ?_
        rintro e w99 ⟨rfl, g99⟩
        go_wp2_with fail
        go_ret
        exact ⟨rfl, Gr.trans HG2.out g99⟩
end Go.Proofs.YtpomllpplpalkaaGreatDoor
