/- ModelCopies: the walk -/
import Derived.Test.YtapfecmdfoobcaaGreatDoorWo
namespace Go.Proofs.YtapfecmdfoobcaaGreatDoor
set_option linter.unusedVariables false
set_option linter.unusedSimpArgs false
open Go.ChangeShapes Go.WideShapes Go.ChangeAt Go.RowKit Go.Maps

def tri {α : Type} (a b c : α) (j : Nat) : α := if j = 0 then a else if j = 1 then b else c
theorem fam_NewC {W w : World} {N k : Nat} {Q : Nat → Nat} {M : Nat → Option Nat} {σ : Nat → Int → Option MO} (F : Fam W w N k Q M σ) : Calls Tryz.prog 7 #[] w fun e w' => ∃ C, e = .returned (.pointer (some ⟨C, 0, none⟩)) ∧ Fam W w' N (k + 1) (fun j => if j = k then C else Q j) (fun j => if j = k then none else M j) (fun j => if j = k then (fun _ => none) else σ j) := by
  refine (md_New w).mono ?_
  rintro e w' ⟨rfl, rfl⟩
  exact ⟨_, rfl, F.more (mdAt_new (fun _ _ => rfl) (fun m h => (by cases h))) (Nat.le_refl _) (fun m h => (by cases h)) ((Below.refl _ _).alloc (Nat.le_refl _) _)⟩
theorem fam_applyE {W w : World} {N k j i : Nat} {Q : Nat → Nat} {M : Nat → Option Nat} {σ : Nat → Int → Option MO} {D : Nat → MChg} {kd id kk : Int} {vv : Value} {m : Nat} {X Y : Nat → Int} (ec : D i = ⟨kd, id, kk, vv, m, X, Y⟩) (F : Fam W w N k Q M σ) (hj : j < k) (hN : N < 1000000) (hs : σ j = stM D i) (hi : i64R id) (hp : Pts w vv m X Y) :
    Calls Tryz.prog 9 #[.pointer (some ⟨Q j, 0, none⟩), .agg #[.int .i64 kd, .int .i64 id, .int .i64 kk, vv]] w fun e w' => ∃ op v M', e = .returned v ∧ WErr op w' v id (coM D i) ∧ (op = modelS ∨ op = changeS) ∧ Fam W w' (N + 1) k Q M' (fun a => if a = j then stM D (i + 1) else σ a) := by
  have := fam_apply F hj hN hs (i := i) (by rw [ec]; exact hi) (by rw [ec]; exact hp)
  rw [ec] at this
  exact this
set_option maxHeartbeats 8000000 in
set_option maxRecDepth 100000 in
theorem copies_core {v : Value} {n : Nat} {D : Nat → MChg} (z : Int) (hz : i64R z) (W : World) (h : MChs W v n D) (hE : ErrT W) : Calls Tryz.prog 3 #[v, .int .i64 z] W fun e w' => e = .returned (.bool true) ∧ Gr W w' := by
  have HE := Lib.hid hE
  have AS := Lib.hid (md_small W h)
  obtain ⟨ad, cap, B, off, rfl, h1, h2, h3, h4⟩ := h
  have HX := Lib.hid h4
  have HA := Lib.hid h3
  have HZ := Lib.hid hz
  clear hE h3 h4 hz
  go_enter Tryz.func3, Tryz.ntmps3
  go_wp2_with fail
  go_at_call 5
  refine (AS.out).mono ?_
  rintro e w1 ⟨⟨b, rfl, hb⟩, g1⟩
  clear AS
  cases b with
  | false =>
    have AW := Lib.hid (p23_awake w1 (errT_gr HE.out g1))
    clear hb
    go_wp2_with fail
    go_at_call 6
    refine (AW.out).mono ?_
    rintro e w2 ⟨rfl, g2⟩
    go_wp2_with fail
    go_ret
    exact ⟨rfl, Gr.trans g1 g2⟩
  | true =>
    have hn := hb rfl
    clear hb
    obtain ⟨y, hy⟩ : ∃ y, y = n + 1 := ⟨_, rfl⟩
    have e1 : wrap64 ((n : Int) + 1) = (y : Int) := by rw [show (n : Int) + 1 = (y : Int) by omega]; exact IntWalk.wrap64_in _ (by omega)
    have e2 : IntKind.i64.wrap ((n : Int) + 1) = (y : Int) := by rw [show (n : Int) + 1 = (y : Int) by omega]; exact IntWalk.i64_in _ (by omega)
    have hn9 : (n : Int) ≤ 150 := by omega
    have HG1 := Lib.hid g1
    have HY := Lib.hid hy
    have hy0 : 0 < y := by omega
    have hy1 : y ≤ 1000000 := by omega
    clear g1 hy
    go_wp2_with fail
    go_at_call 7
    refine (fam_NewC (Fam.none (Q := fun _ => 0) (M := fun _ => none) (σ := fun _ _ => none) (N := 0) HG1.out)).mono ?_
    rintro e w2 ⟨A, rfl, F1⟩
    have HF1 := Lib.hid F1
    clear F1
    go_wp2_with fail
    go_at_call 7
    refine (fam_NewC HF1.out).mono ?_
    rintro e w3 ⟨C, rfl, F2⟩
    obtain ⟨M, HF2⟩ : ∃ M, Hid (Fam W w3 0 2 (tri A C 0) M (fun _ => stM D 0)) := ⟨_, Lib.hid (F2.as (fun j hj => by rcases (by omega : j = 0 ∨ j = 1) with rfl | rfl <;> rfl) (fun j hj => by rcases (by omega : j = 0 ∨ j = 1) with rfl | rfl <;> rfl))⟩
    clear F2
    go_wp2_with fail
    go_at_call 8
    refine (c_RoundE z HZ.out.1 HZ.out.2 y hy0 hy1 _).mono ?_
    rintro e w4 ⟨rfl, g4⟩
    obtain ⟨a, ea, han⟩ : ∃ a : Nat, z % (y : Int) = (a : Int) ∧ a ≤ n := by
      have r1 := Int.emod_nonneg z (show (y : Int) ≠ 0 by omega)
      have r2 := Int.emod_lt_of_pos z (show (0 : Int) < (y : Int) by omega)
      have hy := HY.out
      exact ⟨(z % (y : Int)).toNat, by omega, by omega⟩
    rw [ea]
    have HF4 := Lib.hid (HF2.out.to g4)
    clear g4 ea e1 e2 HY hy0 hy1
    go_wp2_with fail
    go_loopg [7] a (fun k x wr => ∃ (i : Nat) (M : Nat → Option Nat), x = .int .i64 i ∧ i ≤ a ∧ k = a - i ∧ Hid (Fam W wr (2 * i) 2 (tri A C 0) M (fun _ => stM D i)))
    case atStart => exact ⟨0, M, rfl, Nat.zero_le _, by omega, HF4⟩
    case round =>
      obtain ⟨i, M', rfl, hi, hk, HFi⟩ := hrel
      by_cases hlt : i < a
      · have ti : decide ((i : Int) < (a : Int)) = true := decide_eq_true (by omega)
        have ti2 : decide (i < a) = true := decide_eq_true hlt
        have ti3 : (i : Int) < (n : Int) := by omega
        have ti4 : (i : Int) ≤ 150 := by omega
        have hmm : a - (i + 1) < gk := by omega
        obtain rfl := HA.out (by omega)
        rcases ec : D i with ⟨kd, id, kk, vv, m, X, Y⟩
        have q := HX.out i (by omega)
        rw [ec] at q
        obtain ⟨q0, q1, q2, q3, q4, q5⟩ := q
        simp only at q0 q1 q2 q3 q4 q5
        have HEC := Lib.hid ec
        have HQ := Lib.hid (And.intro q0 (And.intro q1 (And.intro q2 (And.intro q3 (And.intro q4 q5)))))
        clear q5 ec
        have p0 := cell_gr HFi.out.gr q0
        have p1 := cell_gr HFi.out.gr q1
        have p2 := cell_gr HFi.out.gr q2
        obtain ⟨pad, pcap, _, _, rfl, _⟩ := q4
        have p3 := cell_gr HFi.out.gr q3
        clear q0 q1 q2 q3
        go_wp2_with fail
        go_at_call 9
        refine (fam_applyE HEC.out HFi.out (j := 0) (by decide) (by omega) rfl HQ.out.2.2.2.2.2 (pts_gr HQ.out.2.2.2.2.1 HFi.out.gr)).mono ?_
        rintro e w5 ⟨op5, u5, M5, rfl, -, -, F5⟩
        have HF5 := Lib.hid F5
        clear F5 p0 p1 p2 p3
        have p0 := cell_gr HF5.out.gr HQ.out.1
        have p1 := cell_gr HF5.out.gr HQ.out.2.1
        have p2 := cell_gr HF5.out.gr HQ.out.2.2.1
        have p3 := cell_gr HF5.out.gr HQ.out.2.2.2.1
        go_wp2_with fail
        go_at_call 9
        refine (fam_applyE HEC.out HF5.out (j := 1) (by decide) (by omega) rfl HQ.out.2.2.2.2.2 (pts_gr HQ.out.2.2.2.2.1 HF5.out.gr)).mono ?_
        rintro e w6 ⟨op6, u6, M6, rfl, -, -, F6⟩
        have HF6 : Hid (Fam W w6 (2 * (i + 1)) 2 (tri A C 0) M6 (fun _ => stM D (i + 1))) := Lib.hid (F6.as (fun _ _ => rfl) (fun j hj => by rcases (by omega : j = 0 ∨ j = 1) with rfl | rfl <;> rfl))
        clear F6 p0 p1 p2 p3
        go_wp2_with fail
        go_roundg (a - (i + 1))
        case measure => omega
        case rel => exact ⟨i + 1, M6, by go_num, by omega, rfl, HF6⟩
      · obtain rfl : a = i := by omega
        have ti : decide ((a : Int) < (a : Int)) = false := decide_eq_false (by omega)
        have ti2 : decide (a < a) = false := decide_eq_false (by omega)
        clear hk HF4 HF2 HF1 hlt
        go_wp2_with fail
        go_at_call 10
        refine (md_Copy wr (HFi.out.md 0 (by decide))).mono ?_
        rintro e w7 ⟨E, ME, rfl, hC, hMC, hm, g7⟩
        obtain ⟨M7, HF7⟩ : ∃ M, Hid (Fam W w7 300 3 (tri A C E) M (tri (stM D a) (stM D a) (stM D a))) := ⟨_, Lib.hid (((HFi.out.more hm hC hMC g7).le (by omega)).as (fun j hj => by rcases (by omega : j = 0 ∨ j = 1 ∨ j = 2) with rfl | rfl | rfl <;> rfl) (fun j hj => by rcases (by omega : j = 0 ∨ j = 1 ∨ j = 2) with rfl | rfl | rfl <;> rfl))⟩
        clear hC hMC hm g7
        go_wp2_with fail
        go_at_call 11
        refine (md_sameEq (by omega) w7 (HF7.out.md 0 (by decide)) (HF7.out.md 1 (by decide))).mono ?_
        rintro e w8 ⟨rfl, g8⟩
        have HF8 := Lib.hid (HF7.out.to g8)
        clear g8
        go_wp2_with fail
        go_at_call 11
        refine (md_sameEq (by omega) w8 (HF8.out.md 2 (by decide)) (HF8.out.md 0 (by decide))).mono ?_
        rintro e w9 ⟨rfl, g9⟩
        have HF9 := Lib.hid (HF8.out.to g9)
        clear g9
        go_wp2_with fail
        go_at_call 11
        refine (md_sameEq (by omega) w9 (HF9.out.md 0 (by decide)) (HF9.out.md 0 (by decide))).mono ?_
        rintro e w10 ⟨rfl, g10⟩
        have HF10 := Lib.hid (HF9.out.to g10)
        clear g10 HF9 HF8 HF7 HFi
        go_wp2_with fail
        go_loopg [9, 10] (n - a) (fun k x y wr => ∃ (t j : Nat) (M : Nat → Option Nat), x = .int .i64 t ∧ y = .int .i64 j ∧ a ≤ j ∧ j ≤ n ∧ t ≤ j ∧ k = n - j ∧ Hid (t = 0 → stM D j = stM D a) ∧ Hid (Fam W wr (300 + j) 3 (tri A C E) M (tri (stM D j) (stM D a) (stM D a))))
        case atStart => exact ⟨0, a, M7, rfl, rfl, Nat.le_refl _, han, by omega, rfl, Lib.hid (fun _ => rfl), Lib.hid (HF10.out.le (by omega))⟩
        case round =>
          obtain ⟨t, i, M', rfl, rfl, hai, hi, hti, hk, H0, HFi⟩ := hrel
          by_cases hlt : i < n
          · have ti : decide ((i : Int) < (n : Int)) = true := decide_eq_true (by omega)
            have ti2 : decide (i < n) = true := decide_eq_true hlt
            have ti3 : (i : Int) < (n : Int) := by omega
            have ti4 : (i : Int) ≤ 150 := by omega
            have ti5 : (t : Int) ≤ 150 := by omega
            have hmm : n - (i + 1) < gk := by omega
            obtain rfl := HA.out (by omega)
            rcases ec : D i with ⟨kd, id, kk, vv, m, X, Y⟩
            have q := HX.out i (by omega)
            rw [ec] at q
            obtain ⟨q0, q1, q2, q3, q4, q5⟩ := q
            simp only at q0 q1 q2 q3 q4 q5
            have HEC := Lib.hid ec
            have HQ := Lib.hid (And.intro q0 (And.intro q1 (And.intro q2 (And.intro q3 (And.intro q4 q5)))))
            clear q5 ec
            have p0 := cell_gr HFi.out.gr q0
            have p1 := cell_gr HFi.out.gr q1
            have p2 := cell_gr HFi.out.gr q2
            obtain ⟨pad, pcap, _, _, rfl, _⟩ := q4
            have p3 := cell_gr HFi.out.gr q3
            clear q0 q1 q2 q3
            go_wp2_with fail
            go_at_call 9
            refine (fam_applyE HEC.out HFi.out (j := 0) (by decide) (by omega) rfl HQ.out.2.2.2.2.2 (pts_gr HQ.out.2.2.2.2.1 HFi.out.gr)).mono ?_
            rintro e w5 ⟨op5, u5, M5, rfl, hu, -, F5⟩
            have HF5 : Hid (Fam W w5 (300 + (i + 1)) 3 (tri A C E) M5 (tri (stM D (i + 1)) (stM D a) (stM D a))) := Lib.hid (F5.as (fun _ _ => rfl) (fun j hj => by rcases (by omega : j = 0 ∨ j = 1 ∨ j = 2) with rfl | rfl | rfl <;> rfl))
            clear F5 p0 p1 p2 p3
            rcases hu with ⟨rfl, hc⟩ | ⟨Bf, xf, df, rfl, hk1, -⟩
            · clear hc
              have HH : Hid (t + 1 = 0 → stM D (i + 1) = stM D a) := Lib.hid (fun h => absurd h (by omega))
              go_wp2_with fail
              go_roundg (n - (i + 1))
              case measure => omega
              case rel => exact ⟨t + 1, i + 1, M5, by go_num, by go_num, by omega, by omega, by omega, rfl, HH, HF5⟩
            · have HH : Hid (t = 0 → stM D (i + 1) = stM D a) := Lib.hid (fun h => (stM_same (by omega)).trans (H0.out h))
              clear hk1
              go_wp2_with fail
              go_roundg (n - (i + 1))
              case measure => omega
              case rel => exact ⟨t, i + 1, M5, rfl, by go_num, by omega, by omega, by omega, rfl, HH, HF5⟩
          · obtain rfl : n = i := by omega
            have ti : decide ((n : Int) < (n : Int)) = false := decide_eq_false (by omega)
            have ti2 : decide (n < n) = false := decide_eq_false (by omega)
            have HT := Lib.hid (And.intro hti H0.out)
            have HAI := Lib.hid hai
            clear hk HF10 hlt hti H0 hai
            go_wp2_with fail
            go_at_call 11
            refine (md_sameEq (by omega) wr (HFi.out.md 2 (by decide)) (HFi.out.md 1 (by decide))).mono ?_
            rintro e w11 ⟨rfl, g11⟩
            have HF11 := Lib.hid (HFi.out.to g11)
            clear g11 HFi
            go_wp2_with fail
            go_loopg [11] (n - a) (fun k x wr => ∃ (j : Nat) (M : Nat → Option Nat), x = .int .i64 j ∧ a ≤ j ∧ j ≤ n ∧ k = n - j ∧ Hid (Fam W wr (600 + j) 3 (tri A C E) M (tri (stM D n) (stM D a) (stM D j))))
            case atStart => exact ⟨a, M', rfl, Nat.le_refl _, HAI.out, rfl, Lib.hid (HF11.out.le (by omega))⟩
            case round =>
              obtain ⟨i, M', rfl, hai, hi, hk, HFi⟩ := hrel
              by_cases hlt : i < n
              · have si : decide ((i : Int) < (n : Int)) = true := decide_eq_true (by omega)
                have si2 : decide (i < n) = true := decide_eq_true hlt
                have ti3 : (i : Int) < (n : Int) := by omega
                have ti4 : (i : Int) ≤ 150 := by omega
                have hmm : n - (i + 1) < gk := by omega
                obtain rfl := HA.out (by omega)
                rcases ec : D i with ⟨kd, id, kk, vv, m, X, Y⟩
                have q := HX.out i (by omega)
                rw [ec] at q
                obtain ⟨q0, q1, q2, q3, q4, q5⟩ := q
                simp only at q0 q1 q2 q3 q4 q5
                have HEC := Lib.hid ec
                have HQ := Lib.hid (And.intro q0 (And.intro q1 (And.intro q2 (And.intro q3 (And.intro q4 q5)))))
                clear q5 ec
                have p0 := cell_gr HFi.out.gr q0
                have p1 := cell_gr HFi.out.gr q1
                have p2 := cell_gr HFi.out.gr q2
                obtain ⟨pad, pcap, _, _, rfl, _⟩ := q4
                have p3 := cell_gr HFi.out.gr q3
                clear q0 q1 q2 q3
                go_wp2_with fail
                go_at_call 9
                refine (fam_applyE HEC.out HFi.out (j := 2) (by decide) (by omega) rfl HQ.out.2.2.2.2.2 (pts_gr HQ.out.2.2.2.2.1 HFi.out.gr)).mono ?_
                rintro e w5 ⟨op5, u5, M5, rfl, -, -, F5⟩
                have HF5 : Hid (Fam W w5 (600 + (i + 1)) 3 (tri A C E) M5 (tri (stM D n) (stM D a) (stM D (i + 1)))) := Lib.hid (F5.as (fun _ _ => rfl) (fun j hj => by rcases (by omega : j = 0 ∨ j = 1 ∨ j = 2) with rfl | rfl | rfl <;> rfl))
                clear F5 p0 p1 p2 p3
                go_wp2_with fail
                go_roundg (n - (i + 1))
                case measure => omega
                case rel => exact ⟨i + 1, M5, by go_num, by omega, by omega, rfl, HF5⟩
              · obtain rfl : n = i := by omega
                clear hk hlt HF11
                by_cases ht : t = 0
                · subst ht
                  have hst := HT.out.2 rfl
                  go_wp2_with fail
                  go_at_call 11
                  refine (md_sameEq (by omega) wr (HFi.out.md 2 (by decide)) (HFi.out.md 0 (by decide))).mono ?_
                  rintro e w12 ⟨rfl, g12⟩
                  have HF12 := Lib.hid (HFi.out.to g12)
                  clear g12
                  go_wp2_with fail
                  go_at_call 11
                  refine (md_sameEq (by omega) w12 (HF12.out.md 0 (by decide)) (HF12.out.md 2 (by decide))).mono ?_
                  rintro e w13 ⟨rfl, g13⟩
                  have HF13 := Lib.hid (HF12.out.to g13)
                  clear g13
                  have m13 : MdAt w13 A (M' 0) (stM D n) (600 + n) := HF13.out.md 0 (by decide)
                  have k13 : MdAt w13 C (M' 1) (stM D a) (600 + n) := HF13.out.md 1 (by decide)
                  rw [← hst] at k13
                  have AS := Lib.hid (md_sameEq (by omega) w13 m13 k13)
                  clear m13 k13 hst
                  go_wp2_with fail
                  go_at_call 11
                  refine (AS.out).mono ?_
                  rintro e w14 ⟨rfl, g14⟩
                  have AW := Lib.hid (p23_awake w14 (errT_gr HE.out (Gr.trans HF13.out.gr g14)))
                  have HG := Lib.hid (Gr.trans HF13.out.gr g14)
                  clear g14
                  go_wp2_with fail
                  go_at_call 6
                  refine (AW.out).mono ?_
                  rintro e w15 ⟨rfl, g15⟩
                  go_wp2_with fail
                  go_ret
                  exact ⟨rfl, Gr.trans HG.out g15⟩
                · have hp : decide ((0 : Int) < (t : Int)) = true := decide_eq_true (by omega)
                  have hp2 : decide (0 < t) = true := decide_eq_true (by omega)
                  have hp3 : 0 < t := by omega
                  go_wp2_with fail
                  go_at_call 11
                  refine (md_sameEq (by omega) wr (HFi.out.md 2 (by decide)) (HFi.out.md 0 (by decide))).mono ?_
                  rintro e w12 ⟨rfl, g12⟩
                  have HF12 := Lib.hid (HFi.out.to g12)
                  clear g12
                  go_wp2_with fail
                  go_at_call 11
                  refine (md_sameEq (by omega) w12 (HF12.out.md 0 (by decide)) (HF12.out.md 2 (by decide))).mono ?_
                  rintro e w13 ⟨rfl, g13⟩
                  have AW := Lib.hid (p23_awake w13 (errT_gr HE.out (Gr.trans HF12.out.gr g13)))
                  have HG := Lib.hid (Gr.trans HF12.out.gr g13)
                  clear g13
                  go_wp2_with fail
                  go_at_call 6
                  refine (AW.out).mono ?_
                  rintro e w15 ⟨rfl, g15⟩
                  go_wp2_with fail
                  go_ret
                  exact ⟨rfl, Gr.trans HG.out g15⟩
theorem walk_ModelCopies (W : World) (v : Value) (z : Int) (h : ∃ (n : Nat) (D : Nat → MChg), MChs W v n D) (hz : -9223372036854775808 ≤ z ∧ z ≤ 9223372036854775807) (hE : ErrT W) : Calls Tryz.prog 3 #[v, .int .i64 z] W fun e w' => e = .returned (.bool true) ∧ Gr W w' := by
  obtain ⟨n, D, h⟩ := h
  exact copies_core z hz W h hE
end Go.Proofs.YtapfecmdfoobcaaGreatDoor
