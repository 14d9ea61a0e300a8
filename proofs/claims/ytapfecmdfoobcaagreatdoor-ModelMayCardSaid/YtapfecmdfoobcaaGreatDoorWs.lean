/- ModelMay: the walk -/
import Derived.Test.YtapfecmdfoobcaaGreatDoorWp
import Derived.Test.YtapfecmdfoobcaaGreatDoorWr
namespace Go.Proofs.YtapfecmdfoobcaaGreatDoor
set_option linter.unusedVariables false
set_option linter.unusedSimpArgs false
open Go.ChangeShapes Go.WideShapes Go.ChangeAt Go.RowKit Go.Maps

theorem mChs_to {a b : World} {v : Value} {n : Nat} {D : Nat → MChg} (h : MChs a v n D) (g : Gr a b) : MChs b v n D := by
  obtain ⟨ad, cap, B, off, e, h1, h2, h3, h4⟩ := h
  exact ⟨ad, cap, B, off, e, h1, h2, h3, fun k hk => by
    have h := h4 k hk
    exact ⟨cell_gr g h.1, cell_gr g h.2.1, cell_gr g h.2.2.1, cell_gr g h.2.2.2.1, pts_gr h.2.2.2.2.1 g, h.2.2.2.2.2⟩⟩
theorem eat_kx {S : Nat → Prop} {a b : World} {k : Int} : ∀ {d : Nat} {v : Value}, EAt a k d v → Kx S a b → (∀ B u, a.cell? ⟨B, 2, none⟩ = some u → ¬ S B) → EAt b k d v
  | 0, _, h, _, _ => h
  | _ + 1, _, ⟨B, u, h1, h2, h3⟩, K, hS => ⟨B, u, h1, cell_kx K (p := ⟨B, 2, none⟩) (hS B u h2) h2, eat_kx h3 K hS⟩
theorem cell2_neQ {w : World} {B Q : Nat} {u : Value} {M : Option Nat} {T : TypeId} (h : w.cell? ⟨B, 2, none⟩ = some u) (hQ : w.heap[Q]? = some (.cells #[.map M] T (0, 0))) : B ≠ Q := by
  rintro rfl
  unfold World.cell? at h
  rw [hQ] at h
  simp at h
theorem cell2_neM {w : World} {B m clock : Nat} {u : Value} {es : Array MapEntry} (h : w.cell? ⟨B, 2, none⟩ = some u) (hm : w.heap[m]? = some (.map es clock)) : B ≠ m := by
  rintro rfl
  unfold World.cell? at h
  rw [hm] at h
  simp at h
theorem oerr_md {w w' : World} {Q N : Nat} {M : Option Nat} {σ : Int → Option MO} (hM : MdAt w Q M σ N) (K : Kx (fun j => j = Q ∨ M = some j) w w') (v : Value) (k : Nat) (h : OErr w v k) : OErr w' v k := by
  rcases h with h | ⟨h1, h2, d, h⟩
  · exact Or.inl h
  · refine Or.inr ⟨h1, h2, d, eat_kx h K (fun B u hc hS => ?_)⟩
    rcases hS with e | e
    · exact cell2_neQ hc hM.1 e
    · obtain ⟨D, hD, -⟩ := hM.2.2 B e
      obtain ⟨es, cl, hh⟩ := ownsMap_heap hD
      exact cell2_neM hc hh rfl
theorem fam_applyG {W w : World} {N k j i : Nat} {Q : Nat → Nat} {M : Nat → Option Nat} {σ : Nat → Int → Option MO} {s : Int → Option MO} {D : Nat → MChg} {kd id kk : Int} {vv : Value} {m : Nat} {X Y : Nat → Int} (ec : D i = ⟨kd, id, kk, vv, m, X, Y⟩) (F : Fam W w N k Q M σ) (hj : j < k) (hN : N < 1000000) (hs : σ j = stF s D i) (hi : i64R id) (hp : Pts w vv m X Y) :
    Calls Tryz.prog 9 #[.pointer (some ⟨Q j, 0, none⟩), .agg #[.int .i64 kd, .int .i64 id, .int .i64 kk, vv]] w fun e w' => ∃ op v M', e = .returned v ∧ WErr op w' v id (coF s D i) ∧ Fam W w' (N + 1) k Q M' (fun a => if a = j then stF s D (i + 1) else σ a) ∧ ∀ v k, OErr w v k → OErr w' v k := by
  have h := F.md j hj
  rw [hs] at h
  have e1 : stF s D (i + 1) = apS (stF s D i) kd id kk m X Y := by
    show apS _ _ _ _ _ _ _ = _
    rw [ec]
  have e2 : coF s D i = apN (stF s D i) kd id kk m X Y := by unfold coF; rw [ec]
  rw [e1, e2]
  refine (md_Apply hi hN w h hp).mono ?_
  rintro e w' h5
  have h6 := h5
  obtain ⟨-, -, -, -, -, -, -, -, K⟩ := h6
  obtain ⟨op, v, M', h1, h2, -, h3⟩ := F.done hj h5
  exact ⟨op, v, M', h1, h2, h3, oerr_md h K⟩
set_option maxHeartbeats 8000000 in
set_option maxRecDepth 100000 in
theorem may_core {v u : Value} {n l : Nat} {D E : Nat → MChg} (W : World) (h : MChs W v n D) (hu : MChs W u l E) (hE : ErrT W) : Calls Tryz.prog 4 #[v, u] W fun e w' => e = .returned (.bool true) ∧ Gr W w' := by
  have HE := Lib.hid hE
  have AS := Lib.hid (md_small W h)
  have AS2 := Lib.hid (fun w (g : Gr W w) => md_small w (mChs_to hu g))
  have HU := Lib.hid hu
  obtain ⟨ad, cap, B, off, rfl, h1, h2, h3, h4⟩ := h
  obtain ⟨bd, bcap, Bu, offu, rfl, k1, k2, k3, k4⟩ := hu
  have HX := Lib.hid h4
  have HA := Lib.hid h3
  have HX2 := Lib.hid k4
  have HA2 := Lib.hid k3
  clear hE h3 h4 k3 k4
  go_enter Tryz.func4, Tryz.ntmps4
  go_wp2_with fail
  go_at_call 5
  refine (AS.out).mono ?_
  rintro e w1 ⟨⟨b, rfl, hb⟩, g1⟩
  clear AS
  have HG1 := Lib.hid g1
  clear g1
  cases b with
  | false =>
    clear hb
    have AW := Lib.hid (p23_awake w1 (errT_gr HE.out HG1.out))
    have HG := Lib.hid (HG1.out)
    go_wp2_with fail
    go_at_call 6
    refine (AW.out).mono ?_
    rintro e w99 ⟨rfl, g99⟩
    go_wp2_with fail
    go_ret
    exact ⟨rfl, Gr.trans HG.out g99⟩
  | true =>
    have hn := hb rfl
    clear hb
    go_wp2_with fail
    go_at_call 5
    refine (AS2.out _ HG1.out).mono ?_
    rintro e w2 ⟨⟨b, rfl, hb⟩, g2⟩
    clear AS2
    have HG2 := Lib.hid (Gr.trans HG1.out g2)
    clear g2
    cases b with
    | false =>
      clear hb
      have AW := Lib.hid (p23_awake w2 (errT_gr HE.out HG2.out))
      have HG := Lib.hid (HG2.out)
      go_wp2_with fail
      go_at_call 6
      refine (AW.out).mono ?_
      rintro e w99 ⟨rfl, g99⟩
      go_wp2_with fail
      go_ret
      exact ⟨rfl, Gr.trans HG.out g99⟩
    | true =>
      have hl := hb rfl
      clear hb
      have hn9 : (n : Int) ≤ 150 := by omega
      have hl9 : (l : Int) ≤ 150 := by omega
      go_wp2_with fail
      go_at_call 7
      refine (fam_NewC (Fam.none (Q := fun _ => 0) (M := fun _ => none) (σ := fun _ _ => none) (N := 0) HG2.out)).mono ?_
      rintro e w3 ⟨A, rfl, F3⟩
      obtain ⟨M, HF3⟩ : ∃ M, Hid (Fam W w3 0 1 (tri A 0 0) M (fun _ => stM D 0)) := ⟨_, Lib.hid (F3.as (fun j hj => by (have e : j = 0 := (by omega)); subst e; rfl) (fun j hj => by (have e : j = 0 := (by omega)); subst e; rfl))⟩
      clear F3
      go_wp2_with fail
      go_loopg [6] n (fun k x wr => ∃ (i : Nat) (M : Nat → Option Nat), x = .int .i64 i ∧ i ≤ n ∧ k = n - i ∧ Hid (Fam W wr i 1 (tri A 0 0) M (fun _ => stM D i)))
      case atStart => exact ⟨0, M, rfl, Nat.zero_le _, by omega, HF3⟩
      case round =>
        obtain ⟨i, M', rfl, hi, hk, HFi⟩ := hrel
        by_cases hlt : i < n
        · have ti : decide ((i : Int) < (n : Int)) = true := decide_eq_true (by omega)
          have ti2 : decide (i < n) = true := decide_eq_true hlt
          have ti3 : (i : Int) < (n : Int) := by omega
          have ti4 : (i : Int) ≤ 150 := by omega
          have hmm : n - (i + 1) < gk := by omega
          obtain rfl := HA.out (by omega)
          rcases ec : D i with ⟨kd, id, kk, vv, m, X, Y⟩
          have q := HX.out i (by omega)
          rw [ec] at q
          obtain ⟨q0, q1, q2, q3, q4, q5⟩ := q
          simp only at q0 q1 q2 q3 q4 q5
          have HEC := Lib.hid ec
          have HQ := Lib.hid (And.intro q0 (And.intro q1 (And.intro q2 (And.intro q3 (And.intro q4 q5)))))
          clear q5 ec
          have p0 := cell_gr HFi.out.gr q0
          have p1 := cell_gr HFi.out.gr q1
          have p2 := cell_gr HFi.out.gr q2
          obtain ⟨pad, pcap, _, _, rfl, _⟩ := q4
          have p3 := cell_gr HFi.out.gr q3
          clear q0 q1 q2 q3
          go_wp2_with fail
          go_at_call 9
          refine (fam_applyE HEC.out HFi.out (j := 0) (by decide) (by omega) rfl HQ.out.2.2.2.2.2 (pts_gr HQ.out.2.2.2.2.1 HFi.out.gr)).mono ?_
          rintro e w5 ⟨op5, u5, M5, rfl, -, -, F5⟩
          have HF5 : Hid (Fam W w5 (i + 1) 1 (tri A 0 0) M5 (fun _ => stM D (i + 1))) := Lib.hid (F5.as (fun _ _ => rfl) (fun j hj => by (have e : j = 0 := (by omega)); subst e; rfl))
          clear F5 p0 p1 p2 p3
          go_wp2_with fail
          go_roundg (n - (i + 1))
          case measure => omega
          case rel => exact ⟨i + 1, M5, by go_num, by omega, rfl, HF5⟩
        · obtain rfl : n = i := by omega
          have ti : decide ((n : Int) < (n : Int)) = false := decide_eq_false (by omega)
          have ti2 : decide (n < n) = false := decide_eq_false (by omega)
          clear hk hlt HF3
          go_wp2_with fail
          go_at_call 10
          refine (md_Copy wr (HFi.out.md 0 (by decide))).mono ?_
          rintro e w7 ⟨C, MC, rfl, hC, hMC, hm, g7⟩
          obtain ⟨s, hs⟩ : ∃ s, s = stM D n := ⟨_, rfl⟩
          obtain ⟨M7, HF7⟩ : ∃ M, Hid (Fam W w7 300 2 (tri A C 0) M (fun _ => s)) := ⟨_, Lib.hid (((HFi.out.more hm hC hMC g7).le (by omega)).as (fun j hj => by rcases (by omega : j = 0 ∨ j = 1) with rfl | rfl <;> rfl) (fun j hj => by rw [hs]; rcases (by omega : j = 0 ∨ j = 1) with rfl | rfl <;> rfl))⟩
          clear hC hMC hm g7 HFi hs
          go_wp2_with fail
          go_at_call 12
          refine (md_May hl w7 (HF7.out.md 0 (by decide)) (mChs_to HU.out HF7.out.gr)).mono ?_
          rintro e w8 ⟨⟨y, rfl, hy⟩, g8⟩
          have HF8 := Lib.hid (HF7.out.to g8)
          clear g8 HF7
          rcases hy with ⟨hall, rfl⟩ | ⟨z, op, hz, hbe, hne, hw⟩
          · have HALL := Lib.hid hall
            clear hall
            go_wp2_with fail
            go_at_call 11
            refine (md_sameEq (by omega) w8 (HF8.out.md 0 (by decide)) (HF8.out.md 1 (by decide))).mono ?_
            rintro e w9 ⟨rfl, g9⟩
            have HF9 := Lib.hid (HF8.out.to g9)
            clear g9 HF8
            go_wp2_with fail
            go_loopg [9] l (fun k x wr => ∃ (j : Nat) (M : Nat → Option Nat), x = .int .i64 j ∧ j ≤ l ∧ k = l - j ∧ Hid (Fam W wr (300 + j) 2 (tri A C 0) M (tri (stF s E j) s s)) ∧ Hid True)
            case atStart => exact ⟨0, M7, rfl, Nat.zero_le _, by omega, Lib.hid (HF9.out.as (fun _ _ => rfl) (fun j hj => by rcases (by omega : j = 0 ∨ j = 1) with rfl | rfl <;> rfl)), Lib.hid trivial⟩
            case round =>
              obtain ⟨i, M', rfl, hi, hk, HFi, HG9⟩ := hrel
              by_cases hlt : i < l
              · have si : decide ((i : Int) < (l : Int)) = true := decide_eq_true (by omega)
                have si2 : decide (i < l) = true := decide_eq_true hlt
                have ti3 : (i : Int) < (l : Int) := by omega
                have ti4 : (i : Int) ≤ 150 := by omega
                have hmm : l - (i + 1) < gk := by omega
                obtain rfl := HA2.out (by omega)
                rcases ec : E i with ⟨kd, id, kk, vv, m, X, Y⟩
                have q := HX2.out i (by omega)
                rw [ec] at q
                obtain ⟨q0, q1, q2, q3, q4, q5⟩ := q
                simp only at q0 q1 q2 q3 q4 q5
                have HEC := Lib.hid ec
                have HQ := Lib.hid (And.intro q0 (And.intro q1 (And.intro q2 (And.intro q3 (And.intro q4 q5)))))
                clear q5 ec
                have p0 := cell_gr HFi.out.gr q0
                have p1 := cell_gr HFi.out.gr q1
                have p2 := cell_gr HFi.out.gr q2
                obtain ⟨pad, pcap, _, _, rfl, _⟩ := q4
                have p3 := cell_gr HFi.out.gr q3
                clear q0 q1 q2 q3
                go_wp2_with fail
                go_at_call 9
                refine (fam_applyG (s := s) HEC.out HFi.out (j := 0) (by decide) (by omega) rfl HQ.out.2.2.2.2.2 (pts_gr HQ.out.2.2.2.2.1 HFi.out.gr)).mono ?_
                rintro e w15 ⟨op5, u5, M5, rfl, hu5, F5, hkp⟩
                have HF5 : Hid (Fam W w15 (300 + (i + 1)) 2 (tri A C 0) M5 (tri (stF s E (i + 1)) s s)) := Lib.hid (F5.as (fun _ _ => rfl) (fun j hj => by rcases (by omega : j = 0 ∨ j = 1) with rfl | rfl <;> rfl))
                have HG15 : Hid True := Lib.hid trivial
                clear hkp
                have HO5 := Lib.hid (oerr_werr hu5)
                clear F5 p0 p1 p2 p3
                rcases hu5 with ⟨rfl, hc⟩ | ⟨Ff, xf, df, rfl, f1, f2, -⟩
                · clear hc HO5
                  go_wp2_with fail
                  go_roundg (l - (i + 1))
                  case measure => omega
                  case rel => exact ⟨i + 1, M5, by go_num, by omega, rfl, HF5, HG15⟩
                · have := HALL.out i hlt
                  omega
              · obtain rfl : l = i := by omega
                have ti8 : decide ((l : Int) < (l : Int)) = false := decide_eq_false (by omega)
                have ti9 : decide (l < l) = false := decide_eq_false (by omega)
                clear hk hlt
                have AW := Lib.hid (p23_awake wr (errT_gr HE.out HFi.out.gr))
                have HG := Lib.hid (HFi.out.gr)
                go_wp2_with fail
                go_at_call 6
                refine (AW.out).mono ?_
                rintro e w99 ⟨rfl, g99⟩
                go_wp2_with fail
                go_ret
                exact ⟨rfl, Gr.trans HG.out g99⟩
          · have HBE := Lib.hid (And.intro hbe (And.intro hne hw))
            rcases hw with ⟨rfl, hc⟩ | ⟨F, x, d, rfl, -⟩
            · exact absurd hc hne
            clear hbe hne
            go_wp2_with fail
            go_at_call 11
            refine (md_sameEq (by omega) w8 (HF8.out.md 0 (by decide)) (HF8.out.md 1 (by decide))).mono ?_
            rintro e w9 ⟨rfl, g9⟩
            have HF9 := Lib.hid (HF8.out.to g9)
            have HOE := Lib.hid (oerr_gr (oerr_werr HBE.out.2.2) g9)
            clear g9 HF8
            go_wp2_with fail
            go_loopg [9] l (fun k x wr => ∃ (j : Nat) (M : Nat → Option Nat), x = .int .i64 j ∧ j ≤ z ∧ k = l - j ∧ Hid (Fam W wr (300 + j) 2 (tri A C 0) M (tri (stF s E j) s s)) ∧ Hid (OErr wr (.iface 63 (.pointer (some ⟨F, 0, none⟩))) (coF s E z)))
            case atStart => exact ⟨0, M7, rfl, Nat.zero_le _, by omega, Lib.hid (HF9.out.as (fun _ _ => rfl) (fun j hj => by rcases (by omega : j = 0 ∨ j = 1) with rfl | rfl <;> rfl)), HOE⟩
            case round =>
              obtain ⟨i, M', rfl, hi, hk, HFi, HG9⟩ := hrel
              by_cases hlt : i < l
              · have si : decide ((i : Int) < (l : Int)) = true := decide_eq_true (by omega)
                have si2 : decide (i < l) = true := decide_eq_true hlt
                have ti3 : (i : Int) < (l : Int) := by omega
                have ti4 : (i : Int) ≤ 150 := by omega
                have hmm : l - (i + 1) < gk := by omega
                obtain rfl := HA2.out (by omega)
                rcases ec : E i with ⟨kd, id, kk, vv, m, X, Y⟩
                have q := HX2.out i (by omega)
                rw [ec] at q
                obtain ⟨q0, q1, q2, q3, q4, q5⟩ := q
                simp only at q0 q1 q2 q3 q4 q5
                have HEC := Lib.hid ec
                have HQ := Lib.hid (And.intro q0 (And.intro q1 (And.intro q2 (And.intro q3 (And.intro q4 q5)))))
                clear q5 ec
                have p0 := cell_gr HFi.out.gr q0
                have p1 := cell_gr HFi.out.gr q1
                have p2 := cell_gr HFi.out.gr q2
                obtain ⟨pad, pcap, _, _, rfl, _⟩ := q4
                have p3 := cell_gr HFi.out.gr q3
                clear q0 q1 q2 q3
                go_wp2_with fail
                go_at_call 9
                refine (fam_applyG (s := s) HEC.out HFi.out (j := 0) (by decide) (by omega) rfl HQ.out.2.2.2.2.2 (pts_gr HQ.out.2.2.2.2.1 HFi.out.gr)).mono ?_
                rintro e w15 ⟨op5, u5, M5, rfl, hu5, F5, hkp⟩
                have HF5 : Hid (Fam W w15 (300 + (i + 1)) 2 (tri A C 0) M5 (tri (stF s E (i + 1)) s s)) := Lib.hid (F5.as (fun _ _ => rfl) (fun j hj => by rcases (by omega : j = 0 ∨ j = 1) with rfl | rfl <;> rfl))
                have HG15 : Hid (OErr w15 (.iface 63 (.pointer (some ⟨F, 0, none⟩))) (coF s E z)) := Lib.hid (hkp _ _ HG9.out)
                clear hkp
                have HO5 := Lib.hid (oerr_werr hu5)
                clear F5 p0 p1 p2 p3
                rcases hu5 with ⟨rfl, hc⟩ | ⟨Ff, xf, df, rfl, f1, f2, -⟩
                · have hiz : i + 1 ≤ z := by
                    rcases Nat.lt_or_ge i z with h | h
                    · omega
                    · obtain rfl : z = i := by omega
                      exact absurd hc HBE.out.2.1
                  clear hc HO5
                  go_wp2_with fail
                  go_roundg (l - (i + 1))
                  case measure => omega
                  case rel => exact ⟨i + 1, M5, by go_num, by omega, rfl, HF5, HG15⟩
                · obtain rfl : z = i := by
                    rcases Nat.lt_or_ge i z with h | h
                    · have := HBE.out.1 i h
                      omega
                    · omega
                  have AC1 := Lib.hid (fun w (g : Gr w15 w) => c_Code_oerr w (oerr_gr HG15.out g))
                  have AC2 := Lib.hid (fun w (g : Gr w15 w) => c_Code_oerr w (oerr_gr HO5.out g))
                  clear f1 f2
                  go_wp2_with fail
                  go_at_call 13
                  refine (AC1.out _ (Below.refl _ _)).mono ?_
                  rintro e w16 ⟨rfl, g16⟩
                  go_wp2_with fail
                  go_at_call 13
                  refine (AC2.out _ g16).mono ?_
                  rintro e w17 ⟨rfl, g17⟩
                  have HG17 := Lib.hid (Gr.trans HF5.out.gr (Gr.trans g16 g17))
                  clear g16 g17
                  have AW := Lib.hid (p23_awake w17 (errT_gr HE.out HG17.out))
                  have HG := Lib.hid (HG17.out)
                  go_wp2_with fail
                  go_at_call 6
                  refine (AW.out).mono ?_
                  rintro e w99 ⟨rfl, g99⟩
                  go_wp2_with fail
                  go_ret
                  exact ⟨rfl, Gr.trans HG.out g99⟩
              · exact absurd hz (by omega)
theorem walk_ModelMay (W : World) (v u : Value) (h : ∃ (n : Nat) (D : Nat → MChg), MChs W v n D) (hu : ∃ (n : Nat) (D : Nat → MChg), MChs W u n D) (hE : ErrT W) : Calls Tryz.prog 4 #[v, u] W fun e w' => e = .returned (.bool true) ∧ Gr W w' := by
  obtain ⟨n, D, h⟩ := h
  obtain ⟨l, E, hu⟩ := hu
  exact may_core W h hu hE
end Go.Proofs.YtapfecmdfoobcaaGreatDoor
