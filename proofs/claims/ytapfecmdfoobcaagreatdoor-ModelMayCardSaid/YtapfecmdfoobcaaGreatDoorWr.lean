/- model: May -/
import Derived.Test.YtapfecmdfoobcaaGreatDoorWq
namespace Go.Proofs.YtapfecmdfoobcaaGreatDoor
set_option linter.unusedVariables false
set_option linter.unusedSimpArgs false
open Go.ChangeShapes Go.WideShapes Go.ChangeAt Go.RowKit Go.Maps

/-- A map of kinds. -/
def KAt (D : DataW Value) (κ : Int → Option Int) : Prop := ∀ z, i64R z → (κ z = none → Maps.has D (zk z) = false) ∧ ∀ kd, κ z = some kd → Maps.has D (zk z) = true ∧ ∀ y, D.atKey (zk z) y = .held (.int .i64 kd)
theorem kAt_nil : KAt (.map []) (fun _ => none) := fun z _ => ⟨fun _ => rfl, fun kd h => (by cases h)⟩
theorem kAt_put {D : DataW Value} {κ : Int → Option Int} {id kd : Int} (h : KAt D κ) (hI : IsMap D) : KAt (D.put (zk id) (.held (.int .i64 kd))) (fun z => if z = id then some kd else κ z) := fun z hz => by
  by_cases e : z = id
  · subst e
    simp only [if_true]
    exact ⟨fun h => (by cases h), fun k' hk => by
      obtain rfl := Option.some.inj hk
      exact ⟨has_put_same hI (zk_key z) _, fun y => atKey_put_same hI (zk_key z) _ _⟩⟩
  · simp only [e, if_false]
    refine ⟨fun h0 => by rw [has_put_other (zk_ne e)]; exact (h z hz).1 h0, fun k' hk => ?_⟩
    obtain ⟨h1, h2⟩ := (h z hz).2 k' hk
    exact ⟨by rw [has_put_other (zk_ne e)]; exact h1, fun y => by rw [atKey_put_other (zk_ne e)]; exact h2 y⟩
theorem zeroI (w : World) : (zeroValue 3).run Tryz.prog w = .ok (.int .i64 0) w := by kernel_rfl
/-- What May tells. -/
def MayTo (σ : Int → Option MO) (D : Nat → MChg) (n : Nat) (e : Ending) (w' : World) : Prop := ∃ u, e = .returned u ∧ (((∀ j, j < n → coF σ D j = 0) ∧ u = .nilIface) ∨ ∃ i op, i < n ∧ (∀ j, j < i → coF σ D j = 0) ∧ coF σ D i ≠ 0 ∧ WErr op w' u (D i).id (coF σ D i))
set_option maxHeartbeats 8000000 in
set_option maxRecDepth 100000 in
theorem md_May {Q N n : Nat} {M : Option Nat} {σ : Int → Option MO} {D : Nat → MChg} {v : Value} (hn : n ≤ 150) (W : World) (hM : MdAt W Q M σ N) (h : MChs W v n D) :
    Calls Tryz.prog 12 #[.pointer (some ⟨Q, 0, none⟩), v] W fun e w' => MayTo σ D n e w' ∧ Gr W w' := by
  obtain ⟨ad, cap, B, off, rfl, h1, h2, h3, h4⟩ := h
  have HX := Lib.hid h4
  have HA := Lib.hid h3
  have HM := Lib.hid hM
  have hmm := @run_makeMap Tryz.prog
  have hn9 : (n : Int) ≤ 150 := by omega
  clear h3 h4 hM
  go_enter Tryz.func12, Tryz.ntmps12
  go_wp2_with fail
  have hG0 : Gr W (W.alloc (.map #[] 0)) := (Below.refl _ _).alloc (Nat.le_refl _) _
  have hO0 : Hid ((W.alloc (.map #[] 0)).ownsMap Tryz.prog 3 heldE W.heap.size 0 (.map [])) := Lib.hid (World.ownsMap_made W Tryz.prog 3 heldE)
  have HG0 := Lib.hid hG0
  clear hG0
  go_loopg [15] n (fun k x wr => ∃ (i : Nat) (K : DataW Value), x = .int .i64 i ∧ i ≤ n ∧ k = n - i ∧ Hid (∀ j, j < i → coF σ D j = 0) ∧ Hid (KAt K (kiF D i)) ∧ Hid (wr.ownsMap Tryz.prog 3 heldE W.heap.size i K) ∧ Hid (Gr W wr))
  case atStart => exact ⟨0, _, rfl, Nat.zero_le _, by omega, Lib.hid (fun j hj => absurd hj (by omega)), Lib.hid kAt_nil, hO0, HG0⟩
  case round =>
    obtain ⟨i, K, rfl, hi, hk, HC, HK, HO, HG⟩ := hrel
    by_cases hlt : i < n
    · have ti : decide ((i : Int) < (n : Int)) = true := decide_eq_true (by omega)
      have ti2 : decide (i < n) = true := decide_eq_true hlt
      have ti3 : (i : Int) < (n : Int) := by omega
      have ti4 : (i : Int) ≤ 150 := by omega
      have hmm2 : n - (i + 1) < gk := by omega
      obtain rfl := HA.out (by omega)
      have hre := coF_re HC.out
      have hki0 : ∀ z, kiF D (i + 1) z = if z = (D i).id then some (D i).kd else kiF D i z := fun z => rfl
      have q := HX.out i (by omega)
      rcases ec : D i with ⟨kd, id, kk, vv, m, X, Y⟩
      rw [ec] at q hre
      simp only [ec] at hki0
      obtain ⟨q0, q1, q2, q3, q4, q5⟩ := q
      simp only at q0 q1 q2 q3 q4 q5 hre
      have eid : (D i).id = id := by rw [ec]
      have HEC := Lib.hid (And.intro hre (And.intro hki0 eid))
      have HQ := Lib.hid (And.intro q4 q5)
      clear q5 ec hre hki0 eid
      have p0 := cell_gr HG.out q0
      have p1 := cell_gr HG.out q1
      have p2 := cell_gr HG.out q2
      obtain ⟨pad, pcap, _, _, rfl, _⟩ := q4
      have p3 := cell_gr HG.out q3
      have zm := HO.out.lt
      have AH := Lib.hid (fun w (g : Gr wr w) => md_has HQ.out.2 w (mdAt_gr HM.out (Gr.trans HG.out g)))
      have AR := Lib.hid (fun (b : Bool) w (g : Gr wr w) => md_refuse (Q := Q) (kd := kd) (id := id) (k := kk) b w (pts_gr HQ.out.1 (Gr.trans HG.out g)))
      clear q0 q1 q2 q3
      go_wp2_with fail
      go_at_call 19
      refine (AH.out _ (by go_grown)).mono ?_
      rintro e w2 ⟨rfl, g2⟩
      have b0 : w2.cell? ⟨wr.heap.size, 0, none⟩ = some (.int .i64 kd) := cell_gr g2 (by go_simp)
      have b1 : w2.cell? ⟨wr.heap.size, 1, none⟩ = some (.int .i64 id) := cell_gr g2 (by go_simp)
      have b2 : w2.cell? ⟨wr.heap.size, 2, none⟩ = some (.int .i64 kk) := cell_gr g2 (by go_simp)
      have b3 : w2.cell? ⟨wr.heap.size, 3, none⟩ = some (.slice pad m pcap) := cell_gr g2 (by go_simp)
      have zb := World.block_lt_of_cell? _ _ b0
      have G2 : Gr wr w2 := Gr.trans (by go_grown) g2
      have s2 := G2.size
      have O2 := Lib.hid (ownsMap_kx HO.out (Kx.of_gr (S := fun _ => False) G2) (fun h => h))
      have HG2 := Lib.hid G2
      clear g2 p0 p1 p2 p3 G2
      generalize hsg : (σ id).isSome = sg
      have HSG := Lib.hid hsg
      clear hsg
      cases hki : kiF D i id with
      | none =>
        have hh := ((HK.out id HQ.out.2).1 hki)
        have HB : Hid (thereF σ D i id = sg) := Lib.hid (by unfold thereF; rw [hki]; exact HSG.out)
        clear hki
        go_wp2_with (at_lookup; (refine wpList_look_miss _ rfl _ _ 57 rfl 3 3 KI Tryz.underlying57 (zeroI _) W.heap.size i K rfl O2.out _ (zk id) rfl (zk_of HQ.out.2) hh ?_))
        go_at_call 18
        refine (AR.out sg _ HG2.out).mono ?_
        rintro e w3 ⟨op, u, rfl, hu, g3⟩
        have eco : coF σ D i = reN sg kd id kk m X Y := by rw [HEC.out.1, HB.out]
        have hidd := HEC.out.2.2
        have d0 := cell_gr g3 b0
        have d1 := cell_gr g3 b1
        have zd := World.block_lt_of_cell? _ _ d0
        have G3 : Gr wr w3 := Gr.trans HG2.out g3
        have O3 := Lib.hid (ownsMap_kx O2.out (Kx.of_gr (S := fun _ => False) g3) (fun h => h))
        have HG3 := Lib.hid (Gr.trans HG.out G3)
        rcases hu with ⟨rfl, hc⟩ | ⟨F, x, d, rfl, k1, k2, k3, k4, k5, k6⟩
        · have HC2 : Hid (∀ j, j < i + 1 → coF σ D j = 0) := Lib.hid (fun j hj => by
            by_cases e : j = i
            · rw [e, eco, hc]
            · exact HC.out j (by omega))
          clear hc eco b0 b1 b2 b3 zb G3 g3 hidd
          go_wp2_with (at_mapUpdate; go_loud ((refine wpList_mapUpdate_own _ rfl _ _ _ 57 rfl 3 3 KI Tryz.underlying57 heldE W.heap.size i K rfl O3.out (by unfold maxLen; omega) _ _ (zk id) rfl rfl (zk_of HQ.out.2) (.held (.int .i64 kd)) [] rfl ?_); intro w4 m4 g4; (have HM4 := Lib.hid (And.intro m4 (md_mapGrown g4))); clear m4 g4))
          go_roundg (n - (i + 1))
          case measure => omega
          case rel =>
            exact ⟨i + 1, _, by go_num, by omega, rfl, HC2, Lib.hid (by
              have := kAt_put (id := id) (kd := kd) HK.out HO.out.isMap
              rwa [← show kiF D (i + 1) = fun z => if z = id then some kd else kiF D i z from funext HEC.out.2.1] at this), Lib.hid HM4.out.1, Lib.hid (Kx.gr HM4.out.2 HG3.out (fun j hj => Nat.le_of_eq (show W.heap.size = j from hj.symm)))⟩
        · have HF : Hid (WErr op w3 (.iface 63 (.pointer (some ⟨F, 0, none⟩))) (D i).id (coF σ D i)) := Lib.hid (by rw [hidd, eco]; exact Or.inr ⟨F, x, d, rfl, k1, k2, k3, k4, k5, k6⟩)
          have hne : coF σ D i ≠ 0 := by omega
          clear eco b0 b1 b2 b3 zb G3 g3 hidd k1 k2 k3 k4 k5 k6
          go_wp2_with fail
          go_ret
          exact ⟨⟨_, rfl, Or.inr ⟨i, op, hlt, HC.out, hne, HF.out⟩⟩, HG3.out⟩
      | some kp =>
        obtain ⟨hh, hv⟩ := (HK.out id HQ.out.2).2 kp hki
        obtain ⟨sg, hsg2⟩ : ∃ s, s = (kp == 1) := ⟨_, rfl⟩
        have HB : Hid (thereF σ D i id = sg) := Lib.hid (by unfold thereF; rw [hki, hsg2]; rfl)
        have hsg3 := hsg2.symm
        clear hki hsg2
        go_wp2_with (at_lookup; (refine wpList_look_hit _ rfl _ _ 57 rfl 3 3 KI Tryz.underlying57 (zeroI _) W.heap.size i K rfl O2.out _ (zk id) rfl (zk_of HQ.out.2) hh _ hv ?_))
        go_at_call 18
        refine (AR.out sg _ HG2.out).mono ?_
        rintro e w3 ⟨op, u, rfl, hu, g3⟩
        have eco : coF σ D i = reN sg kd id kk m X Y := by rw [HEC.out.1, HB.out]
        have hidd := HEC.out.2.2
        have d0 := cell_gr g3 b0
        have d1 := cell_gr g3 b1
        have zd := World.block_lt_of_cell? _ _ d0
        have G3 : Gr wr w3 := Gr.trans HG2.out g3
        have O3 := Lib.hid (ownsMap_kx O2.out (Kx.of_gr (S := fun _ => False) g3) (fun h => h))
        have HG3 := Lib.hid (Gr.trans HG.out G3)
        rcases hu with ⟨rfl, hc⟩ | ⟨F, x, d, rfl, k1, k2, k3, k4, k5, k6⟩
        · have HC2 : Hid (∀ j, j < i + 1 → coF σ D j = 0) := Lib.hid (fun j hj => by
            by_cases e : j = i
            · rw [e, eco, hc]
            · exact HC.out j (by omega))
          clear hc eco b0 b1 b2 b3 zb G3 g3 hidd
          go_wp2_with (at_mapUpdate; go_loud ((refine wpList_mapUpdate_own _ rfl _ _ _ 57 rfl 3 3 KI Tryz.underlying57 heldE W.heap.size i K rfl O3.out (by unfold maxLen; omega) _ _ (zk id) rfl rfl (zk_of HQ.out.2) (.held (.int .i64 kd)) [] rfl ?_); intro w4 m4 g4; (have HM4 := Lib.hid (And.intro m4 (md_mapGrown g4))); clear m4 g4))
          go_roundg (n - (i + 1))
          case measure => omega
          case rel =>
            exact ⟨i + 1, _, by go_num, by omega, rfl, HC2, Lib.hid (by
              have := kAt_put (id := id) (kd := kd) HK.out HO.out.isMap
              rwa [← show kiF D (i + 1) = fun z => if z = id then some kd else kiF D i z from funext HEC.out.2.1] at this), Lib.hid HM4.out.1, Lib.hid (Kx.gr HM4.out.2 HG3.out (fun j hj => Nat.le_of_eq (show W.heap.size = j from hj.symm)))⟩
        · have HF : Hid (WErr op w3 (.iface 63 (.pointer (some ⟨F, 0, none⟩))) (D i).id (coF σ D i)) := Lib.hid (by rw [hidd, eco]; exact Or.inr ⟨F, x, d, rfl, k1, k2, k3, k4, k5, k6⟩)
          have hne : coF σ D i ≠ 0 := by omega
          clear eco b0 b1 b2 b3 zb G3 g3 hidd k1 k2 k3 k4 k5 k6
          go_wp2_with fail
          go_ret
          exact ⟨⟨_, rfl, Or.inr ⟨i, op, hlt, HC.out, hne, HF.out⟩⟩, HG3.out⟩
    · obtain rfl : n = i := by omega
      have ti : decide ((n : Int) < (n : Int)) = false := decide_eq_false (by omega)
      have ti2 : decide (n < n) = false := decide_eq_false (by omega)
      clear hk hlt
      go_wp2_with fail
      go_ret
      exact ⟨⟨_, rfl, Or.inl ⟨HC.out, rfl⟩⟩, HG.out⟩
end Go.Proofs.YtapfecmdfoobcaaGreatDoor
