/- the library's Compact at points -/
import Derived.Test.YtogflfepkddbhaaDoorYm
namespace Go.Proofs.YtogflfepkddbhaaDoor
set_option linter.unusedVariables false
open Go.ChangeShapes Go.WideShapes Go.ChangeAt Go.RowKit Go.Sort

theorem arr_get (d : Array Hp.Pt) (i : Nat) (hi : i < d.size) : d.toList.getD i (0, 0) = d[i]! := by
  rw [getElem!_pos d i hi]
  simp [List.getD_eq_getElem?_getD, hi]
theorem arr_set (d : Array Hp.Pt) (i : Nat) (p : Hp.Pt) : d.toList.set i p = (d.setIfInBounds i p).toList := by simp
set_option maxHeartbeats 8000000 in
set_option maxRecDepth 100000 in
theorem c_CompP {g cap n : Nat} {l : List Hp.Pt} (W0 W : World) (G0 : Gr W0 W) (h : OwnP W W0.heap.size (.slice (some ⟨g, 0, none⟩) n cap) l) (hl : n ≤ 1000) (h1 : 1 ≤ n) :
    Calls Tryd.prog 30 #[.slice (some ⟨g, 0, none⟩) n cap] W fun e w' => ∃ k, e = .returned (.slice (some ⟨g, 0, none⟩) k cap) ∧ OwnP w' W0.heap.size (.slice (some ⟨g, 0, none⟩) k cap) (Hp.cmpc l) ∧ Gr W0 w' := by
  obtain ⟨hb, hg, hn, hnc⟩ := ownP_blk h
  have hc9 : (cap : Int) ≤ 9223372036854775807 := by
    obtain ⟨g', cap', e, -, -, -, k⟩ := ownP_form h (by omega)
    cases e; exact k
  have hni : (n : Int) ≤ 1000 := by omega
  have HN := Lib.hid hn
  have HO := Lib.hid h
  have HG := Lib.hid G0
  clear hn h G0
  by_cases h2 : n < 2
  · have t1 : decide ((n : Int) < 2) = true := decide_eq_true (by omega)
    have t2 : (n : Int) < 2 := by omega
    go_enter Tryd.func30, Tryd.ntmps30
    go_wp2_with fail
    go_ret
    refine ⟨n, rfl, ?_, HG.out⟩
    have e : Hp.cmpc l = l := by
      have := HN.out
      match l, this with
      | [], _ => rfl
      | [p], _ => rfl
      | p :: q :: r, e => simp at e; omega
    rw [e]; exact HO.out
  have t1 : decide ((n : Int) < 2) = false := decide_eq_false (by omega)
  have t2 : ¬ (n : Int) < 2 := by omega
  go_enter Tryd.func30, Tryd.ntmps30
  go_wp2_with fail
  go_loopg [3] n (fun gk s3 wr => ∃ k : Nat, s3 = .int .i64 k ∧ 1 ≤ k ∧ k ≤ n ∧ n - k ≤ gk ∧ (∀ j, j < k → Lib.keeps l.toArray j = true) ∧ Gr W wr)
  case atStart => exact ⟨1, rfl, Nat.le_refl _, by omega, by omega, Lib.keeps_lt_one _, by go_grown⟩
  case round =>
    obtain ⟨k, rfl, hk1, hk, hgk, hall, gwr⟩ := hrel
    have HALL := Lib.hid hall
    clear hall
    by_cases hlt : k < n
    · have ti : decide ((k : Int) < (n : Int)) = true := decide_eq_true (by omega)
      have ti2 : decide (k < n) = true := decide_eq_true hlt
      have ti3 : (k : Int) < (n : Int) := by omega
      obtain ⟨p, hp⟩ : ∃ p, k = p + 1 := ⟨k - 1, by omega⟩
      have ep : (k : Int) - 1 = (p : Int) := by omega
      have hpn : (p : Int) < (n : Int) := by omega
      obtain ⟨a0, a1, -, -⟩ := hk_cells HO.out (show k < l.length by have := HN.out; omega)
      obtain ⟨b0, b1, -, -⟩ := hk_cells HO.out (show p < l.length by have := HN.out; omega)
      have c0 := cell_gr gwr a0
      have c1 := cell_gr gwr a1
      have d0 := cell_gr gwr b0
      have d1 := cell_gr gwr b1
      have hx : l.toArray[k]! = l.getD k (0, 0) := toArray_get l k (by have := HN.out; omega)
      have hy : l.toArray[k - 1]! = l.getD p (0, 0) := by rw [hp, Nat.add_sub_cancel]; exact toArray_get l p (by have := HN.out; omega)
      have E := eqPt2 (l.getD k (0, 0)).1 (l.getD k (0, 0)).2 (l.getD p (0, 0)).1 (l.getD p (0, 0)).2
      have hq : (decide ((l.getD k (0, 0)).1 = (l.getD p (0, 0)).1) && decide ((l.getD k (0, 0)).2 = (l.getD p (0, 0)).2)) = true ↔ l.toArray[k]! = l.toArray[k - 1]! := by
        rw [hx, hy, Bool.and_eq_true, decide_eq_true_eq, decide_eq_true_eq, Prod.ext_iff]
      have HQ := Lib.hid hq
      have HP := Lib.hid hp
      clear hq hx hy a0 a1 b0 b1 hp
      generalize (decide ((l.getD k (0, 0)).1 = (l.getD p (0, 0)).1) && decide ((l.getD k (0, 0)).2 = (l.getD p (0, 0)).2)) = q at E HQ
      generalize (l.getD k (0, 0)).1 = kx at c0 E
      generalize (l.getD k (0, 0)).2 = ky at c1 E
      generalize (l.getD p (0, 0)).1 = px at d0 E
      generalize (l.getD p (0, 0)).2 = py at d1 E
      have hmm : n - (k + 1) < gk := by omega
      cases q
      · have HNE := Lib.hid (show ¬ l.toArray[k]! = l.toArray[k - 1]! from fun e => by cases HQ.out.2 e)
        clear HQ
        go_wp2_with fail
        refine wp_region_spread (by kernel_rfl) (by kernel_rfl) ?_
        try simp only [List.append]
        repeat (first | go_big_quiet_skip | (go_big_quiet_want; go_big_quiet_op; (first | go_big_quiet_on | (apply Exists.intro; refine ⟨fun _ => ?_, ?_⟩; (· fail); go_big_quiet_on))))
        refine wpQuiet_nil ?_
        intro w1 hhw1
        have hw1 := Hd.gr_of_spread hhw1
        have gw1 : Gr W w1 := Gr.trans (by have gg := gwr; have gs := gg.size; go_grown) hw1
        clear hw1 hhw1 gwr
        go_wp2_with fail
        go_roundg (n - (k + 1))
        case measure => exact hmm
        case rel =>
          refine ⟨k + 1, by go_num, by omega, hlt, by omega, fun j hj => ?_, gw1⟩
          rcases Nat.lt_succ_iff_lt_or_eq.1 hj with h | rfl
          · exact HALL.out j h
          · exact Lib.keeps_pos HNE.out
      · have HEQ := Lib.hid (HQ.out.1 rfl)
        clear HQ
        go_wp2_with fail
        refine wp_region_spread (by kernel_rfl) (by kernel_rfl) ?_
        try simp only [List.append]
        repeat (first | go_big_quiet_skip | (go_big_quiet_want; go_big_quiet_op; (first | go_big_quiet_on | (apply Exists.intro; refine ⟨fun _ => ?_, ?_⟩; (· fail); go_big_quiet_on))))
        refine wpQuiet_nil ?_
        intro w1 hhw1
        have hw1 := Hd.gr_of_spread hhw1
        have gw1 : Gr W w1 := Gr.trans (by have gg := gwr; have gs := gg.size; go_grown) hw1
        clear hw1 hhw1 gwr
        go_wp2_with fail
        clear c0 c1 d0 d1 E
        obtain ⟨wo, rfl⟩ : ∃ wo : World, wo = w1 := ⟨_, rfl⟩
        go_loopg [3, 5] n (fun gk s3 s5 wr => ∃ (kk k2 : Nat) (dk : Array Hp.Pt), s3 = .int .i64 kk ∧ s5 = .int .i64 k2 ∧ 1 ≤ k2 ∧ k + k2 ≤ n ∧ n - (k + k2) ≤ gk ∧ OwnP wr W0.heap.size (.slice (some ⟨g, 0, none⟩) n cap) dk.toList ∧ Lib.CompInv l.toArray (k + k2) kk dk ∧ Gr W0 wr)
        case atStart => exact ⟨k, 1, l.toArray, rfl, rfl, Nat.le_refl _, by omega, by omega, by simpa using ownP_gr HO.out gw1, Lib.CompInv.start HALL.out (Lib.keeps_neg (by omega) HEQ.out), Gr.trans HG.out gw1⟩
        case round =>
          obtain ⟨kk, k2, dk, rfl, rfl, hk2, hkk, hgk2, hO, hI, G⟩ := hrel
          have hds : dk.size = n := by rw [hI.size]; simpa using HN.out.symm
          have hkl := hI.lt
          have HO2 := Lib.hid hO
          have HI := Lib.hid hI
          have HD := Lib.hid hds
          clear hO hI hds
          by_cases hlt2 : k + k2 < n
          · have tj : decide ((k2 : Int) < ((n - k : Nat) : Int)) = true := decide_eq_true (by omega)
            have tj2 : decide (k2 < n - k) = true := decide_eq_true (by omega)
            have tj3 : (k2 : Int) < ((n - k : Nat) : Int) := by omega
            obtain ⟨p2, hp2⟩ : ∃ p2, k2 = p2 + 1 := ⟨k2 - 1, by omega⟩
            have ep2 : (k2 : Int) - 1 = (p2 : Int) := by omega
            have hpn2 : (p2 : Int) < ((n - k : Nat) : Int) := by omega
            have sz : ∀ i, i < n → i < dk.toList.length := fun i hi => by simpa [HD.out] using hi
            obtain ⟨c0, c1, -, -⟩ := hk_cells HO2.out (sz (k + k2) hlt2)
            obtain ⟨d0, d1, -, -⟩ := hk_cells HO2.out (sz (k + p2) (by omega))
            obtain ⟨e0, e1, f0, f1⟩ := hk_cells HO2.out (sz kk (by omega))
            rw [arr_get dk _ (by rw [HD.out]; exact hlt2), HI.out.high (k + k2) (by omega)] at c0 c1
            rw [arr_get dk _ (by rw [HD.out]; omega), HI.out.high (k + p2) (by omega)] at d0 d1
            rw [show (k + k2) * 2 = k * 2 + k2 * 2 by omega] at c0 c1
            rw [show (k + p2) * 2 = k * 2 + p2 * 2 by omega] at d0 d1
            have E := nePt l.toArray[k + k2]!.1 l.toArray[k + k2]!.2 l.toArray[k + p2]!.1 l.toArray[k + p2]!.2
            have hq : (!(decide (l.toArray[k + k2]!.1 = l.toArray[k + p2]!.1) && decide (l.toArray[k + k2]!.2 = l.toArray[k + p2]!.2))) = false ↔ l.toArray[k + k2]! = l.toArray[k + k2 - 1]! := by
              rw [show k + k2 - 1 = k + p2 by omega, Bool.not_eq_false', Bool.and_eq_true, decide_eq_true_eq, decide_eq_true_eq, Prod.ext_iff]
            have HQ := Lib.hid hq
            have HP2 := Lib.hid hp2
            have hsize : k + k2 < l.toArray.size := by have := HN.out; simp; omega
            have HSZ := Lib.hid hsize
            generalize (!(decide (l.toArray[k + k2]!.1 = l.toArray[k + p2]!.1) && decide (l.toArray[k + k2]!.2 = l.toArray[k + p2]!.2))) = q at E HQ
            obtain ⟨u, eu⟩ : ∃ u, u = l.toArray[k + k2]! := ⟨_, rfl⟩
            rw [← eu] at c0 c1 E
            have HU := Lib.hid eu
            generalize l.toArray[k + p2]!.1 = vx at d0 E
            generalize l.toArray[k + p2]!.2 = vy at d1 E
            generalize (dk.toList.getD kk (0, 0)).1 = ox at e0
            generalize (dk.toList.getD kk (0, 0)).2 = oy at e1
            obtain ⟨ux, eux⟩ : ∃ x, x = u.1 := ⟨_, rfl⟩
            obtain ⟨uy, euy⟩ : ∃ x, x = u.2 := ⟨_, rfl⟩
            rw [← eux] at c0 E
            rw [← euy] at c1 E
            have HUX := Lib.hid (And.intro eux euy)
            have hmm2 : n - (k + (k2 + 1)) < gk := by omega
            have tkk : (kk : Int) < (n : Int) := by omega
            clear hq hp2 eu eux euy hsize
            have hG := G
            cases q
            · have HEQ2 := Lib.hid (HQ.out.1 rfl)
              clear HQ
              have gwr := hG
              go_wp2_with fail
              refine wp_region_spread (by kernel_rfl) (by kernel_rfl) ?_
              try simp only [List.append]
              repeat (first | go_big_quiet_skip | (go_big_quiet_want; go_big_quiet_op; (first | go_big_quiet_on | (apply Exists.intro; refine ⟨fun _ => ?_, ?_⟩; (· fail); go_big_quiet_on))))
              refine wpQuiet_nil ?_
              intro w2 hhw2
              have hw2 := Hd.gr_of_spread hhw2
              have gw2 : Gr W0 w2 := Gr.trans (by have gg := gwr; have gs := gg.size; go_grown) hw2
              have Kw2 := Lib.hid hw2
              clear hw2 hhw2 gwr
              go_wp2_with fail
              go_roundg (n - (k + (k2 + 1)))
              case measure => exact hmm2
              case rel => exact ⟨kk, k2 + 1, dk, rfl, by go_num, by omega, by omega, Nat.le_refl _, ownP_gr HO2.out Kw2.out, HI.out.skip (Lib.keeps_neg (by omega) HEQ2.out), gw2⟩
            · have HNE2 := Lib.hid (show ¬ l.toArray[k + k2]! = l.toArray[k + k2 - 1]! from fun e => by cases HQ.out.2 e)
              clear HQ
              have gwr := hG
              go_wp2_with fail
              refine wp_region_spread (by kernel_rfl) (by kernel_rfl) ?_
              try simp only [List.append]
              repeat (first | go_big_quiet_skip | (go_big_quiet_want; go_big_quiet_op; (first | go_big_quiet_on | (apply Exists.intro; refine ⟨fun _ => ?_, ?_⟩; (· fail); go_big_quiet_on))))
              refine wpQuiet_nil ?_
              intro w2 hhw2
              have hw2 := Hd.gr_of_spread hhw2
              have gw2 : Gr W0 w2 := Gr.trans (by have gg := gwr; have gs := gg.size; go_grown) hw2
              have Kw2 := Lib.hid hw2
              clear hw2 hhw2 gwr
              have c0' := cell_gr Kw2.out c0
              have c1' := cell_gr Kw2.out c1
              have e0' := cell_gr Kw2.out e0
              have e1' := cell_gr Kw2.out e1
              have f0' := frozen_gr Kw2.out e0 f0
              have f1' := frozen_gr Kw2.out e1 f1
              clear c0 c1 d0 d1 e0 e1 f0 f1
              go_wp2_with fail
              go_roundg (n - (k + (k2 + 1)))
              case measure => exact hmm2
              case rel =>
                refine ⟨kk + 1, k2 + 1, dk.setIfInBounds kk u, by go_num, by go_num, by omega, by omega, Nat.le_refl _, ?_, ?_, ?_⟩
                · rw [← arr_set]
                  have := ownP_set (ownP_gr HO2.out Kw2.out) kk u
                  rw [← HUX.out.1, ← HUX.out.2] at this
                  exact this
                · have := HI.out.keep HSZ.out (Lib.keeps_pos HNE2.out)
                  rwa [← HU.out] at this
                · exact (gw2.setCell (p := ⟨g, kk * 2, none⟩) hb _).setCell (p := ⟨g, kk * 2 + 1, none⟩) hb _
          · have tj : decide ((k2 : Int) < ((n - k : Nat) : Int)) = false := decide_eq_false (by omega)
            have tj2 : decide (k2 < n - k) = false := decide_eq_false (by omega)
            have tj3 : ¬ (k2 : Int) < ((n - k : Nat) : Int) := by omega
            have hend : k + k2 = n := by omega
            have hkn : (kk : Int) < (n : Int) := by omega
            have hkn2 : (kk : Int) ≤ (n : Int) := by omega
            have hkn3 : kk ≤ cap := by omega
            have HCLE : ∀ ty, ∃ vs, (Builtin.clear_ #[22] ty #[.slice (some ⟨g, kk * 2, none⟩) (n - kk) (cap - kk)]).run Tryd.prog wr = .ok (.tuple #[]) (wr.setCells g (kk * 2) vs) := fun ty => by
              have H := HO2.out
              obtain ⟨-, -, e, -⟩ := ownP_blk H
              have hL : dk.toList.length = n := e.symm
              unfold OwnP at H
              rw [← e] at H
              refine run_clearP wr ty g (kk * 2) (n - kk) (cap - kk) (fun j hj => ?_) (fun j hj => H.frozenAt _)
              rw [H.cellAt (kk * 2 + j) (by omega), List.getElem?_eq_getElem (by rw [rowL_len]; omega)]; rfl
            obtain ⟨vs, hvs⟩ : ∃ vs : List Value, ∀ ty, (Builtin.clear_ #[22] ty #[.slice (some ⟨g, kk * 2, none⟩) (n - kk) (cap - kk)]).run Tryd.prog wr = .ok (.tuple #[]) (wr.setCells g (kk * 2) vs) := by
              obtain ⟨vs, h⟩ := HCLE 0
              exact ⟨vs, fun ty => h⟩
            have HE := Lib.hid hend
            clear HCLE hend
            go_wp2_with fail
            go_ret
            have hI := HI.out
            rw [HE.out] at hI
            have hlen := hI.len
            have H3 := ownP_take HO2.out kk (by have := HD.out; simp; omega)
            have e3 : dk.toList.take kk = Hp.cmpc l := by
              rw [← List.take_length (l := l), ← HN.out, ← cmp_upto l n (by have := HN.out; omega)]
              apply List.ext_getElem?
              intro j
              by_cases hj : j < kk
              · rw [List.getElem?_take, if_pos hj, hI.low j hj, getElem!_pos dk j (by rw [HD.out]; omega)]
                simp [show j < dk.size by rw [HD.out]; omega]
              · rw [List.getElem?_take, if_neg hj, List.getElem?_eq_none (by omega)]
            rw [e3] at H3
            refine ⟨kk, rfl, ?_, gr_setCells hb _ _ _ G⟩
            obtain ⟨-, -, e4, -⟩ := ownP_blk H3
            unfold OwnP at H3 ⊢
            rw [← e4] at H3 ⊢
            exact own_setCells vs wr (kk * 2) H3 (by rw [rowL_len, ← e4]; exact Nat.le_refl _)
    · obtain rfl : n = k := by omega
      have ti : decide ((n : Int) < (n : Int)) = false := decide_eq_false (by omega)
      have ti2 : decide (n < n) = false := decide_eq_false (by omega)
      clear hlt
      go_wp2_with fail
      go_ret
      refine ⟨n, rfl, ?_, Gr.trans HG.out gwr⟩
      have e : Hp.cmpc l = l := by
        have e1 := cmp_upto l n (by have := HN.out; omega)
        rw [Lib.compactUpTo_all _ _ HALL.out, HN.out, List.take_length] at e1
        rw [← e1]
        have := Lib.range_map_get l.toArray
        simpa using this
      rw [e]; exact ownP_gr HO.out gwr
end Go.Proofs.YtogflfepkddbhaaDoor
