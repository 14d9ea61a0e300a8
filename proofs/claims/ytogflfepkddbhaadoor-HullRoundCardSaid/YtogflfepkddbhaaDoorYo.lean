/- hull.chain: the way from the first point to the last -/
import Derived.Test.YtogflfepkddbhaaDoorYn
import Derived.WalkSmall
namespace Go.Proofs.YtogflfepkddbhaaDoor
set_option linter.unusedVariables false
open Go.ChangeShapes Go.WideShapes Go.ChangeAt Go.RowKit Go.Sort

theorem rev2_at (b a : Hp.Pt) (r : List Hp.Pt) : (b :: a :: r).reverse.getD r.length (0, 0) = a ∧ (b :: a :: r).reverse.getD (r.length + 1) (0, 0) = b := by
  simp only [List.reverse_cons, List.append_assoc, List.getD_eq_getElem?_getD]
  constructor
  · rw [List.getElem?_append_right (by simp)]; simp
  · rw [List.getElem?_append_right (by simp)]; simp
theorem rev_take (b : Hp.Pt) (r : List Hp.Pt) : (b :: r).reverse.take r.length = r.reverse := by
  rw [List.reverse_cons, List.take_append_of_le_length (by simp), List.take_of_length_le (by simp)]
theorem near_cz {a b c : Hp.Pt} (h1 : nearB a.1 a.2 = true) (h2 : nearB b.1 b.2 = true) (h3 : nearB c.1 c.2 = true) : crossZ a.1 a.2 b.1 b.2 c.1 c.2 = Hp.cz a b c := by
  unfold crossZ; rw [h1, h2, h3]; rfl
theorem popS_one {p : Hp.Pt} : ∀ {st : List Hp.Pt}, st.length ≤ 1 → Hp.popS p st = st
  | [], _ => rfl
  | [q], _ => rfl
  | a :: b :: r, h => by simp at h
theorem popS_stop {p b a : Hp.Pt} {r : List Hp.Pt} (h : 0 < Hp.cz a b p) : Hp.popS p (b :: a :: r) = b :: a :: r := by unfold Hp.popS; rw [if_pos h]
theorem popS_go {p b a : Hp.Pt} {r : List Hp.Pt} (h : ¬ 0 < Hp.cz a b p) : Hp.popS p (b :: a :: r) = Hp.popS p (a :: r) := by
  conv => lhs; unfold Hp.popS
  rw [if_neg h]
theorem drop_at (l : List Hp.Pt) (i : Nat) (h : i < l.length) : l.drop i = l.getD i (0, 0) :: l.drop (i + 1) := by
  rw [List.drop_eq_getElem_cons h]; simp [List.getD_eq_getElem?_getD, h]
theorem own_n {w : World} {base g L c : Nat} {l : List Hp.Pt} (h : OwnP w base (.slice (some ⟨g, 0, none⟩) L c) l) : w.ownsRow base 30 2 (.slice (some ⟨g, 0, none⟩) L c) L (rowL l) := by
  obtain ⟨-, -, e, -⟩ := ownP_blk h
  unfold OwnP at h
  rw [← e] at h
  exact h
set_option maxHeartbeats 20000000 in
set_option maxRecDepth 100000 in
theorem c_chainP {v : Value} {l : List Hp.Pt} {n : Nat} (W : World) (h : Pts W v n (fX l) (fY l)) (en : n = l.length) (hl : n ≤ 1000) (hnr : ∀ p ∈ l, nearB p.1 p.2 = true) :
    Calls Tryd.prog 31 #[v] W fun e w' => ∃ g c k, e = .returned (.slice (some ⟨g, 0, none⟩) k c) ∧ OwnP w' W.heap.size (.slice (some ⟨g, 0, none⟩) k c) (Hp.chain l) ∧ Gr W w' := by
  obtain ⟨i0, hi0, hz0, hz1, hz2⟩ := info_parts (P := Tryd.prog) (e := 30) (z := zP) (size := 2) (bytes := 16) (by kernel_rfl)
  have HI := Lib.hid (And.intro hi0 (And.intro hz0 (And.intro hz1 hz2)))
  obtain ⟨ad, cap, B, off, rfl, h2, h3, h4, h5⟩ := h
  have h3i : (cap : Int) ≤ 9223372036854775807 := by omega
  have hni : (n : Int) ≤ 1000 := by omega
  have HN := Lib.hid en
  have HX := Lib.hid h5
  have HA := Lib.hid h4
  have HNR := Lib.hid hnr
  clear hi0 hz0 hz1 hz2 en h4 h5 hnr
  go_enter Tryd.func31, Tryd.ntmps31
  go_wp2_with fail
  go_loopg [3, 10] n (fun gk s3 s10 wr => ∃ (i : Nat) (st : List Hp.Pt) (g c L : Nat), s3 = .slice (some ⟨g, 0, none⟩) L c ∧ s10 = .int .i64 i ∧ i ≤ n ∧ gk = n - i ∧ OwnP wr W.heap.size (.slice (some ⟨g, 0, none⟩) L c) st.reverse ∧ Hp.chS st (l.drop i) = Hp.chS [] l ∧ (∀ q ∈ st, q ∈ l) ∧ st.length ≤ i ∧ Gr W wr)
  case atStart =>
    exact ⟨0, [], W.heap.size, 0, 0, rfl, rfl, Nat.zero_le _, rfl, World.ownsRow_made W #[] 0 (Nat.le_refl _) (Nat.zero_le _) (by simp), by rw [List.drop_zero], fun q hq => by simp at hq, Nat.le_refl _, by go_grown⟩
  case round =>
    obtain ⟨i, st, g, c, L, rfl, rfl, hi, hgk, hO, hch, hmem, hsi, hg⟩ := hrel
    by_cases hin : i < n
    · have ti : decide ((i : Int) < (n : Int)) = true := decide_eq_true (by omega)
      have ti2 : decide (i < n) = true := decide_eq_true hin
      have ti3 : (i : Int) < (n : Int) := by omega
      have hmm : n - (i + 1) < gk := by omega
      obtain rfl := HA.out (by omega)
      obtain ⟨k0, k1⟩ := HX.out i hin
      have p0 := cell_gr hg k0
      have p1 := cell_gr hg k1
      have zB := World.block_lt_of_cell? _ _ p0
      obtain ⟨p, ep⟩ : ∃ p, p = l.getD i (0, 0) := ⟨_, rfl⟩
      have hpl : p ∈ l := by rw [ep]; exact Hp.getD_mem l i (by have := HN.out; omega)
      have e0 : fX l i = p.1 := by rw [ep]; rfl
      have e1 : fY l i = p.2 := by rw [ep]; rfl
      rw [e0] at p0
      rw [e1] at p1
      have hstep : Hp.chS st (l.drop i) = Hp.chS (p :: Hp.popS p st) (l.drop (i + 1)) := by
        rw [drop_at l i (by have := HN.out; omega), ← ep]; rfl
      rw [hstep] at hch
      obtain ⟨px, epx⟩ : ∃ x, x = p.1 := ⟨_, rfl⟩
      obtain ⟨py, epy⟩ : ∃ x, x = p.2 := ⟨_, rfl⟩
      rw [← epx] at p0
      rw [← epy] at p1
      have HPX := Lib.hid (And.intro epx epy)
      have HCH := Lib.hid hch
      have HPL := Lib.hid hpl
      obtain ⟨m0, em0⟩ : ∃ m, m = 2 * st.length + 1 := ⟨_, rfl⟩
      have HM0 := Lib.hid em0
      have HO := Lib.hid hO
      have HME := Lib.hid hmem
      have HSI := Lib.hid hsi
      have hL : L = st.length := by have := (ownP_blk hO).2.2.1; simpa using this
      have HL := Lib.hid hL
      clear k0 k1 ep e0 e1 hstep epx epy hch hpl em0 hgk hO hmem hsi hL
      go_wp2_with fail
      obtain ⟨wo, ewo⟩ : ∃ wo : World, wo = wr := ⟨_, rfl⟩
      rw [← ewo] at HO hg p0 p1 zB ⊢
      clear ewo
      go_loopg [3, 6] m0 (fun gk s3 s6 wr => ∃ (st' : List Hp.Pt) (g c L b : Nat) (cb : Bool), s3 = .slice (some ⟨g, 0, none⟩) L c ∧ s6 = .bool cb ∧ gk = 2 * L + b ∧ L = st'.length ∧ (cb = false → b = 1) ∧ (cb = true → b = 0) ∧
        OwnP wr W.heap.size (.slice (some ⟨g, 0, none⟩) L c) st'.reverse ∧ Hp.popS p st' = Hp.popS p st ∧ (cb = true → Hp.popS p st' = st') ∧ (∀ q ∈ st', q ∈ l) ∧ L ≤ i ∧ wr.cell? ⟨wo.heap.size, 0, none⟩ = some (.int .i64 px) ∧ wr.cell? ⟨wo.heap.size, 1, none⟩ = some (.int .i64 py) ∧ Gr W wr)
      case atStart => exact ⟨st, g, c, L, 1, false, rfl, rfl, by rw [HM0.out, HL.out], HL.out, fun _ => rfl, fun h => (by cases h), ownP_gr HO.out (by go_grown), rfl, fun h => (by cases h), HME.out, by rw [HL.out]; exact HSI.out, by go_simp, by go_simp, by have gs := hg.size; go_grown⟩
      case round =>
        obtain ⟨st', g, c, L, b, cb, rfl, rfl, hgk, hL, hb1, hb0, hO2, hpop, hfix, hme2, hLi, q0, q1, G⟩ := hrel
        have hLi2 : (L : Int) ≤ 1000 := by omega
        have zq := World.block_lt_of_cell? _ _ q0
        have HO2 := Lib.hid hO2
        have HME2 := Lib.hid hme2
        have HPOP := Lib.hid hpop
        have HFIX := Lib.hid hfix
        have HLL := Lib.hid hL
        have hblk := ownP_blk hO2
        have hcc : (c : Int) ≤ 9223372036854775807 := by
          rcases hO2.2 with ⟨e, -⟩ | ⟨g', c', cur, e, -, -, -, k, -⟩
          · cases e
          · cases e; unfold maxLen at k; omega
        have hgW := hblk.1
        have hLc := hblk.2.2.2
        clear hO2 hme2 hpop hfix hblk hL
        cases cb
        · have hb : b = 1 := hb1 rfl
          by_cases hL1 : 1 < L
          · have u1 : decide ((1 : Int) < (L : Int)) = true := decide_eq_true (by omega)
            have u2 : decide (1 < L) = true := decide_eq_true hL1
            have u3 : (1 : Int) < (L : Int) := by omega
            obtain ⟨bp, ap, r, est⟩ : ∃ bp ap r, st' = bp :: ap :: r := by
              have := HLL.out
              match st', this with
              | bp :: ap :: r, _ => exact ⟨bp, ap, r, rfl⟩
              | [_], e => simp at e; omega
              | [], e => simp at e; omega
            obtain ⟨m, em⟩ : ∃ m, m = r.length := ⟨_, rfl⟩
            have hLm : L = m + 2 := by rw [HLL.out, est, em]; rfl
            obtain ⟨q, eq⟩ : ∃ q, q = m + 1 := ⟨_, rfl⟩
            have f1 : (L : Int) - 2 = (m : Int) := by omega
            have f2 : (L : Int) - 1 = (q : Int) := by omega
            have f3 : (m : Int) < (L : Int) := by omega
            have f4 : (q : Int) < (L : Int) := by omega
            have f5 : (q : Int) ≤ (c : Int) := by omega
            have hlen : st'.reverse.length = L := by simp [HLL.out]
            obtain ⟨a0, a1, -, -⟩ := hk_cells HO2.out (show m < st'.reverse.length by omega)
            obtain ⟨b0, b1, -, -⟩ := hk_cells HO2.out (show q < st'.reverse.length by omega)
            have r2 := rev2_at bp ap r
            have ga : st'.reverse.getD m (0, 0) = ap := by rw [est, em]; exact r2.1
            have gb : st'.reverse.getD q (0, 0) = bp := by rw [est, eq, em]; exact r2.2
            rw [ga] at a0 a1
            rw [gb] at b0 b1
            have OR := fun w => c_Orient ap.1 ap.2 bp.1 bp.2 px py w
            have hn1 := HNR.out ap (HME2.out ap (by rw [est]; simp))
            have hn2 := HNR.out bp (HME2.out bp (by rw [est]; simp))
            have hn3 := HNR.out p HPL.out
            have hcz : crossZ ap.1 ap.2 bp.1 bp.2 px py = Hp.cz ap bp p := by rw [HPX.out.1, HPX.out.2]; exact near_cz hn1 hn2 hn3
            rw [hcz] at OR
            have HEST := Lib.hid (And.intro est (And.intro em (And.intro hLm eq)))
            clear hcz hn1 hn2 hn3 r2 ga gb est em hLm eq hlen
            generalize ap.1 = ax at a0 OR
            generalize ap.2 = ay at a1 OR
            generalize bp.1 = bx at b0 OR
            generalize bp.2 = by' at b1 OR
            have hm1 : 2 * L + 0 < gk := by omega
            have hm2 : 2 * q + 1 < gk := by omega
            by_cases hc : 0 < Hp.cz ap bp p
            · have ez : cmpZ (Hp.cz ap bp p) 0 = 1 := cmpZ_gt hc
              rw [ez] at OR
              have HC := Lib.hid hc
              have H1 := Lib.hid OR
              clear OR ez hc
              have gwr := G
              go_wp2_with fail
              refine wp_region_spread (by kernel_rfl) (by kernel_rfl) ?_
              try simp only [List.append]
              repeat (first | go_big_quiet_skip | (go_big_quiet_want; go_big_quiet_op; (first | go_big_quiet_on | (apply Exists.intro; refine ⟨fun _ => ?_, ?_⟩; (· (first | (go_at_call 35; first | ((with_reducible refine ((H1.out _)).mono ?_); rintro e w' ⟨rfl, hg⟩; exact ⟨rfl, spread_gr hg⟩)))); go_big_quiet_on))))
              refine wpQuiet_nil ?_
              intro w1 hhw1
              have hw1 := Hd.gr_of_spread hhw1
              have gw1 : Gr W w1 := Gr.trans (by have gg := gwr; have gs := gg.size; go_grown) hw1
              have Kw1 := Lib.hid hw1
              clear hw1 hhw1 gwr
              go_wp2_with fail
              go_roundg (2 * L + 0)
              case measure => exact hm1
              case rel => exact ⟨st', g, c, L, 0, true, rfl, rfl, rfl, HLL.out, fun h => (by cases h), fun _ => rfl, ownP_gr HO2.out Kw1.out, HPOP.out, fun _ => by rw [HEST.out.1]; exact popS_stop HC.out, HME2.out, hLi, cell_gr Kw1.out q0, cell_gr Kw1.out q1, gw1⟩
            · have HC := Lib.hid hc
              have hz : cmpZ (Hp.cz ap bp p) 0 = 0 ∨ cmpZ (Hp.cz ap bp p) 0 = -1 := by
                rcases Int.lt_trichotomy (Hp.cz ap bp p) 0 with h | h | h
                · exact .inr (cmpZ_lt h)
                · rw [h]; exact .inl (cmpZ_eq 0)
                · exact absurd h hc
              clear hc
              rcases hz with ez | ez
              · rw [ez] at OR
                have H1 := Lib.hid OR
                clear OR ez
                have gwr := G
                go_wp2_with fail
                refine wp_region_spread (by kernel_rfl) (by kernel_rfl) ?_
                try simp only [List.append]
                repeat (first | go_big_quiet_skip | (go_big_quiet_want; go_big_quiet_op; (first | go_big_quiet_on | (apply Exists.intro; refine ⟨fun _ => ?_, ?_⟩; (· (first | (go_at_call 35; first | ((with_reducible refine ((H1.out _)).mono ?_); rintro e w' ⟨rfl, hg⟩; exact ⟨rfl, spread_gr hg⟩)))); go_big_quiet_on))))
                refine wpQuiet_nil ?_
                intro w1 hhw1
                have hw1 := Hd.gr_of_spread hhw1
                have gw1 : Gr W w1 := Gr.trans (by have gg := gwr; have gs := gg.size; go_grown) hw1
                have Kw1 := Lib.hid hw1
                clear hw1 hhw1 gwr
                go_wp2_with fail
                go_roundg (2 * q + 1)
                case measure => exact hm2
                case rel =>
                  obtain ⟨est, em, hLm, eq⟩ := HEST.out
                  refine ⟨ap :: r, g, c, q, 1, false, rfl, rfl, rfl, by rw [eq, em]; rfl, fun _ => rfl, fun h => (by cases h), ?_, ?_, fun h => (by cases h), fun x hx => HME2.out x (by rw [est]; exact List.mem_cons_of_mem _ hx), by omega, cell_gr Kw1.out q0, cell_gr Kw1.out q1, gw1⟩
                  · have := ownP_take (ownP_gr HO2.out Kw1.out) q (by simp [← HLL.out]; omega)
                    rw [est] at this
                    have e : q = (ap :: r).length := by rw [eq, em]; rfl
                    rw [e, rev_take] at this
                    rw [e]; exact this
                  · rw [← HPOP.out, est]; exact (popS_go (by have := HC.out; omega)).symm
              · rw [ez] at OR
                have H1 := Lib.hid OR
                clear OR ez
                have gwr := G
                go_wp2_with fail
                refine wp_region_spread (by kernel_rfl) (by kernel_rfl) ?_
                try simp only [List.append]
                repeat (first | go_big_quiet_skip | (go_big_quiet_want; go_big_quiet_op; (first | go_big_quiet_on | (apply Exists.intro; refine ⟨fun _ => ?_, ?_⟩; (· (first | (go_at_call 35; first | ((with_reducible refine ((H1.out _)).mono ?_); rintro e w' ⟨rfl, hg⟩; exact ⟨rfl, spread_gr hg⟩)))); go_big_quiet_on))))
                refine wpQuiet_nil ?_
                intro w1 hhw1
                have hw1 := Hd.gr_of_spread hhw1
                have gw1 : Gr W w1 := Gr.trans (by have gg := gwr; have gs := gg.size; go_grown) hw1
                have Kw1 := Lib.hid hw1
                clear hw1 hhw1 gwr
                go_wp2_with fail
                go_roundg (2 * q + 1)
                case measure => exact hm2
                case rel =>
                  obtain ⟨est, em, hLm, eq⟩ := HEST.out
                  refine ⟨ap :: r, g, c, q, 1, false, rfl, rfl, rfl, by rw [eq, em]; rfl, fun _ => rfl, fun h => (by cases h), ?_, ?_, fun h => (by cases h), fun x hx => HME2.out x (by rw [est]; exact List.mem_cons_of_mem _ hx), by omega, cell_gr Kw1.out q0, cell_gr Kw1.out q1, gw1⟩
                  · have := ownP_take (ownP_gr HO2.out Kw1.out) q (by simp [← HLL.out]; omega)
                    rw [est] at this
                    have e : q = (ap :: r).length := by rw [eq, em]; rfl
                    rw [e, rev_take] at this
                    rw [e]; exact this
                  · rw [← HPOP.out, est]; exact (popS_go (by have := HC.out; omega)).symm
          · have u1 : decide ((1 : Int) < (L : Int)) = false := decide_eq_false (by omega)
            have u2 : decide (1 < L) = false := decide_eq_false hL1
            have u3 : ¬ (1 : Int) < (L : Int) := by omega
            have HL1 := Lib.hid hL1
            clear hL1 hgk
            go_wp2_with (at_builtin; (refine wpList_append_own2 _ rfl (.tmp 46) (.tmp 48) 22 rfl W.heap.size 30 i0 zP 2 16 Tryd.underlying22 HI.out.1 HI.out.2.1 HI.out.2.2.1 HI.out.2.2.2 rfl (by decide) (.slice (some ⟨g, 0, none⟩) L c) L (rowL st'.reverse) rfl (World.ownsRow.alloc (own_n HO2.out) _) ⟨wr.heap.size, 0, none⟩ 1 1 [.int .i64 px, .int .i64 py] rfl rfl (cell_two_new _ _ _ _) (by intro u hu; (simp at hu); rcases hu with rfl | rfl <;> rfl) (by unfold maxLen; omega) (by omega) (by have := G.size; simp; omega) ?_); intro v3 w3 own3 gr3; obtain ⟨g3, c3, rfl, hb3, hlt3, hcc3, hcm3⟩ := row_form own3 (by omega); have O3 := Lib.hid own3; have G3 : Gr W w3 := gr3.gr (Gr.trans G ((Below.refl _ _).alloc (Nat.le_refl _) _)) (fun k hk => by cases hk; exact hgW); clear own3 gr3)
            go_roundg (n - (i + 1))
            case measure => exact hmm
            case rel =>
              have hfin : st' = Hp.popS p st := by rw [← HPOP.out]; exact (popS_one (by have := HL1.out; have := HLL.out; omega)).symm
              refine ⟨i + 1, p :: st', g3, c3, L + 1, rfl, by go_num, by omega, rfl, ?_, by rw [hfin]; exact HCH.out, ?_, by rw [List.length_cons, ← HLL.out]; omega, G3⟩
              · have := O3.out
                unfold OwnP
                have e : (p :: st').reverse.length = L + 1 := by simp [HLL.out]
                rw [e, List.reverse_cons, rowL_app]
                rw [HPX.out.1, HPX.out.2] at this
                exact this
              · intro q hq
                rcases List.mem_cons.1 hq with rfl | hq
                · exact HPL.out
                · exact HME2.out q hq
        · clear hgk
          go_wp2_with (at_builtin; (refine wpList_append_own2 _ rfl (.tmp 46) (.tmp 48) 22 rfl W.heap.size 30 i0 zP 2 16 Tryd.underlying22 HI.out.1 HI.out.2.1 HI.out.2.2.1 HI.out.2.2.2 rfl (by decide) (.slice (some ⟨g, 0, none⟩) L c) L (rowL st'.reverse) rfl (World.ownsRow.alloc (own_n HO2.out) _) ⟨wr.heap.size, 0, none⟩ 1 1 [.int .i64 px, .int .i64 py] rfl rfl (cell_two_new _ _ _ _) (by intro u hu; (simp at hu); rcases hu with rfl | rfl <;> rfl) (by unfold maxLen; omega) (by omega) (by have := G.size; simp; omega) ?_); intro v3 w3 own3 gr3; obtain ⟨g3, c3, rfl, hb3, hlt3, hcc3, hcm3⟩ := row_form own3 (by omega); have O3 := Lib.hid own3; have G3 : Gr W w3 := gr3.gr (Gr.trans G ((Below.refl _ _).alloc (Nat.le_refl _) _)) (fun k hk => by cases hk; exact hgW); clear own3 gr3)
          go_roundg (n - (i + 1))
          case measure => exact hmm
          case rel =>
            have hfin : st' = Hp.popS p st := by rw [← HPOP.out]; exact (HFIX.out (by first | trivial | rfl)).symm
            refine ⟨i + 1, p :: st', g3, c3, L + 1, rfl, by go_num, by omega, rfl, ?_, by rw [hfin]; exact HCH.out, ?_, by rw [List.length_cons, ← HLL.out]; omega, G3⟩
            · have := O3.out
              unfold OwnP
              have e : (p :: st').reverse.length = L + 1 := by simp [HLL.out]
              rw [e, List.reverse_cons, rowL_app]
              rw [HPX.out.1, HPX.out.2] at this
              exact this
            · intro q hq
              rcases List.mem_cons.1 hq with rfl | hq
              · exact HPL.out
              · exact HME2.out q hq
    · obtain rfl : n = i := by omega
      have ti : decide ((n : Int) < (n : Int)) = false := decide_eq_false (by omega)
      have ti2 : decide (n < n) = false := decide_eq_false (by omega)
      have HO := Lib.hid hO
      have HCH := Lib.hid hch
      clear hO hch hgk hin
      go_wp2_with fail
      go_ret
      refine ⟨g, c, L, rfl, ?_, hg⟩
      have e : Hp.chain l = st.reverse := by
        unfold Hp.chain
        rw [← HCH.out, List.drop_of_length_le (by have := HN.out; omega)]; rfl
      rw [e]; exact HO.out
end Go.Proofs.YtogflfepkddbhaaDoor
