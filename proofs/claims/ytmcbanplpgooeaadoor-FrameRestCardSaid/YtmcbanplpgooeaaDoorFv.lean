/- FrameTorn -/
import Derived.Test.YtmcbanplpgooeaaDoorFu
namespace Go.Proofs.YtmcbanplpgooeaaDoor
set_option linter.unusedVariables false
open Go.ChangeShapes Go.WideShapes Go.ChangeAt Go.RowKit

theorem kept_other {a w : World} {base n size : Nat} {e : TypeId} {x v v' : Value} {xs : List Value} (h : a.ownsRow base e size x n xs) (gr : Grown a w v v') (hn : ∀ k, x.ownBlock = some k → v.ownBlock ≠ some k) : w.ownsRow base e size x n xs ∧ ∀ k, x.ownBlock = some k → v'.ownBlock ≠ some k := by
  refine ⟨?_, fun k hk hk' => ?_⟩
  · refine World.ownsRow.kept h gr.1 ?_
    rcases hh : x.ownBlock with _ | k
    · exact Or.inl rfl
    · exact Or.inr (fun e => hn k hh e.symm)
  · rcases gr.2 k hk' with h1 | h1
    · exact hn k hk h1
    · rcases h.2 with ⟨rfl, -⟩ | ⟨g, cap, cur, rfl, hb, hg, -⟩
      · cases hk
      · simp [Value.ownBlock] at hk
        have := (Array.getElem?_eq_some_iff.1 hg).1
        omega
theorem anyown_lt {w : World} {base n size k : Nat} {e : TypeId} {x : Value} {xs : List Value} (h : w.ownsRow base e size x n xs) (hk : x.ownBlock = some k) : k < w.heap.size ∧ base ≤ k := by
  rcases h.2 with ⟨rfl, -⟩ | ⟨g, cap, cur, rfl, hb, hg, -⟩
  · cases hk
  · simp [Value.ownBlock] at hk
    have := (Array.getElem?_eq_some_iff.1 hg).1
    omega
theorem news_at {w : World} {g off : Nat} {L : List UInt8} (h : ∀ j (hj : j < L.length), w.cell? ⟨g, off + j, none⟩ = some (bv L[j])) : ∀ j u, (L.map bv)[j]? = some u → w.cell? ⟨g, off + j, none⟩ = some u := fun j u hu => by
  rw [List.getElem?_map] at hu
  obtain ⟨c, hc, rfl⟩ := Option.map_eq_some_iff.1 hu
  obtain ⟨hj, rfl⟩ := List.getElem?_eq_some_iff.1 hc
  exact h j hj
set_option maxHeartbeats 8000000 in
set_option maxRecDepth 100000 in
theorem walk_FrameTorn (W : World) (Ls : List (List UInt8)) (v : Value) (z : Int) (hR : Rws W v Ls) (hz : -9223372036854775808 ≤ z ∧ z ≤ 9223372036854775807) (hE : ErrT W) (hF : FT W) : Calls Tryd.prog 15 #[v, .int .i64 z] W fun e w' => e = .returned (.bool true) ∧ Gr W w' := by
  have AW := Lib.hid (fun w (g : Gr W w) => p9_awake w (ft_gr hF g))
  have HR := Lib.hid hR
  obtain ⟨ad, cap, B, off, V, rfl, q1, q2, q3, q4⟩ := hR
  obtain ⟨n, en⟩ : ∃ n, n = Ls.length := ⟨_, rfl⟩
  have HX := Lib.hid (And.intro q3 (And.intro q4 en))
  rw [← en] at q1 HR ⊢
  have HF := Lib.hid hF
  have HE := Lib.hid hE
  clear q3 q4 hF hE
  by_cases h1 : 20 < n
  · have t1 : decide ((20 : Int) < (n : Int)) = true := decide_eq_true (by omega)
    have t2 : (20 : Int) < (n : Int) := by omega
    clear en
    go_enter Tryd.func15, Tryd.ntmps15
    go_wp2_with fail
    go_at_call 66
    (with_reducible refine (AW.out _ (by go_grown)).mono ?_)
    rintro e w1 ⟨rfl, g1⟩
    go_wp2_with fail
    go_ret
    exact ⟨rfl, g1⟩
  have t1 : decide ((20 : Int) < (n : Int)) = false := decide_eq_false (by omega)
  have t2 : ¬ (20 : Int) < (n : Int) := by omega
  have C0 := Lib.hid (c_Total W HR.out)
  have EN := Lib.hid en
  clear en
  go_enter Tryd.func15, Tryd.ntmps15
  go_wp2_with fail
  go_at_call 76
  (with_reducible refine C0.out.mono ?_)
  rintro e w0 ⟨t, rfl, ht, htl, g0⟩
  by_cases h2 : 3000 < t
  · have t3 : decide ((3000 : Int) < (t : Int)) = true := decide_eq_true (by omega)
    have t4 : (3000 : Int) < (t : Int) := by omega
    clear ht
    go_wp2_with fail
    go_at_call 66
    (with_reducible refine (AW.out _ g0).mono ?_)
    rintro e w1 ⟨rfl, g1⟩
    go_wp2_with fail
    go_ret
    exact ⟨rfl, Gr.trans g0 g1⟩
  have t3 : decide ((3000 : Int) < (t : Int)) = false := decide_eq_false (by omega)
  have t4 : ¬ (3000 : Int) < (t : Int) := by omega
  have hs := all_short (Ls := Ls) (by have := EN.out; omega) (by rw [ht (by omega)]; omega)
  have HS := Lib.hid hs
  obtain ⟨i0, hi0, hz0, hz1, hz2⟩ := info_parts (P := Tryd.prog) (e := 5) (z := .int .u8 0) (size := 1) (bytes := 1) (by kernel_rfl)
  have HI := Lib.hid (And.intro hi0 (And.intro hz0 (And.intro hz1 hz2)))
  obtain ⟨i1, hj0, hk0, hk1, hk2⟩ := info_parts (P := Tryd.prog) (e := 3) (z := .int .i64 0) (size := 1) (bytes := 8) (by kernel_rfl)
  have HJ := Lib.hid (And.intro hj0 (And.intro hk0 (And.intro hk1 hk2)))
  have OI := Lib.hid (fun w : World => World.ownsRow_lit (base := W.heap.size) (e := 3) (size := 1) w #[.int .i64 0] 1)
  have HZ := Lib.hid hz
  have hn20 : n ≤ 20 := by omega
  have hn20i : (n : Int) ≤ 20 := by omega
  clear ht hs hi0 hz0 hz1 hz2 hj0 hk0 hk1 hk2 hz htl h1 h2
  go_wp2_with fail
  go_loopg [5, 6, 7] n (fun k x y u wr => ∃ i : Nat, u = .int .i64 i ∧ i ≤ n ∧ k = n - i ∧ Own wr W.heap.size x (frs (Ls.take i)) ∧ wr.ownsRow W.heap.size 3 1 y (i + 1) (endsV Ls (i + 1)) ∧ (∀ k, x.ownBlock = some k → y.ownBlock ≠ some k) ∧ Gr W wr)
  case atStart =>
    refine ⟨0, rfl, Nat.zero_le _, by omega, own_nil _ _, ?_, (fun k h => by cases h), Gr.trans g0 (by go_grown)⟩
    have := OI.out w0 g0.size (by unfold maxLen; omega) rfl
    have e : endsV Ls 1 = [.int .i64 0] := by unfold endsV; simp [eL_zero]
    rw [e]
    exact this
  case round =>
    obtain ⟨i, rfl, hi, hk, hO, hN, hD, hg⟩ := hrel
    have HO := Lib.hid (And.intro hO (And.intro hN hD))
    clear hO hN hD
    by_cases h : i < n
    · have ti : decide ((i : Int) < (n : Int)) = true := decide_eq_true (by omega)
      have ti2 : decide (i < n) = true := decide_eq_true h
      have ti3 : (i : Int) < (n : Int) := by omega
      have hiL : i < Ls.length := by have := EN.out; omega
      obtain rfl := HX.out.1 (by omega)
      obtain ⟨c0, r0⟩ := HX.out.2.1 i hiL
      have c1 := cell_gr hg c0
      obtain ⟨x, ex⟩ : ∃ x, x = V i := ⟨_, rfl⟩
      rw [← ex] at c1 r0
      obtain ⟨L, eL'⟩ : ∃ L, L = Ls[i]'hiL := ⟨_, rfl⟩
      rw [← eL'] at r0
      have hLl : L.length ≤ 3160 := by rw [eL']; exact HS.out.2 i hiL
      have hts := take_succ' hiL
      rw [← eL'] at hts
      have hel := eL_succ hiL
      rw [← eL'] at hel
      have hle := eL_mono Ls (j := i) (k := Ls.length) (by omega) (Nat.le_refl _)
      have hle2 := HS.out.1
      have C1 := Lib.hid (fun w (g : Gr wr w) => c_Put w (ft_gr HF.out (Gr.trans hg g)) (row_gr r0 (Gr.trans hg g)) (by omega))
      obtain ⟨xa, xn, xc, rfl⟩ : ∃ a n c, x = .slice a n c := by obtain ⟨a, c, b, o, e, -⟩ := r0; exact ⟨_, _, _, e⟩
      have HL := Lib.hid (And.intro hts (And.intro hel (And.intro hLl (And.intro hle hle2))))
      have hmm : n - (i + 1) < gk := by omega
      clear c0 r0 ex eL' hLl hts hel hle hle2 hk
      go_wp2_with fail
      go_at_call 67
      (with_reducible refine (C1.out _ (by go_grown)).mono ?_)
      rintro e w1 ⟨b1, rfl, own1, g1⟩
      have own1' : w1.ownsRow wr.heap.size 5 1 b1 (L.length + 8) ((fr L).map bv) := by rw [← fr_len]; exact own1
      obtain ⟨g, cap1, rfl, hg1, hg2, hc1, hc2⟩ := row_form own1' (by omega)
      have G1 : Gr W w1 := Gr.trans hg g1
      obtain ⟨r1, r2, r3⟩ := HO.out
      have r1' := own_gr' r1 g1
      have r2' := rowOwn_gr r2 g1
      have news : ∀ j u, ((fr L).map bv)[j]? = some u → w1.cell? ⟨g, 0 + j, none⟩ = some u := fun j u hu => by
        have h0 := World.ownsRow.cellAt own1' j (by have := (List.getElem?_eq_some_iff.1 hu).1; rw [List.length_map, fr_len] at this; omega)
        rw [Nat.zero_add, h0]; exact hu
      obtain ⟨m, em⟩ : ∃ m, m = L.length + 8 := ⟨_, rfl⟩
      rw [← em]
      have hml : ((fr L).map bv).length = m := by rw [List.length_map, fr_len, em]
      have hm2 : m ≤ 3168 := by have := HL.out.2.2.1; omega
      have hm8 : 8 ≤ m := by omega
      obtain ⟨p, ep⟩ : ∃ p, p = (frs (Ls.take i)).length := ⟨_, rfl⟩
      have hp : p ≤ 3160 := by have := HL.out.2.2.2; unfold eL at this; omega
      have r1'' : w1.ownsRow W.heap.size 5 1 u5 p ((frs (Ls.take i)).map bv) := by rw [ep]; exact r1'
      have hfin : eL Ls (i + 1) = p + m := by have := HL.out.2.1; unfold eL at this ⊢; omega
      have HP := Lib.hid (And.intro r1'' (And.intro r2' (And.intro r3 (And.intro news (And.intro hml (And.intro ep hfin))))))
      clear own1 own1' r1 r2 r3 r1' r1'' r2' news em hml ep hfin hg1 hg2 hc1 hc2 g1
      go_wp2_with (first
        | (at_builtin; (refine wpList_append_row rfl (.tmp 41) (.tmp 42) 79 rfl W.heap.size 5 i0 (.int .u8 0) 1 Tryd.underlying79 HI.out.1 HI.out.2.1 HI.out.2.2.1 HI.out.2.2.2 rfl u5 p ((frs (Ls.take i)).map bv) rfl HP.out.1 (some ⟨g, 0, none⟩) m cap1 g 0 ((fr L).map bv) rfl (fun _ => rfl) HP.out.2.2.2.2.1 HP.out.2.2.2.1 (bv_one _) (by unfold maxLen; omega) (by omega) G1.size ?_); intro v2 w2 own2 gr2; (have K2 := kept_other HP.out.2.1 gr2 (fun k h h' => HP.out.2.2.1 k h' h)); (obtain ⟨g2, cap2, rfl, hb2, hlt2, hcc2, hcm2⟩ := row_form own2 (by omega)); (have G2 : Gr W w2 := gr2.gr G1 (fun k hk => (anyown_lt HP.out.1 hk).2)); (have H2 := Lib.hid (And.intro own2 K2)); clear own2 K2 gr2)
        | (at_builtin; (refine wpList_append_own2 _ rfl (.tmp 44) (.tmp 47) 61 rfl W.heap.size 3 i1 (.int .i64 0) 1 8 Tryd.underlying61 HJ.out.1 HJ.out.2.1 HJ.out.2.2.1 HJ.out.2.2.2 rfl (by decide) u6 (i + 1) (endsV Ls (i + 1)) rfl (World.ownsRow.alloc H2.out.2.1 _) ⟨w2.heap.size, 0, none⟩ 1 1 [.int .i64 ((p : Int) + (m : Int))] rfl rfl (cell_one_new _ _ _) (by intro u hu; (simp at hu); subst hu; rfl) (by unfold maxLen; omega) (by omega) (by have := G2.size; simp; omega) ?_); intro v3 w3 own3 gr3))
      have K3 := kept_other (World.ownsRow.alloc H2.out.1 _) gr3 (fun k h h' => H2.out.2.2 k h' h)
      have G3 : Gr W w3 := gr3.gr (Gr.trans G2 ((Below.refl _ _).alloc (Nat.le_refl _) _)) (fun k hk => (anyown_lt H2.out.2.1 hk).2)
      have O3 : Own w3 W.heap.size (.slice (some ⟨g2, 0, none⟩) (p + m) cap2) (frs (Ls.take (i + 1))) := by
        have e1 : (frs (Ls.take (i + 1))).length = p + m := HP.out.2.2.2.2.2.2
        unfold Own
        rw [e1, HL.out.1, List.map_append]
        exact K3.1
      have N3 : w3.ownsRow W.heap.size 3 1 v3 (i + 1 + 1) (endsV Ls (i + 1 + 1)) := by
        rw [endsV_succ Ls (i + 1), HP.out.2.2.2.2.2.2, show ((p + m : Nat) : Int) = (p : Int) + (m : Int) by omega]
        exact own3
      have HH := Lib.hid (And.intro O3 (And.intro N3 K3.2))
      clear K3 O3 N3 own3 gr3
      go_wp2_with fail
      go_roundg (n - (i + 1))
      case measure => exact hmm
      case rel => exact ⟨i + 1, by go_num, h, rfl, HH.out.1, HH.out.2.1, HH.out.2.2, G3⟩
    · obtain rfl : i = n := by omega
      have ti : decide ((i : Int) < (i : Int)) = false := decide_eq_false (by omega)
      have ti2 : decide (i < i) = false := decide_eq_false (by omega)
      have htk : Ls.take i = Ls := by rw [EN.out]; exact List.take_length
      have hN := HO.out.2.1
      have hRb := row_own HO.out.1
      rw [htk] at hRb
      obtain ⟨bd, bc, bB, bo, rfl, y1, y2, -, -⟩ := id hRb
      obtain ⟨s, es⟩ : ∃ s, s = (frs Ls).length := ⟨_, rfl⟩
      rw [← es] at y1 hRb
      have hs1 : s ≤ 3160 := by rw [es]; have := HS.out.1; unfold eL at this; rw [List.take_length] at this; exact this
      obtain ⟨g6, cap6, rfl, hb6, hlt6, hcc6, hcm6⟩ := row_form hN (by omega)
      obtain ⟨n1, en1⟩ : ∃ n1, n1 = i + 1 := ⟨_, rfl⟩
      rw [← en1] at hN hcc6
      have HC := Lib.hid (And.intro hN (And.intro hRb (And.intro es en1)))
      have A2 : ∀ w, Calls Tryd.prog 36 #[.int .i64 z, .int .i64 ((s : Int) + 1)] w fun e w' => ∃ k : Nat, k < s + 1 ∧ e = .returned (.int .i64 (k : Int)) ∧ Gr w w' := fun w => by
        have h := c_Round z HZ.out.1 HZ.out.2 (s + 1) (by omega) (by omega) w
        rw [show ((s + 1 : Nat) : Int) = (s : Int) + 1 by omega] at h
        exact h
      have H2 := Lib.hid A2
      clear A2
      have hn1a : n1 ≤ 21 := by omega
      have hn1b : (n1 : Int) ≤ 21 := by omega
      have hsi : (s : Int) ≤ 3160 := by omega
      clear HO hN hRb htk y2 hk
      rw [← es, ← en1]
      clear es en1
      go_wp2_with fail
      go_at_call 36
      (with_reducible refine (H2.out _).mono ?_)
      rintro e w4 ⟨c, hc, rfl, g4⟩
      have G4 := Gr.trans hg g4
      have H9 := Lib.hid g4
      clear H2 g4 hg
      obtain ⟨wo, rfl⟩ : ∃ wo : World, wo = wr := ⟨_, rfl⟩
      go_wp2_with fail
      go_loopg [10] i (fun k y wr => ∃ m : Nat, y = .int .i64 m ∧ m ≤ i ∧ k = i - m ∧ eL Ls m ≤ c ∧ Gr W wr ∧ Gr wo wr)
      case atStart => exact ⟨0, rfl, Nat.zero_le _, by omega, by rw [eL_zero]; omega, G4, H9.out⟩
      case round =>
        obtain ⟨m, rfl, hm, hk2, he, gx, gwx⟩ := hrel
        have cE : ∀ w, Gr wo w → ∀ j, j < n1 → w.cell? ⟨g6, j, none⟩ = some (.int .i64 (eL Ls j : Nat)) := fun w g j hj => by
          have h0 := World.ownsRow.cellAt HC.out.1 j (by rw [Nat.mul_one]; exact hj)
          rw [endsV_at Ls n1 j hj] at h0
          exact cell_gr g h0
        have hci : (c : Int) ≤ 3160 := by omega
        have hmi : (m : Int) ≤ 20 := by omega
        by_cases hgo : m + 1 < n1 ∧ eL Ls (m + 1) ≤ c
        · obtain ⟨hlt, hle⟩ := hgo
          have c1 := cE wr gwx (m + 1) hlt
          obtain ⟨x, ex⟩ : ∃ x, x = eL Ls (m + 1) := ⟨_, rfl⟩
          rw [← ex] at c1 hle
          have HXX := Lib.hid ex
          have s1 : decide ((m : Int) + 1 < (n1 : Int)) = true := decide_eq_true (by omega)
          have s2 : (m : Int) + 1 < (n1 : Int) := by omega
          have s3 : decide ((x : Int) ≤ (c : Int)) = true := decide_eq_true (by omega)
          have s4 : decide (x ≤ c) = true := decide_eq_true hle
          have hm1 : m + 1 ≤ i := by have := HC.out.2.2.2; omega
          have hmm : i - (m + 1) < gk := by omega
          clear ex cE hk2 he
          go_wp2_with fail
          go_roundg (i - (m + 1))
          case measure => exact hmm
          case rel => exact ⟨m + 1, by go_num, hm1, rfl, by rw [← HXX.out]; exact hle, gx, gwx⟩
        · have hst : m = Ls.length ∨ c < eL Ls (m + 1) := by
            by_cases h : m + 1 < n1
            · right; exact Nat.lt_of_not_le fun h' => hgo ⟨h, h'⟩
            · left; have := HC.out.2.2.2; have := EN.out; omega
          have hcs := cut_sc HS.out.2 (m := m) (c := c) (by have := EN.out; omega) he (by have := HC.out.2.2.1; unfold eL; rw [List.take_length]; omega) hst
          obtain ⟨vb, kb, Rb⟩ := row_to c (by have := HC.out.2.2.1; omega) (row_gr HC.out.2.1 gwx)
          obtain ⟨vl, kl, Rl⟩ := rws_to m (by have := EN.out; omega) HR.out
          obtain ⟨va, vn, vc, rfl⟩ : ∃ a n c, vb = .slice a n c := by obtain ⟨a, c, b, o, e, -⟩ := Rb; exact ⟨_, _, _, e⟩
          obtain ⟨la, ln, lc, rfl⟩ : ∃ a n c, vl = .slice a n c := by obtain ⟨a, c, b, o, -, e, -⟩ := Rl; exact ⟨_, _, _, e⟩
          have CS := Lib.hid (c_Scan wr (ft_gr HF.out gx) Rb (by rw [List.length_take]; have := HC.out.2.2.1; omega))
          obtain ⟨y, ey⟩ : ∃ y, y = eL Ls m := ⟨_, rfl⟩
          rw [← ey] at hcs he
          have cM : ∀ w, Gr wo w → w.cell? ⟨g6, m, none⟩ = some (.int .i64 (y : Nat)) := fun w g => by rw [ey]; exact cE w g m (by have := HC.out.2.2.2; omega)
          have HM := Lib.hid (And.intro hcs (And.intro Rl (And.intro ey cM)))
          have hmn : (m : Int) < (n1 : Int) := by have := HC.out.2.2.2; omega
          have tt : (decide ((m : Int) + 1 < (n1 : Int)) = true ∧ (m : Int) + 1 < (n1 : Int) ∧ ∃ x : Nat, wr.cell? ⟨g6, m + 1, none⟩ = some (.int .i64 (x : Nat)) ∧ decide ((x : Int) ≤ (c : Int)) = false ∧ decide (x ≤ c) = false ∧ (c : Int) < (x : Int)) ∨ (decide ((m : Int) + 1 < (n1 : Int)) = false ∧ ¬ (m : Int) + 1 < (n1 : Int) ∧ True) := by
            by_cases h : m + 1 < n1
            · left
              exact ⟨decide_eq_true (by omega), by omega, _, cE wr gwx (m + 1) h, decide_eq_false (fun h' => hgo ⟨h, by omega⟩), decide_eq_false (fun h' => hgo ⟨h, h'⟩), by have := fun h' => hgo ⟨h, h'⟩; omega⟩
            · right; exact ⟨decide_eq_false (by omega), by omega, trivial⟩
          clear hst hcs Rb Rl ey cM cE hgo hk2
          rcases tt with ⟨s1, s2, x, c1, s3, s4, s5'⟩ | ⟨s1, s2, -⟩
          all_goals
            go_wp2_with fail
            go_at_call 71
            (with_reducible refine CS.out.mono ?_)
            rintro e w5 ⟨q, x5, rfl, own5, fe, g5⟩
            rw [HM.out.1.1] at own5
            rw [HM.out.1.2.1, HM.out.1.2.2] at fe
            rw [HM.out.1.2.1]
            have G5 := Gr.trans gx g5
            have c2 := HM.out.2.2.2 w5 (Gr.trans gwx g5)
            have Rq := rws_own own5 (by rw [List.length_take]; omega)
            obtain ⟨qa, qn, qc, rfl⟩ : ∃ a n c, q = .slice a n c := by obtain ⟨a, c, b, o, -, e, -⟩ := Rq; exact ⟨_, _, _, e⟩
            have CR := Lib.hid (c_Rows_same w5 Rq (rws_gr HM.out.2.1 G5) (fun L hL => by
              obtain ⟨i, hi, rfl⟩ := List.getElem_of_mem hL
              rw [List.length_take] at hi
              rw [List.getElem_take]
              have := HS.out.2 i (by omega); omega))
            have e1 : ((y : Int) == (y : Int)) = true := by simp
            have hyi : (y : Int) ≤ 3160 := by omega
            have FE := Lib.hid fe
            clear own5 fe Rq g5 CS
            by_cases hy : y < c
            · have s5 : decide ((y : Int) < (c : Int)) = true := decide_eq_true (by omega)
              have hne : ¬ c - y = 0 := by omega
              have fe := FE.out
              rw [if_neg hne] at fe
              obtain ⟨B1, rfl, hFa⟩ := ferr_k fe (by decide)
              have CI : ∀ w (g : Gr w5 w), Calls Tryd.prog 25 #[.iface 64 (.pointer (some ⟨B1, 0, none⟩)), .int .i64 15, .string frameS, .int .i64 y] w fun e w' => e = .returned (.bool true) ∧ Gr w w' := fun w g => c_AlIs_hit B1 frameS y 15 (by decide) w (errT_gr HE.out (Gr.trans G5 g)) (faultAt_gr hFa g)
              have HCI := Lib.hid CI
              clear CI hFa fe hne FE
              go_wp2_with fail
              go_at_call 75
              (with_reducible refine CR.out.mono ?_)
              rintro e w6 ⟨rfl, g6'⟩
              have c3 := cell_gr g6' c2
              go_wp2_with fail
              go_at_call 25
              (with_reducible refine (HCI.out _ g6').mono ?_)
              rintro e w7 ⟨rfl, g7⟩
              have G7 := Gr.trans (Gr.trans G5 g6') g7
              go_wp2_with fail
              go_at_call 66
              (with_reducible refine (AW.out _ G7).mono ?_)
              rintro e w8 ⟨rfl, g8⟩
              go_wp2_with fail
              go_ret
              exact ⟨rfl, Gr.trans G7 g8⟩
            · have s5 : decide ((y : Int) < (c : Int)) = false := decide_eq_false (by omega)
              have hne : c - y = 0 := by omega
              have fe := FE.out
              rw [if_pos hne] at fe
              obtain rfl := ferr_0 fe
              clear fe hne FE
              go_wp2_with fail
              go_at_call 75
              (with_reducible refine CR.out.mono ?_)
              rintro e w6 ⟨rfl, g6'⟩
              have c3 := cell_gr g6' c2
              go_wp2_with fail
              go_at_call 25
              (with_reducible refine (c_AlIs_nil frameS y w6).mono ?_)
              rintro e w7 ⟨rfl, g7⟩
              have G7 := Gr.trans (Gr.trans G5 g6') g7
              go_wp2_with fail
              go_at_call 66
              (with_reducible refine (AW.out _ G7).mono ?_)
              rintro e w8 ⟨rfl, g8⟩
              go_wp2_with fail
              go_ret
              exact ⟨rfl, Gr.trans G7 g8⟩
end Go.Proofs.YtmcbanplpgooeaaDoor
