/- the document's disk: Write's walk, where the sector did not wait -/
import Derived.Test.YtkbdhhmkdjajgaaDoorNi
namespace Go.Proofs.YtkbdhhmkdjajgaaDoor
set_option linter.unusedVariables false
set_option linter.unusedSimpArgs false
open Go.ChangeShapes Go.WideShapes Go.ChangeAt Go.RowKit Go.Maps

section
variable {base q : Nat} {Z : Nat → Prop} {d : Dk} {gv av nv : Value} {gs ns : List Value} {dl : Int}
set_option maxHeartbeats 2000000 in
set_option maxRecDepth 100000 in
theorem rd_write_out (k : Nat) (hk : k < d.n) (hm : k ∉ d.ord) (hpl : plc d.ord k = -1) (ho : d.on) (hn : d.ops < 1000000) {L : List UInt8} (hL : L.length = 64) (ad : Option Addr) (cp : Nat) (W : World) (h : RefD base W q Z d gv av nv gs ns dl) (hz : ∀ k, Z k → k < W.heap.size) (hbs : base ≤ W.heap.size) (hR : RowOff W (fun _ => False) (.slice ad 64 cp) L) :
    Calls Tryd.prog 12 #[.pointer (some ⟨q, 0, none⟩), .int .i64 (k : Nat), .slice ad 64 cp] W fun e w' => e = .returned (.int .i64 0) ∧ RTo base W q Z (d.opd.wr k L) w' := by
  have AO := rd_op_on ho hn W h
  have hol := ord_len h.ok
  obtain ⟨sq, c0, -⟩ := refD_cells h
  obtain ⟨D, ga, gc, rfl, a1, a2, a3, a4, a5⟩ := rowF h.good
  have hO := refD_oth h
  have t1 : decide ((k : Int) < 0) = false := decide_eq_false (by omega)
  have t2 : decide ((d.n : Int) ≤ (k : Int)) = false := decide_eq_false (by omega)
  have t3 : ¬ (d.n : Int) ≤ (k : Int) := by omega
  have HX := Lib.hid (And.intro hz (And.intro hbs (And.intro hR (And.intro hO (And.intro hL hm)))))
  obtain ⟨n, hnn⟩ : ∃ n, n = d.n := ⟨_, rfl⟩
  have AO' : Hid (Calls Tryd.prog 32 #[.pointer (some ⟨q, 0, none⟩)] W fun e w' => e = .returned (.bool true) ∧ ROp base W w' q Z d.opd (.slice ga n gc) av nv gs ns) := Lib.hid (by rw [hnn]; exact AO)
  rw [← hnn] at c0 t2 t3 hk
  have e1 : d.opd.ord = d.ord := rfl
  have en : d.opd.n = d.n := rfl
  generalize d.opd = d1 at *
  have e2 : d1.n = n := by rw [hnn]; exact en
  rw [← e1] at hpl hol HX
  obtain ⟨m, hm'⟩ : ∃ m, m = d1.ord.length := ⟨_, rfl⟩
  have HM := Lib.hid (And.intro hm' (And.intro hpl (And.intro e2 hk)))
  rw [← hm'] at hol
  clear h a1 a2 a3 a4 a5 AO ho hn hnn e1 e2 en hz hbs hR hO hL hm hpl hm'
  go_enter Tryd.func12, Tryd.ntmps12
  go_wp2_with fail
  go_at_call 32
  refine (AO'.out).mono ?_
  rintro e w1 ⟨rfl, ⟨dl', h1⟩, K1⟩
  have HR1 := Lib.hid (rowOff_oth HX.out.2.2.1 K1 (fun k hk => HX.out.2.2.2.1 k (Or.inl hk))).1
  have H1 := Lib.hid h1
  have HK1 := Lib.hid K1
  have sq1 := (Array.getElem?_eq_some_iff.1 h1.head).1
  clear h1 K1 AO' c0
  go_wp2_with (at_builtin; go_loud ((refine wpList_app rfl (.tmp 26) (.tmp 27) rfl w1.heap.size (.slice (some ⟨w1.heap.size, 0, none⟩) 0 0) (.slice ad 64 cp) [] L rfl (litB w1) rfl (row_gr HR1.out (al_gr _ _)) (by have := HX.out.2.2.2.2.1; simp; omega) (by simp) ?_); intro x2 w2 o2 g2; (have G2 : Gr w1 w2 := g2.gr (al_gr _ _) (fun k hk => (World.ownsRow.lt (litB w1) k hk).1)); (have HO2 : Hid (Own w2 w1.heap.size x2 L) := Lib.hid (by simpa using o2)); (clear o2 g2)))
  obtain ⟨xa, xc, rfl⟩ := own_form HO2.out
  have hL64 := HX.out.2.2.2.2.1
  rw [hL64] at HO2 ⊢
  clear hL64
  have AP : Calls Tryd.prog 33 #[.pointer (some ⟨q, 0, none⟩), .int .i64 (k : Nat)] w2 fun e w' => e = .returned (.int .i64 (-1)) ∧ Gr w2 w' := by
    have := rd_place k w2 (refD_gr H1.out G2)
    rw [HM.out.2.1] at this
    exact this
  have HAP := Lib.hid AP
  clear AP
  go_wp2_with fail
  go_at_call 33
  refine (HAP.out).mono ?_
  rintro e w3 ⟨rfl, g3⟩
  have G3 := Gr.trans G2 g3
  have HG23 := Lib.hid g3
  have HG2 := Lib.hid G2
  have h3 := refD_gr H1.out G3
  obtain ⟨sq3, -, b1, b2, -, -, -, -, fz⟩ := refD_cells h3
  have fz1 := fz 1
  have fz2 := fz 2
  obtain ⟨E, na, nc, env, -⟩ := rowF h3.new
  obtain ⟨E', aa, ac, eav, -⟩ := rowF h3.at_
  rw [← HM.out.1] at env eav
  subst env
  subst eav
  have HN3 : Hid (w3.ownsRow 0 37 1 (.slice na m nc) m ns ∧ ∀ u ∈ ns, u.oneCell' = true) := Lib.hid ⟨by have := h3.new; rw [← HM.out.1] at this; exact this, refD_oneN h3⟩
  have HA3 : Hid (w3.ownsRow 0 3 1 (.slice aa m ac) m (intL d1.ord)) := Lib.hid (by have := h3.at_; rw [← HM.out.1] at this; exact this)
  have HH3 := Lib.hid h3.head
  have HG3 := Lib.hid G3
  obtain ⟨iI, hI0, hI1, hI2, hI3⟩ := info_parts (P := Tryd.prog) (e := 3) (z := .int .i64 0) (size := 1) (bytes := 8) (by kernel_rfl)
  have HII := Lib.hid (And.intro hI0 (And.intro hI1 (And.intro hI2 hI3)))
  obtain ⟨iB, hB0, hB1, hB2, hB3⟩ := info_parts (P := Tryd.prog) (e := 37) (z := .slice none 0 0) (size := 1) (bytes := 24) (by kernel_rfl)
  have HIB := Lib.hid (And.intro hB0 (And.intro hB1 (And.intro hB2 hB3)))
  clear h3 fz g3 G2 HAP G3 hI0 hI1 hI2 hI3 hB0 hB1 hB2 hB3
  go_upto_region 14 with (first | (at_builtin; go_loud ((refine wpList_appI rfl (.tmp 51) (.tmp 55) rfl w3.heap.size 0 (.slice (some ⟨w3.heap.size, 0, none⟩) 0 0) (.slice aa m ac) 0 m [] (intL d1.ord) rfl (litI w3) rfl (rowOwn_gr HA3.out (al_gr _ _)) (intL_one _) (by omega) (by simp) ?_); intro x4 w4 o4 g4; (have G4 : Gr w3 w4 := g4.gr (al_gr _ _) (fun k hk => (World.ownsRow.lt (litI w3) k hk).1)); (have HO4 : Hid (w4.ownsRow w3.heap.size 3 1 x4 m (intL d1.ord)) := Lib.hid (by simpa using o4)); (obtain ⟨_, x4a, x4c, rfl, -⟩ := rowF HO4.out); (clear o4 g4))) | (at_builtin; go_loud ((refine wpList_append_own2 _ rfl (.tmp 56) (.tmp 58) 60 rfl w3.heap.size 3 iI (.int .i64 0) 1 8 Tryd.underlying60 HII.out.1 HII.out.2.1 HII.out.2.2.1 HII.out.2.2.2 rfl (by decide) (.slice x4a m x4c) m (intL d1.ord) rfl (rowOwn_gr HO4.out (al_gr _ _)) ⟨w4.heap.size, 0, none⟩ 1 1 [.int .i64 (k : Nat)] rfl rfl (cell_one_new _ _ _) (by intro u hu; simp only [List.mem_cons, List.not_mem_nil, or_false] at hu; subst hu; rfl) (by unfold maxLen; omega) (by omega) (Nat.le_trans G4.size (by simp)) ?_); intro x5 w5 o5 g5; (have G5 : Gr w3 w5 := g5.gr (Gr.trans G4 (al_gr _ _)) (fun k hk => (World.ownsRow.lt HO4.out k hk).1)); (obtain ⟨E2, cE, rfl, hE0, hE2, hcE, hcE2⟩ := row_form o5 (by omega)); (have hd5 := head_gr HH3.out G5); (have y1 := Hm.cell_of_heap hd5 1); (have yf1 := Hm.frozen_of_heap hd5 1); (have yq := (Array.getElem?_eq_some_iff.1 hd5).1); (have HD5 := Lib.hid hd5); (have HO5 := Lib.hid o5); (clear o5 g5 hd5))))
  have K6 : Kx (fun k => k = q) w5 (w5.setCell ⟨q, 1, none⟩ (.slice (some ⟨E2, 0, none⟩) (m + 1) cE)) := (Kx.refl (S := fun k => k = q) w5).setCell (p := ⟨q, 1, none⟩) rfl _
  have hG3 := HG3.out
  have s3 := hG3.size
  have s5 := G5.size
  have HK6 := Lib.hid K6
  have HO6 : Hid ((w5.setCell ⟨q, 1, none⟩ (.slice (some ⟨E2, 0, none⟩) (m + 1) cE)).ownsRow w3.heap.size 3 1 (.slice (some ⟨E2, 0, none⟩) (m + 1) cE) (m + 1) (intL d1.ord ++ [.int .i64 (k : Nat)])) := Lib.hid (rowOwn_kxS HO5.out K6 (fun k hk e => by
    obtain rfl : E2 = k := by simpa [Value.ownBlock] using hk
    omega))
  have HD6 := Lib.hid (Hm.heap_set_same (i := 1) (v := .slice (some ⟨E2, 0, none⟩) (m + 1) cE) HD5.out)
  have HN6 : Hid ((w5.setCell ⟨q, 1, none⟩ (.slice (some ⟨E2, 0, none⟩) (m + 1) cE)).ownsRow 0 37 1 (.slice na m nc) m ns) := Lib.hid (by
    refine rowOwn_kxS (rowOwn_gr HN3.out.1 G5) K6 (fun j hj e => ?_)
    obtain ⟨cur, hc⟩ := own_typed (rowOwn_gr HN3.out.1 G5) hj
    exact typed_ne hc HD5.out (by decide) e)
  have sz6 : (w5.setCell ⟨q, 1, none⟩ (.slice (some ⟨E2, 0, none⟩) (m + 1) cE)).heap.size = w5.heap.size := by simp
  generalize w5.setCell ⟨q, 1, none⟩ (.slice (some ⟨E2, 0, none⟩) (m + 1) cE) = w6 at HK6 HO6 HD6 HN6 sz6 ⊢
  have z2 := Hm.cell_of_heap HD6.out 2
  have zq := (Array.getElem?_eq_some_iff.1 HD6.out).1
  clear y1 yf1 yq K6 b1 b2 fz1 fz2
  have HS6 := Lib.hid sz6
  clear sz6
  go_upto_region 15 with (first | (at_builtin; go_loud ((refine wpList_appS rfl (.tmp 63) (.tmp 67) rfl w6.heap.size 0 (.slice (some ⟨w6.heap.size, 0, none⟩) 0 0) (.slice na m nc) 0 m [] ns rfl (litS w6) rfl (rowOwn_gr HN6.out (al_gr _ _)) HN3.out.2 (by omega) (by simp) ?_); intro x7 w7 o7 g7; (have G7 : Gr w6 w7 := g7.gr (al_gr _ _) (fun k hk => (World.ownsRow.lt (litS w6) k hk).1)); (have HO7 : Hid (w7.ownsRow w6.heap.size 37 1 x7 m ns) := Lib.hid (by simpa using o7)); (obtain ⟨_, x7a, x7c, rfl, -⟩ := rowF HO7.out); (clear o7 g7))) | (at_builtin; go_loud ((refine wpList_append_own2 _ rfl (.tmp 68) (.tmp 70) 59 rfl w6.heap.size 37 iB (.slice none 0 0) 1 24 Tryd.underlying59 HIB.out.1 HIB.out.2.1 HIB.out.2.2.1 HIB.out.2.2.2 rfl (by decide) (.slice x7a m x7c) m ns rfl (rowOwn_gr HO7.out (al_gr _ _)) ⟨w7.heap.size, 0, none⟩ 1 1 [.slice xa 64 xc] rfl rfl (cell_one_new _ _ _) (by intro u hu; simp only [List.mem_cons, List.not_mem_nil, or_false] at hu; subst hu; rfl) (by unfold maxLen; omega) (by omega) (Nat.le_trans G7.size (by simp)) ?_); intro x8 w8 o8 g8; (have G8 : Gr w6 w8 := g8.gr (Gr.trans G7 (al_gr _ _)) (fun k hk => (World.ownsRow.lt HO7.out k hk).1)); (obtain ⟨E3, cE3, rfl, hE30, hE32, hcE3, hcE32⟩ := row_form o8 (by omega)); (have hd8 := head_gr HD6.out G8); (have y1 := Hm.cell_of_heap hd8 2); (have yf1 := Hm.frozen_of_heap hd8 2); (have yq := (Array.getElem?_eq_some_iff.1 hd8).1); (have HD8 := Lib.hid hd8); (have HO8 := Lib.hid o8); (clear o8 g8 hd8))))
  have K9 : Kx (fun k => k = q) w8 (w8.setCell ⟨q, 2, none⟩ (.slice (some ⟨E3, 0, none⟩) (m + 1) cE3)) := (Kx.refl (S := fun k => k = q) w8).setCell (p := ⟨q, 2, none⟩) rfl _
  have HD9 := Lib.hid (Hm.heap_set_same (i := 2) (v := .slice (some ⟨E3, 0, none⟩) (m + 1) cE3) HD8.out)
  have HF : Hid (RTo base W q Z (d1.wr k L) (w8.setCell ⟨q, 2, none⟩ (.slice (some ⟨E3, 0, none⟩) (m + 1) cE3))) := Lib.hid (by
    have s1 : W.heap.size ≤ w1.heap.size := HK1.out.size
    have s2 := HG2.out.size
    have s6 := HS6.out
    have s8 := G8.size
    obtain ⟨hz, hbs, hR, hO, hL, hm⟩ := HX.out
    obtain ⟨hm', -, hn1, hk1⟩ := HM.out
    have k36 : Kx (fun k => k = q) w3 w6 := (Kx.of_gr G5).trans HK6.out
    have k39 : Kx (fun k => k = q) w3 (w8.setCell ⟨q, 2, none⟩ (.slice (some ⟨E3, 0, none⟩) (m + 1) cE3)) := (k36.trans (Kx.of_gr G8)).trans K9
    have hx2 : RowOff w2 Z (.slice xa 64 xc) L := rowOff_own HO2.out (fun k hk => Nat.lt_of_lt_of_le (hz k hk) s1)
    have hx3 : RowOff w3 Z (.slice xa 64 xc) L := rowOff_gr hx2 HG23.out
    have hx9 := rowOff_oth hx3 k39 (fun k hk => by
      subst hk
      exact Or.inr ⟨_, _, by decide, HH3.out⟩)
    have hfin := wr_out_fin (L := L) (x := .slice xa 64 xc) H1.out (fun k hk => Nat.lt_of_lt_of_le (hz k hk) s1) (Nat.le_trans hbs s1) (by rw [hn1]; exact hk1) hm hL ((Kx.of_gr hG3).trans (k39.mono (fun k h => Or.inl h))) HD9.out
      (by rw [← hm']; exact rowOwn_base (rowOwn_kxS (rowOwn_gr HO6.out G8) K9 (fun j hj e => by
        obtain rfl : E2 = j := by simpa [Value.ownBlock] using hj
        omega)) (Nat.zero_le _)) (fun j hj => by
        obtain rfl : E2 = j := by simpa [Value.ownBlock] using hj
        omega)
      (by rw [← hm']; exact rowOwn_base (rowOwn_kxS HO8.out K9 (fun j hj e => by
        obtain rfl : E3 = j := by simpa [Value.ownBlock] using hj
        omega)) (Nat.zero_le _)) (fun j hj => by
        obtain rfl : E3 = j := by simpa [Value.ownBlock] using hj
        omega) hx9
    exact ⟨hfin.1, (HK1.out.mono (fun k h => Or.inl h)).trans (hfin.2.mono (fun k h => by rcases h with h | h; exact Or.inl h; exact Or.inr (by omega)))⟩)
  clear K9 y1 yf1 yq z2 zq
  go_wp2_with fail
  go_ret
  exact ⟨rfl, HF.out⟩
end
end Go.Proofs.YtkbdhhmkdjajgaaDoor
