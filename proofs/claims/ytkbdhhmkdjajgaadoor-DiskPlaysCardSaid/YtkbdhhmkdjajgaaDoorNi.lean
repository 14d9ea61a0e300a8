/- the document's disk: Write's walk, where it is done -/
import Derived.Test.YtkbdhhmkdjajgaaDoorNh
namespace Go.Proofs.YtkbdhhmkdjajgaaDoor
set_option linter.unusedVariables false
set_option linter.unusedSimpArgs false
open Go.ChangeShapes Go.WideShapes Go.ChangeAt Go.RowKit Go.Maps

theorem head_gr {a b : World} {q : Nat} {c : Obj} (h : a.heap[q]? = some c) (g : Gr a b) : b.heap[q]? = some c := by
  have hq := (Array.getElem?_eq_some_iff.1 h).1
  rw [g.block q hq]; exact h
theorem litS (w : World) : (w.alloc (.cells #[] 37)).ownsRow w.heap.size 37 1 (.slice (some ⟨w.heap.size, 0, none⟩) 0 0) 0 [] := World.ownsRow_lit (base := w.heap.size) (e := 37) (size := 1) w #[] 0 (Nat.le_refl _) (by decide) (by simp)
theorem litI (w : World) : (w.alloc (.cells #[] 3)).ownsRow w.heap.size 3 1 (.slice (some ⟨w.heap.size, 0, none⟩) 0 0) 0 [] := World.ownsRow_lit (base := w.heap.size) (e := 3) (size := 1) w #[] 0 (Nat.le_refl _) (by decide) (by simp)
theorem litB (w : World) : Own (w.alloc (.cells #[] 5)) w.heap.size (.slice (some ⟨w.heap.size, 0, none⟩) 0 0) [] := World.ownsRow_lit (base := w.heap.size) (e := 5) (size := 1) w #[] 0 (Nat.le_refl _) (by decide) (by simp)
theorem al_gr (w : World) (o : Obj) : Gr w (w.alloc o) := (Below.refl _ _).alloc (Nat.le_refl _) _
section
variable {base q : Nat} {Z : Nat → Prop} {d : Dk} {gv av nv : Value} {gs ns : List Value} {dl : Int}
set_option maxHeartbeats 2000000 in
set_option maxRecDepth 100000 in
theorem rd_write_in (k i : Nat) (hi : i < d.ord.length) (hgi : d.ord.getD i 0 = k) (hpl : plc d.ord k = (i : Int)) (ho : d.on) (hn : d.ops < 1000000) {L : List UInt8} (hL : L.length = 64) (ad : Option Addr) (cp : Nat) (W : World) (h : RefD base W q Z d gv av nv gs ns dl) (hz : ∀ k, Z k → k < W.heap.size) (hbs : base ≤ W.heap.size) (hR : RowOff W (fun _ => False) (.slice ad 64 cp) L) :
    Calls Tryd.prog 12 #[.pointer (some ⟨q, 0, none⟩), .int .i64 (k : Nat), .slice ad 64 cp] W fun e w' => e = .returned (.int .i64 0) ∧ RTo base W q Z (d.opd.wr k L) w' := by
  have AO := rd_op_on ho hn W h
  have hk : k < d.n := h.ok.lt k (by rw [← hgi, List.getD_eq_getElem?_getD, List.getElem?_eq_getElem hi]; exact List.getElem_mem hi)
  have hol := ord_len h.ok
  obtain ⟨sq, c0, -⟩ := refD_cells h
  obtain ⟨D, ga, gc, rfl, a1, a2, a3, a4, a5⟩ := rowF h.good
  have hO := refD_oth h
  have t1 : decide ((k : Int) < 0) = false := decide_eq_false (by omega)
  have t2 : decide ((d.n : Int) ≤ (k : Int)) = false := decide_eq_false (by omega)
  have t3 : ¬ (d.n : Int) ≤ (k : Int) := by omega
  have HX := Lib.hid (And.intro hz (And.intro hbs (And.intro hR (And.intro hO (And.intro hL hgi)))))
  obtain ⟨n, hnn⟩ : ∃ n, n = d.n := ⟨_, rfl⟩
  have AO' : Hid (Calls Tryd.prog 32 #[.pointer (some ⟨q, 0, none⟩)] W fun e w' => e = .returned (.bool true) ∧ ROp base W w' q Z d.opd (.slice ga n gc) av nv gs ns) := Lib.hid (by rw [hnn]; exact AO)
  rw [← hnn] at c0 t2 t3 hk
  have e1 : d.opd.ord = d.ord := rfl
  generalize d.opd = d1 at *
  rw [← e1] at hi hpl hol HX
  obtain ⟨m, hm⟩ : ∃ m, m = d1.ord.length := ⟨_, rfl⟩
  have HM := Lib.hid (And.intro hm hpl)
  rw [← hm] at hi hol
  clear h a1 a2 a3 a4 a5 AO ho hn hnn e1 hz hbs hR hO hL hgi hm hpl
  go_enter Tryd.func12, Tryd.ntmps12
  go_wp2_with fail
  go_at_call 32
  refine (AO'.out).mono ?_
  rintro e w1 ⟨rfl, ⟨dl', h1⟩, K1⟩
  have HR1 := Lib.hid (rowOff_oth HX.out.2.2.1 K1 (fun k hk => HX.out.2.2.2.1 k (Or.inl hk))).1
  have H1 := Lib.hid h1
  have HK1 := Lib.hid K1
  have sq1 := (Array.getElem?_eq_some_iff.1 h1.head).1
  clear h1 K1 AO' c0
  go_wp2_with (at_builtin; go_loud ((refine wpList_app rfl (.tmp 26) (.tmp 27) rfl w1.heap.size (.slice (some ⟨w1.heap.size, 0, none⟩) 0 0) (.slice ad 64 cp) [] L rfl (litB w1) rfl (row_gr HR1.out (al_gr _ _)) (by have := HX.out.2.2.2.2.1; simp; omega) (by simp) ?_); intro x2 w2 o2 g2; (have G2 : Gr w1 w2 := g2.gr (al_gr _ _) (fun k hk => (World.ownsRow.lt (litB w1) k hk).1)); (have HO2 : Hid (Own w2 w1.heap.size x2 L) := Lib.hid (by simpa using o2)); (clear o2 g2)))
  obtain ⟨xa, xc, rfl⟩ := own_form HO2.out
  have hL64 := HX.out.2.2.2.2.1
  rw [hL64] at HO2 ⊢
  clear hL64
  have AP : Calls Tryd.prog 33 #[.pointer (some ⟨q, 0, none⟩), .int .i64 (k : Nat)] w2 fun e w' => e = .returned (.int .i64 (i : Nat)) ∧ Gr w2 w' := by
    have := rd_place k w2 (refD_gr H1.out G2)
    rw [HM.out.2] at this
    exact this
  have HAP := Lib.hid AP
  clear AP
  go_wp2_with fail
  go_at_call 33
  refine (HAP.out).mono ?_
  rintro e w3 ⟨rfl, g3⟩
  have G3 := Gr.trans G2 g3
  have HG23 := Lib.hid g3
  have HG2 := Lib.hid G2
  have h3 := refD_gr H1.out G3
  obtain ⟨sq3, -, -, b2, -, -, -, -, fz⟩ := refD_cells h3
  have fz2 := fz 2
  obtain ⟨E, na, nc, env, z1, z2, z3, z4, z5⟩ := rowF h3.new
  obtain rfl := z1 (by have := HM.out.1; omega)
  rw [← HM.out.1] at env
  subst env
  have t4 : decide ((0 : Int) ≤ (i : Int)) = true := decide_eq_true (by omega)
  have t5 : (i : Int) < (m : Int) := by omega
  have HN3 : Hid (w3.ownsRow 0 37 1 (.slice (some ⟨E, 0, none⟩) m nc) m ns ∧ ∀ u ∈ ns, u.oneCell' = true) := Lib.hid ⟨by rw [HM.out.1]; have := h3.new; rw [← HM.out.1] at this ⊢; exact this, refD_oneN h3⟩
  have HH3 := Lib.hid h3.head
  have HG3 := Lib.hid G3
  clear h3 z1 z2 z3 z4 z5 fz g3 G2 HAP G3
  go_upto_region 11 with (at_builtin; go_loud ((refine wpList_appS rfl (.tmp 35) (.tmp 39) rfl w3.heap.size 0 (.slice (some ⟨w3.heap.size, 0, none⟩) 0 0) (.slice (some ⟨E, 0, none⟩) m nc) 0 m [] ns rfl (litS w3) rfl (rowOwn_gr HN3.out.1 (al_gr _ _)) HN3.out.2 (by omega) (by simp) ?_); intro x4 w4 o4 g4; (have G4 : Gr w3 w4 := g4.gr (al_gr _ _) (fun k hk => (World.ownsRow.lt (litS w3) k hk).1)); (have HO4 : Hid (w4.ownsRow w3.heap.size 37 1 x4 m ns) := Lib.hid (by simpa using o4)); (obtain ⟨E2, cE, rfl, hE0, hE2, hcE, hcE2⟩ := row_form HO4.out (by omega)); (have hd4 := head_gr HH3.out G4); (have y2 := Hm.cell_of_heap hd4 2); (have yf2 := Hm.frozen_of_heap hd4 2); (have yq := (Array.getElem?_eq_some_iff.1 hd4).1); (have HD4 := Lib.hid hd4); (clear o4 g4 hd4)))
  have HO5 : Hid ((w4.setCell ⟨q, 2, none⟩ (.slice (some ⟨E2, 0, none⟩) m cE)).ownsRow w3.heap.size 37 1 (.slice (some ⟨E2, 0, none⟩) m cE) m ns) := Lib.hid (rowOwn_kxS (S := fun k => k = q) HO4.out ((Kx.refl (S := fun k => k = q) w4).setCell (p := ⟨q, 2, none⟩) rfl _) (fun k hk e => by
    obtain rfl : E2 = k := by simpa [Value.ownBlock] using hk
    omega))
  have HD5 := Lib.hid (Hm.heap_set_same (i := 2) (v := .slice (some ⟨E2, 0, none⟩) m cE) HD4.out)
  have K5 : Kx (fun k => k = q) w4 (w4.setCell ⟨q, 2, none⟩ (.slice (some ⟨E2, 0, none⟩) m cE)) := (Kx.refl (S := fun k => k = q) w4).setCell (p := ⟨q, 2, none⟩) rfl _
  have HK5 := Lib.hid (And.intro K5 G4)
  generalize w4.setCell ⟨q, 2, none⟩ (.slice (some ⟨E2, 0, none⟩) m cE) = w5 at HO5 HD5 HK5 ⊢
  have y6 := Hm.cell_of_heap HD5.out 2
  have yq6 := (Array.getElem?_eq_some_iff.1 HD5.out).1
  obtain ⟨u0, hu0⟩ : ∃ u0, ns[i]? = some u0 := ⟨_, List.getElem?_eq_getElem (by have := HO5.out.1; omega)⟩
  have y7 := HO5.out.cellAt i (by omega)
  rw [hu0] at y7
  have yf7 := HO5.out.frozenAt i
  have yE := (World.ownsRow.lt HO5.out E2 rfl).2
  obtain ⟨va, vn, vc, rfl⟩ : ∃ a n c, u0 = .slice a n c := by
    have := HN3.out.2 u0 (List.mem_of_getElem? hu0)
    obtain ⟨v, e, r⟩ := H1.out.nsl i (by have := HM.out.1; omega)
    rw [hu0] at e
    obtain rfl := Option.some.inj e
    obtain ⟨a, c, _, _, ev, _⟩ := r.1
    exact ⟨_, _, _, ev⟩
  have t6 : (i : Int) < (cE : Int) := by omega
  clear y2 yf2 yq hu0
  go_wp2_with fail
  go_ret
  refine ⟨rfl, ?_⟩
  have hG3 := HG3.out
  have s3 := hG3.size
  have s1 : W.heap.size ≤ w1.heap.size := HK1.out.size
  have s4 : w3.heap.size ≤ w4.heap.size := HK5.out.2.size
  have s5 : w4.heap.size ≤ w5.heap.size := HK5.out.1.size
  obtain ⟨hz, hbs, hR, hO, hL, hgi⟩ := HX.out
  have K6 : Kx (fun k => k = E2) w5 (w5.setCell ⟨E2, i, none⟩ (.slice xa 64 xc)) := (Kx.refl (S := fun k => k = E2) w5).setCell (p := ⟨E2, i, none⟩) rfl _
  have K13 : Kx (fun k => k = q ∨ w1.heap.size ≤ k) w1 w5 := ((Kx.of_gr hG3).trans (Kx.of_gr HK5.out.2)).trans (HK5.out.1.mono (fun k h => Or.inl h))
  have K16 : Kx (fun k => k = q ∨ w1.heap.size ≤ k) w1 (w5.setCell ⟨E2, i, none⟩ (.slice xa 64 xc)) := K13.trans (K6.mono (fun k h => Or.inr (by omega)))
  have hx2 : RowOff w2 Z (.slice xa 64 xc) L := rowOff_own HO2.out (fun k hk => Nat.lt_of_lt_of_le (hz k hk) s1)
  have hO1 := refD_oth H1.out
  have K26 : Kx (fun k => k = q ∨ k = E2) w2 (w5.setCell ⟨E2, i, none⟩ (.slice xa 64 xc)) := (((Kx.of_gr HG23.out).trans (Kx.of_gr HK5.out.2)).trans (HK5.out.1.mono (fun k h => Or.inl h))).trans (K6.mono (fun k h => Or.inr h))
  have s23 := HG23.out.size
  have hx6 : RowOff (w5.setCell ⟨E2, i, none⟩ (.slice xa 64 xc)) Z (.slice xa 64 xc) L := rowOff_oth hx2 K26 (fun k hk => by
    rcases hk with rfl | rfl
    · exact Or.inr ⟨_, _, by decide, head_gr H1.out.head HG2.out⟩
    · exact Or.inl (by omega))
  have hfin := wr_in_fin (L := L) (x := .slice xa 64 xc) H1.out (fun k hk => Nat.lt_of_lt_of_le (hz k hk) s1) (Nat.le_trans hbs s1) (by rw [← HM.out.1]; exact hi) hgi hL K16 (heap_kx K6 (fun e => by omega) HD5.out) (by rw [← HM.out.1]; exact rowOwn_base (HO5.out.stored i _).1 (Nat.zero_le _)) (fun k hk => by
    obtain rfl : E2 = k := by simpa [Value.ownBlock] using hk
    omega) hx6
  exact ⟨hfin.1, (HK1.out.mono (fun k h => Or.inl h)).trans (hfin.2.mono (fun k h => by rcases h with h | h; exact Or.inl h; exact Or.inr (by omega)))⟩
end
end Go.Proofs.YtkbdhhmkdjajgaaDoor
