/- DiskPlays: each call of both disks, beside the step's own block -/
import Derived.Test.YtkbdhhmkdjajgaaDoorNm
import Derived.Test.YtkbdhhmkdjajgaaDoorNj
namespace Go.Proofs.YtkbdhhmkdjajgaaDoor
set_option linter.unusedVariables false
set_option linter.unusedSimpArgs false
open Go.ChangeShapes Go.WideShapes Go.ChangeAt Go.RowKit Go.Maps

section
variable {base q : Nat} {Z : Nat → Prop} {d d' : Dk} {gv av nv : Value} {gs ns : List Value} {dl : Int}
theorem rTo_gr {W w' : World} (h : RefD base W q Z d gv av nv gs ns dl) (g : Gr W w') : RTo base W q Z d w' := ⟨⟨gv, av, nv, gs, ns, dl, refD_gr h g⟩, Kx.of_gr g⟩
theorem rTo_op {W w' : World} (h : ROp base W w' q Z d gv av nv gs ns) : RTo base W q Z d w' := by
  obtain ⟨⟨dl', h1⟩, K⟩ := h
  exact ⟨⟨gv, av, nv, gs, ns, dl', h1⟩, K.mono (fun k h => Or.inl h)⟩
theorem rd_writeAny {L : List UInt8} {z : Int} {c : Nat} (hs : WrR d z L d' c) (m : Nat) (hm : m = L.length) (hn : d.ops < 1000000) (ad : Option Addr) (cp : Nat) (W : World) (h : RefD base W q Z d gv av nv gs ns dl) (hz : ∀ k, Z k → k < W.heap.size) (hbs : base ≤ W.heap.size) (hR : RowOff W (fun _ => False) (.slice ad m cp) L) :
    Calls Tryd.prog 12 #[.pointer (some ⟨q, 0, none⟩), .int .i64 z, .slice ad m cp] W fun e w' => e = .returned (.int .i64 (c : Nat)) ∧ RTo base W q Z d' w' := by
  rcases hs with ⟨h1, rfl, rfl⟩ | ⟨k, rfl, hk, ⟨h1, rfl, rfl⟩ | ⟨h1, ⟨h2, rfl, rfl⟩ | ⟨h2, rfl, rfl⟩⟩⟩
  · refine (rd_write_no z h1 _ W h).mono ?_
    rintro e w' ⟨rfl, g⟩
    exact ⟨rfl, rTo_gr h g⟩
  · refine (rd_write_len k hk ad m cp (by rw [hm]; exact h1) W h).mono ?_
    rintro e w' ⟨rfl, g⟩
    exact ⟨rfl, rTo_gr h g⟩
  · obtain rfl : m = 64 := by omega
    refine (rd_write_off k hk h2 hn ad cp W h).mono ?_
    rintro e w' ⟨rfl, g⟩
    exact ⟨rfl, rTo_op g⟩
  · obtain rfl : m = 64 := by omega
    rcases plc_cases d.ord k with ⟨hm', hp⟩ | ⟨i, hi, hgi, hm', hp⟩
    · exact rd_write_out k hk hm' hp h2 hn h1 ad cp W h hz hbs hR
    · exact rd_write_in k i hi hgi hp h2 hn h1 ad cp W h hz hbs hR
theorem rd_syncAny {c : Nat} (hs : SyR d d' c) (hok : d'.ok) (hn : d.ops < 1000000) (W : World) (h : RefD base W q Z d gv av nv gs ns dl) (hz : ∀ k, Z k → k < W.heap.size) (hbs : base ≤ W.heap.size) :
    Calls Tryd.prog 14 #[.pointer (some ⟨q, 0, none⟩)] W fun e w' => e = .returned (.int .i64 (c : Nat)) ∧ RTo base W q Z d' w' := by
  rcases hs with ⟨h1, rfl, rfl⟩ | ⟨h1, rfl, G, hG, rfl⟩
  · refine (rd_sync_off h1 hn W h).mono ?_
    rintro e w' ⟨rfl, g⟩
    exact ⟨rfl, rTo_op g⟩
  · exact rd_sync_on h1 hn G hok.len hG W h hz hbs
theorem rd_readAny {L : List UInt8} {z : Int} {c : Nat} (hs : RdR d z L c) (W : World) (h : RefD base W q Z d gv av nv gs ns dl) :
    Calls Tryd.prog 16 #[.pointer (some ⟨q, 0, none⟩), .int .i64 z] W fun e w' => ∃ ad m cp, e = .returned (.tuple #[.slice ad m cp, .int .i64 (c : Nat)]) ∧ Row w' (.slice ad m cp) L ∧ Gr W w' := by
  rcases hs with ⟨h1, rfl, rfl⟩ | ⟨k, rfl, hk, rfl, rfl⟩
  · refine (rd_read_no z h1 W h).mono ?_
    rintro e w' ⟨rfl, g⟩
    exact ⟨none, 0, 0, rfl, row_own (own_nil _ 0), g⟩
  · refine (rd_read k hk W h).mono ?_
    rintro e w' ⟨ad, c, rfl, r, g⟩
    exact ⟨_, _, _, rfl, r, g⟩
/-- A Fault is no disk of the document's. -/
theorem uE_q {w w' : World} {op : ByteArray} {u : Value} {id : Int} {c : Nat} (h : UE w op u id c) (hr : RefD base w q Z d gv av nv gs ns dl) (K : Kx (fun k => k = q ∨ w.heap.size ≤ k) w w') : UE w' op u id c := by
  rcases h with h | ⟨F, rfl, hF, h1⟩
  · exact Or.inl h
  · have hq : F ≠ q := fun e => by
      subst e
      obtain ⟨_, c0, _⟩ := refD_cells hr
      rw [hF.1] at c0
      obtain ⟨D, ad, cap, e, _⟩ := rowF hr.good
      rw [e] at c0
      cases c0
    have hl : F < w.heap.size := World.block_lt_of_cell? _ _ hF.1
    have no : ¬ (F = q ∨ w.heap.size ≤ F) := fun e => by
      rcases e with e | e
      · exact hq e
      · omega
    exact Or.inr ⟨F, rfl, ⟨cell_kx K no hF.1, cell_kx K no hF.2.1, cell_kx K no hF.2.2⟩, h1⟩
end
/-- The program's call, and what it says. -/
def PD10 (W w : World) (p q V : Nat) (d d2 : Dk) (op : ByteArray) (u : Value) (z : Int) (c : Nat) : Prop := UE w op u z c ∧ Mid10 W w p q V d d2
section
variable {W w : World} {p q V : Nat} {d d' : Dk} {L : List UInt8} {u : Value} {z : Int} {c : Nat}
/-- A row that lies off the program's disk. -/
def Off10 (w : World) (p : Nat) (v : Value) (L : List UInt8) : Prop := ∀ g bm M d, DiskS w p g bm M d → RowOff w (dkZ p g bm M) v L
theorem x_write10 (z : Int) (m cp : Nat) (ad : Option Addr) (hm : m = L.length) (hn : d.ops < 1000000) (h : Mid10 W w p q V d d) (G : Gr W w) (hR : Off10 w p (.slice ad m cp) L) :
    Calls Tryd.prog 11 #[.pointer (some ⟨p, 0, none⟩), .int .i64 z, .slice ad m cp] w fun e w' => ∃ u c d', e = .returned u ∧ WrR d z L d' c ∧ PD10 W w' p q V d' d writeS u z c ∧ RowOff w' (fun _ => False) (.slice ad m cp) L ∧ Kx (fun k => k ≠ V ∧ W.heap.size ≤ k) w w' := by
  obtain ⟨g0, bm, M, h1, ⟨gv, av, nv, gs, ns, dl, h2⟩, h3, h4, h5, h6⟩ := h
  have hr := hR _ _ _ _ h1
  refine (d_writeAny z m hm hn ad cp w h1 hr).mono ?_
  rintro e w' ⟨u, c, d', rfl, hs, hU, hD⟩
  have K := hD
  obtain ⟨M', -, -, K⟩ := K
  obtain ⟨hM, hK⟩ := mid10_p G h1 h2 h3 h4 h5 h6 hD
  exact ⟨u, c, d', rfl, hs, ⟨hU, hM⟩, rowOff_mono (rowOff_kx hr K (fun k hk => hk)) (fun k hk => hk.elim), hK⟩
theorem y_write10 (hs : WrR d z L d' c) (m cp : Nat) (ad : Option Addr) (hm : m = L.length) (hn : d.ops < 1000000) (h : PD10 W w p q V d' d writeS u z c) (G : Gr W w) (hR : RowOff w (fun _ => False) (.slice ad m cp) L) :
    Calls Tryd.prog 12 #[.pointer (some ⟨q, 0, none⟩), .int .i64 z, .slice ad m cp] w fun e w' => e = .returned (.int .i64 (c : Nat)) ∧ PD10 W w' p q V d' d' writeS u z c ∧ Kx (fun k => k ≠ V ∧ W.heap.size ≤ k) w w' := by
  obtain ⟨hU, g0, bm, M, h1, ⟨gv, av, nv, gs, ns, dl, h2⟩, h3, h4, h5, h6⟩ := h
  refine (rd_writeAny hs m hm hn ad cp w h2 (fun k hk => by rcases hk with hk | rfl; exact diskS_zlt h1 k hk; exact h5) G.size hR).mono ?_
  rintro e w' ⟨rfl, hT⟩
  obtain ⟨hM, hK⟩ := mid10_r G h1 h2 h3 h4 h5 h6 hT
  exact ⟨rfl, ⟨uE_q hU h2 hT.2, hM⟩, hK⟩
theorem x_sync10 (hn : d.ops < 1000000) (h : Mid10 W w p q V d d) (G : Gr W w) :
    Calls Tryd.prog 13 #[.pointer (some ⟨p, 0, none⟩)] w fun e w' => ∃ u c d', e = .returned u ∧ SyR d d' c ∧ PD10 W w' p q V d' d syncS u 0 c ∧ Kx (fun k => k ≠ V ∧ W.heap.size ≤ k) w w' := by
  obtain ⟨g0, bm, M, h1, ⟨gv, av, nv, gs, ns, dl, h2⟩, h3, h4, h5, h6⟩ := h
  refine (d_syncAny hn w h1).mono ?_
  rintro e w' ⟨u, c, d', rfl, hs, hU, hD⟩
  obtain ⟨hM, hK⟩ := mid10_p G h1 h2 h3 h4 h5 h6 hD
  exact ⟨u, c, d', rfl, hs, ⟨hU, hM⟩, hK⟩
theorem y_sync10 (hs : SyR d d' c) (hn : d.ops < 1000000) (h : PD10 W w p q V d' d syncS u 0 c) (G : Gr W w) :
    Calls Tryd.prog 14 #[.pointer (some ⟨q, 0, none⟩)] w fun e w' => e = .returned (.int .i64 (c : Nat)) ∧ PD10 W w' p q V d' d' syncS u 0 c ∧ Kx (fun k => k ≠ V ∧ W.heap.size ≤ k) w w' := by
  obtain ⟨hU, g0, bm, M, h1, ⟨gv, av, nv, gs, ns, dl, h2⟩, h3, h4, h5, h6⟩ := h
  refine (rd_syncAny hs h1.ok hn w h2 (fun k hk => by rcases hk with hk | rfl; exact diskS_zlt h1 k hk; exact h5) G.size).mono ?_
  rintro e w' ⟨rfl, hT⟩
  obtain ⟨hM, hK⟩ := mid10_r G h1 h2 h3 h4 h5 h6 hT
  exact ⟨rfl, ⟨uE_q hU h2 hT.2, hM⟩, hK⟩
theorem x_read10 (z : Int) (h : Mid10 W w p q V d d) :
    Calls Tryd.prog 15 #[.pointer (some ⟨p, 0, none⟩), .int .i64 z] w fun e w' => ∃ u c L ad m cp, e = .returned (.tuple #[.slice ad m cp, u]) ∧ RdR d z L c ∧ UE w' readS u z c ∧ Row w' (.slice ad m cp) L ∧ L.length ≤ 64 ∧ Gr w w' := by
  obtain ⟨g0, bm, M, h1, -⟩ := h
  exact d_readAny z w h1
theorem y_read10 (hs : RdR d z L c) (h : Mid10 W w p q V d d) :
    Calls Tryd.prog 16 #[.pointer (some ⟨q, 0, none⟩), .int .i64 z] w fun e w' => ∃ ad m cp, e = .returned (.tuple #[.slice ad m cp, .int .i64 (c : Nat)]) ∧ Row w' (.slice ad m cp) L ∧ Gr w w' := by
  obtain ⟨g0, bm, M, h1, ⟨gv, av, nv, gs, ns, dl, h2⟩, -⟩ := h
  exact rd_readAny hs w h2
theorem x_cut10 (n : Int) (hn : -9223372036854775808 ≤ n ∧ n ≤ 9223372036854775807) (h : Mid10 W w p q V d d) (G : Gr W w) :
    Calls Tryd.prog 18 #[.pointer (some ⟨p, 0, none⟩), .int .i64 n] w fun e w' => e = .returned (.tuple #[]) ∧ Mid10 W w' p q V { d with cut := true, left := n } d ∧ Kx (fun k => k ≠ V ∧ W.heap.size ≤ k) w w' := by
  obtain ⟨g0, bm, M, h1, ⟨gv, av, nv, gs, ns, dl, h2⟩, h3, h4, h5, h6⟩ := h
  refine (d_cut n hn w h1).mono ?_
  rintro e w' ⟨rfl, hd, hk⟩
  obtain ⟨hM, hK⟩ := mid10_p G h1 h2 h3 h4 h5 h6 (dTo_p hd hk)
  exact ⟨rfl, hM, hK⟩
theorem y_cut10 (n : Int) (hn : -9223372036854775808 ≤ n ∧ n ≤ 9223372036854775807) (h : Mid10 W w p q V { d with cut := true, left := n } d) (G : Gr W w) :
    Calls Tryd.prog 19 #[.pointer (some ⟨q, 0, none⟩), .int .i64 n] w fun e w' => e = .returned (.tuple #[]) ∧ Mid10 W w' p q V { d with cut := true, left := n } { d with cut := true, left := n } ∧ Kx (fun k => k ≠ V ∧ W.heap.size ≤ k) w w' := by
  obtain ⟨g0, bm, M, h1, ⟨gv, av, nv, gs, ns, dl, h2⟩, h3, h4, h5, h6⟩ := h
  refine (rd_cut n hn w h2).mono ?_
  rintro e w' ⟨rfl, hT⟩
  obtain ⟨hM, hK⟩ := mid10_r G h1 h2 h3 h4 h5 h6 (rTo_op hT)
  exact ⟨rfl, hM, hK⟩
theorem x_crash10 (keep : List Bool) (kv : Value) (torn : Int) (h : Mid10 W w p q V d d) (G : Gr W w) (hK : Bools w kv keep) (hkl : keep.length ≤ 1000000) :
    Calls Tryd.prog 20 #[.pointer (some ⟨p, 0, none⟩), kv, .int .i64 torn] w fun e w' => ∃ p', e = .returned (.pointer (some ⟨p', 0, none⟩)) ∧ Mid10 W w' p' q V (dk0 d.n (crG d (crM keep torn) d.ord.length)) d ∧ Gr w w' := by
  obtain ⟨g0, bm, M, h1, ⟨gv, av, nv, gs, ns, dl, h2⟩, h3, h4, h5, h6⟩ := h
  refine (d_crash keep kv torn w h1 hK hkl).mono ?_
  rintro e w' ⟨p', g', bm', rfl, n1, n2, g⟩
  have s := g.size
  exact ⟨p', rfl, ⟨g', bm', none, n2, ⟨gv, av, nv, gs, ns, dl, refD_gr (refD_mono h2 (fun k hk => by rcases hk with hk | hk; exact Or.inr (n1 k hk); exact Or.inl (Or.inr hk))) g⟩, fun k hk => Nat.le_trans G.size (n1 k hk), fun hk => by have := n1 V hk; omega, by omega, h6⟩, g⟩
theorem y_crash10 (keep : List Bool) (kv : Value) (torn : Int) (h : Mid10 W w p q V (dk0 d.n (crG d (crM keep torn) d.ord.length)) d) (G : Gr W w) (hK : Bools w kv keep) (hkl : keep.length ≤ 1000000) :
    Calls Tryd.prog 21 #[.pointer (some ⟨q, 0, none⟩), kv, .int .i64 torn] w fun e w' => ∃ q', e = .returned (.pointer (some ⟨q', 0, none⟩)) ∧ Mid10 W w' p q' V (dk0 d.n (crG d (crM keep torn) d.ord.length)) (dk0 d.n (crG d (crM keep torn) d.ord.length)) ∧ Gr w w' := by
  obtain ⟨g0, bm, M, h1, ⟨gv, av, nv, gs, ns, dl, h2⟩, h3, h4, h5, h6⟩ := h
  refine (rd_crash keep kv torn w h2 (fun k hk => by rcases hk with hk | rfl; exact diskS_zlt h1 k hk; exact h5) G.size hK hkl).mono ?_
  rintro e w' ⟨⟨X, gv', gs', rfl, hr⟩, g⟩
  have s := g.size
  exact ⟨X, rfl, ⟨g0, bm, M, diskS_gr h1 g, ⟨_, _, _, _, _, _, hr⟩, h3, h4, by omega, h6⟩, g⟩
/-- The copy beside the old one. -/
def MidC (W w : World) (p p' q V : Nat) (d : Dk) : Prop := ∃ g bm M g' bm' M', DiskS w p g bm M d ∧ DiskS w p' g' bm' M' d ∧ Waits w (fun j => dkZ p' g' bm' M' j ∨ dkZ p g bm M j) bm' d ∧ (∃ gv av nv gs ns dl, RefD W.heap.size w q (fun k => (dkZ p g bm M k ∨ dkZ p' g' bm' M' k) ∨ k = V) d gv av nv gs ns dl) ∧ (∀ k, dkZ p g bm M k → W.heap.size ≤ k) ∧ (∀ k, dkZ p' g' bm' M' k → W.heap.size ≤ k ∧ ¬ dkZ p g bm M k ∧ k ≠ V) ∧ ¬ dkZ p g bm M V ∧ V < w.heap.size ∧ W.heap.size ≤ V
theorem x_copy10 (h : Mid10 W w p q V d d) (G : Gr W w) :
    Calls Tryd.prog 22 #[.pointer (some ⟨p, 0, none⟩)] w fun e w' => ∃ p', e = .returned (.pointer (some ⟨p', 0, none⟩)) ∧ MidC W w' p p' q V d ∧ Gr w w' := by
  obtain ⟨g0, bm, M, h1, ⟨gv, av, nv, gs, ns, dl, h2⟩, h3, h4, h5, h6⟩ := h
  have hz := diskS_zlt h1
  refine (d_copyW w h1).mono ?_
  rintro e w' ⟨p', g', bm', M', rfl, n1, n2, g, n3⟩
  have s := g.size
  refine ⟨p', rfl, ⟨g0, bm, M, g', bm', M', diskS_gr h1 g, n2, n3, ⟨gv, av, nv, gs, ns, dl, refD_gr (refD_mono h2 (fun k hk => ?_)) g⟩, h3, fun k hk => ⟨Nat.le_trans G.size (n1 k hk), fun hk' => by have := hz k hk'; have := n1 k hk; omega, fun e => by have := n1 k hk; omega⟩, h4, by omega, h6⟩, g⟩
  rcases hk with (hk | hk) | hk
  · exact Or.inl (Or.inl hk)
  · exact Or.inr (n1 k hk)
  · exact Or.inl (Or.inr hk)
theorem midC_gr {w' : World} {p' : Nat} (h : MidC W w p p' q V d) (g : Gr w w') : MidC W w' p p' q V d := by
  obtain ⟨g0, bm, M, g', bm', M', h1, h2, ⟨D, w1, w2, w3⟩, ⟨gv, av, nv, gs, ns, dl, h4⟩, h5, h6, h7, h8, h9⟩ := h
  exact ⟨g0, bm, M, g', bm', M', diskS_gr h1 g, diskS_gr h2 g, waits_turn (S := fun _ => False) ⟨D, w1, w2, w3⟩ (Kx.of_gr g) (fun h => h) (fun k h => h.elim) (fun k hk => Or.inl hk), ⟨gv, av, nv, gs, ns, dl, refD_gr h4 g⟩, h5, h6, h7, Nat.lt_of_lt_of_le h8 g.size, h9⟩
theorem x_wold10 {p' : Nat} (z : Int) (m cp : Nat) (ad : Option Addr) (hm : m = L.length) (hn : d.ops < 1000000) (h : MidC W w p p' q V d) (G : Gr W w) (hR : Off10 w p (.slice ad m cp) L) :
    Calls Tryd.prog 11 #[.pointer (some ⟨p, 0, none⟩), .int .i64 z, .slice ad m cp] w fun e w' => ∃ u, e = .returned u ∧ Mid10 W w' p' q V d d ∧ Kx (fun k => k ≠ V ∧ W.heap.size ≤ k) w w' := by
  obtain ⟨g0, bm, M, g', bm', M', h1, h2, hw, ⟨gv, av, nv, gs, ns, dl, h4⟩, h5, h6, h7, h8, h9⟩ := h
  refine (d_writeAny z m hm hn ad cp w h1 (hR _ _ _ _ h1)).mono ?_
  rintro e w' ⟨u, c, d', rfl, -, -, M2, -, -, K⟩
  have s := K.size
  refine ⟨u, rfl, ⟨g', bm', M', diskS_oldW h2 hw K (fun k hk => hk) (fun k hk => (h6 k hk).2.1), ⟨gv, av, nv, gs, ns, dl, refD_mono (refD_kx h4 K (fun k hk => by rcases hk with hk | hk; exact Or.inl (Or.inl (Or.inl hk)); exact Or.inr hk)) (fun k hk => by rcases hk with hk | hk; exact Or.inl (Or.inl (Or.inr hk)); exact Or.inl (Or.inr hk))⟩, fun k hk => (h6 k hk).1, fun hk => (h6 V hk).2.2 rfl, by omega, h9⟩, K.mono (fun k hk => ?_)⟩
  rcases hk with hk | hk
  · exact ⟨fun e => h7 (e ▸ hk), h5 k hk⟩
  · exact ⟨fun e => by omega, Nat.le_trans G.size hk⟩
/-- Bytes that were just made lie off each disk that was there. -/
theorem off10_new {a b : World} {v : Value} (o : Own b a.heap.size v L) (hp : ∃ g bm M d, DiskS a p g bm M d) (hu : ∀ g bm M d g' bm' M' d', DiskS b p g bm M d → DiskS b p g' bm' M' d' → ∀ k, dkZ p g bm M k → dkZ p g' bm' M' k) (g : Gr a b) : Off10 b p v L := fun g0 bm M d hd => by
  obtain ⟨g1, bm1, M1, d1, h1⟩ := hp
  exact rowOff_own o (fun k hk => diskS_zlt h1 k (hu _ _ _ _ _ _ _ _ hd (diskS_gr h1 g) k hk))
theorem diskS_uniq {b : World} {g bm g' bm' : Nat} {M M' : Option Nat} (h : DiskS b p g bm M d) (h' : DiskS b p g' bm' M' d') : ∀ k, dkZ p g bm M k → dkZ p g' bm' M' k := fun k hk => by
  obtain ⟨cap, ov, a1, a2, a3, a4⟩ := h.head
  obtain ⟨cap', ov', b1, b2, b3, b4⟩ := h'.head
  have e0 := a1.c0.symm.trans b1.c0
  have e1 := a1.c1.symm.trans b1.c1
  have e2 := a1.c2.symm.trans b1.c2
  simp at e0 e1 e2
  obtain ⟨rfl, -⟩ := e0
  subst e1
  subst e2
  rw [a4] at b4
  subst b4
  exact hk
end
end Go.Proofs.YtkbdhhmkdjajgaaDoor
