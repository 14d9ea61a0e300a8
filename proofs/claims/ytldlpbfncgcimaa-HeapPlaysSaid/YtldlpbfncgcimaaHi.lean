/- heap: Pop -/
import Derived.Test.YtldlpbfncgcimaaHh
namespace Go.Proofs.Ytldlpbfncgcimaa
set_option linter.unusedVariables false
open Go.ChangeShapes Go.WideShapes Go.ChangeAt Go.RowKit

/-- What Pop of a heap with entries leaves. -/
def PopAt (base p : Nat) (v : Value) (L : List Nu) (m : Nat) (W : World) (e : Ending) (w' : World) : Prop :=
  ∃ x v' M, e = .returned (.tuple #[.agg #[.int .i64 (x.e).id, .int .u64 (x.e).hi, .int .u64 (x.e).lo, .int .u64 (x.e).den, .bool (x.e).item, .int .i64 (x.e).node], .bool true]) ∧ HeapAt w' base p v' M m ∧ Fr W w' p v v' ∧ (x :: M).Perm L ∧ (∀ y ∈ L, ltN y x = false) ∧ Hp.hp ltN M
theorem row6 {w : World} {q : Nat} {T : TypeId} {a b c d e f : Value} (h : w.heap[q]? = some (.cells #[a, b, c, d, e, f] T (0, 0))) :
    w.cell? ⟨q, 0, none⟩ = some a ∧ w.cell? ⟨q, 1, none⟩ = some b ∧ w.cell? ⟨q, 2, none⟩ = some c ∧ w.cell? ⟨q, 3, none⟩ = some d ∧ w.cell? ⟨q, 4, none⟩ = some e ∧ w.cell? ⟨q, 5, none⟩ = some f ∧ ∀ j, w.frozen? ⟨q, j, none⟩ = false :=
  ⟨by rw [cell_of_row w q 0 _ _ _ h]; rfl, by rw [cell_of_row w q 1 _ _ _ h]; rfl, by rw [cell_of_row w q 2 _ _ _ h]; rfl, by rw [cell_of_row w q 3 _ _ _ h]; rfl, by rw [cell_of_row w q 4 _ _ _ h]; rfl, by rw [cell_of_row w q 5 _ _ _ h]; rfl, fun j => frozen_of_row w q j _ _ h⟩
theorem heapAt_fz {w : World} {base p g n cap m : Nat} {L : List Nu} (h : HeapAt w base p (.slice (some ⟨g, 0, none⟩) n cap) L m) (hn : n = L.length) : ∀ j, w.frozen? ⟨g, j, none⟩ = false := by
  subst hn
  exact fun j => World.ownsRow.frozenAt h.2.2.1 j
/-- A store into a block of the call's own that is no part of the heap. -/
theorem heapAt_sc {W w : World} {base p m : Nat} {u v : Value} {L : List Nu} (h : HeapAt w base p v L m ∧ Fr W w p u v) {a : Addr} {x : Value} (hp : a.block ≠ p) (hv : v.ownBlock ≠ some a.block) (hW : W.heap.size ≤ a.block) :
    HeapAt (w.setCell a x) base p v L m ∧ Fr W (w.setCell a x) p u v := by
  obtain ⟨⟨h1, h2, h3, h4⟩, hF⟩ := h
  have ho : ∀ k, k ≠ a.block → (w.setCell a x).heap[k]? = w.heap[k]? := fun k hk => heap_setCell_other _ a k _ hk
  have hs : (w.setCell a x).heap.size = w.heap.size := by simp
  refine ⟨⟨h1, by rw [ho p (fun e => hp e.symm)]; exact h2, h3.kept (row := some a.block) ⟨rfl, rfl, rfl, by rw [hs]; exact Nat.le_refl _, fun k hk hn => ho k (fun e => hn (by rw [e]))⟩ (Or.inr hv), h4⟩, ⟨hF.1.1, hF.1.2.1, hF.1.2.2.1, by rw [hs]; exact hF.1.2.2.2⟩, fun k hk hkp hkv => (ho k (by omega)).trans (hF.2.1 k hk hkp hkv), hF.2.2⟩
def zeroNu : Nu := ⟨⟨0, 0, 0, 0, false, 0⟩, 0⟩
set_option maxHeartbeats 8000000 in
set_option maxRecDepth 100000 in
theorem c_hPop (x : Nu) (L L0 : List Nu) (hL : L = x :: L0) (base p m : Nat) (v : Value) (hl : L.length ≤ 10000) (W : World) (hb : base ≤ W.heap.size) (H : HeapAt W base p v L m) (hok : ∀ y ∈ L, y.e.ok) (hhp : Hp.hp ltN L) :
    Calls Try.prog 24 #[.pointer (some ⟨p, 0, none⟩)] W fun e w' => PopAt base p v L m W e w' := by
  have hn0 : 0 < L.length := by rw [hL]; simp
  obtain ⟨g, cap, rfl, hbg, hgW, hncap, hcap, hpg⟩ := heapAt_row H hn0
  have hpW : p < W.heap.size := (Array.getElem?_eq_some_iff.1 H.2.1).1
  obtain ⟨n, en⟩ : ∃ n, n = L.length := ⟨_, rfl⟩
  obtain ⟨la, ela⟩ : ∃ la, la = L.length - 1 := ⟨_, rfl⟩
  have h0L : 0 < L.length := hn0
  have hlaL : la < L.length := by omega
  have A1 : ∀ w, Gr W w → Calls Try.prog 27 #[.pointer (some ⟨p, 0, none⟩)] w fun e w' => e = .returned (.tuple #[.agg #[.int .i64 (x.e).id, .int .u64 (x.e).hi, .int .u64 (x.e).lo, .int .u64 (x.e).den, .bool (x.e).item, .int .i64 (x.e).node], .bool true]) ∧ Gr w w' := fun w g => by
    have := c_hTop w (heapAt_gr H g) (by omega)
    rw [hL] at this
    exact this
  have A2 : ∀ w, HeapAt w base p (.slice (some ⟨g, 0, none⟩) L.length cap) L m → Calls Try.prog 37 #[.pointer (some ⟨p, 0, none⟩), .int .i64 0, .int .i64 la] w fun e w' => e = .returned (.tuple #[]) ∧ HeapAt w' base p (.slice (some ⟨g, 0, none⟩) L.length cap) (Hp.sw L 0 la h0L hlaL) m ∧ Fr w w' p (.slice (some ⟨g, 0, none⟩) L.length cap) (.slice (some ⟨g, 0, none⟩) L.length cap) :=
    fun w h => c_swap L 0 la h0L hlaL base p m _ (by omega) w h
  rw [← en] at A2 H
  rw [← en]
  have HH := Lib.hid (And.intro H (And.intro hok hhp))
  have HE := Lib.hid (And.intro en (And.intro ela hL))
  have w1 : (n : Int) - 1 = (la : Int) := by omega
  have hla5 : la ≤ 100000 := by omega
  have hla4 : la ≤ 10000 := by omega
  have s1 : (la : Int) < (n : Int) := by omega
  have s2 : la ≤ cap := by omega
  have s3 : (la : Int) ≤ (cap : Int) := by omega
  have s4 : (0 : Int) ≤ (la : Int) := by omega
  have s5 : n ≤ cap := by omega
  have s6 : (cap : Int) ≤ 9223372036854775807 := hcap
  have hgp : ¬ g = p := fun e => hpg e.symm
  have H1 := Lib.hid A1
  have H2 := Lib.hid A2
  clear A1 A2
  clear H hok hhp en ela hncap hcap hL hl hn0
  obtain ⟨wl2, wl3⟩ := wraps_small hla5
  go_enter Try.func24, Try.ntmps24
  go_wp2_with fail
  go_at_call 27
  (with_reducible refine (H1.out _ (by go_grown)).mono ?_)
  rintro e w2 ⟨rfl, g2⟩
  have G2 : Gr W w2 := Gr.trans (by go_grown) g2
  have T2 := Lib.hid (show w2.heap[W.heap.size]? = some (.cells #[.int .i64 0, .int .u64 0, .int .u64 0, .int .u64 0, .bool false, .int .i64 0] 50 (0, 0)) by rw [g2.block _ (by simp)]; exact heap_alloc_new W _)
  clear g2
  go_upto_region 4 with fail
  obtain ⟨w3, hw3⟩ : ∃ w3, w2.alloc (.cells #[.int .i64 x.e.id, .int .u64 x.e.hi, .int .u64 x.e.lo, .int .u64 x.e.den, .bool x.e.item, .int .i64 x.e.node] 50) = w3 := ⟨_, rfl⟩
  rw [hw3]
  have G3 : Gr W w3 := by subst hw3; have gs := G2.size; go_grown
  have T3 := Lib.hid (show w3.heap[W.heap.size]? = some (.cells #[.int .i64 0, .int .u64 0, .int .u64 0, .int .u64 0, .bool false, .int .i64 0] 50 (0, 0)) by subst hw3; exact ((World.grownBy_alloc w2 _ none).block _ (Array.getElem?_eq_some_iff.1 T2.out).1 (by simp)).trans T2.out)
  have U3 := Lib.hid (show w3.heap[w2.heap.size]? = some (.cells #[.int .i64 x.e.id, .int .u64 x.e.hi, .int .u64 x.e.lo, .int .u64 x.e.den, .bool x.e.item, .int .i64 x.e.node] 50 (0, 0)) by subst hw3; exact heap_alloc_new w2 _)
  have hq2 : W.heap.size < w2.heap.size := (Array.getElem?_eq_some_iff.1 T2.out).1
  have HA3 := Lib.hid (heapAt_gr HH.out.1 G3)
  have F3 := Lib.hid (Fr.of_gr (p := p) (v := .slice (some ⟨g, 0, none⟩) n cap) G3)
  clear hw3 T2 G2 G3
  have p3 := HA3.out.cells.1
  go_wp2_with fail
  go_at_call 37
  (with_reducible refine (H2.out _ HA3.out).mono ?_)
  rintro e w4 ⟨rfl, hs1, hs2⟩
  obtain ⟨M, eM⟩ : ∃ M, M = Hp.sw L 0 la h0L hlaL := ⟨_, rfl⟩
  rw [← eM] at hs1
  have hMl : M.length = L.length := by rw [eM, Hp.sw_len]
  have hnM : n = M.length := by rw [hMl]; exact HE.out.1
  have hlaM : la < M.length := by omega
  have hne2 : some W.heap.size ≠ Value.ownBlock (.slice (some ⟨g, 0, none⟩) n cap) := by simp [Value.ownBlock]; omega
  have hne3 : some w2.heap.size ≠ Value.ownBlock (.slice (some ⟨g, 0, none⟩) n cap) := by simp [Value.ownBlock]; omega
  have T4 := Lib.hid (hs2.block T3.out (by omega) hne2)
  have U4 := Lib.hid (hs2.block U3.out (by omega) hne3)
  have F4 := Lib.hid (F3.out.trans hs2)
  have HA4 := Lib.hid hs1
  obtain ⟨y, ey⟩ : ∃ y, y = M[la] := ⟨_, rfl⟩
  obtain ⟨a0, a1, a2, a3, a4, a5, a6⟩ := heapAt_entry hs1 hnM la hlaM y ey.symm
  have p4 := hs1.cells.1
  have fz := heapAt_fz hs1 hnM
  have k5 := heapAt_set hs1 hnM la zeroNu hlaM
  have HM := Lib.hid (And.intro eM (And.intro hMl hnM))
  clear hs1 hs2 T3 U3 F3 HA3 eM hMl hnM ey hne2 hne3 p3
  go_upto_region 7 with fail
  obtain ⟨w5, hw5⟩ : ∃ w5, ((((((w4.setCell ⟨g, la * 7, none⟩ (.int .i64 0)).setCell ⟨g, la * 7 + 1, none⟩ (.int .u64 0)).setCell ⟨g, la * 7 + 2, none⟩ (.int .u64 0)).setCell ⟨g, la * 7 + 3, none⟩ (.int .u64 0)).setCell ⟨g, la * 7 + 4, none⟩ (.bool false)).setCell ⟨g, la * 7 + 5, none⟩ (.int .i64 0)).setCell ⟨g, la * 7 + 6, none⟩ (.int .i64 0) = w5 := ⟨_, rfl⟩
  have k6 : HeapAt w5 base p (.slice (some ⟨g, 0, none⟩) n cap) (M.set la zeroNu) m ∧ Fr w4 w5 p (.slice (some ⟨g, 0, none⟩) n cap) (.slice (some ⟨g, 0, none⟩) n cap) := by rw [← hw5]; exact k5
  have hne2 : some W.heap.size ≠ Value.ownBlock (.slice (some ⟨g, 0, none⟩) n cap) := by simp [Value.ownBlock]; omega
  have hne3 : some w2.heap.size ≠ Value.ownBlock (.slice (some ⟨g, 0, none⟩) n cap) := by simp [Value.ownBlock]; omega
  have T5 := Lib.hid (k6.2.block T4.out (by omega) hne2)
  have U5 := Lib.hid (k6.2.block U4.out (by omega) hne3)
  have F5 := Lib.hid (F4.out.trans k6.2)
  obtain ⟨p5, -, pf5, -⟩ := k6.1.cells
  have k7 := heapAt_cut k6.1 (by rw [List.length_set]; exact HM.out.2.2) la (by omega)
  rw [hw5]
  have HC := Lib.hid k7
  have hlt : ((M.set la zeroNu).take la).length ≤ 10000 := by simp; omega
  have hll : la = ((M.set la zeroNu).take la).length := by simp; omega
  have hM' : (M.set la zeroNu).take la = (Hp.sw L 0 (L.length - 1) h0L (by omega)).take (L.length - 1) := by
    rw [List.take_set_of_le (Nat.le_refl _), HM.out.1]
    have := HE.out.2.1
    subst this
    rfl
  have hDd : Hp.hpD ltN ((M.set la zeroNu).take la) 0 := by rw [hM']; exact Hp.hpD_start HH.out.2.2 h0L
  have hpm : L.Perm (x :: (M.set la zeroNu).take la) := by
    have := Hp.take_perm h0L
    rw [← hM'] at this
    have hx : L[0] = x := by
      have := HE.out.2.2
      subst this
      rfl
    rw [hx] at this
    exact this
  have A3 := fun w (h : HeapAt w base p (.slice (some ⟨g, 0, none⟩) la cap) ((M.set la zeroNu).take la) m) => c_sink _ base p m g la cap hlt hll w h (fun y hy => HH.out.2.1 y (hpm.mem_iff.2 (List.mem_cons_of_mem _ hy))) hDd
  have H3 := Lib.hid A3
  have HP := Lib.hid hpm
  clear k5 k6 k7 hw5 T4 U4 F4 HA4 a0 a1 a2 a3 a4 a5 a6 p4 fz hne2 hne3 hlt hll hM' hDd A3 hpm HM
  go_wp2_with fail
  go_at_call 38
  (with_reducible refine (H3.out _ HC.out.1).mono ?_)
  rintro e w6 ⟨rfl, hsk⟩
  obtain ⟨N, n1, n2, n3, n4, n5⟩ := hsk
  have hne2 : some W.heap.size ≠ Value.ownBlock (.slice (some ⟨g, 0, none⟩) n cap) := by simp [Value.ownBlock]; omega
  have hne3 : some w2.heap.size ≠ Value.ownBlock (.slice (some ⟨g, 0, none⟩) n cap) := by simp [Value.ownBlock]; omega
  have T6 := n2.block (HC.out.2.block T5.out (by omega) hne2) (by omega) hne2
  have U6 := n2.block (HC.out.2.block U5.out (by omega) hne3) (by omega) hne3
  have F6 := Lib.hid ((F5.out.trans HC.out.2).trans n2)
  have N1 := Lib.hid (And.intro n1 (And.intro n3 n4))
  obtain ⟨t0, t1, t2, t3, t4, t5, tf⟩ := row6 T6
  obtain ⟨v0, v1, v2, v3, v4, v5, vf⟩ := row6 U6
  clear n1 n2 n3 n4 n5 T5 U5 F5 HC T6 U6 hne2 hne3 p5 pf5 vf
  go_wp2_with fail
  have e0 : W.heap.size ≠ p := by omega
  have e1 : Value.ownBlock (.slice (some ⟨g, 0, none⟩) la cap) ≠ some W.heap.size := by simp [Value.ownBlock]; omega
  have e2 : W.heap.size ≤ W.heap.size := Nat.le_refl _
  have K0 := And.intro N1.out.1 F6.out
  have K1 := heapAt_sc (a := ⟨W.heap.size, 0, none⟩) (x := .int .i64 x.e.id) K0 e0 e1 e2
  have K2 := heapAt_sc (a := ⟨W.heap.size, 1, none⟩) (x := .int .u64 x.e.hi) K1 e0 e1 e2
  have K3 := heapAt_sc (a := ⟨W.heap.size, 2, none⟩) (x := .int .u64 x.e.lo) K2 e0 e1 e2
  have K4 := heapAt_sc (a := ⟨W.heap.size, 3, none⟩) (x := .int .u64 x.e.den) K3 e0 e1 e2
  have K5 := heapAt_sc (a := ⟨W.heap.size, 4, none⟩) (x := .bool x.e.item) K4 e0 e1 e2
  have K6 := Lib.hid (heapAt_sc (a := ⟨W.heap.size, 5, none⟩) (x := .int .i64 x.e.node) K5 e0 e1 e2)
  clear K0 K1 K2 K3 K4 K5 e0 e1 e2
  refine bodyPost_ret (v := .tuple #[.agg #[.int .i64 (x.e).id, .int .u64 (x.e).hi, .int .u64 (x.e).lo, .int .u64 (x.e).den, .bool (x.e).item, .int .i64 (x.e).node], .bool true]) (by simp [results, Try.results24, go_sem, *]) rfl ?_
  exact ⟨x, _, N, rfl, K6.out.1, K6.out.2, ((List.Perm.cons x N1.out.2.1).trans HP.out.symm), fun y hy => by
    have := Hp.hp_root ltN_ord HH.out.2.2 h0L y hy
    have hx : L[0] = x := by
      have := HE.out.2.2
      subst this
      rfl
    rw [hx] at this
    exact this, N1.out.2.2⟩
end Go.Proofs.Ytldlpbfncgcimaa
