/- disk: a row of rows that is kept beside a disk -/
import Derived.Test.YtcalleofndokaaaDj
namespace Go.Proofs.Ytcalleofndokaaa
set_option linter.unusedVariables false
set_option linter.unusedSimpArgs false
open Go.ChangeShapes Go.WideShapes Go.ChangeAt Go.RowKit Go.Maps

/-- A row of slices of the law's own. -/
def WantR (w : World) (C n : Nat) (xs : List Value) : Prop := w.ownsRow 0 30 1 (.slice (some ⟨C, 0, none⟩) n n) n xs ∧ ∀ v ∈ xs, ∃ a m c, v = .slice a m c
theorem wantR_kx {S : Nat → Prop} {a b : World} {C n : Nat} {xs : List Value} (h : WantR a C n xs) (g : Kx S a b) (hC : ¬ S C) : WantR b C n xs :=
  ⟨rowOwn_kxS h.1 g (fun k hk hs => by
    obtain rfl : C = k := by simpa [Value.ownBlock] using hk
    exact hC hs), h.2⟩
theorem wantR_gr {a b : World} {C n : Nat} {xs : List Value} (h : WantR a C n xs) (g : Gr a b) : WantR b C n xs := wantR_kx (S := fun _ => False) h (Kx.of_gr g) (fun h => h)
theorem wantR_lt {w : World} {C n : Nat} {xs : List Value} (h : WantR w C n xs) : C < w.heap.size := (World.ownsRow.lt h.1 C rfl).2
theorem wantR_len {w : World} {C n : Nat} {xs : List Value} (h : WantR w C n xs) : xs.length = n := by have := h.1.1; omega
theorem wantR_cell {w : World} {C n : Nat} {xs : List Value} (h : WantR w C n xs) (j : Nat) (hj : j < n) : w.cell? ⟨C, j, none⟩ = xs[j]? ∧ w.frozen? ⟨C, j, none⟩ = false := ⟨h.1.cellAt j (by omega), h.1.frozenAt j⟩
theorem wantR_set {w : World} {C n j : Nat} {xs : List Value} (h : WantR w C n xs) {a : Option Addr} {m c : Nat} : WantR (w.setCell ⟨C, j, none⟩ (.slice a m c)) C n (xs.set j (.slice a m c)) :=
  ⟨(h.1.stored j _).1, fun v hv => by
    rcases List.mem_or_eq_of_mem_set hv with h' | h'
    · exact h.2 v h'
    · exact ⟨a, m, c, h'⟩⟩
/-- Bytes lie elsewhere. -/
theorem want_sep {w : World} {C n : Nat} {xs : List Value} (h : WantR w C n xs) {v : Value} {L : List UInt8} (hr : Row w v L) (h0 : 0 < L.length) : ∀ (ad : Addr) (m c : Nat), v = .slice (some ad) m c → ad.block ≠ C := by
  intro ad m c e hb
  obtain ⟨ad', c', B, off, e', r1, r2, r3, r4⟩ := hr
  rw [e', r3 h0] at e
  cases e
  have hBC : B = C := hb
  subst hBC
  have hc := r4 0 h0
  rcases h.1.2 with ⟨e, _⟩ | ⟨g', cap, cur, e, hbb, hg, hn, hcc, hcs, ht⟩
  · cases e
  · simp only [Value.slice.injEq, Option.some.injEq, Addr.mk.injEq, and_true, true_and] at e
    obtain ⟨rfl, rfl⟩ := e
    rw [Nat.add_zero, cell_of_row w B off cur _ (0, 0) hg] at hc
    have hoff : off < n := by
      have := (Array.getElem?_eq_some_iff.1 hc).1
      omega
    have hx := h.1.cellAt off (by omega)
    rw [cell_of_row w B off cur _ (0, 0) hg, hc] at hx
    obtain ⟨a, m', c'', e⟩ := h.2 _ (List.mem_of_getElem? hx.symm)
    cases e
theorem rowOff_want {w : World} {C n j : Nat} {xs : List Value} {Z : Nat → Prop} (h : WantR w C n xs) {v u : Value} {L : List UInt8} (hr : RowOff w Z v L) : RowOff (w.setCell ⟨C, j, none⟩ u) Z v L := by
  refine ⟨?_, hr.2⟩
  obtain ⟨ad', c', B, off, e', r1, r2, r3, r4⟩ := hr.1
  refine ⟨ad', c', B, off, e', r1, r2, r3, fun i hi => ?_⟩
  have hne : B ≠ C := want_sep h hr.1 (by omega) ⟨B, off, none⟩ L.length c' (by rw [e', r3 (by omega)])
  exact cell_kx (S := fun k => k = C) ((Kx.refl (S := fun k => k = C) w).setCell (p := ⟨C, j, none⟩) rfl u) hne (r4 i hi)
theorem diskS_want {w : World} {p g bm C n j : Nat} {M : Option Nat} {d : Dk} {xs : List Value} (H : DiskS w p g bm M d) (h : WantR w C n xs) (hC : ¬ dkZ p g bm M C) (u : Value) : DiskS (w.setCell ⟨C, j, none⟩ u) p g bm M d := by
  have K : Kx (fun k => k = C) w (w.setCell ⟨C, j, none⟩ u) := (Kx.refl (S := fun k => k = C) w).setCell (p := ⟨C, j, none⟩) rfl u
  obtain ⟨h1, ⟨cap, ov, h2, h3, h4, h5⟩, ⟨D, h6, h7, h8⟩, h9⟩ := H
  refine ⟨h1, ⟨cap, ov, diskAt_kx h2 K (fun e => hC (Or.inl e.symm)), rowOwn_kxS h3 K (fun k hk e => ?_), rowOwn_kxS h4 K (fun k hk e => ?_), h5⟩, ⟨D, ownsMap_kx h6 K (fun e => hC (Or.inr (Or.inr (Or.inl e.symm)))), h7, fun k hk => ⟨(h8 k hk).1, fun hin => ?_⟩⟩, h9⟩
  · obtain rfl : g = k := by simpa [Value.ownBlock] using hk
    exact hC (Or.inr (Or.inl e.symm))
  · rw [h5] at hk
    exact hC (Or.inr (Or.inr (Or.inr (by rw [hk, e]))))
  · obtain ⟨e1, v, e2, e3⟩ := (h8 k hk).2 hin
    exact ⟨e1, v, e2, rowOff_want h e3⟩
/-- A disk of the law's own, and beside it what was written. -/
structure OrdS (W w : World) (p C n cnt : Nat) (o : List Nat) (F : Nat → List UInt8) (q bm : Nat) (M : Option Nat) (d : Dk) (xs : List Value) : Prop where
  disk : DiskS w p q bm M d
  new : ∀ k, dkZ p q bm M k → W.heap.size ≤ k
  plain : Plain d n cnt
  good : d.good = List.replicate (n * 64) 0
  ord : d.ord = o
  fun_ : ∀ k ∈ o, d.F k = F k
  want : WantR w C n xs
  off : ¬ dkZ p q bm M C
  newC : W.heap.size ≤ C
  rows : ∀ k ∈ o, ∃ v, xs[k]? = some v ∧ RowOff w (dkZ p q bm M) v (F k)
def OrdX (W w : World) (p C n cnt : Nat) (o : List Nat) (F : Nat → List UInt8) : Prop := ∃ q bm M d xs, OrdS W w p C n cnt o F q bm M d xs
theorem ordX_gr {W a b : World} {p C n cnt : Nat} {o : List Nat} {F : Nat → List UInt8} (h : OrdX W a p C n cnt o F) (g : Gr a b) : OrdX W b p C n cnt o F := by
  obtain ⟨q, bm, M, d, xs, h⟩ := h
  exact ⟨q, bm, M, d, xs, diskS_gr h.disk g, h.new, h.plain, h.good, h.ord, h.fun_, wantR_gr h.want g, h.off, h.newC, fun k hk => by
    obtain ⟨v, e, r⟩ := h.rows k hk
    exact ⟨v, e, rowOff_gr r g⟩⟩
/-- One more is written, and kept beside. -/
theorem ord_step {W w0 w : World} {p C n cnt k : Nat} {o : List Nat} {F : Nat → List UInt8} {L : List UInt8} (h : OrdX W w0 p C n cnt o F) (g0 : Gr w0 w) (G : Gr W w) (hk : k < n) (hc : cnt < 1000000) (hL : L.length = 64)
    (o2 : Own w w0.heap.size (.slice (some ⟨w0.heap.size, 0, none⟩) 64 64) L) :
    Calls Try.prog 23 #[.pointer (some ⟨p, 0, none⟩), .int .i64 k, .slice (some ⟨w0.heap.size, 0, none⟩) 64 64] (w.setCell ⟨C, k, none⟩ (.slice (some ⟨w0.heap.size, 0, none⟩) 64 64)) fun e w' =>
      e = .returned .nilIface ∧ OrdX W w' p C n (cnt + 1) (if k ∈ o then o else o ++ [k]) (fun j => if j = k then L else F j) ∧ Gr W w' := by
  obtain ⟨q, bm, M, d, xs, h⟩ := h
  have hz := diskS_zlt h.disk
  have hlt := wantR_lt h.want
  have hr0 : RowOff w (dkZ p q bm M) (.slice (some ⟨w0.heap.size, 0, none⟩) 64 64) L := rowOff_own o2 hz
  have hw := wantR_gr h.want g0
  have hd := diskS_want (j := k) (diskS_gr h.disk g0) hw h.off (.slice (some ⟨w0.heap.size, 0, none⟩) 64 64)
  have hr1 := rowOff_want (j := k) (u := .slice (some ⟨w0.heap.size, 0, none⟩) 64 64) hw hr0
  have hw1 := wantR_set (j := k) (a := some ⟨w0.heap.size, 0, none⟩) (m := 64) (c := 64) hw
  have G1 : Gr W (w.setCell ⟨C, k, none⟩ (.slice (some ⟨w0.heap.size, 0, none⟩) 64 64)) := Kx.gr (S := fun j => j = C) ((Kx.refl (S := fun j => j = C) w).setCell (p := ⟨C, k, none⟩) rfl _) G (fun j e => by rw [e]; exact h.newC)
  have hrows : ∀ j ∈ o, ∃ v, xs[j]? = some v ∧ RowOff (w.setCell ⟨C, k, none⟩ (.slice (some ⟨w0.heap.size, 0, none⟩) 64 64)) (dkZ p q bm M) v (F j) := fun j hj => by
    obtain ⟨v, e, r⟩ := h.rows j hj
    exact ⟨v, e, rowOff_want hw (rowOff_gr r g0)⟩
  have hsz : (w.setCell ⟨C, k, none⟩ (.slice (some ⟨w0.heap.size, 0, none⟩) 64 64)).heap.size = w.heap.size := by simp [World.setCell]
  generalize w.setCell ⟨C, k, none⟩ (.slice (some ⟨w0.heap.size, 0, none⟩) 64 64) = w1 at *
  have hn := h.plain.n
  refine (d_write k (by rw [hn]; exact hk) (plain_on h.plain) (by rw [h.plain.ops]; exact hc) hL _ _ w1 hd hr1).mono ?_
  rintro e w' ⟨rfl, M', h3, h4, h5⟩
  have hn' : ∀ j, dkZ p q bm M' j → dkZ p q bm M j ∨ w1.heap.size ≤ j := fun j hj => by
    rcases hj with e | e | e | e
    · exact Or.inl (Or.inl e)
    · exact Or.inl (Or.inr (Or.inl e))
    · exact Or.inl (Or.inr (Or.inr (Or.inl e)))
    · rcases h4 with rfl | ⟨i, rfl, hi⟩
      · exact Or.inl (Or.inr (Or.inr (Or.inr e)))
      · obtain rfl := Option.some.inj e
        exact Or.inr hi
  have hT : ∀ j, (j = p ∨ M = some j ∨ j = bm ∨ w1.heap.size ≤ j) → dkZ p q bm M j ∨ w1.heap.size ≤ j := fun j hj => by
    rcases hj with e | e | e | e
    · exact Or.inl (Or.inl e)
    · exact Or.inl (Or.inr (Or.inr (Or.inr e)))
    · exact Or.inl (Or.inr (Or.inr (Or.inl e)))
    · exact Or.inr e
  have s0 := g0.size
  have sW := G1.size
  have hCw : C < w1.heap.size := wantR_lt hw1
  have turn : ∀ {v : Value} {X : List UInt8}, RowOff w1 (dkZ p q bm M) v X → RowOff w' (dkZ p q bm M') v X := fun hr =>
    rowOff_mono (rowOff_kx (rowOff_mono (Z' := fun k => dkZ p q bm M k ∨ w1.heap.size ≤ k) hr (fun k h => h)) h5 (fun j hj => Or.inl (hT j hj))) (fun j hj => Or.inl (hn' j hj))
  refine ⟨rfl, ⟨q, bm, M', _, xs.set k (.slice (some ⟨w0.heap.size, 0, none⟩) 64 64), h3, fun j hj => ?_, plain_wr h.plain _ _, h.good, ?_, ?_, wantR_kx hw1 h5 (fun hs => ?_), fun hj => ?_, h.newC, ?_⟩, Kx.gr h5 G1 (fun j hj => ?_)⟩
  · rcases hn' j hj with e | e
    · exact h.new j e
    · omega
  · show d.opd.wrO k = _
    unfold Dk.wrO
    have e : d.opd.ord = o := h.ord
    rw [e]
  · intro j hj
    show (if j = k then L else d.opd.F j) = _
    by_cases e : j = k
    · rw [if_pos e, if_pos e]
    · rw [if_neg e, if_neg e]
      refine h.fun_ j ?_
      by_cases hko : k ∈ o
      · rw [if_pos hko] at hj; exact hj
      · rw [if_neg hko, List.mem_append, List.mem_singleton] at hj
        rcases hj with hj | hj
        · exact hj
        · exact absurd hj e
  · rcases hT C hs with e | e
    · exact h.off e
    · omega
  · rcases hn' C hj with e | e
    · exact h.off e
    · omega
  · intro j hj
    have hxl := wantR_len h.want
    by_cases e : j = k
    · subst e
      refine ⟨_, List.getElem?_set_self (by omega), ?_⟩
      rw [if_pos rfl]
      exact turn hr1
    · have hjo : j ∈ o := by
        by_cases hko : k ∈ o
        · rw [if_pos hko] at hj; exact hj
        · rw [if_neg hko, List.mem_append, List.mem_singleton] at hj
          rcases hj with hj | hj
          · exact hj
          · exact absurd hj e
      obtain ⟨v, ev, rv⟩ := hrows j hjo
      refine ⟨v, by rw [List.getElem?_set_ne (fun h => e h.symm)]; exact ev, ?_⟩
      rw [if_neg e]
      exact turn rv
  · rcases hT j hj with e | e
    · exact h.new j e
    · omega
end Go.Proofs.Ytcalleofndokaaa
