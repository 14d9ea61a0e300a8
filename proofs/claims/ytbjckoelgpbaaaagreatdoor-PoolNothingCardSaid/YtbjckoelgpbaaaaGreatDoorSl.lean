/- slots: a page, a row of flags and a row of rows beside it (towards SlotsKeep) -/
import Derived.Test.YtbjckoelgpbaaaaGreatDoorSj
import Derived.Test.YtbjckoelgpbaaaaGreatDoorSk
import Derived.Test.YtbjckoelgpbaaaaGreatDoorSh
namespace Go.Proofs.YtbjckoelgpbaaaaGreatDoor
set_option linter.unusedVariables false
set_option linter.unusedSimpArgs false
open Go.ChangeShapes Go.WideShapes Go.ChangeAt Go.RowKit

/-- These blocks are new, or hold a row of something else than bytes. -/
def OthS (w : World) (S : Nat → Prop) : Prop := ∀ k, S k → w.heap.size ≤ k ∨ ∃ cur T, T ≠ 5 ∧ w.heap[k]? = some (.cells cur T (0, 0))
theorem othS_own {w : World} {T : TypeId} {base size n : Nat} {v : Value} {xs : List Value} (hT : T ≠ 5) (h : w.ownsRow base T size v n xs) : OthS w (fun k => v.ownBlock = some k) := fun k hk => by
  rcases h.2 with ⟨e, _⟩ | ⟨g, cap, cur, e, hb, hg, _⟩
  · subst e; cases hk
  · subst e
    obtain rfl : g = k := by simpa [Value.ownBlock] using hk
    exact Or.inr ⟨cur, T, hT, hg⟩
theorem rowOff_oth {a b : World} {S Z : Nat → Prop} {v : Value} {L : List UInt8} (h : RowOff a Z v L) (K : Kx S a b) (hS : OthS a S) : RowOff b Z v L := by
  obtain ⟨⟨ad, cap, B, off, e, h1, h2, h3, h4⟩, h5, h6⟩ := h
  have hB : ∀ (hl : 0 < L.length), ¬ S B := fun hl hs => by
    have hB : B < a.heap.size := World.block_lt_of_cell? _ _ (h4 0 hl)
    rcases hS _ hs with h | ⟨cur, T, hT, h⟩
    · omega
    · obtain ⟨cur', hc⟩ := h6 hl _ _ _ (by rw [e, h3 hl])
      rw [h] at hc
      simp only [Option.some.injEq, Obj.cells.injEq] at hc
      exact hT hc.2.1
  refine ⟨⟨ad, cap, B, off, e, h1, h2, h3, fun j hj => cell_kx K (hB (by omega)) (h4 j hj)⟩, h5, fun hl ad' m c e' => ?_⟩
  obtain ⟨cur, hc⟩ := h6 hl ad' m c e'
  rw [e, h3 hl] at e'
  cases e'
  exact ⟨cur, heap_kx K (hB hl) hc⟩
theorem slotC_oth {a b : World} {S Z : Nat → Prop} {o : Sl} {x y : Value} (h : SlotC a Z o x y) (K : Kx S a b) (hS : OthS a S) : SlotC b Z o x y := by
  cases o with
  | none => exact h
  | some L => exact ⟨h.1, rowOff_oth h.2.1 K hS, h.2.2⟩
section
variable {B : Nat} {C : Option Nat} {kd id : Int} {S : List Sl}
theorem pageS_oth {a b : World} {T : Nat → Prop} (h : PageS a B C kd id S) (g : Kx T a b) (hS : OthS a T) (hT : ∀ k, T k → ¬ pgZ B C k) : PageS b B C kd id S := by
  obtain ⟨sl, xs, h1, h2, h3, h4, h5, h6⟩ := h
  refine ⟨sl, xs, pageAt_kx h1 g (fun hs => hT _ hs (Or.inl rfl)), h2, h3, h4, rowOwn_kxS h5 g (fun k hk hs => hT _ hs (Or.inr (by rw [← h2]; exact hk))), fun j hj => ?_⟩
  obtain ⟨x, y, e1, e2, e3⟩ := h6 j hj
  exact ⟨x, y, e1, e2, slotC_oth e3 g hS⟩
theorem pageS_zltK {w : World} (h : PageS w B C kd id S) : ∀ k, pgZ B C k → k < w.heap.size := fun k hk => by
  obtain ⟨sl, xs, h1, h2, h3, h4, h5, h6⟩ := h
  rcases hk with rfl | hk
  · exact World.block_lt_of_cell? _ _ h1.1
  · exact (World.ownsRow.lt h5 k (by rw [h2, hk])).2
end
/-- A page of the law's own; flags; what is wanted; bytes that go in next. -/
structure KeepS (W w : World) (B : Nat) (C : Option Nat) (S : List Sl) (H : Nat) (hs : List Bool) (Cw : Nat) (xs : List Value) (wf : Nat → Sl) (vL : Value) (L : List UInt8) : Prop where
  page : PageS w B C 0 0 S
  new : ∀ k, pgZ B C k → W.heap.size ≤ k
  rH : w.ownsRow 0 4 1 (.slice (some ⟨H, 0, none⟩) 60 60) 60 (hs.map Value.bool)
  rW : w.ownsRow 0 109 1 (.slice (some ⟨Cw, 0, none⟩) 60 60) 60 xs
  sl : ∀ v ∈ xs, ∃ a m c, v = .slice a m c
  wants : ∀ j X, j < 60 → wf j = some X → ∃ v, xs[j]? = some v ∧ RowOff w (pgZ B C) v X ∧ X.length ≤ 400
  hL : RowOff w (pgZ B C) vL L
  offH : ¬ pgZ B C H ∧ W.heap.size ≤ H
  offW : ¬ pgZ B C Cw ∧ W.heap.size ≤ Cw
  ne : H ≠ Cw
section
variable {W w : World} {B H Cw : Nat} {C : Option Nat} {S : List Sl} {hs : List Bool} {xs : List Value} {wf : Nat → Sl} {vL : Value} {L : List UInt8}
theorem keep_gr {w' : World} (h : KeepS W w B C S H hs Cw xs wf vL L) (g : Gr w w') : KeepS W w' B C S H hs Cw xs wf vL L :=
  ⟨pageS_gr h.page g, h.new, rowOwn_gr h.rH g, rowOwn_gr h.rW g, h.sl, fun j X hj e => by
    obtain ⟨v, e1, r, l⟩ := h.wants j X hj e; exact ⟨v, e1, rowOff_gr r g, l⟩, rowOff_gr h.hL g, h.offH, h.offW, h.ne⟩
theorem keep_loose {vK : Value} {K : List UInt8} (h : KeepS W w B C S H hs Cw xs wf vL L) {w' : World} (g : Gr w w') (o : Own w' w.heap.size vK K) : KeepS W w' B C S H hs Cw xs wf vK K := by
  have h' := keep_gr h g
  exact ⟨h'.page, h'.new, h'.rH, h'.rW, h'.sl, h'.wants, rowOff_own o (pageS_zltK h.page), h'.offH, h'.offW, h'.ne⟩
/-- The page alone has turned. -/
theorem keep_turn {w' : World} {C' : Option Nat} {S' : List Sl} (h : KeepS W w B C S H hs Cw xs wf vL L) (hp : PageS w' B C' 0 0 S') (K : Kx (fun k => pgZ B C k ∨ w.heap.size ≤ k) w w') (hC : C' = C ∨ ∃ D, C' = some D ∧ w.heap.size ≤ D) (G : Gr W w) :
    KeepS W w' B C' S' H hs Cw xs wf vL L := by
  have hz : ∀ j, pgZ B C' j → pgZ B C j ∨ w.heap.size ≤ j := fun j hj => by
    rcases hj with e | e
    · exact Or.inl (Or.inl e)
    · rcases hC with rfl | ⟨i, rfl, hi⟩
      · exact Or.inl (Or.inr e)
      · obtain rfl := Option.some.inj e
        exact Or.inr hi
  have turn : ∀ {v : Value} {X : List UInt8}, RowOff w (pgZ B C) v X → RowOff w' (pgZ B C') v X := fun hr =>
    rowOff_mono (rowOff_kx (rowOff_mono (Z' := fun k => pgZ B C k ∨ w.heap.size ≤ k) hr (fun k h => h)) K (fun j hj => Or.inl hj)) (fun j hj => Or.inl (hz j hj))
  have lH : H < w.heap.size := (World.ownsRow.lt h.rH H rfl).2
  have lW : Cw < w.heap.size := (World.ownsRow.lt h.rW Cw rfl).2
  refine ⟨hp, fun k hk => ?_, rowOwn_kxS h.rH K (fun k hk e => ?_), rowOwn_kxS h.rW K (fun k hk e => ?_), h.sl, fun j X hj e => ?_, turn h.hL, ⟨fun e => ?_, h.offH.2⟩, ⟨fun e => ?_, h.offW.2⟩, h.ne⟩
  · rcases hz k hk with e | e
    · exact h.new k e
    · exact Nat.le_trans G.size e
  · obtain rfl : H = k := by simpa [Value.ownBlock] using hk
    rcases e with e | e
    · exact h.offH.1 e
    · omega
  · obtain rfl : Cw = k := by simpa [Value.ownBlock] using hk
    rcases e with e | e
    · exact h.offW.1 e
    · omega
  · obtain ⟨v, e1, r, l⟩ := h.wants j X hj e
    exact ⟨v, e1, turn r, l⟩
  · rcases hz H e with e | e
    · exact h.offH.1 e
    · omega
  · rcases hz Cw e with e | e
    · exact h.offW.1 e
    · omega
/-- A flag is set. -/
theorem keep_flag {k : Nat} (b : Bool) (h : KeepS W w B C S H hs Cw xs wf vL L) : KeepS W (w.setCell ⟨H, k, none⟩ (.bool b)) B C S H (hs.set k b) Cw xs wf vL L := by
  have K : Kx (fun j => j = H) w (w.setCell ⟨H, k, none⟩ (.bool b)) := (Kx.refl (S := fun j => j = H) w).setCell (p := ⟨H, k, none⟩) rfl _
  have hS : OthS w (fun j => j = H) := fun j hj => othS_own (by decide) h.rH j (by rw [hj]; rfl)
  refine ⟨pageS_oth h.page K hS (fun j hj => by subst hj; exact h.offH.1), h.new, by rw [List.map_set]; exact (h.rH.stored k _).1, rowOwn_kxS h.rW K (fun j hj e => ?_), h.sl, fun j X hj e => ?_, rowOff_oth h.hL K hS, h.offH, h.offW, h.ne⟩
  · obtain rfl : Cw = j := by simpa [Value.ownBlock] using hj
    exact h.ne e.symm
  · obtain ⟨v, e1, r, l⟩ := h.wants j X hj e
    exact ⟨v, e1, rowOff_oth r K hS, l⟩
/-- Bytes are kept. -/
theorem keep_want {k : Nat} {ad : Option Addr} {m c : Nat} (h : KeepS W w B C S H hs Cw xs wf (.slice ad m c) L) (hk : k < 60) (hl : L.length ≤ 400) :
    KeepS W (w.setCell ⟨Cw, k, none⟩ (.slice ad m c)) B C S H hs Cw (xs.set k (.slice ad m c)) (fun j => if j = k then some L else wf j) (.slice ad m c) L := by
  have K : Kx (fun j => j = Cw) w (w.setCell ⟨Cw, k, none⟩ (.slice ad m c)) := (Kx.refl (S := fun j => j = Cw) w).setCell (p := ⟨Cw, k, none⟩) rfl _
  have hS : OthS w (fun j => j = Cw) := fun j hj => othS_own (by decide) h.rW j (by rw [hj]; rfl)
  have hlen : xs.length = 60 := by have := h.rW.1; omega
  refine ⟨pageS_oth h.page K hS (fun j hj => by subst hj; exact h.offW.1), h.new, rowOwn_kxS h.rH K (fun j hj e => ?_), (h.rW.stored k _).1, fun v hv => ?_, fun j X hj e => ?_, rowOff_oth h.hL K hS, h.offH, h.offW, h.ne⟩
  · obtain rfl : H = j := by simpa [Value.ownBlock] using hj
    exact h.ne e
  · rcases List.mem_or_eq_of_mem_set hv with h' | h'
    · exact h.sl v h'
    · exact ⟨ad, m, c, h'⟩
  · by_cases ej : j = k
    · subst ej
      rw [if_pos rfl] at e
      obtain rfl := Option.some.inj e
      exact ⟨_, List.getElem?_set_self (by omega), rowOff_oth h.hL K hS, hl⟩
    · rw [if_neg ej] at e
      obtain ⟨v, e1, r, l⟩ := h.wants j X hj e
      exact ⟨v, by rw [List.getElem?_set_ne (fun h => ej h.symm)]; exact e1, rowOff_oth r K hS, l⟩
end
end Go.Proofs.YtbjckoelgpbaaaaGreatDoor
