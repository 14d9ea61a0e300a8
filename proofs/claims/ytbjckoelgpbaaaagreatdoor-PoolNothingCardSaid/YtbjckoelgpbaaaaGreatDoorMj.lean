/- the document's page: what it holds; is, Used, Get, NewPage -/
import Derived.Test.YtbjckoelgpbaaaaGreatDoorSh
import Derived.Test.YtbjckoelgpbaaaaGreatDoorSl
namespace Go.Proofs.YtbjckoelgpbaaaaGreatDoor
set_option linter.unusedVariables false
set_option linter.unusedSimpArgs false
open Go.ChangeShapes Go.WideShapes Go.ChangeAt Go.RowKit

/-- A row of whatever: how its slice looks, and what it holds. -/
theorem rowF {w : World} {b e n size : Nat} {v : Value} {xs : List Value} (h : w.ownsRow b e size v n xs) : ∃ (D : Nat) (ad : Option Addr) (cap : Nat), v = .slice ad n cap ∧ (0 < n → ad = some ⟨D, 0, none⟩) ∧ n ≤ cap ∧ (cap : Int) ≤ 9223372036854775807 ∧ (0 < n → D < w.heap.size) ∧ ∀ j (hj : j < n * size), w.cell? ⟨D, j, none⟩ = xs[j]? ∧ w.frozen? ⟨D, j, none⟩ = false := by
  rcases h.2 with ⟨rfl, rfl⟩ | ⟨g, cap, cur, rfl, hb, hg, hn, hc, hs, ht⟩
  · exact ⟨0, none, 0, rfl, fun h => absurd h (by omega), Nat.le_refl _, by omega, fun h => absurd h (by omega), fun j hj => absurd hj (by omega)⟩
  · exact ⟨g, some ⟨g, 0, none⟩, cap, rfl, fun _ => rfl, hn, by unfold maxLen at hc; omega, fun _ => (World.ownsRow.lt h g rfl).2, fun j hj => ⟨h.cellAt j hj, h.frozenAt j⟩⟩
/-- A slot's bytes, as the document has them. -/
def RSl (w : World) (Z : Nat → Prop) : Sl → Value → Prop
  | none, v => v = .slice none 0 0
  | some L, v => RowOff w Z v L ∧ L.length ≤ 400
theorem rSl_kx {a b : World} {S Z : Nat → Prop} {o : Sl} {v : Value} (h : RSl a Z o v) (g : Kx S a b) (hS : ∀ k, S k → Z k ∨ a.heap.size ≤ k) : RSl b Z o v := by
  cases o with
  | none => exact h
  | some L => exact ⟨rowOff_kx h.1 g hS, h.2⟩
theorem rSl_oth {a b : World} {S Z : Nat → Prop} {o : Sl} {v : Value} (h : RSl a Z o v) (g : Kx S a b) (hS : OthS a S) : RSl b Z o v := by
  cases o with
  | none => exact h
  | some L => exact ⟨rowOff_oth h.1 g hS, h.2⟩
theorem rSl_mono {a : World} {Z Z' : Nat → Prop} {o : Sl} {v : Value} (h : RSl a Z o v) (hZ : ∀ k, Z' k → Z k ∨ a.heap.size ≤ k) : RSl a Z' o v := by
  cases o with
  | none => exact h
  | some L => exact ⟨rowOff_mono h.1 hZ, h.2⟩
theorem rSl_val {a : World} {Z : Nat → Prop} {o : Sl} {v : Value} (h : RSl a Z o v) : ∃ ad c, v = .slice ad (szO o) c := by
  cases o with
  | none => exact ⟨none, 0, h⟩
  | some L => obtain ⟨⟨⟨ad, c, _, _, e, _⟩, _⟩, _⟩ := h; exact ⟨ad, c, e⟩
abbrev hasV (S : List Sl) : List Value := S.map fun o => Value.bool o.isSome
/-- The document's page: its head in q; all of it lies off Z, at base or behind it. -/
structure RefP (base : Nat) (w : World) (q : Nat) (Z : Nat → Prop) (kd id : Int) (S : List Sl) (bv hv : Value) (xs : List Value) : Prop where
  head : w.heap[q]? = some (.cells #[.int .i64 kd, .int .i64 id, bv, hv] 258 (0, 0))
  le : S.length ≤ 60
  has : w.ownsRow 0 4 1 hv S.length (hasV S)
  row : w.ownsRow 0 109 1 bv S.length xs
  sl : ∀ j (h : j < S.length), ∃ v, xs[j]? = some v ∧ RSl w Z S[j] v
  offQ : ¬ Z q ∧ base ≤ q
  offH : ∀ k, hv.ownBlock = some k → ¬ Z k ∧ base ≤ k
  offB : ∀ k, bv.ownBlock = some k → ¬ Z k ∧ base ≤ k
section
variable {base q : Nat} {Z : Nat → Prop} {kd id : Int} {S : List Sl} {bv hv : Value} {xs : List Value}
theorem refP_kx {a b : World} {T : Nat → Prop} (h : RefP base a q Z kd id S bv hv xs) (K : Kx T a b) (hT : ∀ k, T k → Z k ∨ a.heap.size ≤ k) : RefP base b q Z kd id S bv hv xs := by
  have hq : q < a.heap.size := (Array.getElem?_eq_some_iff.1 h.head).1
  have no : ∀ k, k < a.heap.size → ¬ Z k → ¬ T k := fun k hk hz ht => by rcases hT k ht with h | h; exact hz h; omega
  exact ⟨heap_kx K (no q hq h.offQ.1) h.head, h.le, rowOwn_kxS h.has K (fun k hk => no k (World.ownsRow.lt h.has k hk).2 (h.offH k hk).1), rowOwn_kxS h.row K (fun k hk => no k (World.ownsRow.lt h.row k hk).2 (h.offB k hk).1), fun j hj => by
    obtain ⟨v, e, r⟩ := h.sl j hj
    exact ⟨v, e, rSl_kx r K hT⟩, h.offQ, h.offH, h.offB⟩
theorem refP_gr {a b : World} (h : RefP base a q Z kd id S bv hv xs) (g : Gr a b) : RefP base b q Z kd id S bv hv xs := refP_kx (T := fun _ => False) h (Kx.of_gr g) (fun k h => h.elim)
theorem refP_mono {a : World} {Z' : Nat → Prop} (h : RefP base a q Z kd id S bv hv xs) (hZ : ∀ k, Z' k → Z k ∨ a.heap.size ≤ k) : RefP base a q Z' kd id S bv hv xs := by
  have hq : q < a.heap.size := (Array.getElem?_eq_some_iff.1 h.head).1
  have no : ∀ k, k < a.heap.size → ¬ Z k → ¬ Z' k := fun k hk hz ht => by rcases hZ k ht with h | h; exact hz h; omega
  exact ⟨h.head, h.le, h.has, h.row, fun j hj => by obtain ⟨v, e, r⟩ := h.sl j hj; exact ⟨v, e, rSl_mono r hZ⟩, ⟨no q hq h.offQ.1, h.offQ.2⟩, fun k hk => ⟨no k (World.ownsRow.lt h.has k hk).2 (h.offH k hk).1, (h.offH k hk).2⟩, fun k hk => ⟨no k (World.ownsRow.lt h.row k hk).2 (h.offB k hk).1, (h.offB k hk).2⟩⟩
/-- What a walk reads of it. -/
theorem refP_cells {w : World} (h : RefP base w q Z kd id S bv hv xs) : q < w.heap.size ∧ w.cell? ⟨q, 0, none⟩ = some (.int .i64 kd) ∧ w.cell? ⟨q, 1, none⟩ = some (.int .i64 id) ∧ w.cell? ⟨q, 2, none⟩ = some bv ∧ w.cell? ⟨q, 3, none⟩ = some hv ∧ w.frozen? ⟨q, 2, none⟩ = false ∧ w.frozen? ⟨q, 3, none⟩ = false :=
  ⟨(Array.getElem?_eq_some_iff.1 h.head).1, Hm.cell_of_heap h.head 0, Hm.cell_of_heap h.head 1, Hm.cell_of_heap h.head 2, Hm.cell_of_heap h.head 3, Hm.frozen_of_heap h.head 2, Hm.frozen_of_heap h.head 3⟩
theorem refP_rows {w : World} (h : RefP base w q Z kd id S bv hv xs) : ∃ (D E : Nat) (ha ba : Option Addr) (hc bc : Nat), hv = .slice ha S.length hc ∧ bv = .slice ba S.length bc ∧ (0 < S.length → ha = some ⟨D, 0, none⟩ ∧ ba = some ⟨E, 0, none⟩ ∧ D < w.heap.size ∧ E < w.heap.size) ∧ S.length ≤ hc ∧ S.length ≤ bc ∧ (hc : Int) ≤ 9223372036854775807 ∧ (bc : Int) ≤ 9223372036854775807 ∧
    ∀ j, j < S.length → w.cell? ⟨D, j, none⟩ = some (.bool (S.getD j none).isSome) ∧ w.frozen? ⟨D, j, none⟩ = false ∧ w.frozen? ⟨E, j, none⟩ = false ∧ ∃ ad c, w.cell? ⟨E, j, none⟩ = some (.slice ad (szO (S.getD j none)) c) ∧ RSl w Z (S.getD j none) (.slice ad (szO (S.getD j none)) c) := by
  obtain ⟨D, ha, hc, e1, a1, a2, a3, a4, a5⟩ := rowF h.has
  obtain ⟨E, ba, bc, e2, b1, b2, b3, b4, b5⟩ := rowF h.row
  refine ⟨D, E, ha, ba, hc, bc, e1, e2, fun h0 => ⟨a1 h0, b1 h0, a4 h0, b4 h0⟩, a2, b2, a3, b3, fun j hj => ?_⟩
  obtain ⟨v, e, r⟩ := h.sl j hj
  rw [← getD_lt S hj] at r
  obtain ⟨ad, c, rfl⟩ := rSl_val r
  refine ⟨?_, (a5 j (by omega)).2, (b5 j (by omega)).2, ad, c, ((b5 j (by omega)).1).trans e, r⟩
  rw [(a5 j (by omega)).1, List.getElem?_map, List.getElem?_eq_getElem hj, getD_lt S hj]
  rfl
theorem refP_sz {w : World} (h : RefP base w q Z kd id S bv hv xs) (j : Nat) : szO (S.getD j none) ≤ 400 := by
  by_cases hj : j < S.length
  · obtain ⟨v, e, r⟩ := h.sl j hj
    rw [← getD_lt S hj] at r
    cases hs : S.getD j none with
    | none => exact Nat.zero_le _
    | some L => rw [hs] at r; exact r.2
  · rw [getD_ge S (by omega)]; exact Nat.zero_le _
end
end Go.Proofs.YtbjckoelgpbaaaaGreatDoor
