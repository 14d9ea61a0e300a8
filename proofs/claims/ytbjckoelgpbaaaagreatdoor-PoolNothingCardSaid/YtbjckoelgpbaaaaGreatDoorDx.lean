/- the document's disk: what it holds; place -/
import Derived.Test.YtbjckoelgpbaaaaGreatDoorDh
import Derived.Test.YtbjckoelgpbaaaaGreatDoorMj
namespace Go.Proofs.YtbjckoelgpbaaaaGreatDoor
set_option linter.unusedVariables false
set_option linter.unusedSimpArgs false
open Go.ChangeShapes Go.WideShapes Go.ChangeAt Go.RowKit Go.Maps

/-- A sector for good, as the document has it: nothing stands for noughts. -/
def GSl (w : World) (Z : Nat → Prop) (L : List UInt8) (v : Value) : Prop := (v = .slice none 0 0 ∧ L = List.replicate 64 0) ∨ RowOff w Z v L
theorem gSl_kx {a b : World} {S Z : Nat → Prop} {L : List UInt8} {v : Value} (h : GSl a Z L v) (g : Kx S a b) (hS : ∀ k, S k → Z k ∨ a.heap.size ≤ k) : GSl b Z L v := by
  rcases h with h | h
  · exact Or.inl h
  · exact Or.inr (rowOff_kx h g hS)
theorem gSl_mono {a : World} {Z Z' : Nat → Prop} {L : List UInt8} {v : Value} (h : GSl a Z L v) (hZ : ∀ k, Z' k → Z k ∨ a.heap.size ≤ k) : GSl a Z' L v := by
  rcases h with h | h
  · exact Or.inl h
  · exact Or.inr (rowOff_mono h hZ)
/-- The document's disk: its head in q; all of it lies off Z, at base or behind it. -/
structure RefD (base : Nat) (w : World) (q : Nat) (Z : Nat → Prop) (d : Dk) (gv av nv : Value) (gs ns : List Value) (dl : Int) : Prop where
  head : w.heap[q]? = some (.cells #[gv, av, nv, .int .i64 (d.ops : Nat), .bool d.cut, .int .i64 dl, .bool d.off] 184 (0, 0))
  ok : d.ok
  lft : d.cut = true → dl = d.left
  good : w.ownsRow 0 109 1 gv d.n gs
  gsl : ∀ j, j < d.n → ∃ v, gs[j]? = some v ∧ GSl w Z (sec d.good j) v
  at_ : w.ownsRow 0 3 1 av d.ord.length (intL d.ord)
  new : w.ownsRow 0 109 1 nv d.ord.length ns
  nsl : ∀ j, j < d.ord.length → ∃ v, ns[j]? = some v ∧ RowOff w Z v (d.F (d.ord.getD j 0))
  offQ : ¬ Z q ∧ base ≤ q
  offG : ∀ k, gv.ownBlock = some k → ¬ Z k ∧ base ≤ k
  offA : ∀ k, av.ownBlock = some k → ¬ Z k ∧ base ≤ k
  offN : ∀ k, nv.ownBlock = some k → ¬ Z k ∧ base ≤ k
section
variable {base q : Nat} {Z : Nat → Prop} {d : Dk} {gv av nv : Value} {gs ns : List Value} {dl : Int}
theorem refD_kx {a b : World} {T : Nat → Prop} (h : RefD base a q Z d gv av nv gs ns dl) (K : Kx T a b) (hT : ∀ k, T k → Z k ∨ a.heap.size ≤ k) : RefD base b q Z d gv av nv gs ns dl := by
  have hq : q < a.heap.size := (Array.getElem?_eq_some_iff.1 h.head).1
  have no : ∀ k, k < a.heap.size → ¬ Z k → ¬ T k := fun k hk hz ht => by rcases hT k ht with h | h; exact hz h; omega
  exact ⟨heap_kx K (no q hq h.offQ.1) h.head, h.ok, h.lft, rowOwn_kxS h.good K (fun k hk => no k (World.ownsRow.lt h.good k hk).2 (h.offG k hk).1), fun j hj => by
    obtain ⟨v, e, r⟩ := h.gsl j hj
    exact ⟨v, e, gSl_kx r K hT⟩, rowOwn_kxS h.at_ K (fun k hk => no k (World.ownsRow.lt h.at_ k hk).2 (h.offA k hk).1), rowOwn_kxS h.new K (fun k hk => no k (World.ownsRow.lt h.new k hk).2 (h.offN k hk).1), fun j hj => by
    obtain ⟨v, e, r⟩ := h.nsl j hj
    exact ⟨v, e, rowOff_kx r K hT⟩, h.offQ, h.offG, h.offA, h.offN⟩
theorem refD_gr {a b : World} (h : RefD base a q Z d gv av nv gs ns dl) (g : Gr a b) : RefD base b q Z d gv av nv gs ns dl := refD_kx (T := fun _ => False) h (Kx.of_gr g) (fun k h => h.elim)
theorem refD_mono {a : World} {Z' : Nat → Prop} (h : RefD base a q Z d gv av nv gs ns dl) (hZ : ∀ k, Z' k → Z k ∨ a.heap.size ≤ k) : RefD base a q Z' d gv av nv gs ns dl := by
  have hq : q < a.heap.size := (Array.getElem?_eq_some_iff.1 h.head).1
  have no : ∀ k, k < a.heap.size → ¬ Z k → ¬ Z' k := fun k hk hz ht => by rcases hZ k ht with h | h; exact hz h; omega
  exact ⟨h.head, h.ok, h.lft, h.good, fun j hj => by obtain ⟨v, e, r⟩ := h.gsl j hj; exact ⟨v, e, gSl_mono r hZ⟩, h.at_, h.new, fun j hj => by obtain ⟨v, e, r⟩ := h.nsl j hj; exact ⟨v, e, rowOff_mono r hZ⟩, ⟨no q hq h.offQ.1, h.offQ.2⟩, fun k hk => ⟨no k (World.ownsRow.lt h.good k hk).2 (h.offG k hk).1, (h.offG k hk).2⟩, fun k hk => ⟨no k (World.ownsRow.lt h.at_ k hk).2 (h.offA k hk).1, (h.offA k hk).2⟩, fun k hk => ⟨no k (World.ownsRow.lt h.new k hk).2 (h.offN k hk).1, (h.offN k hk).2⟩⟩
theorem refD_cells {w : World} (h : RefD base w q Z d gv av nv gs ns dl) : q < w.heap.size ∧ w.cell? ⟨q, 0, none⟩ = some gv ∧ w.cell? ⟨q, 1, none⟩ = some av ∧ w.cell? ⟨q, 2, none⟩ = some nv ∧ w.cell? ⟨q, 3, none⟩ = some (.int .i64 (d.ops : Nat)) ∧ w.cell? ⟨q, 4, none⟩ = some (.bool d.cut) ∧ w.cell? ⟨q, 5, none⟩ = some (.int .i64 dl) ∧ w.cell? ⟨q, 6, none⟩ = some (.bool d.off) ∧ ∀ j, w.frozen? ⟨q, j, none⟩ = false :=
  ⟨(Array.getElem?_eq_some_iff.1 h.head).1, Hm.cell_of_heap h.head 0, Hm.cell_of_heap h.head 1, Hm.cell_of_heap h.head 2, Hm.cell_of_heap h.head 3, Hm.cell_of_heap h.head 4, Hm.cell_of_heap h.head 5, Hm.cell_of_heap h.head 6, fun j => Hm.frozen_of_heap h.head j⟩
end
theorem idx_first {k : Nat} : ∀ (l : List Nat) (i : Nat), i < l.length → l.getD i 0 = k → (∀ j, j < i → l.getD j 0 ≠ k) → l.idxOf k = i
  | [], i, h, _, _ => absurd h (by simp)
  | x :: l, 0, _, h, _ => by
    have : x = k := by simpa using h
    subst this
    simp
  | x :: l, i + 1, h, h1, h2 => by
    have hx : x ≠ k := by simpa using h2 0 (by omega)
    have hi := idx_first (k := k) l i (by simpa using h) (by simpa using h1) (fun j hj => by simpa using h2 (j + 1) (by omega))
    have hb : (x == k) = false := by simpa using hx
    rw [List.idxOf_cons, hb, hi]
    rfl
/-- Where a sector waits; -1: nowhere. -/
def plc (l : List Nat) (k : Nat) : Int := if k ∈ l then (l.idxOf k : Int) else -1
theorem plc_hit {l : List Nat} {k i : Nat} (hi : i < l.length) (h : l.getD i 0 = k) (hb : ∀ j, j < i → l.getD j 0 ≠ k) : plc l k = (i : Int) := by
  unfold plc
  have hm : k ∈ l := by
    rw [← h, List.getD_eq_getElem?_getD, List.getElem?_eq_getElem hi]
    exact List.getElem_mem _
  rw [if_pos hm, idx_first l i hi h hb]
theorem plc_miss {l : List Nat} {k : Nat} (hb : ∀ j, j < l.length → l.getD j 0 ≠ k) : k ∉ l ∧ plc l k = -1 := by
  have hm : k ∉ l := fun hm => by
    obtain ⟨j, hj, e⟩ := List.mem_iff_getElem.1 hm
    exact hb j hj (by rw [List.getD_eq_getElem?_getD, List.getElem?_eq_getElem hj]; exact e)
  unfold plc
  exact ⟨hm, if_neg hm⟩
section
variable {base q : Nat} {Z : Nat → Prop} {d : Dk} {gv av nv : Value} {gs ns : List Value} {dl : Int}
theorem intL_getD (l : List Nat) (j : Nat) (h : j < l.length) : (intL l)[j]? = some (.int .i64 ((l.getD j 0 : Nat) : Int)) := by
  unfold intL
  rw [List.getElem?_map, List.getElem?_eq_getElem h, List.getD_eq_getElem?_getD, List.getElem?_eq_getElem h]
  rfl
end
end Go.Proofs.YtbjckoelgpbaaaaGreatDoor
