/- disk: copies into rows; Crash -/
import Derived.Test.YtbjckoelgpbaaaaGreatDoorDe
import Derived.Laws.CopyOwn
import Derived.Test.YtbjckoelgpbaaaaGreatDoorOi
namespace Go.Proofs.YtbjckoelgpbaaaaGreatDoor
set_option linter.unusedVariables false
set_option linter.unusedSimpArgs false
open Go.ChangeShapes Go.WideShapes Go.ChangeAt Go.RowKit Go.Maps

theorem splice_take {α : Type} (X : List α) (off n : Nat) (cs : List α) (h : off + cs.length ≤ n) (hn : n ≤ X.length) : (splice X off cs).take n = splice (X.take n) off cs := by
  unfold splice
  rw [List.take_append, List.take_append, List.take_take, List.length_take, Nat.min_eq_left (show off ≤ X.length by omega), Nat.min_eq_right (show off ≤ n by omega), List.take_take, Nat.min_eq_left (show off ≤ n by omega),
    List.take_of_length_le (show cs.length ≤ n - off by omega), List.drop_take]
  congr 3
  omega
theorem splice_map {α β : Type} (f : α → β) (X : List α) (off : Nat) (cs : List α) : splice (X.map f) off (cs.map f) = (splice X off cs).map f := by
  unfold splice
  rw [List.map_append, List.map_append, List.map_take, List.map_drop, List.length_map]
/-- Bytes are copied into a row of bytes. -/
theorem wpList_copy_bytes {w : World} {ops : Array Oper} {rest : List Oper} {o : Oper} {a : Act} {Q : Exit → Act → World → Prop} (hgd : o.guard = none) (d s : Operand)
    (ho : o.op = .call { callee := .builtin .copy, args := #[d, s], argTypes := #[109, 109] })
    (base g n cap : Nat) (G : List UInt8) (hO : Own w base (.slice (some ⟨g, 0, none⟩) n cap) G) (off dLen dCap : Nat) (hd : a.eval d = .slice (some ⟨g, off, none⟩) dLen dCap)
    (L : List UInt8) (B boff m c : Nat) (hs : a.eval s = .slice (some ⟨B, boff, none⟩) m c) (hv : Row w (.slice (some ⟨B, boff, none⟩) m c) L) (hl : L.length ≤ dLen) (hf : off + L.length ≤ G.length)
    (h : ∀ w', Own w' base (.slice (some ⟨g, 0, none⟩) n cap) (splice G off L) → Kx (fun j => j = g) w w' → wpList Tryz.prog ops Q rest (a.put o.dst (goInt L.length)) w') : wpList Tryz.prog ops Q (o :: rest) a w := by
  obtain ⟨hlen, hO2⟩ := hO
  rcases hO2 with ⟨e, _⟩ | ⟨g', cap', cur, e, hb, hg, hn, hc, hcs, ht⟩
  · cases e
  · simp only [Value.slice.injEq, Option.some.injEq, Addr.mk.injEq, and_true, true_and] at e
    obtain ⟨rfl, rfl, rfl⟩ := e
    obtain ⟨ad', c', B', off', e', r1, r2, r3, r4⟩ := hv
    simp only [Value.slice.injEq] at e'
    obtain ⟨rfl, rfl, rfl⟩ := e'
    rw [Nat.mul_one] at ht hcs
    have hX : G.length ≤ cur.toList.length := by have h9 : cur.toList.length = cur.size := Array.length_toList; omega
    refine wpList_copy_own hgd d s 109 109 ho 5 Tryz.underlying109 (by kernel_rfl) g off dLen dCap ⟨B, boff, none⟩ L.length c hd hs cur 5 hg (L.map bv) (by rw [List.length_map]; exact (Nat.min_eq_left hl).symm) (fun j v hj => ?_) (by rw [List.length_map]; have h9 : cur.toList.length = cur.size := Array.length_toList; omega) (bv_one L) ?_
    · rw [List.getElem?_map] at hj
      obtain ⟨x, hx, rfl⟩ := Option.map_eq_some_iff.1 hj
      obtain ⟨hj', rfl⟩ := List.getElem?_eq_some_iff.1 hx
      have e2 := Option.some.inj (r3 (by omega))
      cases e2
      rw [Addr.add_lit]
      exact r4 j hj'
    · rw [List.length_map]
      refine h _ ⟨?_, .inr ⟨g, cap, _, by rw [length_splice _ _ _ hf], hb, setRow_heap w g cur _ 5 _ hg, by rw [length_splice _ _ _ hf]; exact hn, hc, ?_, ?_⟩⟩ ⟨rfl, rfl, rfl, by simp [World.setRow], fun k _ hk => setRow_other w g k _ hk⟩
      · rw [List.length_map, Nat.mul_one]
      · rw [List.size_toArray, List.length_append, List.length_append, List.length_take, List.length_drop, List.length_map, Nat.mul_one]
        have h9 : cur.toList.length = cur.size := Array.length_toList
        omega
      · rw [Nat.mul_one, length_splice _ _ _ hf]
        have := splice_take cur.toList off G.length (L.map bv) (by rw [List.length_map]; exact hf) hX
        rw [ht, splice_map] at this
        rw [← this]
        unfold splice
        rw [List.length_map]
section
variable {p g bm : Nat} {M : Option Nat} {d : Dk}
/-- What is for good has turned. -/
theorem diskS_good {a b : World} {G : List UInt8} {cap : Nat} (H : DiskS a p g bm M d) (hc : a.cell? ⟨p, 0, none⟩ = some (.slice (some ⟨g, 0, none⟩) (d.n * 64) cap)) (K : Kx (fun j => j = g) a b) (hO : Own b 0 (.slice (some ⟨g, 0, none⟩) (d.n * 64) cap) G) (hl : G.length = d.n * 64) : DiskS b p g bm M { d with good := G } := by
  obtain ⟨ok, ⟨cap', ov, h2, h3, h4, h5⟩, h6, n1, n2, n3, n4, n5, n6⟩ := H
  obtain rfl : cap' = cap := by have := h2.c0; rw [hc] at this; simpa using (Option.some.inj this).symm
  refine ⟨⟨ok.n1, ok.n2, hl, ok.nodup, ok.lt, ok.sz, ok.ops, ok.left, ok.lft⟩, ⟨cap', ov, diskAt_kx h2 K n1, hO, rowOwn_kxS h4 K (fun j hj h => by rw [h5] at hj; exact n5 (by rw [hj, h])), h5⟩, ?_, n1, n2, n3, n4, n5, n6⟩
  have := waits_turn (Z' := dkZ p g bm M) h6 K (fun h => n3 h.symm) (fun j h => Or.inl (Or.inr (Or.inl h))) (fun j hj => Or.inl hj)
  exact this
end
/-- What becomes of the k-th that waits: 0 nothing, 1 half of it, 2 all. -/
def crM (keep : List Bool) (torn : Int) (k : Nat) : Nat := if (k : Int) = torn then 1 else if 0 < keep.length ∧ keep.getD (k % keep.length) false = true then 2 else 0
/-- The first ones are done. -/
def crG (d : Dk) (f : Nat → Nat) : Nat → List UInt8
  | 0 => d.good
  | i + 1 => if f i = 0 then crG d f i else if f i = 1 then splice (crG d f i) (d.ord.getD i 0 * 64) ((d.F (d.ord.getD i 0)).take 32) else splice (crG d f i) (d.ord.getD i 0 * 64) (d.F (d.ord.getD i 0))
theorem ord_at {d : Dk} (h : d.ok) {i : Nat} (hi : i < d.ord.length) : d.ord.getD i 0 ∈ d.ord ∧ d.ord.getD i 0 < d.n ∧ (d.F (d.ord.getD i 0)).length = 64 := by
  have e : d.ord.getD i 0 = d.ord[i] := by rw [List.getD_eq_getElem?_getD, List.getElem?_eq_getElem hi]; rfl
  rw [e]
  have hm := List.getElem_mem hi
  exact ⟨hm, h.lt _ hm, h.sz _ hm⟩
theorem crG_len {d : Dk} (h : d.ok) (f : Nat → Nat) : ∀ i, i ≤ d.ord.length → (crG d f i).length = d.n * 64
  | 0, _ => h.len
  | i + 1, hi => by
    have ih := crG_len h f i (by omega)
    obtain ⟨h1, h2, h3⟩ := ord_at h (show i < d.ord.length by omega)
    unfold crG
    split
    · exact ih
    · split
      · rw [length_splice _ _ _ (by rw [List.length_take, h3, ih]; omega)]; exact ih
      · rw [length_splice _ _ _ (by rw [h3, ih]; omega)]; exact ih
end Go.Proofs.YtbjckoelgpbaaaaGreatDoor
