/- the document's page: what is done to it, step by step -/
import Derived.Test.YtbjckoelgpbaaaaGreatDoorMj
import Derived.Test.YtbjckoelgpbaaaaGreatDoorSm
namespace Go.Proofs.YtbjckoelgpbaaaaGreatDoor
set_option linter.unusedVariables false
set_option linter.unusedSimpArgs false
open Go.ChangeShapes Go.WideShapes Go.ChangeAt Go.RowKit

theorem own_typed {w : World} {T : TypeId} {base size n : Nat} {v : Value} {xs : List Value} (h : w.ownsRow base T size v n xs) {k : Nat} (hk : v.ownBlock = some k) : ∃ cur, w.heap[k]? = some (.cells cur T (0, 0)) := by
  rcases h.2 with ⟨e, _⟩ | ⟨g, cap, cur, e, hb, hg, _⟩
  · subst e; cases hk
  · subst e
    obtain rfl : g = k := by simpa [Value.ownBlock] using hk
    exact ⟨cur, hg⟩
theorem typed_ne {w : World} {T U : TypeId} {a b : Array Value} {k j : Nat} (h1 : w.heap[k]? = some (.cells a T (0, 0))) (h2 : w.heap[j]? = some (.cells b U (0, 0))) (hTU : T ≠ U) : k ≠ j := fun e => by
  subst e
  rw [h1] at h2
  simp only [Option.some.injEq, Obj.cells.injEq] at h2
  exact hTU h2.2.1
/-- The page in the midst of a change: flags and rows each for themselves. -/
structure RefR (base : Nat) (W w : World) (q : Nat) (Z : Nat → Prop) (kd id : Int) (n : Nat) (fs : List Value) (m : Nat) (xs : List Value) (o : Nat → Sl) (bv hv : Value) : Prop where
  zlt : ∀ k, Z k → k < W.heap.size
  bs : base ≤ W.heap.size
  head : w.heap[q]? = some (.cells #[.int .i64 kd, .int .i64 id, bv, hv] 258 (0, 0))
  has : w.ownsRow 0 4 1 hv n fs
  row : w.ownsRow 0 109 1 bv m xs
  sl : ∀ j, j < m → ∃ v, xs[j]? = some v ∧ RSl w Z (o j) v
  offQ : ¬ Z q ∧ base ≤ q
  offH : ∀ k, hv.ownBlock = some k → ¬ Z k ∧ base ≤ k
  offB : ∀ k, bv.ownBlock = some k → ¬ Z k ∧ base ≤ k
  fr : ∃ T, Kx T W w ∧ OthS W T ∧ ∀ k, T k → ¬ Z k ∧ base ≤ k
theorem frT {base : Nat} {W w w' : World} {Z T2 : Nat → Prop} (h : ∃ T, Kx T W w ∧ OthS W T ∧ ∀ k, T k → ¬ Z k ∧ base ≤ k) (K : Kx T2 w w') (hO : OthS w T2) (hz : ∀ k, T2 k → ¬ Z k ∧ base ≤ k) : ∃ T, Kx T W w' ∧ OthS W T ∧ ∀ k, T k → ¬ Z k ∧ base ≤ k := by
  obtain ⟨T1, k1, o1, z1⟩ := h
  refine ⟨fun k => T1 k ∨ T2 k, (k1.mono (fun k h => Or.inl h)).trans (K.mono (fun k h => Or.inr h)), fun k hk => ?_, fun k hk => by rcases hk with h | h; exact z1 k h; exact hz k h⟩
  by_cases h1 : T1 k
  · exact o1 k h1
  · rcases hk with h | h
    · exact absurd h h1
    · rcases hO k h with h2 | ⟨cur, T, hT, h2⟩
      · exact Or.inl (Nat.le_trans k1.size h2)
      · by_cases h3 : k < W.heap.size
        · exact Or.inr ⟨cur, T, hT, by rw [← k1.block k h3 h1]; exact h2⟩
        · exact Or.inl (by omega)
section
variable {base q n m : Nat} {W w w' : World} {Z T : Nat → Prop} {kd id : Int} {fs xs : List Value} {o : Nat → Sl} {bv hv : Value}
theorem refR_size (h : RefR base W w q Z kd id n fs m xs o bv hv) : W.heap.size ≤ w.heap.size := by obtain ⟨_, K, _⟩ := h.fr; exact K.size
theorem refR_q (h : RefR base W w q Z kd id n fs m xs o bv hv) : q < w.heap.size := (Array.getElem?_eq_some_iff.1 h.head).1
theorem refR_neH (h : RefR base W w q Z kd id n fs m xs o bv hv) : ∀ k, hv.ownBlock = some k → k ≠ q := fun k hk => by
  obtain ⟨cur, hc⟩ := own_typed h.has hk
  exact typed_ne hc h.head (by decide)
theorem refR_neB (h : RefR base W w q Z kd id n fs m xs o bv hv) : ∀ k, bv.ownBlock = some k → k ≠ q := fun k hk => by
  obtain ⟨cur, hc⟩ := own_typed h.row hk
  exact typed_ne hc h.head (by decide)
theorem refR_neHB (h : RefR base W w q Z kd id n fs m xs o bv hv) : ∀ k, hv.ownBlock = some k → bv.ownBlock = some k → False := fun k hk hk2 => by
  obtain ⟨cur, hc⟩ := own_typed h.has hk
  obtain ⟨cur2, hc2⟩ := own_typed h.row hk2
  exact typed_ne hc hc2 (by decide) rfl
theorem refR_oth (h : RefR base W w q Z kd id n fs m xs o bv hv) (hT : ∀ k, T k → k = q ∨ hv.ownBlock = some k ∨ bv.ownBlock = some k) : OthS w T ∧ ∀ k, T k → ¬ Z k ∧ base ≤ k := by
  refine ⟨fun k hk => ?_, fun k hk => ?_⟩
  · rcases hT k hk with rfl | hk | hk
    · exact Or.inr ⟨_, _, by decide, h.head⟩
    · obtain ⟨cur, hc⟩ := own_typed h.has hk
      exact Or.inr ⟨cur, _, by decide, hc⟩
    · obtain ⟨cur, hc⟩ := own_typed h.row hk
      exact Or.inr ⟨cur, _, by decide, hc⟩
  · rcases hT k hk with rfl | hk | hk
    · exact h.offQ
    · exact h.offH k hk
    · exact h.offB k hk
theorem refR_step {n' m' : Nat} {fs' xs' : List Value} {o' : Nat → Sl} {bv' hv' : Value} (h : RefR base W w q Z kd id n fs m xs o bv hv) (K : Kx T w w') (hT : ∀ k, T k → k = q ∨ hv.ownBlock = some k ∨ bv.ownBlock = some k)
    (head' : w'.heap[q]? = some (.cells #[.int .i64 kd, .int .i64 id, bv', hv'] 258 (0, 0))) (has' : w'.ownsRow 0 4 1 hv' n' fs') (row' : w'.ownsRow 0 109 1 bv' m' xs')
    (sl' : ∀ j, j < m' → ∃ v, xs'[j]? = some v ∧ RSl w Z (o' j) v) (hh : ∀ k, hv'.ownBlock = some k → hv.ownBlock = some k ∨ w.heap.size ≤ k) (hb : ∀ k, bv'.ownBlock = some k → bv.ownBlock = some k ∨ w.heap.size ≤ k) :
    RefR base W w' q Z kd id n' fs' m' xs' o' bv' hv' := by
  obtain ⟨hO, hz⟩ := refR_oth h hT
  have sz := refR_size h
  have new : ∀ k, w.heap.size ≤ k → ¬ Z k ∧ base ≤ k := fun k hk => ⟨fun hz => by have := h.zlt k hz; omega, by have := h.bs; omega⟩
  exact ⟨h.zlt, h.bs, head', has', row', fun j hj => by obtain ⟨v, e, r⟩ := sl' j hj; exact ⟨v, e, rSl_oth r K hO⟩, h.offQ, fun k hk => by rcases hh k hk with h1 | h1; exact h.offH k h1; exact new k h1, fun k hk => by rcases hb k hk with h1 | h1; exact h.offB k h1; exact new k h1, frT h.fr K hO hz⟩
theorem refR_gr (h : RefR base W w q Z kd id n fs m xs o bv hv) (g : Gr w w') : RefR base W w' q Z kd id n fs m xs o bv hv :=
  refR_step (T := fun _ => False) h (Kx.of_gr g) (fun k h => h.elim) (heap_kx (S := fun _ => False) (Kx.of_gr g) (fun h => h) h.head) (rowOwn_gr h.has g) (rowOwn_gr h.row g) h.sl (fun k hk => Or.inl hk) (fun k hk => Or.inl hk)
theorem refR_cells (h : RefR base W w q Z kd id n fs m xs o bv hv) : w.cell? ⟨q, 2, none⟩ = some bv ∧ w.cell? ⟨q, 3, none⟩ = some hv ∧ w.frozen? ⟨q, 2, none⟩ = false ∧ w.frozen? ⟨q, 3, none⟩ = false :=
  ⟨Hm.cell_of_heap h.head 2, Hm.cell_of_heap h.head 3, Hm.frozen_of_heap h.head 2, Hm.frozen_of_heap h.head 3⟩
/-- Behind an append to the flags the head stands as it was. -/
theorem refR_midH {Wa w2 : World} {v2 : Value} (h : RefR base W w q Z kd id n fs m xs o bv hv) (g1 : Gr w Wa) (g2 : Grown Wa w2 hv v2) : w2.heap[q]? = some (.cells #[.int .i64 kd, .int .i64 id, bv, hv] 258 (0, 0)) ∧ Kx (fun k => hv.ownBlock = some k) w w2 :=
  have K := (Kx.of_gr (S := fun k => hv.ownBlock = some k) g1).trans (kx_grown g2)
  ⟨heap_kx K (fun hk => refR_neH h q hk rfl) h.head, K⟩
theorem refR_midB {Wa w2 : World} {v2 : Value} (h : RefR base W w q Z kd id n fs m xs o bv hv) (g1 : Gr w Wa) (g2 : Grown Wa w2 bv v2) : w2.heap[q]? = some (.cells #[.int .i64 kd, .int .i64 id, bv, hv] 258 (0, 0)) ∧ Kx (fun k => bv.ownBlock = some k) w w2 :=
  have K := (Kx.of_gr (S := fun k => bv.ownBlock = some k) g1).trans (kx_grown g2)
  ⟨heap_kx K (fun hk => refR_neB h q hk rfl) h.head, K⟩
theorem refR_growH {Wa w2 : World} {v2 x : Value} (h : RefR base W w q Z kd id n fs m xs o bv hv) (g1 : Gr w Wa) (o2 : w2.ownsRow 0 4 1 v2 (n + 1) (fs ++ [x])) (g2 : Grown Wa w2 hv v2) : RefR base W (w2.setCell ⟨q, 3, none⟩ v2) q Z kd id (n + 1) (fs ++ [x]) m xs o bv v2 := by
  obtain ⟨hd, K⟩ := refR_midH h g1 g2
  have hv2 : ∀ k, v2.ownBlock = some k → hv.ownBlock = some k ∨ w.heap.size ≤ k := fun k hk => by
    rcases g2.2 k hk with h | h
    · exact Or.inl h
    · exact Or.inr (Nat.le_trans g1.size h)
  have sq := refR_q h
  have hne : ∀ k, v2.ownBlock = some k → k ≠ q := fun k hk => by
    rcases hv2 k hk with h1 | h1
    · exact refR_neH h k h1
    · omega
  have K2 : Kx (fun k => k = q ∨ hv.ownBlock = some k) w (w2.setCell ⟨q, 3, none⟩ v2) := (K.mono (T := fun k => k = q ∨ hv.ownBlock = some k) (fun k h => Or.inr h)).setCell (p := ⟨q, 3, none⟩) (Or.inl rfl) _
  exact refR_step h K2 (fun k hk => by rcases hk with h | h; exact Or.inl h; exact Or.inr (Or.inl h)) (Hm.heap_set_same hd) (rowOwn_kxS (S := fun k => k = q) o2 ((Kx.refl (S := fun k => k = q) w2).setCell (p := ⟨q, 3, none⟩) rfl _) (fun k hk e => hne k hk e))
    (rowOwn_kxS h.row K2 (fun k hk e => by rcases e with e | e; exact refR_neB h k hk e; exact refR_neHB h k e hk)) h.sl hv2 (fun k hk => Or.inl hk)
theorem refR_growB {Wa w2 : World} {v2 x : Value} {s : Sl} (h : RefR base W w q Z kd id n fs m xs o bv hv) (g1 : Gr w Wa) (o2 : w2.ownsRow 0 109 1 v2 (m + 1) (xs ++ [x])) (g2 : Grown Wa w2 bv v2) (hx : RSl w Z s x) : RefR base W (w2.setCell ⟨q, 2, none⟩ v2) q Z kd id n fs (m + 1) (xs ++ [x]) (fun j => if j = m then s else o j) v2 hv := by
  obtain ⟨hd, K⟩ := refR_midB h g1 g2
  have hv2 : ∀ k, v2.ownBlock = some k → bv.ownBlock = some k ∨ w.heap.size ≤ k := fun k hk => by
    rcases g2.2 k hk with h | h
    · exact Or.inl h
    · exact Or.inr (Nat.le_trans g1.size h)
  have sq := refR_q h
  have hne : ∀ k, v2.ownBlock = some k → k ≠ q := fun k hk => by
    rcases hv2 k hk with h1 | h1
    · exact refR_neB h k h1
    · omega
  have hlen : xs.length = m := by have := h.row.1; omega
  have K2 : Kx (fun k => k = q ∨ bv.ownBlock = some k) w (w2.setCell ⟨q, 2, none⟩ v2) := (K.mono (T := fun k => k = q ∨ bv.ownBlock = some k) (fun k h => Or.inr h)).setCell (p := ⟨q, 2, none⟩) (Or.inl rfl) _
  refine refR_step h K2 (fun k hk => by rcases hk with h | h; exact Or.inl h; exact Or.inr (Or.inr h)) (Hm.heap_set_same hd) (rowOwn_kxS h.has K2 (fun k hk e => by rcases e with e | e; exact refR_neH h k hk e; exact refR_neHB h k hk e))
    (rowOwn_kxS (S := fun k => k = q) o2 ((Kx.refl (S := fun k => k = q) w2).setCell (p := ⟨q, 2, none⟩) rfl _) (fun k hk e => hne k hk e)) (fun j hj => ?_) (fun k hk => Or.inl hk) hv2
  by_cases e : j = m
  · subst e
    rw [if_pos rfl]
    exact ⟨x, by rw [List.getElem?_append_right (by omega), hlen, Nat.sub_self]; rfl, hx⟩
  · rw [if_neg e]
    obtain ⟨v, e1, r⟩ := h.sl j (by omega)
    exact ⟨v, by rw [List.getElem?_append_left (by omega)]; exact e1, r⟩
theorem refR_setH {D c k : Nat} (x : Value) (h : RefR base W w q Z kd id n fs m xs o bv (.slice (some ⟨D, 0, none⟩) n c)) : RefR base W (w.setCell ⟨D, k, none⟩ x) q Z kd id n (fs.set k x) m xs o bv (.slice (some ⟨D, 0, none⟩) n c) := by
  have K : Kx (fun j => j = D) w (w.setCell ⟨D, k, none⟩ x) := (Kx.refl (S := fun j => j = D) w).setCell (p := ⟨D, k, none⟩) rfl _
  exact refR_step h K (fun j hj => Or.inr (Or.inl (by rw [hj]; rfl))) (heap_kx K (fun e => refR_neH h q (by rw [e]; rfl) rfl) h.head) (h.has.stored k x).1 (rowOwn_kxS h.row K (fun j hj e => refR_neHB h j (by rw [e]; rfl) hj)) h.sl (fun k hk => Or.inl hk) (fun k hk => Or.inl hk)
theorem refR_setB {E c k : Nat} {x : Value} {s : Sl} (hk : k < m) (hx : RSl w Z s x) (h : RefR base W w q Z kd id n fs m xs o (.slice (some ⟨E, 0, none⟩) m c) hv) : RefR base W (w.setCell ⟨E, k, none⟩ x) q Z kd id n fs m (xs.set k x) (fun j => if j = k then s else o j) (.slice (some ⟨E, 0, none⟩) m c) hv := by
  have K : Kx (fun j => j = E) w (w.setCell ⟨E, k, none⟩ x) := (Kx.refl (S := fun j => j = E) w).setCell (p := ⟨E, k, none⟩) rfl _
  have hlen : xs.length = m := by have := h.row.1; omega
  refine refR_step h K (fun j hj => Or.inr (Or.inr (by rw [hj]; rfl))) (heap_kx K (fun e => refR_neB h q (by rw [e]; rfl) rfl) h.head) (rowOwn_kxS h.has K (fun j hj e => refR_neHB h j hj (by rw [e]; rfl))) (h.row.stored k x).1 (fun j hj => ?_) (fun k hk => Or.inl hk) (fun k hk => Or.inl hk)
  by_cases e : j = k
  · subst e
    rw [if_pos rfl]
    exact ⟨x, List.getElem?_set_self (by omega), hx⟩
  · rw [if_neg e]
    obtain ⟨v, e1, r⟩ := h.sl j hj
    exact ⟨v, by rw [List.getElem?_set_ne (fun h => e h.symm)]; exact e1, r⟩
theorem refR_cutH {D c n' : Nat} (hn : n' ≤ n) (h : RefR base W w q Z kd id n fs m xs o bv (.slice (some ⟨D, 0, none⟩) n c)) : RefR base W (w.setCell ⟨q, 3, none⟩ (.slice (some ⟨D, 0, none⟩) n' c)) q Z kd id n' (fs.take n') m xs o bv (.slice (some ⟨D, 0, none⟩) n' c) := by
  have K : Kx (fun j => j = q) w (w.setCell ⟨q, 3, none⟩ (.slice (some ⟨D, 0, none⟩) n' c)) := (Kx.refl (S := fun j => j = q) w).setCell (p := ⟨q, 3, none⟩) rfl _
  have r := row_cutS h.has n' hn
  rw [Nat.mul_one] at r
  exact refR_step h K (fun j hj => Or.inl hj) (Hm.heap_set_same h.head) (rowOwn_kxS r K (fun j hj e => refR_neH h j hj e)) (rowOwn_kxS h.row K (fun j hj e => refR_neB h j hj e)) h.sl (fun k hk => Or.inl hk) (fun k hk => Or.inl hk)
theorem refR_cutB {E c m' : Nat} (hm : m' ≤ m) (h : RefR base W w q Z kd id n fs m xs o (.slice (some ⟨E, 0, none⟩) m c) hv) : RefR base W (w.setCell ⟨q, 2, none⟩ (.slice (some ⟨E, 0, none⟩) m' c)) q Z kd id n fs m' (xs.take m') o (.slice (some ⟨E, 0, none⟩) m' c) hv := by
  have K : Kx (fun j => j = q) w (w.setCell ⟨q, 2, none⟩ (.slice (some ⟨E, 0, none⟩) m' c)) := (Kx.refl (S := fun j => j = q) w).setCell (p := ⟨q, 2, none⟩) rfl _
  have r := row_cutS h.row m' hm
  rw [Nat.mul_one] at r
  refine refR_step h K (fun j hj => Or.inl hj) (Hm.heap_set_same h.head) (rowOwn_kxS h.has K (fun j hj e => refR_neH h j hj e)) (rowOwn_kxS r K (fun j hj e => refR_neB h j hj e)) (fun j hj => ?_) (fun k hk => Or.inl hk) (fun k hk => Or.inl hk)
  obtain ⟨v, e, r⟩ := h.sl j (by omega)
  exact ⟨v, by rw [List.getElem?_take, if_pos hj]; exact e, r⟩
/-- What a change leaves. -/
def RefTo (base : Nat) (W : World) (q : Nat) (Z : Nat → Prop) (kd id : Int) (S : List Sl) (w' : World) : Prop :=
  (∃ bv hv xs, RefP base w' q Z kd id S bv hv xs) ∧ ∃ T, Kx T W w' ∧ OthS W T ∧ ∀ k, T k → ¬ Z k ∧ base ≤ k
theorem refR_of {S : List Sl} (h : RefP base W q Z kd id S bv hv xs) (hz : ∀ k, Z k → k < W.heap.size) (hb : base ≤ W.heap.size) : RefR base W W q Z kd id S.length (hasV S) S.length xs (fun j => S.getD j none) bv hv :=
  ⟨hz, hb, h.head, h.has, h.row, fun j hj => by obtain ⟨v, e, r⟩ := h.sl j hj; exact ⟨v, e, by rw [getD_lt S hj]; exact r⟩, h.offQ, h.offH, h.offB, ⟨fun _ => False, Kx.refl W, fun k h => h.elim, fun k h => h.elim⟩⟩
theorem refR_to {S : List Sl} (h : RefR base W w q Z kd id n fs n xs o bv hv) (hn : S.length = n) (h60 : n ≤ 60) (hf : hasV S = fs) (ho : ∀ j, j < n → o j = S.getD j none) : RefTo base W q Z kd id S w := by
  subst hn
  subst hf
  exact ⟨⟨bv, hv, xs, h.head, h60, h.has, h.row, fun j hj => by obtain ⟨v, e, r⟩ := h.sl j hj; exact ⟨v, e, by rw [← getD_lt S hj, ← ho j hj]; exact r⟩, h.offQ, h.offH, h.offB⟩, h.fr⟩
end
end Go.Proofs.YtbjckoelgpbaaaaGreatDoor
