/- disk: two rows of rows that grow beside a disk (towards DiskGood) -/
import Derived.Test.YtcalleofndokaaaDt
namespace Go.Proofs.Ytcalleofndokaaa
set_option linter.unusedVariables false
set_option linter.unusedSimpArgs false
open Go.ChangeShapes Go.WideShapes Go.ChangeAt Go.RowKit Go.Maps

/-- A row of slices of the law's own. -/
abbrev OwnS (w : World) (v : Value) (n : Nat) (xs : List Value) : Prop := w.ownsRow 0 30 1 v n xs
/-- These blocks are new, or hold rows of slices. -/
def SlS (w : World) (S : Nat → Prop) : Prop := ∀ k, S k → w.heap.size ≤ k ∨ ∃ cur, w.heap[k]? = some (.cells cur 30 (0, 0))
theorem slS_own {w : World} {v : Value} {n : Nat} {xs : List Value} (h : OwnS w v n xs) : SlS w (fun k => v.ownBlock = some k) := fun k hk => by
  rcases h.2 with ⟨e, _⟩ | ⟨g, cap, cur, e, hb, hg, _⟩
  · subst e; cases hk
  · subst e
    obtain rfl : g = k := by simpa [Value.ownBlock] using hk
    exact Or.inr ⟨cur, hg⟩
theorem rowOff_sl {a b : World} {S Z : Nat → Prop} {v : Value} {L : List UInt8} (h : RowOff a Z v L) (K : Kx S a b) (hS : SlS a S) : RowOff b Z v L := by
  obtain ⟨⟨ad, cap, B, off, e, h1, h2, h3, h4⟩, h5, h6⟩ := h
  have hB : ∀ (hl : 0 < L.length), ¬ S B := fun hl hs => by
    have hB : B < a.heap.size := World.block_lt_of_cell? _ _ (h4 0 hl)
    rcases hS _ hs with h | ⟨cur, h⟩
    · omega
    · obtain ⟨cur', hc⟩ := h6 hl _ _ _ (by rw [e, h3 hl])
      rw [h] at hc
      simp at hc
  refine ⟨⟨ad, cap, B, off, e, h1, h2, h3, fun j hj => cell_kx K (hB (by omega)) (h4 j hj)⟩, h5, fun hl ad' m c e' => ?_⟩
  obtain ⟨cur, hc⟩ := h6 hl ad' m c e'
  rw [e, h3 hl] at e'
  cases e'
  exact ⟨cur, heap_kx K (hB hl) hc⟩
theorem diskS_sl {a b : World} {S : Nat → Prop} {p g bm : Nat} {M : Option Nat} {d : Dk} (H : DiskS a p g bm M d) (K : Kx S a b) (hS : SlS a S) (hd : ∀ k, S k → ¬ dkZ p g bm M k) : DiskS b p g bm M d := by
  obtain ⟨h1, ⟨cap, ov, h2, h3, h4, h5⟩, ⟨D, h6, h7, h8⟩, h9⟩ := H
  refine ⟨h1, ⟨cap, ov, diskAt_kx h2 K (fun e => hd _ e (Or.inl rfl)), rowOwn_kxS h3 K (fun k hk e => ?_), rowOwn_kxS h4 K (fun k hk e => ?_), h5⟩, ⟨D, ownsMap_kx h6 K (fun e => hd _ e (Or.inr (Or.inr (Or.inl rfl)))), h7, fun k hk => ⟨(h8 k hk).1, fun hin => ?_⟩⟩, h9⟩
  · obtain rfl : g = k := by simpa [Value.ownBlock] using hk
    exact hd _ e (Or.inr (Or.inl rfl))
  · rw [h5] at hk
    exact hd _ e (Or.inr (Or.inr (Or.inr hk)))
  · obtain ⟨e1, v, e2, e3⟩ := (h8 k hk).2 hin
    exact ⟨e1, v, e2, rowOff_sl e3 K hS⟩
/-- Each of a row's slices holds what it is to hold, off the disk's blocks. -/
def Holds (w : World) (Z : Nat → Prop) (xs : List Value) (n : Nat) (F : Nat → List UInt8) : Prop := ∀ j, j < n → ∃ v, xs[j]? = some v ∧ RowOff w Z v (F j)
/-- A disk of the law's own, two rows beside it, and bytes that are to go into them. -/
structure GoodS (W w : World) (p : Nat) (vA : Value) (a : Nat) (FA : Nat → List UInt8) (vB : Value) (b : Nat) (FB : Nat → List UInt8) (vL : Value) (L : List UInt8) (q bm : Nat) (M : Option Nat) (d : Dk) (xs ys : List Value) : Prop where
  disk : DiskS w p q bm M d
  new : ∀ k, dkZ p q bm M k → W.heap.size ≤ k
  rA : OwnS w vA a xs
  rB : OwnS w vB b ys
  hA : Holds w (dkZ p q bm M) xs a FA
  hB : Holds w (dkZ p q bm M) ys b FB
  hL : RowOff w (dkZ p q bm M) vL L
  offA : ∀ k, vA.ownBlock = some k → ¬ dkZ p q bm M k ∧ W.heap.size ≤ k
  offB : ∀ k, vB.ownBlock = some k → ¬ dkZ p q bm M k ∧ W.heap.size ≤ k
  apart : ∀ k, vA.ownBlock = some k → vB.ownBlock ≠ some k
theorem holds_gr {a b : World} {Z : Nat → Prop} {xs : List Value} {n : Nat} {F : Nat → List UInt8} (h : Holds a Z xs n F) (g : Gr a b) : Holds b Z xs n F := fun j hj => by
  obtain ⟨v, e, r⟩ := h j hj; exact ⟨v, e, rowOff_gr r g⟩
section
variable {W w : World} {p a b q bm : Nat} {vA vB vL : Value} {FA FB : Nat → List UInt8} {L : List UInt8} {M : Option Nat} {d : Dk} {xs ys : List Value}
theorem goodS_swap (h : GoodS W w p vA a FA vB b FB vL L q bm M d xs ys) : GoodS W w p vB b FB vA a FA vL L q bm M d ys xs :=
  ⟨h.disk, h.new, h.rB, h.rA, h.hB, h.hA, h.hL, h.offB, h.offA, fun k hk e => h.apart k e hk⟩
theorem goodS_gr {w' : World} (h : GoodS W w p vA a FA vB b FB vL L q bm M d xs ys) (g : Gr w w') : GoodS W w' p vA a FA vB b FB vL L q bm M d xs ys :=
  ⟨diskS_gr h.disk g, h.new, rowOwn_gr h.rA g, rowOwn_gr h.rB g, holds_gr h.hA g, holds_gr h.hB g, rowOff_gr h.hL g, h.offA, h.offB, h.apart⟩
/-- Other bytes are to go in. -/
theorem goodS_loose {vK : Value} {K : List UInt8} (h : GoodS W w p vA a FA vB b FB vL L q bm M d xs ys) {w' : World} (g : Gr w w') (o : Own w' w.heap.size vK K) : GoodS W w' p vA a FA vB b FB vK K q bm M d xs ys := by
  have h' := goodS_gr h g
  exact ⟨h'.disk, h'.new, h'.rA, h'.rB, h'.hA, h'.hB, rowOff_own o (diskS_zlt h.disk), h'.offA, h'.offB, h'.apart⟩
/-- They go in at the end. -/
theorem goodS_grow {w1 w' : World} {x : Value} (h : GoodS W w p vA a FA vB b FB vL L q bm M d xs ys) (g1 : Gr w w1) (G1 : Gr W w) (o : OwnS w' x (a + 1) (xs ++ [vL])) (g : Grown w1 w' vA x) :
    GoodS W w' p x (a + 1) (fun j => if j = a then L else FA j) vB b FB vL L q bm M d (xs ++ [vL]) ys := by
  have K : Kx (fun k => vA.ownBlock = some k) w w' := (Kx.of_gr g1).trans (kx_grown g)
  have hS := slS_own h.rA
  have hz := diskS_zlt h.disk
  have hsz := g1.size
  have hlen : xs.length = a := by have := h.rA.1; omega
  have hx : ∀ k, x.ownBlock = some k → vA.ownBlock = some k ∨ w.heap.size ≤ k := fun k hk => by
    rcases g.2 k hk with e | e
    · exact Or.inl e
    · exact Or.inr (Nat.le_trans hsz e)
  refine ⟨diskS_sl h.disk K hS (fun k hk => (h.offA k hk).1), h.new, o, rowOwn_kxS h.rB K (fun k hk e => h.apart k e hk), fun j hj => ?_, fun j hj => ?_, rowOff_sl h.hL K hS, fun k hk => ?_, h.offB, fun k hk e => ?_⟩
  · by_cases e : j = a
    · subst e
      refine ⟨vL, by rw [List.getElem?_append_right (by omega), hlen, Nat.sub_self]; rfl, ?_⟩
      rw [if_pos rfl]
      exact rowOff_sl h.hL K hS
    · obtain ⟨v, e1, r⟩ := h.hA j (by omega)
      refine ⟨v, by rw [List.getElem?_append_left (by omega)]; exact e1, ?_⟩
      rw [if_neg e]
      exact rowOff_sl r K hS
  · obtain ⟨v, e1, r⟩ := h.hB j hj
    exact ⟨v, e1, rowOff_sl r K hS⟩
  · rcases hx k hk with e | e
    · exact h.offA k e
    · exact ⟨fun hk => by have := hz k hk; omega, Nat.le_trans G1.size e⟩
  · rcases hx k hk with e' | e'
    · exact h.apart k e' e
    · have := (World.ownsRow.lt h.rB k e).2
      omega
theorem goodS_growG {w1 w' : World} {x : Value} (h : GoodS W w p vA a FA vB b FB vL L q bm M d xs ys) (g1 : Gr w w1) (G1 : Gr W w) (g : Grown w1 w' vA x) : Gr W w' :=
  Kx.gr ((Kx.of_gr g1).trans (kx_grown g)) G1 (fun k hk => (h.offA k hk).2)
theorem goodS_cell {C cap k : Nat} (h : GoodS W w p (.slice (some ⟨C, 0, none⟩) a cap) a FA vB b FB vL L q bm M d xs ys) (hk : k < a) (hl : (FA k).length = 64) :
    (∃ B o c, w.cell? ⟨C, k, none⟩ = some (.slice (some ⟨B, o, none⟩) 64 c) ∧ Row w (.slice (some ⟨B, o, none⟩) 64 c) (FA k) ∧ 64 ≤ c ∧ (c : Int) ≤ 9223372036854775807) ∧ w.frozen? ⟨C, k, none⟩ = false ∧ C < w.heap.size := by
  obtain ⟨v, e, r⟩ := h.hA k hk
  have hlen : xs.length = a := by have := h.rA.1; omega
  have hc := h.rA.cellAt k (by omega)
  obtain ⟨B, o, c, rfl, h1, h2⟩ := row_addr r.1 (by omega)
  rw [hl] at e h1
  have hr := r.1
  rw [hl] at hr
  exact ⟨⟨B, o, c, by rw [hc]; exact e, hr, h1, h2⟩, h.rA.frozenAt k, (World.ownsRow.lt h.rA C rfl).2⟩
/-- They go in at a place. -/
theorem goodS_put {C cap k : Nat} {ad : Option Addr} {m c : Nat} (h : GoodS W w p (.slice (some ⟨C, 0, none⟩) a cap) a FA vB b FB (.slice ad m c) L q bm M d xs ys) (hk : k < a) :
    GoodS W (w.setCell ⟨C, k, none⟩ (.slice ad m c)) p (.slice (some ⟨C, 0, none⟩) a cap) a (fun j => if j = k then L else FA j) vB b FB (.slice ad m c) L q bm M d (xs.set k (.slice ad m c)) ys := by
  have K : Kx (fun j => j = C) w (w.setCell ⟨C, k, none⟩ (.slice ad m c)) := (Kx.refl (S := fun j => j = C) w).setCell (p := ⟨C, k, none⟩) rfl _
  have hS : SlS w (fun j => j = C) := fun j hj => slS_own h.rA j (by rw [hj]; rfl)
  have hlen : xs.length = a := by have := h.rA.1; omega
  refine ⟨diskS_sl h.disk K hS (fun j hj => by subst hj; exact (h.offA _ rfl).1), h.new, (h.rA.stored k _).1, rowOwn_kxS h.rB K (fun j hj e => by subst e; exact h.apart _ rfl hj), fun j hj => ?_, fun j hj => ?_, rowOff_sl h.hL K hS, h.offA, h.offB, h.apart⟩
  · by_cases e : j = k
    · subst e
      refine ⟨_, List.getElem?_set_self (by omega), ?_⟩
      rw [if_pos rfl]
      exact rowOff_sl h.hL K hS
    · obtain ⟨v, e1, r⟩ := h.hA j hj
      refine ⟨v, by rw [List.getElem?_set_ne (fun h => e h.symm)]; exact e1, ?_⟩
      rw [if_neg e]
      exact rowOff_sl r K hS
  · obtain ⟨v, e1, r⟩ := h.hB j hj
    exact ⟨v, e1, rowOff_sl r K hS⟩
/-- The disk alone has turned. -/
theorem goodS_turn {w' : World} {M' : Option Nat} {d' : Dk} {T : Nat → Prop} (h : GoodS W w p vA a FA vB b FB vL L q bm M d xs ys) (hd : DiskS w' p q bm M' d') (K : Kx T w w') (hT : ∀ k, T k → dkZ p q bm M k ∨ w.heap.size ≤ k)
    (hM : M' = M ∨ ∃ j, M' = some j ∧ w.heap.size ≤ j) (G : Gr W w) : GoodS W w' p vA a FA vB b FB vL L q bm M' d' xs ys := by
  have hz : ∀ j, dkZ p q bm M' j → dkZ p q bm M j ∨ w.heap.size ≤ j := fun j hj => by
    rcases hj with e | e | e | e
    · exact Or.inl (Or.inl e)
    · exact Or.inl (Or.inr (Or.inl e))
    · exact Or.inl (Or.inr (Or.inr (Or.inl e)))
    · rcases hM with rfl | ⟨i, rfl, hi⟩
      · exact Or.inl (Or.inr (Or.inr (Or.inr e)))
      · obtain rfl := Option.some.inj e
        exact Or.inr hi
  have turn : ∀ {v : Value} {X : List UInt8}, RowOff w (dkZ p q bm M) v X → RowOff w' (dkZ p q bm M') v X := fun hr =>
    rowOff_mono (rowOff_kx (rowOff_mono (Z' := fun k => dkZ p q bm M k ∨ w.heap.size ≤ k) hr (fun k h => h)) K (fun j hj => Or.inl (hT j hj))) (fun j hj => Or.inl (hz j hj))
  have keepA : ∀ k, vA.ownBlock = some k → ¬ T k := fun k hk ht => by
    rcases hT k ht with e | e
    · exact (h.offA k hk).1 e
    · have := (World.ownsRow.lt h.rA k hk).2; omega
  have keepB : ∀ k, vB.ownBlock = some k → ¬ T k := fun k hk ht => by
    rcases hT k ht with e | e
    · exact (h.offB k hk).1 e
    · have := (World.ownsRow.lt h.rB k hk).2; omega
  refine ⟨hd, fun k hk => ?_, rowOwn_kxS h.rA K keepA, rowOwn_kxS h.rB K keepB, fun j hj => ?_, fun j hj => ?_, turn h.hL, fun k hk => ⟨fun e => ?_, (h.offA k hk).2⟩, fun k hk => ⟨fun e => ?_, (h.offB k hk).2⟩, h.apart⟩
  · rcases hz k hk with e | e
    · exact h.new k e
    · exact Nat.le_trans G.size e
  · obtain ⟨v, e1, r⟩ := h.hA j hj
    exact ⟨v, e1, turn r⟩
  · obtain ⟨v, e1, r⟩ := h.hB j hj
    exact ⟨v, e1, turn r⟩
  · rcases hz k e with e | e
    · exact (h.offA k hk).1 e
    · have := (World.ownsRow.lt h.rA k hk).2; omega
  · rcases hz k e with e | e
    · exact (h.offB k hk).1 e
    · have := (World.ownsRow.lt h.rB k hk).2; omega
theorem good_write {ad : Option Addr} {cp k : Nat} (h : GoodS W w p vA a FA vB b FB (.slice ad 64 cp) L q bm M d xs ys) (G : Gr W w) (hk : k < d.n) (ho : d.on) (hn : d.ops < 1000000) (hL : L.length = 64) :
    Calls Try.prog 23 #[.pointer (some ⟨p, 0, none⟩), .int .i64 k, .slice ad 64 cp] w fun e w' => e = .returned .nilIface ∧ (∃ M', GoodS W w' p vA a FA vB b FB (.slice ad 64 cp) L q bm M' (d.opd.wr k L) xs ys) ∧ Gr W w' := by
  refine (d_write k hk ho hn hL ad cp w h.disk h.hL).mono ?_
  rintro e w' ⟨rfl, M', h3, h4, h5⟩
  have hT : ∀ j, (j = p ∨ M = some j ∨ j = bm ∨ w.heap.size ≤ j) → dkZ p q bm M j ∨ w.heap.size ≤ j := fun j hj => by
    rcases hj with e | e | e | e
    · exact Or.inl (Or.inl e)
    · exact Or.inl (Or.inr (Or.inr (Or.inr e)))
    · exact Or.inl (Or.inr (Or.inr (Or.inl e)))
    · exact Or.inr e
  exact ⟨rfl, ⟨M', goodS_turn h h3 h5 hT h4 G⟩, Kx.gr h5 G (fun j hj => by
    rcases hT j hj with e | e
    · exact h.new j e
    · exact Nat.le_trans G.size e)⟩
theorem good_sync (h : GoodS W w p vA a FA vB b FB vL L q bm M d xs ys) (G : Gr W w) (ho : d.on) (hn : d.ops < 1000000) :
    Calls Try.prog 29 #[.pointer (some ⟨p, 0, none⟩)] w fun e w' => e = .returned .nilIface ∧ (∃ X, (∀ k, k < d.n → sec X k = d.read k) ∧ GoodS W w' p vA a FA vB b FB vL L q bm M { d.opd with good := X, ord := [] } xs ys) ∧ Gr W w' := by
  refine (d_sync ho hn w h.disk).mono ?_
  rintro e w' ⟨rfl, ⟨X, h1, h2⟩, h3⟩
  exact ⟨rfl, ⟨X, h1, goodS_turn h h2 h3 (fun k hk => hk) (Or.inl rfl) G⟩, Kx.gr h3 G (fun j hj => by
    rcases hj with e | e
    · exact h.new j e
    · exact Nat.le_trans G.size e)⟩
end
end Go.Proofs.Ytcalleofndokaaa
