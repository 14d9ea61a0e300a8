/- DiskPlays: both disks side by side -/
import Derived.Test.YtkbdhhmkdjajgaaDoorNf
import Derived.Test.YtkbdhhmkdjajgaaDoorNd
namespace Go.Proofs.YtkbdhhmkdjajgaaDoor
set_option linter.unusedVariables false
set_option linter.unusedSimpArgs false
open Go.ChangeShapes Go.WideShapes Go.ChangeAt Go.RowKit Go.Maps

section
variable {base q : Nat} {Z : Nat → Prop} {d : Dk} {gv av nv : Value} {gs ns : List Value} {dl : Int}
theorem refD_oth {a : World} (h : RefD base a q Z d gv av nv gs ns dl) : OthS a (fun k => k = q ∨ a.heap.size ≤ k) := fun k hk => by
  rcases hk with rfl | hk
  · exact Or.inr ⟨_, _, by decide, h.head⟩
  · exact Or.inl hk
theorem refD_neq {a : World} (h : RefD base a q Z d gv av nv gs ns dl) : (∀ k, gv.ownBlock = some k → k ≠ q) ∧ (∀ k, av.ownBlock = some k → k ≠ q) ∧ (∀ k, nv.ownBlock = some k → k ≠ q) := by
  refine ⟨fun k hk => ?_, fun k hk => ?_, fun k hk => ?_⟩
  · obtain ⟨cur, hc⟩ := own_typed h.good hk
    exact typed_ne hc h.head (by decide)
  · obtain ⟨cur, hc⟩ := own_typed h.at_ hk
    exact typed_ne hc h.head (by decide)
  · obtain ⟨cur, hc⟩ := own_typed h.new hk
    exact typed_ne hc h.head (by decide)
/-- The head is written anew; the rows are the old ones, or new. -/
theorem refD_put {a b : World} {d' : Dk} {gv' av' nv' : Value} {gs' ns' : List Value} {dl' : Int} (h : RefD base a q Z d gv av nv gs ns dl) (hz : ∀ k, Z k → k < a.heap.size) (hbs : base ≤ a.heap.size)
    (hb : b.heap[q]? = some (.cells #[gv', av', nv', .int .i64 (d'.ops : Nat), .bool d'.cut, .int .i64 dl', .bool d'.off] 62 (0, 0))) (ok' : d'.ok) (lft' : d'.cut = true → dl' = d'.left)
    (good' : b.ownsRow 0 37 1 gv' d'.n gs') (gsl' : ∀ j, j < d'.n → ∃ v, gs'[j]? = some v ∧ GSl b Z (sec d'.good j) v)
    (at' : b.ownsRow 0 3 1 av' d'.ord.length (intL d'.ord)) (new' : b.ownsRow 0 37 1 nv' d'.ord.length ns') (nsl' : ∀ j, j < d'.ord.length → ∃ v, ns'[j]? = some v ∧ RowOff b Z v (d'.F (d'.ord.getD j 0)))
    (og : ∀ k, gv'.ownBlock = some k → gv.ownBlock = some k ∨ a.heap.size ≤ k) (oa : ∀ k, av'.ownBlock = some k → av.ownBlock = some k ∨ a.heap.size ≤ k) (on : ∀ k, nv'.ownBlock = some k → nv.ownBlock = some k ∨ a.heap.size ≤ k) : RefD base b q Z d' gv' av' nv' gs' ns' dl' := by
  have nw : ∀ k, a.heap.size ≤ k → ¬ Z k ∧ base ≤ k := fun k hk => ⟨fun h => by have := hz k h; omega, by omega⟩
  refine ⟨hb, ok', lft', good', gsl', at', new', nsl', h.offQ, fun k hk => ?_, fun k hk => ?_, fun k hk => ?_⟩
  · rcases og k hk with e | e; exact h.offG k e; exact nw k e
  · rcases oa k hk with e | e; exact h.offA k e; exact nw k e
  · rcases on k hk with e | e; exact h.offN k e; exact nw k e
/-- What is for good is told another way. -/
theorem refD_good {a : World} {G : List UInt8} (h : RefD base a q Z d gv av nv gs ns dl) (hl : G.length = d.n * 64) (hs : ∀ k, k < d.n → sec G k = sec d.good k) : RefD base a q Z { d with good := G } gv av nv gs ns dl :=
  ⟨h.head, ⟨h.ok.n1, h.ok.n2, hl, h.ok.nodup, h.ok.lt, h.ok.sz, h.ok.ops, h.ok.left, h.ok.lft⟩, h.lft, h.good, fun j hj => by
    obtain ⟨v, e, r⟩ := h.gsl j hj
    exact ⟨v, e, (show GSl a Z (sec G j) v from by rw [hs j hj]; exact r)⟩, h.at_, h.new, h.nsl, h.offQ, h.offG, h.offA, h.offN⟩
/-- One sector's row is set. -/
theorem refD_setG {a : World} {D c k : Nat} {x : Value} {G L : List UInt8} (h : RefD base a q Z d (.slice (some ⟨D, 0, none⟩) d.n c) av nv gs ns dl) (hk : k < d.n) (hx : GSl a Z L x) (hl : G.length = d.n * 64) (hs : ∀ j, j < d.n → sec G j = if j = k then L else sec d.good j)
    (hA : ∀ j, av.ownBlock = some j → j ≠ D) (hN : ∀ j, nv.ownBlock = some j → j ≠ D) :
    RefD base (a.setCell ⟨D, k, none⟩ x) q Z { d with good := G } (.slice (some ⟨D, 0, none⟩) d.n c) av nv (gs.set k x) ns dl ∧ Kx (fun j => j = D) a (a.setCell ⟨D, k, none⟩ x) := by
  have K : Kx (fun j => j = D) a (a.setCell ⟨D, k, none⟩ x) := (Kx.refl (S := fun j => j = D) a).setCell (p := ⟨D, k, none⟩) rfl _
  have hO : OthS a (fun j => j = D) := fun j hj => by
    obtain ⟨cur, hc⟩ := own_typed h.good (k := j) (by rw [hj]; rfl)
    exact Or.inr ⟨cur, _, by decide, hc⟩
  have hlen : gs.length = d.n := by have := h.good.1; omega
  refine ⟨⟨heap_kx K (fun e => (refD_neq h).1 q (by rw [e]; rfl) rfl) h.head, ⟨h.ok.n1, h.ok.n2, hl, h.ok.nodup, h.ok.lt, h.ok.sz, h.ok.ops, h.ok.left, h.ok.lft⟩, h.lft, (h.good.stored k x).1, fun j hj => ?_, rowOwn_kxS h.at_ K (fun j hj e => hA j hj e), rowOwn_kxS h.new K (fun j hj e => hN j hj e), fun j hj => ?_, h.offQ, h.offG, h.offA, h.offN⟩, K⟩
  · show ∃ v, (gs.set k x)[j]? = some v ∧ GSl _ Z (sec G j) v
    rw [hs j hj]
    by_cases e : j = k
    · subst e
      rw [if_pos rfl]
      exact ⟨x, List.getElem?_set_self (by omega), gSl_oth hx K hO⟩
    · rw [if_neg e]
      obtain ⟨v, e1, r⟩ := h.gsl j hj
      exact ⟨v, by rw [List.getElem?_set_ne (fun h => e h.symm)]; exact e1, gSl_oth r K hO⟩
  · obtain ⟨v, e, r⟩ := h.nsl j hj
    exact ⟨v, e, rowOff_oth r K hO⟩
end
/-- What a call leaves of the document's disk. -/
def RTo (base : Nat) (W : World) (q : Nat) (Z : Nat → Prop) (d' : Dk) (w' : World) : Prop :=
  (∃ gv av nv gs ns dl, RefD base w' q Z d' gv av nv gs ns dl) ∧ Kx (fun k => k = q ∨ W.heap.size ≤ k) W w'
/-- Both disks, beside the step's own block. -/
def Mid10 (W w : World) (p q V : Nat) (d d2 : Dk) : Prop := ∃ g bm M, DiskS w p g bm M d ∧ (∃ gv av nv gs ns dl, RefD W.heap.size w q (fun k => dkZ p g bm M k ∨ k = V) d2 gv av nv gs ns dl) ∧ (∀ k, dkZ p g bm M k → W.heap.size ≤ k) ∧ ¬ dkZ p g bm M V ∧ V < w.heap.size ∧ W.heap.size ≤ V
/-- The two disks between two steps. -/
def Play10 (W w : World) (p q : Nat) (d : Dk) : Prop := ∃ g bm M, DiskS w p g bm M d ∧ (∃ gv av nv gs ns dl, RefD W.heap.size w q (dkZ p g bm M) d gv av nv gs ns dl) ∧ ∀ k, dkZ p g bm M k → W.heap.size ≤ k
section
variable {W w w' : World} {p q V : Nat} {d d2 d' : Dk}
theorem mid10_gr (h : Mid10 W w p q V d d2) (g : Gr w w') : Mid10 W w' p q V d d2 := by
  obtain ⟨g0, bm, M, h1, ⟨gv, av, nv, gs, ns, dl, h2⟩, h3, h4, h5, h6⟩ := h
  exact ⟨g0, bm, M, diskS_gr h1 g, ⟨gv, av, nv, gs, ns, dl, refD_gr h2 g⟩, h3, h4, Nat.lt_of_lt_of_le h5 g.size, h6⟩
theorem play10_gr (h : Play10 W w p q d) (g : Gr w w') : Play10 W w' p q d := by
  obtain ⟨g0, bm, M, h1, ⟨gv, av, nv, gs, ns, dl, h2⟩, h3⟩ := h
  exact ⟨g0, bm, M, diskS_gr h1 g, ⟨gv, av, nv, gs, ns, dl, refD_gr h2 g⟩, h3⟩
theorem play10_mid (h : Play10 W w p q d) (G : Gr W w) (o : Obj) : Mid10 W (w.alloc o) p q w.heap.size d d := by
  obtain ⟨g0, bm, M, h1, ⟨gv, av, nv, gs, ns, dl, h2⟩, h3⟩ := h
  have g : Gr w (w.alloc o) := (Below.refl _ _).alloc (Nat.le_refl _) _
  exact ⟨g0, bm, M, diskS_gr h1 g, ⟨gv, av, nv, gs, ns, dl, refD_gr (refD_mono h2 (fun k hk => by rcases hk with h | h; exact Or.inl h; exact Or.inr (by rw [h]; exact Nat.le_refl _))) g⟩, h3, fun hk => by have := diskS_zlt h1 _ hk; omega, by simp, G.size⟩
theorem mid10_play (h : Mid10 W w p q V d d) : Play10 W w p q d := by
  obtain ⟨g0, bm, M, h1, ⟨gv, av, nv, gs, ns, dl, h2⟩, h3, -⟩ := h
  exact ⟨g0, bm, M, h1, ⟨gv, av, nv, gs, ns, dl, refD_mono h2 (fun k hk => Or.inl (Or.inl hk))⟩, h3⟩
theorem mid10_ne (h : Mid10 W w p q V d d2) : q ≠ V := by
  obtain ⟨g0, bm, M, h1, ⟨gv, av, nv, gs, ns, dl, h2⟩, h3⟩ := h
  exact fun e => h2.offQ.1 (Or.inr e)
theorem kxV10_gr {W w w' : World} {V : Nat} (K : Kx (fun k => k ≠ V ∧ W.heap.size ≤ k) w w') (G : Gr W w) : Gr W w' := Kx.gr K G (fun k h => h.2)
/-- The program's call is done. -/
theorem mid10_p {g0 bm : Nat} {M : Option Nat} {gv av nv : Value} {gs ns : List Value} {dl : Int} (G : Gr W w) (h1 : DiskS w p g0 bm M d) (h2 : RefD W.heap.size w q (fun k => dkZ p g0 bm M k ∨ k = V) d2 gv av nv gs ns dl) (h3 : ∀ k, dkZ p g0 bm M k → W.heap.size ≤ k) (h4 : ¬ dkZ p g0 bm M V) (h5 : V < w.heap.size) (h6 : W.heap.size ≤ V)
    (hp : DTo w p g0 bm M d' w') : Mid10 W w' p q V d' d2 ∧ Kx (fun k => k ≠ V ∧ W.heap.size ≤ k) w w' := by
  obtain ⟨M', p1, p2, p3⟩ := hp
  have hz : ∀ j, dkZ p g0 bm M' j → dkZ p g0 bm M j ∨ w.heap.size ≤ j := fun j hj => by
    rcases hj with e | e | e | e
    · exact Or.inl (Or.inl e)
    · exact Or.inl (Or.inr (Or.inl e))
    · exact Or.inl (Or.inr (Or.inr (Or.inl e)))
    · rcases p2 with rfl | ⟨D, rfl, hD⟩
      · exact Or.inl (Or.inr (Or.inr (Or.inr e)))
      · obtain rfl := Option.some.inj e
        exact Or.inr hD
  have hsz := p3.size
  have r1 := refD_mono (Z' := fun k => (dkZ p g0 bm M k ∨ dkZ p g0 bm M' k) ∨ k = V) h2 (fun k hk => by
    rcases hk with (h | h) | h
    · exact Or.inl (Or.inl h)
    · rcases hz k h with h | h
      · exact Or.inl (Or.inl h)
      · exact Or.inr h
    · exact Or.inl (Or.inr h))
  have r2 := refD_kx r1 p3 (fun k hk => by rcases hk with h | h; exact Or.inl (Or.inl (Or.inl h)); exact Or.inr h)
  have r3 := refD_mono (Z' := fun k => dkZ p g0 bm M' k ∨ k = V) r2 (fun k hk => by rcases hk with h | h; exact Or.inl (Or.inl (Or.inr h)); exact Or.inl (Or.inr h))
  refine ⟨⟨g0, bm, M', p1, ⟨gv, av, nv, gs, ns, dl, r3⟩, fun k hk => ?_, fun hk => ?_, by omega, h6⟩, p3.mono (fun k hk => ?_)⟩
  · rcases hz k hk with h | h
    · exact h3 k h
    · exact Nat.le_trans G.size h
  · rcases hz V hk with h | h
    · exact h4 h
    · omega
  · rcases hk with h | h
    · exact ⟨fun e => h4 (e ▸ h), h3 k h⟩
    · exact ⟨fun e => by omega, Nat.le_trans G.size h⟩
/-- The document's call is done. -/
theorem mid10_r {g0 bm : Nat} {M : Option Nat} {gv av nv : Value} {gs ns : List Value} {dl : Int} (G : Gr W w) (h1 : DiskS w p g0 bm M d) (h2 : RefD W.heap.size w q (fun k => dkZ p g0 bm M k ∨ k = V) d2 gv av nv gs ns dl) (h3 : ∀ k, dkZ p g0 bm M k → W.heap.size ≤ k) (h4 : ¬ dkZ p g0 bm M V) (h5 : V < w.heap.size) (h6 : W.heap.size ≤ V)
    (hr : RTo W.heap.size w q (fun k => dkZ p g0 bm M k ∨ k = V) d' w') : Mid10 W w' p q V d d' ∧ Kx (fun k => k ≠ V ∧ W.heap.size ≤ k) w w' := by
  obtain ⟨hR, K⟩ := hr
  have hsz := K.size
  refine ⟨⟨g0, bm, M, diskS_oth h1 K (refD_oth h2) (fun k hk hz => ?_), hR, h3, h4, by omega, h6⟩, K.mono (fun k hk => ?_)⟩
  · rcases hk with rfl | hk
    · exact h2.offQ.1 (Or.inl hz)
    · have := diskS_zlt h1 k hz; omega
  · rcases hk with rfl | hk
    · exact ⟨fun e => h2.offQ.1 (Or.inr e), h2.offQ.2⟩
    · exact ⟨fun e => by omega, Nat.le_trans G.size hk⟩
end
end Go.Proofs.YtkbdhhmkdjajgaaDoor
