/- the document's disk: its head is written; op, Cut -/
import Derived.Test.YtbjckoelgpbaaaaGreatDoorNc
import Derived.Test.YtbjckoelgpbaaaaGreatDoorMk
namespace Go.Proofs.YtbjckoelgpbaaaaGreatDoor
set_option linter.unusedVariables false
set_option linter.unusedSimpArgs false
open Go.ChangeShapes Go.WideShapes Go.ChangeAt Go.RowKit Go.Maps

theorem gSl_oth {a b : World} {S Z : Nat → Prop} {L : List UInt8} {v : Value} (h : GSl a Z L v) (K : Kx S a b) (hS : OthS a S) : GSl b Z L v := by
  rcases h with h | h
  · exact Or.inl h
  · exact Or.inr (rowOff_oth h K hS)
section
variable {base q : Nat} {Z : Nat → Prop} {d : Dk} {gv av nv : Value} {gs ns : List Value} {dl : Int}
/-- The counts change, the rows stay. -/
theorem refD_head {a b : World} {d' : Dk} {dl' : Int} (h : RefD base a q Z d gv av nv gs ns dl) (K : Kx (fun k => k = q) a b) (hb : b.heap[q]? = some (.cells #[gv, av, nv, .int .i64 (d'.ops : Nat), .bool d'.cut, .int .i64 dl', .bool d'.off] 184 (0, 0))) (hok : d'.ok) (e1 : d'.n = d.n) (e2 : d'.good = d.good) (e3 : d'.ord = d.ord) (e4 : d'.F = d.F) (hl : d'.cut = true → dl' = d'.left) : RefD base b q Z d' gv av nv gs ns dl' := by
  have hO : OthS a (fun k => k = q) := fun k hk => by
    subst hk
    exact Or.inr ⟨_, _, by decide, h.head⟩
  have ne : ∀ (T : TypeId) (v : Value) (n size : Nat) (xs : List Value), T ≠ 184 → a.ownsRow 0 T size v n xs → ∀ k, v.ownBlock = some k → ¬ k = q := fun T v n size xs hT ho k hk e => by
    obtain ⟨cur, hc⟩ := own_typed ho hk
    rw [e, h.head] at hc
    have := Option.some.inj hc
    simp at this
    exact hT this.2.symm
  refine ⟨hb, hok, hl, ?_, ?_, ?_, ?_, ?_, h.offQ, h.offG, h.offA, h.offN⟩
  · rw [e1]; exact rowOwn_kxS h.good K (ne _ _ _ _ _ (by decide) h.good)
  · rw [e1, e2]; intro j hj; obtain ⟨v, e, r⟩ := h.gsl j hj; exact ⟨v, e, gSl_oth r K hO⟩
  · rw [e3]; exact rowOwn_kxS h.at_ K (ne _ _ _ _ _ (by decide) h.at_)
  · rw [e3]; exact rowOwn_kxS h.new K (ne _ _ _ _ _ (by decide) h.new)
  · rw [e3, e4]; intro j hj; obtain ⟨v, e, r⟩ := h.nsl j hj; exact ⟨v, e, rowOff_oth r K hO⟩
/-- What op leaves: the same rows. -/
def ROp (base : Nat) (W w' : World) (q : Nat) (Z : Nat → Prop) (d' : Dk) (gv av nv : Value) (gs ns : List Value) : Prop := (∃ dl', RefD base w' q Z d' gv av nv gs ns dl') ∧ Kx (fun k => k = q) W w'
end
end Go.Proofs.YtbjckoelgpbaaaaGreatDoor
