/- disk: copies of slices; Len, lasting, New, Off, Ops, Cut -/
import Derived.Test.YtapfecmdfoobcaaGreatDoorDa
import Derived.Test.YtapfecmdfoobcaaGreatDoorBk
namespace Go.Proofs.YtapfecmdfoobcaaGreatDoor
set_option linter.unusedVariables false
set_option linter.unusedSimpArgs false
open Go.ChangeShapes Go.WideShapes Go.ChangeAt Go.RowKit Go.Maps

theorem sec_get (L : List UInt8) (k j : Nat) (h : j < (sec L k).length) : (sec L k)[j] = L[k * 64 + j]'(by unfold sec at h; rw [List.length_take, List.length_drop] at h; omega) := by
  simp [sec]
section
variable {p g bm : Nat} {M : Option Nat} {d : Dk}
theorem diskS_head {W : World} (H : DiskS W p g bm M d) : ∃ cap ov, DiskAt W p (.slice (some ⟨g, 0, none⟩) (d.n * 64) cap) bm ov d.ops d.cut d.left d.off ∧ Own W 0 (.slice (some ⟨g, 0, none⟩) (d.n * 64) cap) d.good ∧
    W.ownsRow 0 3 1 ov d.ord.length (d.ord.map fun (k : Nat) => Value.int .i64 (k : Int)) ∧ ov.ownBlock = M ∧ d.n * 64 ≤ cap ∧ (cap : Int) ≤ 9223372036854775807 := by
  obtain ⟨cap, ov, h2, h3, h4, h5⟩ := H.head
  refine ⟨cap, ov, h2, h3, h4, h5, ?_⟩
  rcases h3.2 with ⟨e, _⟩ | ⟨g', cap', cur, e, hb, hh, hn, hc, hs, ht⟩
  · cases e
  · simp only [Value.slice.injEq] at e
    obtain ⟨-, e1, rfl⟩ := e
    rw [H.ok.len] at hn
    exact ⟨hn, by unfold maxLen at hc; omega⟩
/-- The head alone has turned. -/
theorem diskS_head_turn {a b : World} {d' : Dk} {S : Nat → Prop} (H : DiskS a p g bm M d) (k : Kx S a b) (hS : ∀ k, S k → k = p ∨ (¬ dkZ p g bm M k ∧ a.heap.size ≤ k)) (hok : d'.ok)
    (e1 : d'.n = d.n) (e2 : d'.good = d.good) (e3 : d'.ord = d.ord) (e4 : d'.F = d.F) (hd : ∀ gv ov, DiskAt a p gv bm ov d.ops d.cut d.left d.off → DiskAt b p gv bm ov d'.ops d'.cut d'.left d'.off) : DiskS b p g bm M d' := by
  obtain ⟨h1, ⟨cap, ov, h2, h3, h4, h5⟩, h6, h7⟩ := H
  obtain ⟨n1, n2, n3, n4, n5, n6⟩ := h7
  have np : ∀ j, S j → j = p ∨ (j ≠ g ∧ j ≠ bm ∧ M ≠ some j) := fun j hj => by
    rcases hS j hj with h | ⟨h, -⟩
    · exact Or.inl h
    · exact Or.inr ⟨fun e => h (Or.inr (Or.inl e)), fun e => h (Or.inr (Or.inr (Or.inl e))), fun e => h (Or.inr (Or.inr (Or.inr e)))⟩
  refine ⟨hok, ⟨cap, ov, ?_, ?_, ?_, h5⟩, ?_, ⟨n1, n2, n3, n4, n5, n6⟩⟩
  · rw [e1]; exact hd _ _ h2
  · rw [e1, e2]
    exact rowOwn_kxS h3 k (fun j hj hs => by
      obtain rfl : g = j := by simpa [Value.ownBlock] using hj
      rcases np g hs with h | h
      · exact n1 h.symm
      · exact h.1 rfl)
  · rw [e3]
    exact rowOwn_kxS h4 k (fun j hj hs => by
      rw [h5] at hj
      rcases np j hs with h | h
      · subst h; exact n4 hj
      · exact h.2.2 hj)
  · have := waits_turn (Z' := dkZ p g bm M) h6 k (fun hs => by
      rcases np bm hs with h | h
      · exact n2 h.symm
      · exact h.2.1 rfl) (fun j hj => by
      rcases hS j hj with h | h
      · exact Or.inl (Or.inl h)
      · exact Or.inr h.2) (fun j hj => Or.inl hj)
    unfold Waits at this ⊢
    rw [e3, e4]
    exact this
end
end Go.Proofs.YtapfecmdfoobcaaGreatDoor
