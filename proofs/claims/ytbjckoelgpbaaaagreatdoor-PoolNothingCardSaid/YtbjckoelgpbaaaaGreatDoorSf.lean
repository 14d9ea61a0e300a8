/- slots: a page with whatever slots: Delete, Get, Slots, Free, New -/
import Derived.Test.YtbjckoelgpbaaaaGreatDoorSe
namespace Go.Proofs.YtbjckoelgpbaaaaGreatDoor
set_option linter.unusedVariables false
set_option linter.unusedSimpArgs false
open Go.ChangeShapes Go.WideShapes Go.ChangeAt Go.RowKit

theorem row_cutS {w : World} {base g n cap size : Nat} {e : TypeId} {xs : List Value} (h : w.ownsRow base e size (.slice (some ⟨g, 0, none⟩) n cap) n xs) (n' : Nat) (hn : n' ≤ n) : w.ownsRow base e size (.slice (some ⟨g, 0, none⟩) n' cap) n' (xs.take (n' * size)) := by
  rcases h.2 with ⟨h', _⟩ | ⟨g', cap', cur, h', hb, hg, hnc, hcm, hcs, ht⟩
  · simp at h'
  · simp only [Value.slice.injEq, Option.some.injEq, Addr.mk.injEq, and_true, true_and] at h'
    obtain ⟨rfl, rfl⟩ := h'
    have hm : n' * size ≤ n * size := Nat.mul_le_mul_right _ hn
    refine ⟨by rw [List.length_take, h.1]; omega, .inr ⟨g, cap, cur, rfl, hb, hg, by omega, hcm, hcs, ?_⟩⟩
    rw [← ht, List.take_take, Nat.min_eq_left hm]
section
variable {B : Nat} {C : Option Nat} {kd id : Int} {S : List Sl}
/-- Up to the last one that is not free. -/
def lastN (S : List Sl) : Nat → Nat
  | 0 => 0
  | k + 1 => if (S.getD k none).isSome then k + 1 else lastN S k
theorem lastN_le (S : List Sl) : ∀ k, lastN S k ≤ k
  | 0 => Nat.le_refl _
  | k + 1 => by have := lastN_le S k; unfold lastN; split <;> omega
def delS (S : List Sl) (n : Nat) : List Sl := (S.set n none).take (lastN (S.set n none) S.length)
/-- The page's slots are cut. -/
theorem pageS_take {w : World} {D cap n' : Nat} (h : PageS w B (some D) kd id S) (hc : w.cell? ⟨B, 3, none⟩ = some (.slice (some ⟨D, 0, none⟩) S.length cap)) (hn : n' ≤ S.length) :
    PageS (w.setCell ⟨B, 3, none⟩ (.slice (some ⟨D, 0, none⟩) n' cap)) B (some D) kd id (S.take n') ∧ Kx (fun k => k = B) w (w.setCell ⟨B, 3, none⟩ (.slice (some ⟨D, 0, none⟩) n' cap)) := by
  obtain ⟨sl, xs, ⟨p0, p1, p2, p3, f3⟩, h2, h3, h4, h5, h6⟩ := h
  have hK : Kx (fun k => k = B) w (w.setCell ⟨B, 3, none⟩ (.slice (some ⟨D, 0, none⟩) n' cap)) := (Kx.refl (S := fun k => k = B) w).setCell (p := ⟨B, 3, none⟩) rfl _
  refine ⟨?_, hK⟩
  obtain rfl : sl = .slice (some ⟨D, 0, none⟩) S.length cap := by rw [hc] at p3; exact (Option.some.inj p3).symm
  have r := rowOwn_kxS (row_cutS h5 n' hn) hK (fun k hk e => by subst e; simp [Value.ownBlock] at hk; exact h3 (by rw [hk]))
  have hl : (S.take n').length = n' := by rw [List.length_take]; omega
  refine ⟨.slice (some ⟨D, 0, none⟩) n' cap, _, ⟨by go_simp, by go_simp, by go_simp, by go_simp, by go_simp⟩, rfl, h3, by omega, by rw [hl]; exact r, fun j hj => ?_⟩
  rw [hl] at hj
  obtain ⟨x, y, e1, e2, e3⟩ := h6 j (by omega)
  refine ⟨x, y, by rw [List.getElem?_take, if_pos (by omega)]; exact e1, by rw [List.getElem?_take, if_pos (by omega)]; exact e2, ?_⟩
  rw [List.getElem_take]
  exact slotC_kx e3 hK (fun k hk => Or.inl (Or.inl hk))
/-- What was there: the page's blocks alone have turned. -/
def DelTo (W : World) (B : Nat) (C : Option Nat) (kd id : Int) (S : List Sl) (w' : World) : Prop :=
  PageS w' B C kd id S ∧ Kx (fun k => pgZ B C k ∨ W.heap.size ≤ k) W w'
theorem has_lt {n : Nat} (h : (S.getD n none).isSome = true) : n < S.length := by
  rcases Nat.lt_or_ge n S.length with h' | h'
  · exact h'
  · rw [getD_ge S h'] at h; cases h
theorem pageS_some {w : World} (h : PageS w B C kd id S) (h0 : 0 < S.length) : ∃ D, C = some D := by
  obtain ⟨sl, xs, h1, h2, h3, h4, h5, h6⟩ := h
  obtain ⟨g, cap, rfl, -⟩ := row_form h5 h0
  exact ⟨g, h2.symm⟩
end
end Go.Proofs.YtbjckoelgpbaaaaGreatDoor
