/- slots: a page with whatever slots: fill, Insert -/
import Derived.Test.YtbjckoelgpbaaaaGreatDoorSd
namespace Go.Proofs.YtbjckoelgpbaaaaGreatDoor
set_option linter.unusedVariables false
set_option linter.unusedSimpArgs false
open Go.ChangeShapes Go.WideShapes Go.ChangeAt Go.RowKit

section
variable {B : Nat} {C : Option Nat} {kd id : Int} {S : List Sl}
/-- A slot gets other bytes, or none. -/
theorem pageS_put {w : World} {D : Nat} (h : PageS w B (some D) kd id S) {n : Nat} (hn : n < S.length) {o : Sl} {x v : Value} (hv : SlotC w (pgZ B (some D)) o x v) :
    PageS ((w.setCell ⟨D, n * 2, none⟩ x).setCell ⟨D, n * 2 + 1, none⟩ v) B (some D) kd id (S.set n o) ∧ Kx (fun k => k = D) w ((w.setCell ⟨D, n * 2, none⟩ x).setCell ⟨D, n * 2 + 1, none⟩ v) := by
  obtain ⟨sl, xs, h1, h2, h3, h4, h5, h6⟩ := h
  have hK : Kx (fun k => k = D) w ((w.setCell ⟨D, n * 2, none⟩ x).setCell ⟨D, n * 2 + 1, none⟩ v) := ((Kx.refl (S := fun k => k = D) w).setCell (p := ⟨D, n * 2, none⟩) rfl x).setCell (p := ⟨D, n * 2 + 1, none⟩) rfl v
  refine ⟨?_, hK⟩
  obtain ⟨g, cap, rfl, -⟩ := row_form h5 (by omega)
  obtain rfl : g = D := by simpa [Value.ownBlock] using h2
  have hBD : ¬ B = g := fun e => h3 (by rw [e])
  obtain ⟨r1, -⟩ := h5.stored (n * 2) x
  obtain ⟨r2, -⟩ := r1.stored (n * 2 + 1) v
  refine ⟨_, _, pageAt_kx h1 hK hBD, rfl, h3, by rw [List.length_set]; exact h4, by rw [List.length_set]; exact r2, fun j hj => ?_⟩
  rw [List.length_set] at hj
  have hx : xs.length = S.length * 2 := h5.1
  have hS : ∀ k, k = g → pgZ B (some g) k ∨ w.heap.size ≤ k := fun k hk => Or.inl (Or.inr (by rw [hk]))
  by_cases e : j = n
  · subst e
    refine ⟨x, v, ?_, ?_, ?_⟩
    · rw [List.getElem?_set_ne (by omega), List.getElem?_set_self (by omega)]
    · rw [List.getElem?_set_self (by rw [List.length_set]; omega)]
    · rw [List.getElem_set_self]
      exact slotC_kx hv hK hS
  · obtain ⟨y, u, e1, e2, e3⟩ := h6 j hj
    refine ⟨y, u, ?_, ?_, ?_⟩
    · rw [List.getElem?_set_ne (by omega), List.getElem?_set_ne (by omega)]; exact e1
    · rw [List.getElem?_set_ne (by omega), List.getElem?_set_ne (by omega)]; exact e2
    · rw [List.getElem_set_ne (fun h => e h.symm)]
      exact slotC_kx e3 hK hS
/-- One free slot more. -/
theorem pageS_push {W Wa w2 : World} {sl : Value} {xs : List Value} {D cp : Nat} (h1 : PageAt W B kd id sl) (h2 : sl.ownBlock = C) (h3 : C ≠ some B) (h4 : S.length < 60)
    (h6 : ∀ j (h : j < S.length), ∃ b v, xs[j * 2]? = some b ∧ xs[j * 2 + 1]? = some v ∧ SlotC W (pgZ B C) S[j] b v) (hx : xs.length = S.length * 2) (g1 : Gr W Wa)
    (o2 : w2.ownsRow 0 174 2 (.slice (some ⟨D, 0, none⟩) (S.length + 1) cp) (S.length + 1) (xs ++ [.bool false, .slice none 0 0])) (g2 : Grown Wa w2 sl (.slice (some ⟨D, 0, none⟩) (S.length + 1) cp)) :
    PageS (w2.setCell ⟨B, 3, none⟩ (.slice (some ⟨D, 0, none⟩) (S.length + 1) cp)) B (some D) kd id (S ++ [none]) ∧ (C = some D ∨ W.heap.size ≤ D) ∧
      Kx (fun k => pgZ B C k ∨ W.heap.size ≤ k) W (w2.setCell ⟨B, 3, none⟩ (.slice (some ⟨D, 0, none⟩) (S.length + 1) cp)) := by
  have hB : B < W.heap.size := World.block_lt_of_cell? _ _ h1.1
  have hD : C = some D ∨ W.heap.size ≤ D := by
    rcases g2.2 D rfl with h | h
    · exact Or.inl (by rw [← h2]; exact h)
    · exact Or.inr (Nat.le_trans g1.size h)
  have hDB : D ≠ B := fun e => by
    subst e
    rcases hD with h | h
    · exact h3 h
    · omega
  have k1 : Kx (fun k => C = some k) W w2 := (Kx.of_gr g1).trans ((kx_grown g2).mono (fun k h => by rw [← h2]; exact h))
  have p2 := pageAt_kx h1 k1 h3
  have k2 : Kx (fun k => pgZ B C k ∨ W.heap.size ≤ k) W (w2.setCell ⟨B, 3, none⟩ (.slice (some ⟨D, 0, none⟩) (S.length + 1) cp)) :=
    (k1.mono (T := fun k => pgZ B C k ∨ W.heap.size ≤ k) (fun k h => Or.inl (Or.inr h))).setCell (p := ⟨B, 3, none⟩) (Or.inl (Or.inl rfl)) _
  obtain ⟨q0, q1, q2, q3, f3⟩ := p2
  have f0 : (w2.setCell ⟨B, 3, none⟩ (.slice (some ⟨D, 0, none⟩) (S.length + 1) cp)).ownsRow 0 174 2 (.slice (some ⟨D, 0, none⟩) (S.length + 1) cp) (S.length + 1) (xs ++ [.bool false, .slice none 0 0]) :=
    rowOwn_kxS (S := fun k => k = B) o2 ((Kx.refl (S := fun k => k = B) w2).setCell (p := ⟨B, 3, none⟩) rfl _) (fun k hk => by simp [Value.ownBlock] at hk; omega)
  refine ⟨⟨.slice (some ⟨D, 0, none⟩) (S.length + 1) cp, _, ⟨by go_simp, by go_simp, by go_simp, by go_simp, by go_simp⟩, rfl, fun e => hDB (Option.some.inj e), by simp; omega, by simpa using f0, fun j hj => ?_⟩, hD, k2⟩
  have hZ : ∀ k, pgZ B (some D) k → pgZ B C k ∨ W.heap.size ≤ k := fun k hk => by
    rcases hk with h | h
    · exact Or.inl (Or.inl h)
    · obtain rfl := Option.some.inj h
      rcases hD with h | h
      · exact Or.inl (Or.inr h)
      · exact Or.inr h
  rw [List.length_append, List.length_singleton] at hj
  by_cases e : j < S.length
  · obtain ⟨y, u, e1, e2, e3⟩ := h6 j e
    refine ⟨y, u, ?_, ?_, ?_⟩
    · rw [List.getElem?_append_left (by omega)]; exact e1
    · rw [List.getElem?_append_left (by omega)]; exact e2
    · rw [List.getElem_append_left e]
      exact slotC_turn e3 k2 (fun k h => h) hZ
  · obtain rfl : j = S.length := by omega
    refine ⟨.bool false, .slice none 0 0, ?_, ?_, ?_⟩
    · rw [List.getElem?_append_right (by omega), hx, Nat.sub_self]; rfl
    · rw [List.getElem?_append_right (by omega), hx, show S.length * 2 + 1 - S.length * 2 = 1 by omega]; rfl
    · simp only [List.getElem_append_right (Nat.le_refl _), Nat.sub_self]
      exact ⟨rfl, rfl⟩
theorem pgZ_lt {B D b : Nat} (h1 : B < b) (h2 : D < b) : ∀ k, pgZ B (some D) k → k < b := fun k hk => by
  rcases hk with h | h
  · omega
  · have := Option.some.inj h; omega
/-- What fill leaves. -/
def putS (S : List Sl) (n : Nat) (o : Sl) : List Sl := if n = S.length then S ++ [o] else S.set n o
def PutTo (W : World) (B : Nat) (C : Option Nat) (kd id : Int) (S : List Sl) (w' : World) : Prop :=
  ∃ D, PageS w' B (some D) kd id S ∧ (C = some D ∨ W.heap.size ≤ D) ∧ Kx (fun k => pgZ B C k ∨ W.heap.size ≤ k) W w'
/-- What Insert leaves. -/
def insS (S : List Sl) (L : List UInt8) : List Sl := putS S (lfS S) (some L)
end
end Go.Proofs.YtbjckoelgpbaaaaGreatDoor
