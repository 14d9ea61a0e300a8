/- slots: a page with whatever slots: what is refused; Get, Set, Slots, Free, New -/
import Derived.Test.YtbjckoelgpbaaaaGreatDoorSf
namespace Go.Proofs.YtbjckoelgpbaaaaGreatDoor
set_option linter.unusedVariables false
set_option linter.unusedSimpArgs false
open Go.ChangeShapes Go.WideShapes Go.ChangeAt Go.RowKit

theorem news1 {w : World} {B : Nat} {a : Value} (h0 : w.cell? ⟨B, 0, none⟩ = some a) : ∀ j u, [a][j]? = some u → w.cell? ((⟨B, 0, none⟩ : Addr).add j) = some u := by
  intro j u hj
  have e : (⟨B, 0, none⟩ : Addr).add j = ⟨B, j, none⟩ := by unfold Addr.add; split <;> simp_all
  rw [e]
  match j, hj with
  | 0, hj => simp at hj; subst hj; exact h0
  | j + 1, hj => simp at hj
section
variable {B : Nat} {C : Option Nat} {kd id : Int} {S : List Sl}
theorem p_newS (kd id : Int) (h : 0 ≤ kd ∧ kd ≤ 255 ∧ 0 ≤ id ∧ id ≤ 4294967295) (W : World) : Calls Tryz.prog 60 #[.int .i64 kd, .int .i64 id] W fun e w' => ∃ B, e = .returned (.tuple #[.pointer (some ⟨B, 0, none⟩), .nilIface]) ∧ W.heap.size ≤ B ∧ PageS w' B none kd id [] ∧ Gr W w' := by
  obtain ⟨h1, h2, h3, h4⟩ := h
  have t1 : decide (kd < 0) = false := decide_eq_false (by omega)
  have t2 : decide ((255 : Int) < kd) = false := decide_eq_false (by omega)
  have t3 : decide (id < 0) = false := decide_eq_false (by omega)
  have t4 : decide ((4294967295 : Int) < id) = false := decide_eq_false (by omega)
  go_enter Tryz.func60, Tryz.ntmps60
  go_wp2_with fail
  go_ret2
  exact ⟨_, rfl, Nat.le_refl _, ⟨.slice none 0 0, [], ⟨by go_simp, by go_simp, by go_simp, by go_simp, by go_simp⟩, rfl, by simp, by simp, World.ownsRow_nil _ _ _ _, fun j hj => absurd hj (by simp)⟩, by go_grown⟩
/-- The slots that are not free. -/
def idxT (S : List Sl) : Nat → List Nat
  | 0 => []
  | i + 1 => idxT S i ++ (if (S.getD i none).isSome then [i] else [])
theorem idxT_le (S : List Sl) : ∀ i, (idxT S i).length ≤ i
  | 0 => Nat.le_refl _
  | i + 1 => by
    have := idxT_le S i
    simp only [idxT, List.length_append]
    split <;> simp <;> omega
abbrev intL (l : List Nat) : List Value := l.map fun (k : Nat) => Value.int .i64 (k : Int)
end
end Go.Proofs.YtbjckoelgpbaaaaGreatDoor
