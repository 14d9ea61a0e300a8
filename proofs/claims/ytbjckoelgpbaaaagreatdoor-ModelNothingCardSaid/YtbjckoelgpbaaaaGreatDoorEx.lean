/- the document's Unobject -/
import Derived.Test.YtbjckoelgpbaaaaGreatDoorEw
import Derived.WalkSmall
namespace Go.Proofs.YtbjckoelgpbaaaaGreatDoor
set_option linter.unusedVariables false
set_option linter.unusedSimpArgs false
open Go.ChangeShapes Go.WideShapes Go.ChangeAt Go.RowKit

def RUoTo (W : World) (L : List UInt8) (e : Ending) (w' : World) : Prop :=
  (uoBad L = true ∧ e = .returned (.tuple #[.agg #[.int .i64 0, .slice none 0 0], .int .i64 0, .int .i64 10]) ∧ Gr W w') ∨
  (uoBad L = false ∧ ∃ v, e = .returned (.tuple #[.agg #[.int .i64 (uoK L : Nat), v], .int .i64 (uoE L : Nat), .int .i64 0]) ∧ Pts w' v (uoM L) (uoX L) (uoY L) ∧ New W v ∧ Gr W w')
theorem bad_of_s {L : List UInt8} {i : Nat} (h : upS L (uoA L) (uoS2 L) i = true) (hi : i ≤ uoM L) : uoBad L = true := by
  unfold uoBad
  rw [upS_mono h hi, Bool.true_or]
theorem bad_1 {L : List UInt8} (h : uoS1 L = true) : uoBad L = true := bad_of_s (i := 0) (by show nmS L (uoB L) (uoS1 L) 64 = true; unfold nmS; rw [h]; rfl) (Nat.zero_le _)
theorem bad_2 {L : List UInt8} (h : uoS2 L = true) : uoBad L = true := bad_of_s (i := 0) h (Nat.zero_le _)
theorem s1_iff {L : List UInt8} : uoS1 L = true ↔ (uL L).2 = 0 ∨ 4 < (uL L).1 := by
  show (false || decide ((uL L).2 = 0) || decide (4 < (uL L).1)) = true ↔ _
  simp
theorem s2_iff {L : List UInt8} (h : uoS1 L = false) : uoS2 L = true ↔ (rd L (uoB L)).2 = 0 ∨ 64 < (rd L (uoB L)).1 := by
  unfold uoS2 nmS
  rw [h]
  simp
theorem after_grown {a b : World} {u x : Value} (g : Grown a b u x) {C j : Nat} {v : Value} (hc : a.cell? ⟨C, j, none⟩ = some v) (hf : a.frozen? ⟨C, j, none⟩ = false) (hn : ∀ k, u.ownBlock = some k → k ≠ C) : b.cell? ⟨C, j, none⟩ = some v ∧ b.frozen? ⟨C, j, none⟩ = false :=
  ⟨g.cell hc hn, (grown_frozen (p := ⟨C, j, none⟩) g (World.block_lt_of_cell? _ _ hc) hn).trans hf⟩
theorem upS_false {L : List UInt8} {a i : Nat} {s : Bool} : upS L a s (i + 1) = false ↔ upS L a s i = false ∧ (rd L (upA L a i)).2 ≠ 0 ∧ (rd L (upA L a i + (rd L (upA L a i)).2)).2 ≠ 0 := by
  simp only [upS, Bool.or_eq_false_iff, decide_eq_false_iff_not, and_assoc]
end Go.Proofs.YtbjckoelgpbaaaaGreatDoor
