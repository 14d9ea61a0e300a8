/- the document's rings: over, clash -/
import Derived.Test.YtenngnlphecdeaaGreatDoorGc
import Derived.Test.YtenngnlphecdeaaGreatDoorZo
import Derived.BigRegion
namespace Go.Proofs.YtenngnlphecdeaaGreatDoor
set_option linter.unusedVariables false
open Go.ChangeShapes Go.WideShapes Go.ChangeAt Go.RowKit

def TwoAt (W : World) (x0 y0 x1 y1 : Int) (p q : Value) (wx : World) : Prop := ∃ b1 b2 : Nat, p = .pointer (some ⟨b1, 0, none⟩) ∧ q = .pointer (some ⟨b2, 0, none⟩) ∧ wx.cell? ⟨b1, 0, none⟩ = some (.int .i64 x0) ∧ wx.cell? ⟨b1, 1, none⟩ = some (.int .i64 y0) ∧ wx.cell? ⟨b2, 0, none⟩ = some (.int .i64 x1) ∧ wx.cell? ⟨b2, 1, none⟩ = some (.int .i64 y1) ∧ Gr W wx
theorem nx_rem {n j : Nat} (h : j < n) (hn : n ≤ 1000000) : Int.tmod ((j : Int) + 1) (n : Int) = (Rg.nx1 n j : Nat) ∧ ((j : Int) + 1) % (n : Int) = (Rg.nx1 n j : Nat) := by
  have e : ((j : Int) + 1) % (n : Int) = (Rg.nx1 n j : Nat) := by
    unfold Rg.nx1
    split
    · rename_i h1
      have : (j : Int) + 1 = (n : Int) := by omega
      rw [this]; simp
    · rename_i h1
      rw [Int.emod_eq_of_lt (by omega) (by omega)]; omega
  refine ⟨?_, e⟩
  rw [Int.tmod_eq_emod_of_nonneg (by omega)]
  exact e
def RRingTo (W : World) (n : Nat) (X Y : Nat → Int) (e : Ending) (w' : World) : Prop := e = .returned (.tuple #[.int .i64 ((Rg.ringC n X Y).1 : Nat), .int .i64 ((Rg.ringC n X Y).2 : Nat)]) ∧ Gr W w'
theorem rringTo {W w' : World} {n : Nat} {X Y : Nat → Int} {k id : Nat} (e : Rg.ringC n X Y = (k, id)) (g : Gr W w') : RRingTo W n X Y (.returned (.tuple #[.int .i64 k, .int .i64 id])) w' := by
  refine ⟨?_, g⟩
  rw [e]
end Go.Proofs.YtenngnlphecdeaaGreatDoor
