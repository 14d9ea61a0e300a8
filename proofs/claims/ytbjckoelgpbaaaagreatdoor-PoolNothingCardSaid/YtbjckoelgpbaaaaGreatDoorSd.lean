/- slots: a page with whatever slots: refusal, fill, Insert -/
import Derived.Test.YtbjckoelgpbaaaaGreatDoorSc
namespace Go.Proofs.YtbjckoelgpbaaaaGreatDoor
set_option linter.unusedVariables false
set_option linter.unusedSimpArgs false
open Go.ChangeShapes Go.WideShapes Go.ChangeAt Go.RowKit

section
variable {B : Nat} {C : Option Nat} {kd id : Int} {S : List Sl}
theorem pageS_cell2 {w : World} {D : Nat} (h : PageS w B (some D) kd id S) (n : Nat) (hn : n < S.length) : (∃ b : Bool, w.cell? ⟨D, n * 2, none⟩ = some (.bool b)) ∧ (∃ a z c, w.cell? ⟨D, n * 2 + 1, none⟩ = some (.slice a z c)) ∧ w.frozen? ⟨D, n * 2, none⟩ = false ∧ w.frozen? ⟨D, n * 2 + 1, none⟩ = false ∧ D < w.heap.size := by
  obtain ⟨cap5, -, -, -, sD5, -, hcc⟩ := pageS_cellsD h
  obtain ⟨d0, ⟨dv, d1, dS⟩, y0, y1⟩ := hcc n hn
  obtain ⟨da, dc, rfl⟩ := slotC_val dS
  exact ⟨⟨_, d0⟩, ⟨_, _, _, d1⟩, y0, y1, sD5⟩
/-- Why bytes may not be in a slot. -/
def reS (S : List Sl) (n m : Nat) : Nat :=
  if 400 < m then 13 else if 60 ≤ n then 8 else if 512 + szO (S.getD n none) < usS S + m + (if n = S.length then 4 else 0) then 8 else 0
def reV (k : Nat) : Value := if k = 0 then .nilIface else .iface 71 (.int .i64 k)
theorem usS_le {w : World} (h : PageS w B C kd id S) : usS S ≤ 30000 ∧ 16 ≤ usS S := by
  have hZ := pageS_sz h
  obtain ⟨_, _, _, _, _, h4, _⟩ := h
  have := szT_le hZ S.length
  unfold usS
  omega
end
end Go.Proofs.YtbjckoelgpbaaaaGreatDoor
