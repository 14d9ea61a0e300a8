/- segm.MeetsBox -/
import Derived.Test.YtenngnlphecdeaaGreatDoorZl
import Derived.BigRegion
namespace Go.Proofs.YtenngnlphecdeaaGreatDoor
set_option linter.unusedVariables false
open Go.ChangeShapes Go.WideShapes Go.ChangeAt Go.RowKit

/-- What stands behind the test by boxes. -/
def MbCut (W : World) (ax ay bx by' lx ly hx hy : Int) (nm : Bool) (v : Value) (wx : World) : Prop := v = .bool nm ∧ wx.cell? ⟨W.heap.size, 0, none⟩ = some (.int .i64 ax) ∧ wx.cell? ⟨W.heap.size, 1, none⟩ = some (.int .i64 ay) ∧ wx.cell? ⟨W.heap.size + 1, 0, none⟩ = some (.int .i64 bx) ∧ wx.cell? ⟨W.heap.size + 1, 1, none⟩ = some (.int .i64 by') ∧ wx.cell? ⟨W.heap.size + 1 + 1, 0, none⟩ = some (.int .i64 lx) ∧ wx.cell? ⟨W.heap.size + 1 + 1, 1, none⟩ = some (.int .i64 ly) ∧ wx.cell? ⟨W.heap.size + 1 + 1, 2, none⟩ = some (.int .i64 hx) ∧ wx.cell? ⟨W.heap.size + 1 + 1, 3, none⟩ = some (.int .i64 hy) ∧ Gr W wx
/-- What stands behind the making of both corners. -/
def MbTwo (W : World) (ax ay bx by' lx ly hx hy : Int) (p q : Value) (wx : World) : Prop := ∃ b7 b8 : Nat, p = .pointer (some ⟨b7, 0, none⟩) ∧ q = .pointer (some ⟨b8, 0, none⟩) ∧ wx.cell? ⟨b7, 0, none⟩ = some (.int .i64 lx) ∧ wx.cell? ⟨b7, 1, none⟩ = some (.int .i64 hy) ∧ wx.cell? ⟨b8, 0, none⟩ = some (.int .i64 hx) ∧ wx.cell? ⟨b8, 1, none⟩ = some (.int .i64 ly) ∧ wx.cell? ⟨W.heap.size, 0, none⟩ = some (.int .i64 ax) ∧ wx.cell? ⟨W.heap.size, 1, none⟩ = some (.int .i64 ay) ∧ wx.cell? ⟨W.heap.size + 1, 0, none⟩ = some (.int .i64 bx) ∧ wx.cell? ⟨W.heap.size + 1, 1, none⟩ = some (.int .i64 by') ∧ wx.cell? ⟨W.heap.size + 1 + 1, 0, none⟩ = some (.int .i64 lx) ∧ wx.cell? ⟨W.heap.size + 1 + 1, 1, none⟩ = some (.int .i64 ly) ∧ wx.cell? ⟨W.heap.size + 1 + 1, 2, none⟩ = some (.int .i64 hx) ∧ wx.cell? ⟨W.heap.size + 1 + 1, 3, none⟩ = some (.int .i64 hy) ∧ Gr W wx
end Go.Proofs.YtenngnlphecdeaaGreatDoor
