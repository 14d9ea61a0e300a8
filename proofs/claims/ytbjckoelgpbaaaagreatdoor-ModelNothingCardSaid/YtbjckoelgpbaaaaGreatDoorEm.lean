/- enc: what the document fixes -/
import Derived.Test.YtbjckoelgpbaaaaGreatDoorEl
namespace Go.Proofs.YtbjckoelgpbaaaaGreatDoor
set_option linter.unusedVariables false
open Go.ChangeShapes Go.WideShapes Go.ChangeAt Go.RowKit

/-- Bytes that are typed. -/
theorem row_lit (w : World) (L : List UInt8) (n : Nat) (hn : L.length = n) (hm : n ≤ maxLen) : Row (w.alloc (.cells (L.map bv).toArray 5)) (.slice (some ⟨w.heap.size, 0, none⟩) n n) L := by
  subst hn
  have h := World.ownsRow_lit (base := w.heap.size) (e := 5) (size := 1) w (L.map bv).toArray L.length (Nat.le_refl _) hm (by simp)
  exact row_own (base := w.heap.size) (by simpa [Own] using h)
end Go.Proofs.YtbjckoelgpbaaaaGreatDoor
