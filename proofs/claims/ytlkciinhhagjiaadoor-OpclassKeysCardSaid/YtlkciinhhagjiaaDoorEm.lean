/- enc: what the document fixes -/
import Derived.Test.YtlkciinhhagjiaaDoorEl
namespace Go.Proofs.YtlkciinhhagjiaaDoor
set_option linter.unusedVariables false
open Go.ChangeShapes Go.WideShapes Go.ChangeAt Go.RowKit

theorem c_Bytes_same {L : List UInt8} {u v : Value} (W : World) (hu : Row W u L) (hv : Row W v L) (hl : L.length ≤ 1000000000) : Calls Tryd.prog 21 #[u, v] W fun e w' => e = .returned (.bool true) ∧ Gr W w' := by
  have h := c_Bytes W hu hv hl
  rw [decide_eq_true rfl] at h
  exact h
/-- Bytes that are typed. -/
theorem row_lit (w : World) (L : List UInt8) (n : Nat) (hn : L.length = n) (hm : n ≤ maxLen) : Row (w.alloc (.cells (L.map bv).toArray 5)) (.slice (some ⟨w.heap.size, 0, none⟩) n n) L := by
  subst hn
  have h := World.ownsRow_lit (base := w.heap.size) (e := 5) (size := 1) w (L.map bv).toArray L.length (Nat.le_refl _) hm (by simp)
  exact row_own (base := w.heap.size) (by simpa [Own] using h)
end Go.Proofs.YtlkciinhhagjiaaDoor
