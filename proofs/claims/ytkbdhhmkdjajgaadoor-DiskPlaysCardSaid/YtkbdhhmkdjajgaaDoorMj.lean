/- the document's page: what it holds; is, Used, Get, NewPage -/
import Derived.Test.YtkbdhhmkdjajgaaDoorSg
import Derived.Test.YtkbdhhmkdjajgaaDoorBk
import Derived.Test.YtkbdhhmkdjajgaaDoorSl
namespace Go.Proofs.YtkbdhhmkdjajgaaDoor
set_option linter.unusedVariables false
set_option linter.unusedSimpArgs false
open Go.ChangeShapes Go.WideShapes Go.ChangeAt Go.RowKit

theorem rowF {w : World} {b e n size : Nat} {v : Value} {xs : List Value} (h : w.ownsRow b e size v n xs) : ∃ (D : Nat) (ad : Option Addr) (cap : Nat), v = .slice ad n cap ∧ (0 < n → ad = some ⟨D, 0, none⟩) ∧ n ≤ cap ∧ (cap : Int) ≤ 9223372036854775807 ∧ (0 < n → D < w.heap.size) ∧ ∀ j (hj : j < n * size), w.cell? ⟨D, j, none⟩ = xs[j]? ∧ w.frozen? ⟨D, j, none⟩ = false := by
  rcases h.2 with ⟨rfl, rfl⟩ | ⟨g, cap, cur, rfl, hb, hg, hn, hc, hs, ht⟩
  · exact ⟨0, none, 0, rfl, fun h => absurd h (by omega), Nat.le_refl _, by omega, fun h => absurd h (by omega), fun j hj => absurd hj (by omega)⟩
  · exact ⟨g, some ⟨g, 0, none⟩, cap, rfl, fun _ => rfl, hn, by unfold maxLen at hc; omega, fun _ => (World.ownsRow.lt h g rfl).2, fun j hj => ⟨h.cellAt j hj, h.frozenAt j⟩⟩
end Go.Proofs.YtkbdhhmkdjajgaaDoor
