/- the document's page: what is done to it, step by step -/
import Derived.Test.YtkbdhhmkdjajgaaDoorMj
import Derived.Test.YtkbdhhmkdjajgaaDoorSg
import Derived.Test.YtkbdhhmkdjajgaaDoorBk
namespace Go.Proofs.YtkbdhhmkdjajgaaDoor
set_option linter.unusedVariables false
set_option linter.unusedSimpArgs false
open Go.ChangeShapes Go.WideShapes Go.ChangeAt Go.RowKit

theorem own_typed {w : World} {T : TypeId} {base size n : Nat} {v : Value} {xs : List Value} (h : w.ownsRow base T size v n xs) {k : Nat} (hk : v.ownBlock = some k) : ∃ cur, w.heap[k]? = some (.cells cur T (0, 0)) := by
  rcases h.2 with ⟨e, _⟩ | ⟨g, cap, cur, e, hb, hg, _⟩
  · subst e; cases hk
  · subst e
    obtain rfl : g = k := by simpa [Value.ownBlock] using hk
    exact ⟨cur, hg⟩
theorem typed_ne {w : World} {T U : TypeId} {a b : Array Value} {k j : Nat} (h1 : w.heap[k]? = some (.cells a T (0, 0))) (h2 : w.heap[j]? = some (.cells b U (0, 0))) (hTU : T ≠ U) : k ≠ j := fun e => by
  subst e
  rw [h1] at h2
  simp only [Option.some.injEq, Obj.cells.injEq] at h2
  exact hTU h2.2.1
end Go.Proofs.YtkbdhhmkdjajgaaDoor
