/- a drawn region whose head only reads and calls, and whose tail is forced -/
import Derived.Test.YtfamocpbmbhmbaaDoorH
namespace Go.Proofs.YtfamocpbmbhmbaaDoor
set_option linter.unusedVariables false
open Go.ChangeShapes Go.WideShapes Go.ChangeAt Go.RowKit
namespace Hd
variable {P : Program}
theorem wp_region_tail {id : Nat} {Q : Exit → Act → World → Prop} {a : Act} {w : World} {l : List Oper} (n : Nat) (hm : P.follows .mixedOrders = true) (hB : headB l.toArray n l.length none = true)
    (h' : ∀ K : Act → Prop, (∀ a', (∀ w', (∃ m, w' = spread w m) → wpList P l.toArray Q (l.drop n) a' w') → K a') → wpG P l.toArray (fun w' => ∃ m, w' = spread w m) (fun _ => True) l.length K (l.take n) 0 a) : (Code.region id l.toArray true).wp P Q a w :=
  wp_region_head0 n (fun w' => ∃ m, w' = spread w m) hm hB (by rintro _ _ ⟨m, rfl⟩ g; exact spread_gr g) ⟨⟨w.drawn, #[]⟩, by simp [spread]⟩ h'
theorem gr_of_spread {w w' : World} (h : ∃ m, w' = spread w m) : Gr w w' := by
  obtain ⟨m, rfl⟩ := h
  exact gr_spread _ _
end Hd
end Go.Proofs.YtfamocpbmbhmbaaDoor
