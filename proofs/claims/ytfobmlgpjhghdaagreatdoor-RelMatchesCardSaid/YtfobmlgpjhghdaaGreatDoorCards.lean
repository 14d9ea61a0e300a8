/-
  DERIVED. GIVEN WITH THE SEED: THE CARDS: each row of YtfobmlgpjhghdaaGreatDoorRows.lean that lists a variable, with what it lists TIED to the program's text (the seventh form; the later family's looks); each row that meets fmt, with fmt's text TOLD by the authors' own Lean function (tested against real Go, not proved from fmt's source: count such statements apart). THE CARD IS WHAT COUNTS. Prove the row's statement (the work); the ties are given (YtfobmlgpjhghdaaGreatDoorTie.lean); close each card by the builder's one call (the guide's Derived/Test/ToyasCard.lean, 'card_holds'). Laid BY PROGRAM, IN A SANDBOX (cutbox-door.mjs). By AI agents, Wed Nov 11 2026. No macro, syntax, notation, axiom, sorry.
-/
import Derived.Test.YtfobmlgpjhghdaaGreatDoorRows
import GoSem.ClaimSeven
namespace Go.Proofs.YtfobmlgpjhghdaaGreatDoor
namespace Rows

/-- THE TIED CARD OF 'pergolalaw6.RelMatches'. -/
def relMatchesCard : Claim7 := { stood := { row := relMatchesRow, standIns := [], harness := (true, "eb50e404001a64e05c7bef2135a759992f1ff0d156221dd70ab20428881e041b"), looks := true }, kinds := [], alts := [], laidByText := true, laidKinds := [.handle], laidTests := true, laidLooks := .later }
def RelMatchesCardSaid : Prop := Claim7.holds Tryz.pinned (.plain (OpenSpec.ofChange relMatchesSpec)) relMatchesCard

/-- THE TIED CARD OF 'pergolalaw6.RelTouches'. -/
def relTouchesCard : Claim7 := { stood := { row := relTouchesRow, standIns := [], harness := (true, "eb50e404001a64e05c7bef2135a759992f1ff0d156221dd70ab20428881e041b"), looks := true }, kinds := [], alts := [], laidByText := true, laidKinds := [.handle], laidTests := true, laidLooks := .later }
def RelTouchesCardSaid : Prop := Claim7.holds Tryz.pinned (.plain (OpenSpec.ofChange relTouchesSpec)) relTouchesCard

/-- THE TIED CARD OF 'pergolalaw6.RelZero'. -/
def relZeroCard : Claim7 := { stood := { row := relZeroRow, standIns := [], harness := (true, "eb50e404001a64e05c7bef2135a759992f1ff0d156221dd70ab20428881e041b"), looks := true }, kinds := [], alts := [], laidByText := true, laidKinds := [.handle], laidTests := true, laidLooks := .later }
def RelZeroCardSaid : Prop := Claim7.holds Tryz.pinned (.plain (OpenSpec.ofChange relZeroSpec)) relZeroCard

/-- THE TIED CARD OF 'pergolalaw6.RelSame'. -/
def relSameCard : Claim7 := { stood := { row := relSameRow, standIns := [], harness := (true, "eb50e404001a64e05c7bef2135a759992f1ff0d156221dd70ab20428881e041b"), looks := true }, kinds := [], alts := [], laidByText := true, laidKinds := [.handle], laidTests := true, laidLooks := .later }
def RelSameCardSaid : Prop := Claim7.holds Tryz.pinned (.plain (OpenSpec.ofChange relSameSpec)) relSameCard

/-- THE TIED CARD OF 'pergolalaw6.RelMoves'. -/
def relMovesCard : Claim7 := { stood := { row := relMovesRow, standIns := [], harness := (true, "eb50e404001a64e05c7bef2135a759992f1ff0d156221dd70ab20428881e041b"), looks := true }, kinds := [], alts := [], laidByText := true, laidKinds := [.handle], laidTests := true, laidLooks := .later }
def RelMovesCardSaid : Prop := Claim7.holds Tryz.pinned (.plain (OpenSpec.ofChange relMovesSpec)) relMovesCard

/-- THE SECOND FORM's CARD OF 'pergolalaw6.RelMatches'. -/
def relMatchesUptoCard : Claim7 := { stood := { row := relMatchesUptoRow, standIns := [], harness := (true, "eb50e404001a64e05c7bef2135a759992f1ff0d156221dd70ab20428881e041b"), looks := true }, kinds := [], alts := [], laidByText := true, laidKinds := [.handle], laidTests := true, laidLooks := .later }
def RelMatchesUptoCardSaid : Prop := Claim7.holds Tryz.pinned (.plain (OpenSpec.upto relMatchesSpec)) relMatchesUptoCard

/-- THE SECOND FORM's CARD OF 'pergolalaw6.RelTouches'. -/
def relTouchesUptoCard : Claim7 := { stood := { row := relTouchesUptoRow, standIns := [], harness := (true, "eb50e404001a64e05c7bef2135a759992f1ff0d156221dd70ab20428881e041b"), looks := true }, kinds := [], alts := [], laidByText := true, laidKinds := [.handle], laidTests := true, laidLooks := .later }
def RelTouchesUptoCardSaid : Prop := Claim7.holds Tryz.pinned (.plain (OpenSpec.upto relTouchesSpec)) relTouchesUptoCard

/-- THE SECOND FORM's CARD OF 'pergolalaw6.RelZero'. -/
def relZeroUptoCard : Claim7 := { stood := { row := relZeroUptoRow, standIns := [], harness := (true, "eb50e404001a64e05c7bef2135a759992f1ff0d156221dd70ab20428881e041b"), looks := true }, kinds := [], alts := [], laidByText := true, laidKinds := [.handle], laidTests := true, laidLooks := .later }
def RelZeroUptoCardSaid : Prop := Claim7.holds Tryz.pinned (.plain (OpenSpec.upto relZeroSpec)) relZeroUptoCard

/-- THE SECOND FORM's CARD OF 'pergolalaw6.RelSame'. -/
def relSameUptoCard : Claim7 := { stood := { row := relSameUptoRow, standIns := [], harness := (true, "eb50e404001a64e05c7bef2135a759992f1ff0d156221dd70ab20428881e041b"), looks := true }, kinds := [], alts := [], laidByText := true, laidKinds := [.handle], laidTests := true, laidLooks := .later }
def RelSameUptoCardSaid : Prop := Claim7.holds Tryz.pinned (.plain (OpenSpec.upto relSameSpec)) relSameUptoCard

/-- THE SECOND FORM's CARD OF 'pergolalaw6.RelMoves'. -/
def relMovesUptoCard : Claim7 := { stood := { row := relMovesUptoRow, standIns := [], harness := (true, "eb50e404001a64e05c7bef2135a759992f1ff0d156221dd70ab20428881e041b"), looks := true }, kinds := [], alts := [], laidByText := true, laidKinds := [.handle], laidTests := true, laidLooks := .later }
def RelMovesUptoCardSaid : Prop := Claim7.holds Tryz.pinned (.plain (OpenSpec.upto relMovesSpec)) relMovesUptoCard
end Rows
end Go.Proofs.YtfobmlgpjhghdaaGreatDoor
