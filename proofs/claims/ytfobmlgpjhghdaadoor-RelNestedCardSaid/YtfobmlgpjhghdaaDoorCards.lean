/-
  DERIVED. GIVEN WITH THE SEED: THE CARDS: each row of YtfobmlgpjhghdaaDoorRows.lean that lists a variable, with what it lists TIED to the program's text (the seventh form; the later family's looks); each row that meets fmt, with fmt's text TOLD by the authors' own Lean function (tested against real Go, not proved from fmt's source: count such statements apart). THE CARD IS WHAT COUNTS. Prove the row's statement (the work); the ties are given (YtfobmlgpjhghdaaDoorTie.lean); close each card by the builder's one call (the guide's Derived/Test/ToyasCard.lean, 'card_holds'). Laid BY PROGRAM, IN A SANDBOX (cutbox-door.mjs). By AI agents, Wed Nov 11 2026. No macro, syntax, notation, axiom, sorry.
-/
import Derived.Test.YtfobmlgpjhghdaaDoorRows
import GoSem.ClaimSeven
namespace Go.Proofs.YtfobmlgpjhghdaaDoor
namespace Rows

/-- THE TIED CARD OF 'pergolalaw6.RelNested'. -/
def relNestedCard : Claim7 := { stood := { row := relNestedRow, standIns := [], harness := (true, "ca6c51b2f873b27e71aefd2e1673ccc8d03d55d3eb52fdcafbc9d7ca930fd87a"), looks := true }, kinds := [], alts := [], laidByText := true, laidKinds := [.handle], laidTests := true, laidLooks := .later }
def RelNestedCardSaid : Prop := Claim7.holds Tryd.pinned (.plain (OpenSpec.ofChange relNestedSpec)) relNestedCard

/-- THE TIED CARD OF 'pergolalaw6.RelCross'. -/
def relCrossCard : Claim7 := { stood := { row := relCrossRow, standIns := [], harness := (true, "ca6c51b2f873b27e71aefd2e1673ccc8d03d55d3eb52fdcafbc9d7ca930fd87a"), looks := true }, kinds := [], alts := [], laidByText := true, laidKinds := [.handle], laidTests := true, laidLooks := .later }
def RelCrossCardSaid : Prop := Claim7.holds Tryd.pinned (.plain (OpenSpec.ofChange relCrossSpec)) relCrossCard

/-- THE SECOND FORM's CARD OF 'pergolalaw6.RelNested'. -/
def relNestedUptoCard : Claim7 := { stood := { row := relNestedUptoRow, standIns := [], harness := (true, "ca6c51b2f873b27e71aefd2e1673ccc8d03d55d3eb52fdcafbc9d7ca930fd87a"), looks := true }, kinds := [], alts := [], laidByText := true, laidKinds := [.handle], laidTests := true, laidLooks := .later }
def RelNestedUptoCardSaid : Prop := Claim7.holds Tryd.pinned (.plain (OpenSpec.upto relNestedSpec)) relNestedUptoCard

/-- THE SECOND FORM's CARD OF 'pergolalaw6.RelCross'. -/
def relCrossUptoCard : Claim7 := { stood := { row := relCrossUptoRow, standIns := [], harness := (true, "ca6c51b2f873b27e71aefd2e1673ccc8d03d55d3eb52fdcafbc9d7ca930fd87a"), looks := true }, kinds := [], alts := [], laidByText := true, laidKinds := [.handle], laidTests := true, laidLooks := .later }
def RelCrossUptoCardSaid : Prop := Claim7.holds Tryd.pinned (.plain (OpenSpec.upto relCrossSpec)) relCrossUptoCard
end Rows
end Go.Proofs.YtfobmlgpjhghdaaDoor
