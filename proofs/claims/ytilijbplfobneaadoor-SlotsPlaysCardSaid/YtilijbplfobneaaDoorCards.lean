/-
  DERIVED. GIVEN WITH THE SEED: THE CARDS: each row of YtilijbplfobneaaDoorRows.lean that lists a variable, with what it lists TIED to the program's text (the seventh form; the later family's looks); each row that meets fmt, with fmt's text TOLD by the authors' own Lean function (tested against real Go, not proved from fmt's source: count such statements apart). THE CARD IS WHAT COUNTS. Prove the row's statement (the work); the ties are given (YtilijbplfobneaaDoorTie.lean); close each card by the builder's one call (the guide's Derived/Test/ToyasCard.lean, 'card_holds'). Laid BY PROGRAM, IN A SANDBOX (cutbox-door.mjs). By AI agents, Wed Nov 11 2026. No macro, syntax, notation, axiom, sorry.
-/
import Derived.Test.YtilijbplfobneaaDoorRows
import GoSem.ClaimSeven
namespace Go.Proofs.YtilijbplfobneaaDoor
namespace Rows

/-- THE TIED CARD OF 'pergolalaw11.SlotsPlays'. -/
def slotsPlaysCard : Claim7 := { stood := { row := slotsPlaysRow, standIns := [], harness := (true, "81e78996ab3bab531eafea30c1ab68d3552df5072a263b3a8178f9efcf0d6944"), looks := true }, kinds := [], alts := [], laidByText := true, laidKinds := [.handle, .data], laidTests := true, laidLooks := .later }
def SlotsPlaysCardSaid : Prop := Claim7.holds Tryd.pinned (.plain (OpenSpec.ofChange slotsPlaysSpec)) slotsPlaysCard

/-- THE TIED CARD OF 'pergolalaw11.SlotsFlips'. -/
def slotsFlipsCard : Claim7 := { stood := { row := slotsFlipsRow, standIns := [], harness := (true, "81e78996ab3bab531eafea30c1ab68d3552df5072a263b3a8178f9efcf0d6944"), looks := true }, kinds := [], alts := [], laidByText := true, laidKinds := [.handle, .data], laidTests := true, laidLooks := .later }
def SlotsFlipsCardSaid : Prop := Claim7.holds Tryd.pinned (.plain (OpenSpec.ofChange slotsFlipsSpec)) slotsFlipsCard

/-- THE TIED CARD OF 'pergolalaw10.DiskPlays'. -/
def diskPlaysCard : Claim7 := { stood := { row := diskPlaysRow, standIns := [], harness := (true, "81e78996ab3bab531eafea30c1ab68d3552df5072a263b3a8178f9efcf0d6944"), looks := true }, kinds := [], alts := [], laidByText := true, laidKinds := [.handle], laidTests := true, laidLooks := .later }
def DiskPlaysCardSaid : Prop := Claim7.holds Tryd.pinned (.plain (OpenSpec.ofChange diskPlaysSpec)) diskPlaysCard

/-- THE SECOND FORM's CARD OF 'pergolalaw11.SlotsPlays'. -/
def slotsPlaysUptoCard : Claim7 := { stood := { row := slotsPlaysUptoRow, standIns := [], harness := (true, "81e78996ab3bab531eafea30c1ab68d3552df5072a263b3a8178f9efcf0d6944"), looks := true }, kinds := [], alts := [], laidByText := true, laidKinds := [.handle, .data], laidTests := true, laidLooks := .later }
def SlotsPlaysUptoCardSaid : Prop := Claim7.holds Tryd.pinned (.plain (OpenSpec.upto slotsPlaysSpec)) slotsPlaysUptoCard

/-- THE SECOND FORM's CARD OF 'pergolalaw11.SlotsFlips'. -/
def slotsFlipsUptoCard : Claim7 := { stood := { row := slotsFlipsUptoRow, standIns := [], harness := (true, "81e78996ab3bab531eafea30c1ab68d3552df5072a263b3a8178f9efcf0d6944"), looks := true }, kinds := [], alts := [], laidByText := true, laidKinds := [.handle, .data], laidTests := true, laidLooks := .later }
def SlotsFlipsUptoCardSaid : Prop := Claim7.holds Tryd.pinned (.plain (OpenSpec.upto slotsFlipsSpec)) slotsFlipsUptoCard

/-- THE SECOND FORM's CARD OF 'pergolalaw10.DiskPlays'. -/
def diskPlaysUptoCard : Claim7 := { stood := { row := diskPlaysUptoRow, standIns := [], harness := (true, "81e78996ab3bab531eafea30c1ab68d3552df5072a263b3a8178f9efcf0d6944"), looks := true }, kinds := [], alts := [], laidByText := true, laidKinds := [.handle], laidTests := true, laidLooks := .later }
def DiskPlaysUptoCardSaid : Prop := Claim7.holds Tryd.pinned (.plain (OpenSpec.upto diskPlaysSpec)) diskPlaysUptoCard
end Rows
end Go.Proofs.YtilijbplfobneaaDoor
