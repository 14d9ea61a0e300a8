/-
  DERIVED. GIVEN WITH THE SEED: THE CARDS: each row of YtbjckoelgpbaaaaGreatDoorRows.lean that lists a variable, with what it lists TIED to the program's text (the seventh form; the later family's looks); each row that meets fmt, with fmt's text TOLD by the authors' own Lean function (tested against real Go, not proved from fmt's source: count such statements apart). THE CARD IS WHAT COUNTS. Prove the row's statement (the work); the ties are given (YtbjckoelgpbaaaaGreatDoorTie.lean); close each card by the builder's one call (the guide's Derived/Test/ToyasCard.lean, 'card_holds'). Laid BY PROGRAM, IN A SANDBOX (cutbox-door.mjs). By AI agents, Wed Nov 11 2026. No macro, syntax, notation, axiom, sorry.
-/
import Derived.Test.YtbjckoelgpbaaaaGreatDoorRows
import GoSem.ClaimSeven
namespace Go.Proofs.YtbjckoelgpbaaaaGreatDoor
namespace Rows

/-- THE TIED CARD OF 'pergolalaw12.PoolNothing'. -/
def poolNothingCard : Claim7 := { stood := { row := poolNothingRow, standIns := [], harness := (true, "5d398703be5e713acadcf98fad1630534cb99f609bb4e85538357a8b5241a26a"), looks := true }, kinds := [], alts := [], laidByText := true, laidKinds := [.handle, .data], laidTests := true, laidLooks := .later }
def PoolNothingCardSaid : Prop := Claim7.holds Tryz.pinned (.plain (OpenSpec.ofChange poolNothingSpec)) poolNothingCard

/-- THE TIED CARD OF 'pergolalaw23.ModelNothing'. -/
def modelNothingCard : Claim7 := { stood := { row := modelNothingRow, standIns := [], harness := (true, "5d398703be5e713acadcf98fad1630534cb99f609bb4e85538357a8b5241a26a"), looks := true }, kinds := [], alts := [], laidByText := true, laidKinds := [.handle], laidTests := true, laidLooks := .later }
def ModelNothingCardSaid : Prop := Claim7.holds Tryz.pinned (.plain (OpenSpec.ofChange modelNothingSpec)) modelNothingCard

/-- THE TIED CARD OF 'pergolalaw24.StageLimits'. -/
def stageLimitsCard : Claim7 := { stood := { row := stageLimitsRow, standIns := [], harness := (true, "5d398703be5e713acadcf98fad1630534cb99f609bb4e85538357a8b5241a26a"), looks := true }, kinds := [], alts := [], laidByText := true, laidKinds := [.handle], laidTests := true, laidLooks := .later }
def StageLimitsCardSaid : Prop := Claim7.holds Tryz.pinned (.plain (OpenSpec.ofChange stageLimitsSpec)) stageLimitsCard

/-- THE SECOND FORM's CARD OF 'pergolalaw12.PoolNothing'. -/
def poolNothingUptoCard : Claim7 := { stood := { row := poolNothingUptoRow, standIns := [], harness := (true, "5d398703be5e713acadcf98fad1630534cb99f609bb4e85538357a8b5241a26a"), looks := true }, kinds := [], alts := [], laidByText := true, laidKinds := [.handle, .data], laidTests := true, laidLooks := .later }
def PoolNothingUptoCardSaid : Prop := Claim7.holds Tryz.pinned (.plain (OpenSpec.upto poolNothingSpec)) poolNothingUptoCard

/-- THE SECOND FORM's CARD OF 'pergolalaw23.ModelNothing'. -/
def modelNothingUptoCard : Claim7 := { stood := { row := modelNothingUptoRow, standIns := [], harness := (true, "5d398703be5e713acadcf98fad1630534cb99f609bb4e85538357a8b5241a26a"), looks := true }, kinds := [], alts := [], laidByText := true, laidKinds := [.handle], laidTests := true, laidLooks := .later }
def ModelNothingUptoCardSaid : Prop := Claim7.holds Tryz.pinned (.plain (OpenSpec.upto modelNothingSpec)) modelNothingUptoCard

/-- THE SECOND FORM's CARD OF 'pergolalaw24.StageLimits'. -/
def stageLimitsUptoCard : Claim7 := { stood := { row := stageLimitsUptoRow, standIns := [], harness := (true, "5d398703be5e713acadcf98fad1630534cb99f609bb4e85538357a8b5241a26a"), looks := true }, kinds := [], alts := [], laidByText := true, laidKinds := [.handle], laidTests := true, laidLooks := .later }
def StageLimitsUptoCardSaid : Prop := Claim7.holds Tryz.pinned (.plain (OpenSpec.upto stageLimitsSpec)) stageLimitsUptoCard
end Rows
end Go.Proofs.YtbjckoelgpbaaaaGreatDoor
