/-
  DERIVED. GIVEN WITH THE SEED: THE CARDS: each row of YtmcbanplpgooeaaDoorRows.lean that lists a variable, with what it lists TIED to the program's text (the seventh form; the later family's looks); each row that meets fmt, with fmt's text TOLD by the authors' own Lean function (tested against real Go, not proved from fmt's source: count such statements apart). THE CARD IS WHAT COUNTS. Prove the row's statement (the work); the ties are given (YtmcbanplpgooeaaDoorTie.lean); close each card by the builder's one call (the guide's Derived/Test/ToyasCard.lean, 'card_holds'). Laid BY PROGRAM, IN A SANDBOX (cutbox-door.mjs). By AI agents, Wed Nov 11 2026. No macro, syntax, notation, axiom, sorry.
-/
import Derived.Test.YtmcbanplpgooeaaDoorRows
import GoSem.ClaimSeven
namespace Go.Proofs.YtmcbanplpgooeaaDoor
namespace Rows

/-- THE TIED CARD OF 'pergolalaw5.RingAsks'. -/
def ringAsksCard : Claim7 := { stood := { row := ringAsksRow, standIns := [], harness := (true, "7b7a31684acc4a33abf675e5ed88ee2c1f51cf9149e1b6a0ea3f36cbcdf41d8a"), looks := true }, kinds := [], alts := [], laidByText := true, laidKinds := [.handle], laidTests := true, laidLooks := .later }
def RingAsksCardSaid : Prop := Claim7.holds Tryd.pinned (.plain (OpenSpec.ofChange ringAsksSpec)) ringAsksCard

/-- THE TIED CARD OF 'pergolalaw5.RingTurns'. -/
def ringTurnsCard : Claim7 := { stood := { row := ringTurnsRow, standIns := [], harness := (true, "7b7a31684acc4a33abf675e5ed88ee2c1f51cf9149e1b6a0ea3f36cbcdf41d8a"), looks := true }, kinds := [], alts := [], laidByText := true, laidKinds := [.handle], laidTests := true, laidLooks := .later }
def RingTurnsCardSaid : Prop := Claim7.holds Tryd.pinned (.plain (OpenSpec.ofChange ringTurnsSpec)) ringTurnsCard

/-- THE TIED CARD OF 'pergolalaw5.RingBoxes'. -/
def ringBoxesCard : Claim7 := { stood := { row := ringBoxesRow, standIns := [], harness := (true, "7b7a31684acc4a33abf675e5ed88ee2c1f51cf9149e1b6a0ea3f36cbcdf41d8a"), looks := true }, kinds := [], alts := [], laidByText := true, laidKinds := [.handle], laidTests := true, laidLooks := .later }
def RingBoxesCardSaid : Prop := Claim7.holds Tryd.pinned (.plain (OpenSpec.ofChange ringBoxesSpec)) ringBoxesCard

/-- THE TIED CARD OF 'pergolalaw5.RingCuts'. -/
def ringCutsCard : Claim7 := { stood := { row := ringCutsRow, standIns := [], harness := (true, "7b7a31684acc4a33abf675e5ed88ee2c1f51cf9149e1b6a0ea3f36cbcdf41d8a"), looks := true }, kinds := [], alts := [], laidByText := true, laidKinds := [.handle], laidTests := true, laidLooks := .later }
def RingCutsCardSaid : Prop := Claim7.holds Tryd.pinned (.plain (OpenSpec.ofChange ringCutsSpec)) ringCutsCard

/-- THE TIED CARD OF 'pergolalaw5.RingLimits'. -/
def ringLimitsCard : Claim7 := { stood := { row := ringLimitsRow, standIns := [], harness := (true, "7b7a31684acc4a33abf675e5ed88ee2c1f51cf9149e1b6a0ea3f36cbcdf41d8a"), looks := true }, kinds := [], alts := [], laidByText := true, laidKinds := [.handle], laidTests := true, laidLooks := .later }
def RingLimitsCardSaid : Prop := Claim7.holds Tryd.pinned (.plain (OpenSpec.ofChange ringLimitsSpec)) ringLimitsCard

/-- THE TIED CARD OF 'pergolalaw5.RingEdges'. -/
def ringEdgesCard : Claim7 := { stood := { row := ringEdgesRow, standIns := [], harness := (true, "7b7a31684acc4a33abf675e5ed88ee2c1f51cf9149e1b6a0ea3f36cbcdf41d8a"), looks := true }, kinds := [], alts := [], laidByText := true, laidKinds := [.handle], laidTests := true, laidLooks := .later }
def RingEdgesCardSaid : Prop := Claim7.holds Tryd.pinned (.plain (OpenSpec.ofChange ringEdgesSpec)) ringEdgesCard

/-- THE TIED CARD OF 'pergolalaw5.RingMoves'. -/
def ringMovesCard : Claim7 := { stood := { row := ringMovesRow, standIns := [], harness := (true, "7b7a31684acc4a33abf675e5ed88ee2c1f51cf9149e1b6a0ea3f36cbcdf41d8a"), looks := true }, kinds := [], alts := [], laidByText := true, laidKinds := [.handle], laidTests := true, laidLooks := .later }
def RingMovesCardSaid : Prop := Claim7.holds Tryd.pinned (.plain (OpenSpec.ofChange ringMovesSpec)) ringMovesCard

/-- THE TIED CARD OF 'pergolalaw7.FaultWraps'. -/
def faultWrapsCard : Claim7 := { stood := { row := faultWrapsRow, standIns := [], harness := (true, "7b7a31684acc4a33abf675e5ed88ee2c1f51cf9149e1b6a0ea3f36cbcdf41d8a"), looks := true }, kinds := [], alts := [], laidByText := true, laidKinds := [.handle], laidTests := true, laidLooks := .later }
def FaultWrapsCardSaid : Prop := Claim7.holds Tryd.pinned (.plain (OpenSpec.ofChange faultWrapsSpec)) faultWrapsCard

/-- THE TIED CARD OF 'pergolalaw7.FaultJoins'. -/
def faultJoinsCard : Claim7 := { stood := { row := faultJoinsRow, standIns := [], harness := (true, "7b7a31684acc4a33abf675e5ed88ee2c1f51cf9149e1b6a0ea3f36cbcdf41d8a"), looks := true }, kinds := [], alts := [], laidByText := true, laidKinds := [.handle], laidTests := true, laidLooks := .later }
def FaultJoinsCardSaid : Prop := Claim7.holds Tryd.pinned (.plain (OpenSpec.ofChange faultJoinsSpec)) faultJoinsCard

/-- THE TIED CARD OF 'pergolalaw8.EncObjects'. -/
def encObjectsCard : Claim7 := { stood := { row := encObjectsRow, standIns := [], harness := (true, "7b7a31684acc4a33abf675e5ed88ee2c1f51cf9149e1b6a0ea3f36cbcdf41d8a"), looks := true }, kinds := [], alts := [], laidByText := true, laidKinds := [.handle], laidTests := true, laidLooks := .later }
def EncObjectsCardSaid : Prop := Claim7.holds Tryd.pinned (.plain (OpenSpec.ofChange encObjectsSpec)) encObjectsCard

/-- THE TIED CARD OF 'pergolalaw8.EncChanges'. -/
def encChangesCard : Claim7 := { stood := { row := encChangesRow, standIns := [], harness := (true, "7b7a31684acc4a33abf675e5ed88ee2c1f51cf9149e1b6a0ea3f36cbcdf41d8a"), looks := true }, kinds := [], alts := [], laidByText := true, laidKinds := [.handle], laidTests := true, laidLooks := .later }
def EncChangesCardSaid : Prop := Claim7.holds Tryd.pinned (.plain (OpenSpec.ofChange encChangesSpec)) encChangesCard

/-- THE TIED CARD OF 'pergolalaw9.FrameAsks'. -/
def frameAsksCard : Claim7 := { stood := { row := frameAsksRow, standIns := [], harness := (true, "7b7a31684acc4a33abf675e5ed88ee2c1f51cf9149e1b6a0ea3f36cbcdf41d8a"), looks := true }, kinds := [], alts := [], laidByText := true, laidKinds := [.handle, .data], laidTests := true, laidLooks := .later }
def FrameAsksCardSaid : Prop := Claim7.holds Tryd.pinned (.plain (OpenSpec.ofChange frameAsksSpec)) frameAsksCard

/-- THE TIED CARD OF 'pergolalaw9.FrameTorn'. -/
def frameTornCard : Claim7 := { stood := { row := frameTornRow, standIns := [], harness := (true, "7b7a31684acc4a33abf675e5ed88ee2c1f51cf9149e1b6a0ea3f36cbcdf41d8a"), looks := true }, kinds := [], alts := [], laidByText := true, laidKinds := [.handle, .data], laidTests := true, laidLooks := .later }
def FrameTornCardSaid : Prop := Claim7.holds Tryd.pinned (.plain (OpenSpec.ofChange frameTornSpec)) frameTornCard

/-- THE TIED CARD OF 'pergolalaw9.FrameFlips'. -/
def frameFlipsCard : Claim7 := { stood := { row := frameFlipsRow, standIns := [], harness := (true, "7b7a31684acc4a33abf675e5ed88ee2c1f51cf9149e1b6a0ea3f36cbcdf41d8a"), looks := true }, kinds := [], alts := [], laidByText := true, laidKinds := [.handle, .data], laidTests := true, laidLooks := .later }
def FrameFlipsCardSaid : Prop := Claim7.holds Tryd.pinned (.plain (OpenSpec.ofChange frameFlipsSpec)) frameFlipsCard

/-- THE TIED CARD OF 'pergolalaw9.FrameRest'. -/
def frameRestCard : Claim7 := { stood := { row := frameRestRow, standIns := [], harness := (true, "7b7a31684acc4a33abf675e5ed88ee2c1f51cf9149e1b6a0ea3f36cbcdf41d8a"), looks := true }, kinds := [], alts := [], laidByText := true, laidKinds := [.handle, .data], laidTests := true, laidLooks := .later }
def FrameRestCardSaid : Prop := Claim7.holds Tryd.pinned (.plain (OpenSpec.ofChange frameRestSpec)) frameRestCard

/-- THE TIED CARD OF 'pergolalaw10.DiskPlays'. -/
def diskPlaysCard : Claim7 := { stood := { row := diskPlaysRow, standIns := [], harness := (true, "7b7a31684acc4a33abf675e5ed88ee2c1f51cf9149e1b6a0ea3f36cbcdf41d8a"), looks := true }, kinds := [], alts := [], laidByText := true, laidKinds := [.handle], laidTests := true, laidLooks := .later }
def DiskPlaysCardSaid : Prop := Claim7.holds Tryd.pinned (.plain (OpenSpec.ofChange diskPlaysSpec)) diskPlaysCard

/-- THE TIED CARD OF 'pergolalaw10.DiskCuts'. -/
def diskCutsCard : Claim7 := { stood := { row := diskCutsRow, standIns := [], harness := (true, "7b7a31684acc4a33abf675e5ed88ee2c1f51cf9149e1b6a0ea3f36cbcdf41d8a"), looks := true }, kinds := [], alts := [], laidByText := true, laidKinds := [.handle], laidTests := true, laidLooks := .later }
def DiskCutsCardSaid : Prop := Claim7.holds Tryd.pinned (.plain (OpenSpec.ofChange diskCutsSpec)) diskCutsCard

/-- THE SECOND FORM's CARD OF 'pergolalaw5.RingAsks'. -/
def ringAsksUptoCard : Claim7 := { stood := { row := ringAsksUptoRow, standIns := [], harness := (true, "7b7a31684acc4a33abf675e5ed88ee2c1f51cf9149e1b6a0ea3f36cbcdf41d8a"), looks := true }, kinds := [], alts := [], laidByText := true, laidKinds := [.handle], laidTests := true, laidLooks := .later }
def RingAsksUptoCardSaid : Prop := Claim7.holds Tryd.pinned (.plain (OpenSpec.upto ringAsksSpec)) ringAsksUptoCard

/-- THE SECOND FORM's CARD OF 'pergolalaw5.RingTurns'. -/
def ringTurnsUptoCard : Claim7 := { stood := { row := ringTurnsUptoRow, standIns := [], harness := (true, "7b7a31684acc4a33abf675e5ed88ee2c1f51cf9149e1b6a0ea3f36cbcdf41d8a"), looks := true }, kinds := [], alts := [], laidByText := true, laidKinds := [.handle], laidTests := true, laidLooks := .later }
def RingTurnsUptoCardSaid : Prop := Claim7.holds Tryd.pinned (.plain (OpenSpec.upto ringTurnsSpec)) ringTurnsUptoCard

/-- THE SECOND FORM's CARD OF 'pergolalaw5.RingBoxes'. -/
def ringBoxesUptoCard : Claim7 := { stood := { row := ringBoxesUptoRow, standIns := [], harness := (true, "7b7a31684acc4a33abf675e5ed88ee2c1f51cf9149e1b6a0ea3f36cbcdf41d8a"), looks := true }, kinds := [], alts := [], laidByText := true, laidKinds := [.handle], laidTests := true, laidLooks := .later }
def RingBoxesUptoCardSaid : Prop := Claim7.holds Tryd.pinned (.plain (OpenSpec.upto ringBoxesSpec)) ringBoxesUptoCard

/-- THE SECOND FORM's CARD OF 'pergolalaw5.RingCuts'. -/
def ringCutsUptoCard : Claim7 := { stood := { row := ringCutsUptoRow, standIns := [], harness := (true, "7b7a31684acc4a33abf675e5ed88ee2c1f51cf9149e1b6a0ea3f36cbcdf41d8a"), looks := true }, kinds := [], alts := [], laidByText := true, laidKinds := [.handle], laidTests := true, laidLooks := .later }
def RingCutsUptoCardSaid : Prop := Claim7.holds Tryd.pinned (.plain (OpenSpec.upto ringCutsSpec)) ringCutsUptoCard

/-- THE SECOND FORM's CARD OF 'pergolalaw5.RingLimits'. -/
def ringLimitsUptoCard : Claim7 := { stood := { row := ringLimitsUptoRow, standIns := [], harness := (true, "7b7a31684acc4a33abf675e5ed88ee2c1f51cf9149e1b6a0ea3f36cbcdf41d8a"), looks := true }, kinds := [], alts := [], laidByText := true, laidKinds := [.handle], laidTests := true, laidLooks := .later }
def RingLimitsUptoCardSaid : Prop := Claim7.holds Tryd.pinned (.plain (OpenSpec.upto ringLimitsSpec)) ringLimitsUptoCard

/-- THE SECOND FORM's CARD OF 'pergolalaw5.RingEdges'. -/
def ringEdgesUptoCard : Claim7 := { stood := { row := ringEdgesUptoRow, standIns := [], harness := (true, "7b7a31684acc4a33abf675e5ed88ee2c1f51cf9149e1b6a0ea3f36cbcdf41d8a"), looks := true }, kinds := [], alts := [], laidByText := true, laidKinds := [.handle], laidTests := true, laidLooks := .later }
def RingEdgesUptoCardSaid : Prop := Claim7.holds Tryd.pinned (.plain (OpenSpec.upto ringEdgesSpec)) ringEdgesUptoCard

/-- THE SECOND FORM's CARD OF 'pergolalaw5.RingMoves'. -/
def ringMovesUptoCard : Claim7 := { stood := { row := ringMovesUptoRow, standIns := [], harness := (true, "7b7a31684acc4a33abf675e5ed88ee2c1f51cf9149e1b6a0ea3f36cbcdf41d8a"), looks := true }, kinds := [], alts := [], laidByText := true, laidKinds := [.handle], laidTests := true, laidLooks := .later }
def RingMovesUptoCardSaid : Prop := Claim7.holds Tryd.pinned (.plain (OpenSpec.upto ringMovesSpec)) ringMovesUptoCard

/-- THE SECOND FORM's CARD OF 'pergolalaw7.FaultWraps'. -/
def faultWrapsUptoCard : Claim7 := { stood := { row := faultWrapsUptoRow, standIns := [], harness := (true, "7b7a31684acc4a33abf675e5ed88ee2c1f51cf9149e1b6a0ea3f36cbcdf41d8a"), looks := true }, kinds := [], alts := [], laidByText := true, laidKinds := [.handle], laidTests := true, laidLooks := .later }
def FaultWrapsUptoCardSaid : Prop := Claim7.holds Tryd.pinned (.plain (OpenSpec.upto faultWrapsSpec)) faultWrapsUptoCard

/-- THE SECOND FORM's CARD OF 'pergolalaw7.FaultJoins'. -/
def faultJoinsUptoCard : Claim7 := { stood := { row := faultJoinsUptoRow, standIns := [], harness := (true, "7b7a31684acc4a33abf675e5ed88ee2c1f51cf9149e1b6a0ea3f36cbcdf41d8a"), looks := true }, kinds := [], alts := [], laidByText := true, laidKinds := [.handle], laidTests := true, laidLooks := .later }
def FaultJoinsUptoCardSaid : Prop := Claim7.holds Tryd.pinned (.plain (OpenSpec.upto faultJoinsSpec)) faultJoinsUptoCard

/-- THE SECOND FORM's CARD OF 'pergolalaw8.EncObjects'. -/
def encObjectsUptoCard : Claim7 := { stood := { row := encObjectsUptoRow, standIns := [], harness := (true, "7b7a31684acc4a33abf675e5ed88ee2c1f51cf9149e1b6a0ea3f36cbcdf41d8a"), looks := true }, kinds := [], alts := [], laidByText := true, laidKinds := [.handle], laidTests := true, laidLooks := .later }
def EncObjectsUptoCardSaid : Prop := Claim7.holds Tryd.pinned (.plain (OpenSpec.upto encObjectsSpec)) encObjectsUptoCard

/-- THE SECOND FORM's CARD OF 'pergolalaw8.EncChanges'. -/
def encChangesUptoCard : Claim7 := { stood := { row := encChangesUptoRow, standIns := [], harness := (true, "7b7a31684acc4a33abf675e5ed88ee2c1f51cf9149e1b6a0ea3f36cbcdf41d8a"), looks := true }, kinds := [], alts := [], laidByText := true, laidKinds := [.handle], laidTests := true, laidLooks := .later }
def EncChangesUptoCardSaid : Prop := Claim7.holds Tryd.pinned (.plain (OpenSpec.upto encChangesSpec)) encChangesUptoCard

/-- THE SECOND FORM's CARD OF 'pergolalaw9.FrameAsks'. -/
def frameAsksUptoCard : Claim7 := { stood := { row := frameAsksUptoRow, standIns := [], harness := (true, "7b7a31684acc4a33abf675e5ed88ee2c1f51cf9149e1b6a0ea3f36cbcdf41d8a"), looks := true }, kinds := [], alts := [], laidByText := true, laidKinds := [.handle, .data], laidTests := true, laidLooks := .later }
def FrameAsksUptoCardSaid : Prop := Claim7.holds Tryd.pinned (.plain (OpenSpec.upto frameAsksSpec)) frameAsksUptoCard

/-- THE SECOND FORM's CARD OF 'pergolalaw9.FrameTorn'. -/
def frameTornUptoCard : Claim7 := { stood := { row := frameTornUptoRow, standIns := [], harness := (true, "7b7a31684acc4a33abf675e5ed88ee2c1f51cf9149e1b6a0ea3f36cbcdf41d8a"), looks := true }, kinds := [], alts := [], laidByText := true, laidKinds := [.handle, .data], laidTests := true, laidLooks := .later }
def FrameTornUptoCardSaid : Prop := Claim7.holds Tryd.pinned (.plain (OpenSpec.upto frameTornSpec)) frameTornUptoCard

/-- THE SECOND FORM's CARD OF 'pergolalaw9.FrameFlips'. -/
def frameFlipsUptoCard : Claim7 := { stood := { row := frameFlipsUptoRow, standIns := [], harness := (true, "7b7a31684acc4a33abf675e5ed88ee2c1f51cf9149e1b6a0ea3f36cbcdf41d8a"), looks := true }, kinds := [], alts := [], laidByText := true, laidKinds := [.handle, .data], laidTests := true, laidLooks := .later }
def FrameFlipsUptoCardSaid : Prop := Claim7.holds Tryd.pinned (.plain (OpenSpec.upto frameFlipsSpec)) frameFlipsUptoCard

/-- THE SECOND FORM's CARD OF 'pergolalaw9.FrameRest'. -/
def frameRestUptoCard : Claim7 := { stood := { row := frameRestUptoRow, standIns := [], harness := (true, "7b7a31684acc4a33abf675e5ed88ee2c1f51cf9149e1b6a0ea3f36cbcdf41d8a"), looks := true }, kinds := [], alts := [], laidByText := true, laidKinds := [.handle, .data], laidTests := true, laidLooks := .later }
def FrameRestUptoCardSaid : Prop := Claim7.holds Tryd.pinned (.plain (OpenSpec.upto frameRestSpec)) frameRestUptoCard

/-- THE SECOND FORM's CARD OF 'pergolalaw10.DiskPlays'. -/
def diskPlaysUptoCard : Claim7 := { stood := { row := diskPlaysUptoRow, standIns := [], harness := (true, "7b7a31684acc4a33abf675e5ed88ee2c1f51cf9149e1b6a0ea3f36cbcdf41d8a"), looks := true }, kinds := [], alts := [], laidByText := true, laidKinds := [.handle], laidTests := true, laidLooks := .later }
def DiskPlaysUptoCardSaid : Prop := Claim7.holds Tryd.pinned (.plain (OpenSpec.upto diskPlaysSpec)) diskPlaysUptoCard

/-- THE SECOND FORM's CARD OF 'pergolalaw10.DiskCuts'. -/
def diskCutsUptoCard : Claim7 := { stood := { row := diskCutsUptoRow, standIns := [], harness := (true, "7b7a31684acc4a33abf675e5ed88ee2c1f51cf9149e1b6a0ea3f36cbcdf41d8a"), looks := true }, kinds := [], alts := [], laidByText := true, laidKinds := [.handle], laidTests := true, laidLooks := .later }
def DiskCutsUptoCardSaid : Prop := Claim7.holds Tryd.pinned (.plain (OpenSpec.upto diskCutsSpec)) diskCutsUptoCard
end Rows
end Go.Proofs.YtmcbanplpgooeaaDoor
