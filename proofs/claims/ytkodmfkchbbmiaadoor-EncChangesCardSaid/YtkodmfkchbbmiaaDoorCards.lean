/-
  DERIVED. GIVEN WITH THE SEED: THE CARDS: each row of YtkodmfkchbbmiaaDoorRows.lean that lists a variable, with what it lists TIED to the program's text (the seventh form; the later family's looks); each row that meets fmt, with fmt's text TOLD by the authors' own Lean function (tested against real Go, not proved from fmt's source: count such statements apart). THE CARD IS WHAT COUNTS. Prove the row's statement (the work); the ties are given (YtkodmfkchbbmiaaDoorTie.lean); close each card by the builder's one call (the guide's Derived/Test/ToyasCard.lean, 'card_holds'). Laid BY PROGRAM, IN A SANDBOX (cutbox-door.mjs). By AI agents, Wed Nov 11 2026. No macro, syntax, notation, axiom, sorry.
-/
import Derived.Test.YtkodmfkchbbmiaaDoorRows
import GoSem.ClaimSeven
namespace Go.Proofs.YtkodmfkchbbmiaaDoor
namespace Rows

/-- THE TIED CARD OF 'pergolalaw5.RingAsks'. -/
def ringAsksCard : Claim7 := { stood := { row := ringAsksRow, standIns := [], harness := (true, "0a8e2ea6d0d27e438b5a83c7d6abe32a0bf5cbe04c2dbc1380308f189df4cf3c"), looks := true }, kinds := [], alts := [], laidByText := true, laidKinds := [.handle], laidTests := true, laidLooks := .later }
def RingAsksCardSaid : Prop := Claim7.holds Tryd.pinned (.plain (OpenSpec.ofChange ringAsksSpec)) ringAsksCard

/-- THE TIED CARD OF 'pergolalaw5.RingTurns'. -/
def ringTurnsCard : Claim7 := { stood := { row := ringTurnsRow, standIns := [], harness := (true, "0a8e2ea6d0d27e438b5a83c7d6abe32a0bf5cbe04c2dbc1380308f189df4cf3c"), looks := true }, kinds := [], alts := [], laidByText := true, laidKinds := [.handle], laidTests := true, laidLooks := .later }
def RingTurnsCardSaid : Prop := Claim7.holds Tryd.pinned (.plain (OpenSpec.ofChange ringTurnsSpec)) ringTurnsCard

/-- THE TIED CARD OF 'pergolalaw5.RingEdges'. -/
def ringEdgesCard : Claim7 := { stood := { row := ringEdgesRow, standIns := [], harness := (true, "0a8e2ea6d0d27e438b5a83c7d6abe32a0bf5cbe04c2dbc1380308f189df4cf3c"), looks := true }, kinds := [], alts := [], laidByText := true, laidKinds := [.handle], laidTests := true, laidLooks := .later }
def RingEdgesCardSaid : Prop := Claim7.holds Tryd.pinned (.plain (OpenSpec.ofChange ringEdgesSpec)) ringEdgesCard

/-- THE TIED CARD OF 'pergolalaw6.RelChecks'. -/
def relChecksCard : Claim7 := { stood := { row := relChecksRow, standIns := [], harness := (true, "0a8e2ea6d0d27e438b5a83c7d6abe32a0bf5cbe04c2dbc1380308f189df4cf3c"), looks := true }, kinds := [], alts := [], laidByText := true, laidKinds := [.handle], laidTests := true, laidLooks := .later }
def RelChecksCardSaid : Prop := Claim7.holds Tryd.pinned (.plain (OpenSpec.ofChange relChecksSpec)) relChecksCard

/-- THE TIED CARD OF 'pergolalaw7.FaultWraps'. -/
def faultWrapsCard : Claim7 := { stood := { row := faultWrapsRow, standIns := [], harness := (true, "0a8e2ea6d0d27e438b5a83c7d6abe32a0bf5cbe04c2dbc1380308f189df4cf3c"), looks := true }, kinds := [], alts := [], laidByText := true, laidKinds := [.handle], laidTests := true, laidLooks := .later }
def FaultWrapsCardSaid : Prop := Claim7.holds Tryd.pinned (.plain (OpenSpec.ofChange faultWrapsSpec)) faultWrapsCard

/-- THE TIED CARD OF 'pergolalaw7.FaultJoins'. -/
def faultJoinsCard : Claim7 := { stood := { row := faultJoinsRow, standIns := [], harness := (true, "0a8e2ea6d0d27e438b5a83c7d6abe32a0bf5cbe04c2dbc1380308f189df4cf3c"), looks := true }, kinds := [], alts := [], laidByText := true, laidKinds := [.handle], laidTests := true, laidLooks := .later }
def FaultJoinsCardSaid : Prop := Claim7.holds Tryd.pinned (.plain (OpenSpec.ofChange faultJoinsSpec)) faultJoinsCard

/-- THE TIED CARD OF 'pergolalaw8.EncObjects'. -/
def encObjectsCard : Claim7 := { stood := { row := encObjectsRow, standIns := [], harness := (true, "0a8e2ea6d0d27e438b5a83c7d6abe32a0bf5cbe04c2dbc1380308f189df4cf3c"), looks := true }, kinds := [], alts := [], laidByText := true, laidKinds := [.handle], laidTests := true, laidLooks := .later }
def EncObjectsCardSaid : Prop := Claim7.holds Tryd.pinned (.plain (OpenSpec.ofChange encObjectsSpec)) encObjectsCard

/-- THE TIED CARD OF 'pergolalaw8.EncChanges'. -/
def encChangesCard : Claim7 := { stood := { row := encChangesRow, standIns := [], harness := (true, "0a8e2ea6d0d27e438b5a83c7d6abe32a0bf5cbe04c2dbc1380308f189df4cf3c"), looks := true }, kinds := [], alts := [], laidByText := true, laidKinds := [.handle], laidTests := true, laidLooks := .later }
def EncChangesCardSaid : Prop := Claim7.holds Tryd.pinned (.plain (OpenSpec.ofChange encChangesSpec)) encChangesCard

/-- THE SECOND FORM's CARD OF 'pergolalaw5.RingAsks'. -/
def ringAsksUptoCard : Claim7 := { stood := { row := ringAsksUptoRow, standIns := [], harness := (true, "0a8e2ea6d0d27e438b5a83c7d6abe32a0bf5cbe04c2dbc1380308f189df4cf3c"), looks := true }, kinds := [], alts := [], laidByText := true, laidKinds := [.handle], laidTests := true, laidLooks := .later }
def RingAsksUptoCardSaid : Prop := Claim7.holds Tryd.pinned (.plain (OpenSpec.upto ringAsksSpec)) ringAsksUptoCard

/-- THE SECOND FORM's CARD OF 'pergolalaw5.RingTurns'. -/
def ringTurnsUptoCard : Claim7 := { stood := { row := ringTurnsUptoRow, standIns := [], harness := (true, "0a8e2ea6d0d27e438b5a83c7d6abe32a0bf5cbe04c2dbc1380308f189df4cf3c"), looks := true }, kinds := [], alts := [], laidByText := true, laidKinds := [.handle], laidTests := true, laidLooks := .later }
def RingTurnsUptoCardSaid : Prop := Claim7.holds Tryd.pinned (.plain (OpenSpec.upto ringTurnsSpec)) ringTurnsUptoCard

/-- THE SECOND FORM's CARD OF 'pergolalaw5.RingEdges'. -/
def ringEdgesUptoCard : Claim7 := { stood := { row := ringEdgesUptoRow, standIns := [], harness := (true, "0a8e2ea6d0d27e438b5a83c7d6abe32a0bf5cbe04c2dbc1380308f189df4cf3c"), looks := true }, kinds := [], alts := [], laidByText := true, laidKinds := [.handle], laidTests := true, laidLooks := .later }
def RingEdgesUptoCardSaid : Prop := Claim7.holds Tryd.pinned (.plain (OpenSpec.upto ringEdgesSpec)) ringEdgesUptoCard

/-- THE SECOND FORM's CARD OF 'pergolalaw6.RelChecks'. -/
def relChecksUptoCard : Claim7 := { stood := { row := relChecksUptoRow, standIns := [], harness := (true, "0a8e2ea6d0d27e438b5a83c7d6abe32a0bf5cbe04c2dbc1380308f189df4cf3c"), looks := true }, kinds := [], alts := [], laidByText := true, laidKinds := [.handle], laidTests := true, laidLooks := .later }
def RelChecksUptoCardSaid : Prop := Claim7.holds Tryd.pinned (.plain (OpenSpec.upto relChecksSpec)) relChecksUptoCard

/-- THE SECOND FORM's CARD OF 'pergolalaw7.FaultWraps'. -/
def faultWrapsUptoCard : Claim7 := { stood := { row := faultWrapsUptoRow, standIns := [], harness := (true, "0a8e2ea6d0d27e438b5a83c7d6abe32a0bf5cbe04c2dbc1380308f189df4cf3c"), looks := true }, kinds := [], alts := [], laidByText := true, laidKinds := [.handle], laidTests := true, laidLooks := .later }
def FaultWrapsUptoCardSaid : Prop := Claim7.holds Tryd.pinned (.plain (OpenSpec.upto faultWrapsSpec)) faultWrapsUptoCard

/-- THE SECOND FORM's CARD OF 'pergolalaw7.FaultJoins'. -/
def faultJoinsUptoCard : Claim7 := { stood := { row := faultJoinsUptoRow, standIns := [], harness := (true, "0a8e2ea6d0d27e438b5a83c7d6abe32a0bf5cbe04c2dbc1380308f189df4cf3c"), looks := true }, kinds := [], alts := [], laidByText := true, laidKinds := [.handle], laidTests := true, laidLooks := .later }
def FaultJoinsUptoCardSaid : Prop := Claim7.holds Tryd.pinned (.plain (OpenSpec.upto faultJoinsSpec)) faultJoinsUptoCard

/-- THE SECOND FORM's CARD OF 'pergolalaw8.EncObjects'. -/
def encObjectsUptoCard : Claim7 := { stood := { row := encObjectsUptoRow, standIns := [], harness := (true, "0a8e2ea6d0d27e438b5a83c7d6abe32a0bf5cbe04c2dbc1380308f189df4cf3c"), looks := true }, kinds := [], alts := [], laidByText := true, laidKinds := [.handle], laidTests := true, laidLooks := .later }
def EncObjectsUptoCardSaid : Prop := Claim7.holds Tryd.pinned (.plain (OpenSpec.upto encObjectsSpec)) encObjectsUptoCard

/-- THE SECOND FORM's CARD OF 'pergolalaw8.EncChanges'. -/
def encChangesUptoCard : Claim7 := { stood := { row := encChangesUptoRow, standIns := [], harness := (true, "0a8e2ea6d0d27e438b5a83c7d6abe32a0bf5cbe04c2dbc1380308f189df4cf3c"), looks := true }, kinds := [], alts := [], laidByText := true, laidKinds := [.handle], laidTests := true, laidLooks := .later }
def EncChangesUptoCardSaid : Prop := Claim7.holds Tryd.pinned (.plain (OpenSpec.upto encChangesSpec)) encChangesUptoCard
end Rows
end Go.Proofs.YtkodmfkchbbmiaaDoor
