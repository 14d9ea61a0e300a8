/-
  DERIVED. GIVEN WITH THE SEED: THE CARDS: each row of YtpomllpplpalkaaGreatDoorRows.lean that lists a variable, with what it lists TIED to the program's text (the seventh form; the later family's looks); each row that meets fmt, with fmt's text TOLD by the authors' own Lean function (tested against real Go, not proved from fmt's source: count such statements apart). THE CARD IS WHAT COUNTS. Prove the row's statement (the work); the ties are given (YtpomllpplpalkaaGreatDoorTie.lean); close each card by the builder's one call (the guide's Derived/Test/ToyasCard.lean, 'card_holds'). Laid BY PROGRAM, IN A SANDBOX (cutbox-door.mjs). By AI agents, Wed Nov 11 2026. No macro, syntax, notation, axiom, sorry.
-/
import Derived.Test.YtpomllpplpalkaaGreatDoorRows
import GoSem.ClaimSeven
namespace Go.Proofs.YtpomllpplpalkaaGreatDoor
namespace Rows

/-- THE TIED CARD OF 'pergolalaw24.StageLimits'. -/
def stageLimitsCard : Claim7 := { stood := { row := stageLimitsRow, standIns := [], harness := (true, "a4bde151515697eaf5c837a104921ed36bc3100de71b17761091e25af46d0ee7"), looks := true }, kinds := [], alts := [], laidByText := true, laidKinds := [.handle], laidTests := true, laidLooks := .later }
def StageLimitsCardSaid : Prop := Claim7.holds Tryz.pinned (.plain (OpenSpec.ofChange stageLimitsSpec)) stageLimitsCard

/-- THE TIED CARD OF 'pergolalaw24.StageBack'. -/
def stageBackCard : Claim7 := { stood := { row := stageBackRow, standIns := [], harness := (true, "a4bde151515697eaf5c837a104921ed36bc3100de71b17761091e25af46d0ee7"), looks := true }, kinds := [], alts := [], laidByText := true, laidKinds := [.handle], laidTests := true, laidLooks := .later }
def StageBackCardSaid : Prop := Claim7.holds Tryz.pinned (.plain (OpenSpec.ofChange stageBackSpec)) stageBackCard

/-- THE TIED CARD OF 'pergolalaw24.StageNet'. -/
def stageNetCard : Claim7 := { stood := { row := stageNetRow, standIns := [], harness := (true, "a4bde151515697eaf5c837a104921ed36bc3100de71b17761091e25af46d0ee7"), looks := true }, kinds := [], alts := [], laidByText := true, laidKinds := [.handle], laidTests := true, laidLooks := .later }
def StageNetCardSaid : Prop := Claim7.holds Tryz.pinned (.plain (OpenSpec.ofChange stageNetSpec)) stageNetCard

/-- THE TIED CARD OF 'pergolalaw24.StageSees'. -/
def stageSeesCard : Claim7 := { stood := { row := stageSeesRow, standIns := [], harness := (true, "a4bde151515697eaf5c837a104921ed36bc3100de71b17761091e25af46d0ee7"), looks := true }, kinds := [], alts := [], laidByText := true, laidKinds := [.handle], laidTests := true, laidLooks := .later }
def StageSeesCardSaid : Prop := Claim7.holds Tryz.pinned (.plain (OpenSpec.ofChange stageSeesSpec)) stageSeesCard

/-- THE TIED CARD OF 'pergolalaw24.StagePlays'. -/
def stagePlaysCard : Claim7 := { stood := { row := stagePlaysRow, standIns := [], harness := (true, "a4bde151515697eaf5c837a104921ed36bc3100de71b17761091e25af46d0ee7"), looks := true }, kinds := [], alts := [], laidByText := true, laidKinds := [.handle], laidTests := true, laidLooks := .later }
def StagePlaysCardSaid : Prop := Claim7.holds Tryz.pinned (.plain (OpenSpec.ofChange stagePlaysSpec)) stagePlaysCard

/-- THE TIED CARD OF 'pergolalaw23.ModelPlays'. -/
def modelPlaysCard : Claim7 := { stood := { row := modelPlaysRow, standIns := [], harness := (true, "a4bde151515697eaf5c837a104921ed36bc3100de71b17761091e25af46d0ee7"), looks := true }, kinds := [], alts := [], laidByText := true, laidKinds := [.handle], laidTests := true, laidLooks := .later }
def ModelPlaysCardSaid : Prop := Claim7.holds Tryz.pinned (.plain (OpenSpec.ofChange modelPlaysSpec)) modelPlaysCard

/-- THE TIED CARD OF 'pergolalaw23.ModelFinds'. -/
def modelFindsCard : Claim7 := { stood := { row := modelFindsRow, standIns := [], harness := (true, "a4bde151515697eaf5c837a104921ed36bc3100de71b17761091e25af46d0ee7"), looks := true }, kinds := [], alts := [], laidByText := true, laidKinds := [.handle], laidTests := true, laidLooks := .later }
def ModelFindsCardSaid : Prop := Claim7.holds Tryz.pinned (.plain (OpenSpec.ofChange modelFindsSpec)) modelFindsCard

/-- THE SECOND FORM's CARD OF 'pergolalaw24.StageLimits'. -/
def stageLimitsUptoCard : Claim7 := { stood := { row := stageLimitsUptoRow, standIns := [], harness := (true, "a4bde151515697eaf5c837a104921ed36bc3100de71b17761091e25af46d0ee7"), looks := true }, kinds := [], alts := [], laidByText := true, laidKinds := [.handle], laidTests := true, laidLooks := .later }
def StageLimitsUptoCardSaid : Prop := Claim7.holds Tryz.pinned (.plain (OpenSpec.upto stageLimitsSpec)) stageLimitsUptoCard

/-- THE SECOND FORM's CARD OF 'pergolalaw24.StageBack'. -/
def stageBackUptoCard : Claim7 := { stood := { row := stageBackUptoRow, standIns := [], harness := (true, "a4bde151515697eaf5c837a104921ed36bc3100de71b17761091e25af46d0ee7"), looks := true }, kinds := [], alts := [], laidByText := true, laidKinds := [.handle], laidTests := true, laidLooks := .later }
def StageBackUptoCardSaid : Prop := Claim7.holds Tryz.pinned (.plain (OpenSpec.upto stageBackSpec)) stageBackUptoCard

/-- THE SECOND FORM's CARD OF 'pergolalaw24.StageNet'. -/
def stageNetUptoCard : Claim7 := { stood := { row := stageNetUptoRow, standIns := [], harness := (true, "a4bde151515697eaf5c837a104921ed36bc3100de71b17761091e25af46d0ee7"), looks := true }, kinds := [], alts := [], laidByText := true, laidKinds := [.handle], laidTests := true, laidLooks := .later }
def StageNetUptoCardSaid : Prop := Claim7.holds Tryz.pinned (.plain (OpenSpec.upto stageNetSpec)) stageNetUptoCard

/-- THE SECOND FORM's CARD OF 'pergolalaw24.StageSees'. -/
def stageSeesUptoCard : Claim7 := { stood := { row := stageSeesUptoRow, standIns := [], harness := (true, "a4bde151515697eaf5c837a104921ed36bc3100de71b17761091e25af46d0ee7"), looks := true }, kinds := [], alts := [], laidByText := true, laidKinds := [.handle], laidTests := true, laidLooks := .later }
def StageSeesUptoCardSaid : Prop := Claim7.holds Tryz.pinned (.plain (OpenSpec.upto stageSeesSpec)) stageSeesUptoCard

/-- THE SECOND FORM's CARD OF 'pergolalaw24.StagePlays'. -/
def stagePlaysUptoCard : Claim7 := { stood := { row := stagePlaysUptoRow, standIns := [], harness := (true, "a4bde151515697eaf5c837a104921ed36bc3100de71b17761091e25af46d0ee7"), looks := true }, kinds := [], alts := [], laidByText := true, laidKinds := [.handle], laidTests := true, laidLooks := .later }
def StagePlaysUptoCardSaid : Prop := Claim7.holds Tryz.pinned (.plain (OpenSpec.upto stagePlaysSpec)) stagePlaysUptoCard

/-- THE SECOND FORM's CARD OF 'pergolalaw23.ModelPlays'. -/
def modelPlaysUptoCard : Claim7 := { stood := { row := modelPlaysUptoRow, standIns := [], harness := (true, "a4bde151515697eaf5c837a104921ed36bc3100de71b17761091e25af46d0ee7"), looks := true }, kinds := [], alts := [], laidByText := true, laidKinds := [.handle], laidTests := true, laidLooks := .later }
def ModelPlaysUptoCardSaid : Prop := Claim7.holds Tryz.pinned (.plain (OpenSpec.upto modelPlaysSpec)) modelPlaysUptoCard

/-- THE SECOND FORM's CARD OF 'pergolalaw23.ModelFinds'. -/
def modelFindsUptoCard : Claim7 := { stood := { row := modelFindsUptoRow, standIns := [], harness := (true, "a4bde151515697eaf5c837a104921ed36bc3100de71b17761091e25af46d0ee7"), looks := true }, kinds := [], alts := [], laidByText := true, laidKinds := [.handle], laidTests := true, laidLooks := .later }
def ModelFindsUptoCardSaid : Prop := Claim7.holds Tryz.pinned (.plain (OpenSpec.upto modelFindsSpec)) modelFindsUptoCard
end Rows
end Go.Proofs.YtpomllpplpalkaaGreatDoor
