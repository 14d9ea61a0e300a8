/-
  DERIVED. GIVEN WITH THE SEED: THE CARDS: each row of YtfamocpbmbhmbaaDoorRows.lean that lists a variable, with what it lists TIED to the program's text (the seventh form; the later family's looks); each row that meets fmt, with fmt's text TOLD by the authors' own Lean function (tested against real Go, not proved from fmt's source: count such statements apart). THE CARD IS WHAT COUNTS. Prove the row's statement (the work); the ties are given (YtfamocpbmbhmbaaDoorTie.lean); close each card by the builder's one call (the guide's Derived/Test/ToyasCard.lean, 'card_holds'). Laid BY PROGRAM, IN A SANDBOX (cutbox-door.mjs). By AI agents, Wed Nov 11 2026. No macro, syntax, notation, axiom, sorry.
-/
import Derived.Test.YtfamocpbmbhmbaaDoorRows
import GoSem.ClaimSeven
namespace Go.Proofs.YtfamocpbmbhmbaaDoor
namespace Rows

/-- THE TIED CARD OF 'pergolalaw5.RingAsks'. -/
def ringAsksCard : Claim7 := { stood := { row := ringAsksRow, standIns := [], harness := (true, "651984538bd4d9ca3b4767ae7b9b9c9910df6b428668321c20b99413ed17dbfd"), looks := true }, kinds := [], alts := [], laidByText := true, laidKinds := [.handle], laidTests := true, laidLooks := .later }
def RingAsksCardSaid : Prop := Claim7.holds Tryd.pinned (.plain (OpenSpec.ofChange ringAsksSpec)) ringAsksCard

/-- THE TIED CARD OF 'pergolalaw5.RingBoxes'. -/
def ringBoxesCard : Claim7 := { stood := { row := ringBoxesRow, standIns := [], harness := (true, "651984538bd4d9ca3b4767ae7b9b9c9910df6b428668321c20b99413ed17dbfd"), looks := true }, kinds := [], alts := [], laidByText := true, laidKinds := [.handle], laidTests := true, laidLooks := .later }
def RingBoxesCardSaid : Prop := Claim7.holds Tryd.pinned (.plain (OpenSpec.ofChange ringBoxesSpec)) ringBoxesCard

/-- THE TIED CARD OF 'pergolalaw5.RingCuts'. -/
def ringCutsCard : Claim7 := { stood := { row := ringCutsRow, standIns := [], harness := (true, "651984538bd4d9ca3b4767ae7b9b9c9910df6b428668321c20b99413ed17dbfd"), looks := true }, kinds := [], alts := [], laidByText := true, laidKinds := [.handle], laidTests := true, laidLooks := .later }
def RingCutsCardSaid : Prop := Claim7.holds Tryd.pinned (.plain (OpenSpec.ofChange ringCutsSpec)) ringCutsCard

/-- THE TIED CARD OF 'pergolalaw5.RingLimits'. -/
def ringLimitsCard : Claim7 := { stood := { row := ringLimitsRow, standIns := [], harness := (true, "651984538bd4d9ca3b4767ae7b9b9c9910df6b428668321c20b99413ed17dbfd"), looks := true }, kinds := [], alts := [], laidByText := true, laidKinds := [.handle], laidTests := true, laidLooks := .later }
def RingLimitsCardSaid : Prop := Claim7.holds Tryd.pinned (.plain (OpenSpec.ofChange ringLimitsSpec)) ringLimitsCard

/-- THE TIED CARD OF 'pergolalaw5.RingMoves'. -/
def ringMovesCard : Claim7 := { stood := { row := ringMovesRow, standIns := [], harness := (true, "651984538bd4d9ca3b4767ae7b9b9c9910df6b428668321c20b99413ed17dbfd"), looks := true }, kinds := [], alts := [], laidByText := true, laidKinds := [.handle], laidTests := true, laidLooks := .later }
def RingMovesCardSaid : Prop := Claim7.holds Tryd.pinned (.plain (OpenSpec.ofChange ringMovesSpec)) ringMovesCard

/-- THE SECOND FORM's CARD OF 'pergolalaw5.RingAsks'. -/
def ringAsksUptoCard : Claim7 := { stood := { row := ringAsksUptoRow, standIns := [], harness := (true, "651984538bd4d9ca3b4767ae7b9b9c9910df6b428668321c20b99413ed17dbfd"), looks := true }, kinds := [], alts := [], laidByText := true, laidKinds := [.handle], laidTests := true, laidLooks := .later }
def RingAsksUptoCardSaid : Prop := Claim7.holds Tryd.pinned (.plain (OpenSpec.upto ringAsksSpec)) ringAsksUptoCard

/-- THE SECOND FORM's CARD OF 'pergolalaw5.RingBoxes'. -/
def ringBoxesUptoCard : Claim7 := { stood := { row := ringBoxesUptoRow, standIns := [], harness := (true, "651984538bd4d9ca3b4767ae7b9b9c9910df6b428668321c20b99413ed17dbfd"), looks := true }, kinds := [], alts := [], laidByText := true, laidKinds := [.handle], laidTests := true, laidLooks := .later }
def RingBoxesUptoCardSaid : Prop := Claim7.holds Tryd.pinned (.plain (OpenSpec.upto ringBoxesSpec)) ringBoxesUptoCard

/-- THE SECOND FORM's CARD OF 'pergolalaw5.RingCuts'. -/
def ringCutsUptoCard : Claim7 := { stood := { row := ringCutsUptoRow, standIns := [], harness := (true, "651984538bd4d9ca3b4767ae7b9b9c9910df6b428668321c20b99413ed17dbfd"), looks := true }, kinds := [], alts := [], laidByText := true, laidKinds := [.handle], laidTests := true, laidLooks := .later }
def RingCutsUptoCardSaid : Prop := Claim7.holds Tryd.pinned (.plain (OpenSpec.upto ringCutsSpec)) ringCutsUptoCard

/-- THE SECOND FORM's CARD OF 'pergolalaw5.RingLimits'. -/
def ringLimitsUptoCard : Claim7 := { stood := { row := ringLimitsUptoRow, standIns := [], harness := (true, "651984538bd4d9ca3b4767ae7b9b9c9910df6b428668321c20b99413ed17dbfd"), looks := true }, kinds := [], alts := [], laidByText := true, laidKinds := [.handle], laidTests := true, laidLooks := .later }
def RingLimitsUptoCardSaid : Prop := Claim7.holds Tryd.pinned (.plain (OpenSpec.upto ringLimitsSpec)) ringLimitsUptoCard

/-- THE SECOND FORM's CARD OF 'pergolalaw5.RingMoves'. -/
def ringMovesUptoCard : Claim7 := { stood := { row := ringMovesUptoRow, standIns := [], harness := (true, "651984538bd4d9ca3b4767ae7b9b9c9910df6b428668321c20b99413ed17dbfd"), looks := true }, kinds := [], alts := [], laidByText := true, laidKinds := [.handle], laidTests := true, laidLooks := .later }
def RingMovesUptoCardSaid : Prop := Claim7.holds Tryd.pinned (.plain (OpenSpec.upto ringMovesSpec)) ringMovesUptoCard
end Rows
end Go.Proofs.YtfamocpbmbhmbaaDoor
