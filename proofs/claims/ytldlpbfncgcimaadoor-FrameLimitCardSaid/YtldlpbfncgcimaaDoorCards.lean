/-
  DERIVED. GIVEN WITH THE SEED: THE CARDS: each row of YtldlpbfncgcimaaDoorRows.lean that lists a variable, with what it lists TIED to the program's text (the seventh form; the later family's looks); each row that meets fmt, with fmt's text TOLD by the authors' own Lean function (tested against real Go, not proved from fmt's source: count such statements apart). THE CARD IS WHAT COUNTS. Prove the row's statement (the work); the ties are given (YtldlpbfncgcimaaDoorTie.lean); close each card by the builder's one call (the guide's Derived/Test/ToyasCard.lean, 'card_holds'). Laid BY PROGRAM, IN A SANDBOX (cutbox-door.mjs). By AI agents, Wed Nov 11 2026. No macro, syntax, notation, axiom, sorry.
-/
import Derived.Test.YtldlpbfncgcimaaDoorRows
import GoSem.ClaimSeven
namespace Go.Proofs.YtldlpbfncgcimaaDoor
namespace Rows

/-- THE TIED CARD OF 'pergolalaw9.FrameAsks'. -/
def frameAsksCard : Claim7 := { stood := { row := frameAsksRow, standIns := [], harness := (true, "4ea34749b8bab02511a60778f0639d562fb45bac22a60715720c74b84659fe1c"), looks := true }, kinds := [], alts := [], laidByText := true, laidKinds := [.handle, .data], laidTests := true, laidLooks := .later }
def FrameAsksCardSaid : Prop := Claim7.holds Tryd.pinned (.plain (OpenSpec.ofChange frameAsksSpec)) frameAsksCard

/-- THE TIED CARD OF 'pergolalaw9.FrameTorn'. -/
def frameTornCard : Claim7 := { stood := { row := frameTornRow, standIns := [], harness := (true, "4ea34749b8bab02511a60778f0639d562fb45bac22a60715720c74b84659fe1c"), looks := true }, kinds := [], alts := [], laidByText := true, laidKinds := [.handle, .data], laidTests := true, laidLooks := .later }
def FrameTornCardSaid : Prop := Claim7.holds Tryd.pinned (.plain (OpenSpec.ofChange frameTornSpec)) frameTornCard

/-- THE TIED CARD OF 'pergolalaw9.FrameFlips'. -/
def frameFlipsCard : Claim7 := { stood := { row := frameFlipsRow, standIns := [], harness := (true, "4ea34749b8bab02511a60778f0639d562fb45bac22a60715720c74b84659fe1c"), looks := true }, kinds := [], alts := [], laidByText := true, laidKinds := [.handle, .data], laidTests := true, laidLooks := .later }
def FrameFlipsCardSaid : Prop := Claim7.holds Tryd.pinned (.plain (OpenSpec.ofChange frameFlipsSpec)) frameFlipsCard

/-- THE TIED CARD OF 'pergolalaw9.FrameLimit'. -/
def frameLimitCard : Claim7 := { stood := { row := frameLimitRow, standIns := [], harness := (true, "4ea34749b8bab02511a60778f0639d562fb45bac22a60715720c74b84659fe1c"), looks := true }, kinds := [], alts := [], laidByText := true, laidKinds := [.data], laidTests := true, laidLooks := .later }
def FrameLimitCardSaid : Prop := Claim7.holds Tryd.pinned (.plain (OpenSpec.ofChange frameLimitSpec)) frameLimitCard

/-- THE TIED CARD OF 'pergolalaw9.FrameAdds'. -/
def frameAddsCard : Claim7 := { stood := { row := frameAddsRow, standIns := [], harness := (true, "4ea34749b8bab02511a60778f0639d562fb45bac22a60715720c74b84659fe1c"), looks := true }, kinds := [], alts := [], laidByText := true, laidKinds := [.data], laidTests := true, laidLooks := .later }
def FrameAddsCardSaid : Prop := Claim7.holds Tryd.pinned (.plain (OpenSpec.ofChange frameAddsSpec)) frameAddsCard

/-- THE TIED CARD OF 'pergolalaw9.FrameRest'. -/
def frameRestCard : Claim7 := { stood := { row := frameRestRow, standIns := [], harness := (true, "4ea34749b8bab02511a60778f0639d562fb45bac22a60715720c74b84659fe1c"), looks := true }, kinds := [], alts := [], laidByText := true, laidKinds := [.handle, .data], laidTests := true, laidLooks := .later }
def FrameRestCardSaid : Prop := Claim7.holds Tryd.pinned (.plain (OpenSpec.ofChange frameRestSpec)) frameRestCard

/-- THE TIED CARD OF 'pergolalaw19.CurveAsks'. -/
def curveAsksCard : Claim7 := { stood := { row := curveAsksRow, standIns := [], harness := (true, "4ea34749b8bab02511a60778f0639d562fb45bac22a60715720c74b84659fe1c"), looks := true }, kinds := [], alts := [], laidByText := true, laidKinds := [.handle], laidTests := true, laidLooks := .later }
def CurveAsksCardSaid : Prop := Claim7.holds Tryd.pinned (.plain (OpenSpec.ofChange curveAsksSpec)) curveAsksCard

/-- THE TIED CARD OF 'pergolalaw19.CurveBack'. -/
def curveBackCard : Claim7 := { stood := { row := curveBackRow, standIns := [], harness := (true, "4ea34749b8bab02511a60778f0639d562fb45bac22a60715720c74b84659fe1c"), looks := true }, kinds := [], alts := [], laidByText := true, laidKinds := [.handle], laidTests := true, laidLooks := .later }
def CurveBackCardSaid : Prop := Claim7.holds Tryd.pinned (.plain (OpenSpec.ofChange curveBackSpec)) curveBackCard

/-- THE TIED CARD OF 'pergolalaw19.CurveNeighbours'. -/
def curveNeighboursCard : Claim7 := { stood := { row := curveNeighboursRow, standIns := [], harness := (true, "4ea34749b8bab02511a60778f0639d562fb45bac22a60715720c74b84659fe1c"), looks := true }, kinds := [], alts := [], laidByText := true, laidKinds := [.handle], laidTests := true, laidLooks := .later }
def CurveNeighboursCardSaid : Prop := Claim7.holds Tryd.pinned (.plain (OpenSpec.ofChange curveNeighboursSpec)) curveNeighboursCard

/-- THE TIED CARD OF 'pergolalaw19.CurveGrows'. -/
def curveGrowsCard : Claim7 := { stood := { row := curveGrowsRow, standIns := [], harness := (true, "4ea34749b8bab02511a60778f0639d562fb45bac22a60715720c74b84659fe1c"), looks := true }, kinds := [], alts := [], laidByText := true, laidKinds := [.handle], laidTests := true, laidLooks := .later }
def CurveGrowsCardSaid : Prop := Claim7.holds Tryd.pinned (.plain (OpenSpec.ofChange curveGrowsSpec)) curveGrowsCard

/-- THE TIED CARD OF 'pergolalaw19.CurveQuarters'. -/
def curveQuartersCard : Claim7 := { stood := { row := curveQuartersRow, standIns := [], harness := (true, "4ea34749b8bab02511a60778f0639d562fb45bac22a60715720c74b84659fe1c"), looks := true }, kinds := [], alts := [], laidByText := true, laidKinds := [.handle], laidTests := true, laidLooks := .later }
def CurveQuartersCardSaid : Prop := Claim7.holds Tryd.pinned (.plain (OpenSpec.ofChange curveQuartersSpec)) curveQuartersCard

/-- THE TIED CARD OF 'pergolalaw19.CurveCentre'. -/
def curveCentreCard : Claim7 := { stood := { row := curveCentreRow, standIns := [], harness := (true, "4ea34749b8bab02511a60778f0639d562fb45bac22a60715720c74b84659fe1c"), looks := true }, kinds := [], alts := [], laidByText := true, laidKinds := [.handle], laidTests := true, laidLooks := .later }
def CurveCentreCardSaid : Prop := Claim7.holds Tryd.pinned (.plain (OpenSpec.ofChange curveCentreSpec)) curveCentreCard

/-- THE SECOND FORM's CARD OF 'pergolalaw9.FrameAsks'. -/
def frameAsksUptoCard : Claim7 := { stood := { row := frameAsksUptoRow, standIns := [], harness := (true, "4ea34749b8bab02511a60778f0639d562fb45bac22a60715720c74b84659fe1c"), looks := true }, kinds := [], alts := [], laidByText := true, laidKinds := [.handle, .data], laidTests := true, laidLooks := .later }
def FrameAsksUptoCardSaid : Prop := Claim7.holds Tryd.pinned (.plain (OpenSpec.upto frameAsksSpec)) frameAsksUptoCard

/-- THE SECOND FORM's CARD OF 'pergolalaw9.FrameTorn'. -/
def frameTornUptoCard : Claim7 := { stood := { row := frameTornUptoRow, standIns := [], harness := (true, "4ea34749b8bab02511a60778f0639d562fb45bac22a60715720c74b84659fe1c"), looks := true }, kinds := [], alts := [], laidByText := true, laidKinds := [.handle, .data], laidTests := true, laidLooks := .later }
def FrameTornUptoCardSaid : Prop := Claim7.holds Tryd.pinned (.plain (OpenSpec.upto frameTornSpec)) frameTornUptoCard

/-- THE SECOND FORM's CARD OF 'pergolalaw9.FrameFlips'. -/
def frameFlipsUptoCard : Claim7 := { stood := { row := frameFlipsUptoRow, standIns := [], harness := (true, "4ea34749b8bab02511a60778f0639d562fb45bac22a60715720c74b84659fe1c"), looks := true }, kinds := [], alts := [], laidByText := true, laidKinds := [.handle, .data], laidTests := true, laidLooks := .later }
def FrameFlipsUptoCardSaid : Prop := Claim7.holds Tryd.pinned (.plain (OpenSpec.upto frameFlipsSpec)) frameFlipsUptoCard

/-- THE SECOND FORM's CARD OF 'pergolalaw9.FrameLimit'. -/
def frameLimitUptoCard : Claim7 := { stood := { row := frameLimitUptoRow, standIns := [], harness := (true, "4ea34749b8bab02511a60778f0639d562fb45bac22a60715720c74b84659fe1c"), looks := true }, kinds := [], alts := [], laidByText := true, laidKinds := [.data], laidTests := true, laidLooks := .later }
def FrameLimitUptoCardSaid : Prop := Claim7.holds Tryd.pinned (.plain (OpenSpec.upto frameLimitSpec)) frameLimitUptoCard

/-- THE SECOND FORM's CARD OF 'pergolalaw9.FrameAdds'. -/
def frameAddsUptoCard : Claim7 := { stood := { row := frameAddsUptoRow, standIns := [], harness := (true, "4ea34749b8bab02511a60778f0639d562fb45bac22a60715720c74b84659fe1c"), looks := true }, kinds := [], alts := [], laidByText := true, laidKinds := [.data], laidTests := true, laidLooks := .later }
def FrameAddsUptoCardSaid : Prop := Claim7.holds Tryd.pinned (.plain (OpenSpec.upto frameAddsSpec)) frameAddsUptoCard

/-- THE SECOND FORM's CARD OF 'pergolalaw9.FrameRest'. -/
def frameRestUptoCard : Claim7 := { stood := { row := frameRestUptoRow, standIns := [], harness := (true, "4ea34749b8bab02511a60778f0639d562fb45bac22a60715720c74b84659fe1c"), looks := true }, kinds := [], alts := [], laidByText := true, laidKinds := [.handle, .data], laidTests := true, laidLooks := .later }
def FrameRestUptoCardSaid : Prop := Claim7.holds Tryd.pinned (.plain (OpenSpec.upto frameRestSpec)) frameRestUptoCard

/-- THE SECOND FORM's CARD OF 'pergolalaw19.CurveAsks'. -/
def curveAsksUptoCard : Claim7 := { stood := { row := curveAsksUptoRow, standIns := [], harness := (true, "4ea34749b8bab02511a60778f0639d562fb45bac22a60715720c74b84659fe1c"), looks := true }, kinds := [], alts := [], laidByText := true, laidKinds := [.handle], laidTests := true, laidLooks := .later }
def CurveAsksUptoCardSaid : Prop := Claim7.holds Tryd.pinned (.plain (OpenSpec.upto curveAsksSpec)) curveAsksUptoCard

/-- THE SECOND FORM's CARD OF 'pergolalaw19.CurveBack'. -/
def curveBackUptoCard : Claim7 := { stood := { row := curveBackUptoRow, standIns := [], harness := (true, "4ea34749b8bab02511a60778f0639d562fb45bac22a60715720c74b84659fe1c"), looks := true }, kinds := [], alts := [], laidByText := true, laidKinds := [.handle], laidTests := true, laidLooks := .later }
def CurveBackUptoCardSaid : Prop := Claim7.holds Tryd.pinned (.plain (OpenSpec.upto curveBackSpec)) curveBackUptoCard

/-- THE SECOND FORM's CARD OF 'pergolalaw19.CurveNeighbours'. -/
def curveNeighboursUptoCard : Claim7 := { stood := { row := curveNeighboursUptoRow, standIns := [], harness := (true, "4ea34749b8bab02511a60778f0639d562fb45bac22a60715720c74b84659fe1c"), looks := true }, kinds := [], alts := [], laidByText := true, laidKinds := [.handle], laidTests := true, laidLooks := .later }
def CurveNeighboursUptoCardSaid : Prop := Claim7.holds Tryd.pinned (.plain (OpenSpec.upto curveNeighboursSpec)) curveNeighboursUptoCard

/-- THE SECOND FORM's CARD OF 'pergolalaw19.CurveGrows'. -/
def curveGrowsUptoCard : Claim7 := { stood := { row := curveGrowsUptoRow, standIns := [], harness := (true, "4ea34749b8bab02511a60778f0639d562fb45bac22a60715720c74b84659fe1c"), looks := true }, kinds := [], alts := [], laidByText := true, laidKinds := [.handle], laidTests := true, laidLooks := .later }
def CurveGrowsUptoCardSaid : Prop := Claim7.holds Tryd.pinned (.plain (OpenSpec.upto curveGrowsSpec)) curveGrowsUptoCard

/-- THE SECOND FORM's CARD OF 'pergolalaw19.CurveQuarters'. -/
def curveQuartersUptoCard : Claim7 := { stood := { row := curveQuartersUptoRow, standIns := [], harness := (true, "4ea34749b8bab02511a60778f0639d562fb45bac22a60715720c74b84659fe1c"), looks := true }, kinds := [], alts := [], laidByText := true, laidKinds := [.handle], laidTests := true, laidLooks := .later }
def CurveQuartersUptoCardSaid : Prop := Claim7.holds Tryd.pinned (.plain (OpenSpec.upto curveQuartersSpec)) curveQuartersUptoCard

/-- THE SECOND FORM's CARD OF 'pergolalaw19.CurveCentre'. -/
def curveCentreUptoCard : Claim7 := { stood := { row := curveCentreUptoRow, standIns := [], harness := (true, "4ea34749b8bab02511a60778f0639d562fb45bac22a60715720c74b84659fe1c"), looks := true }, kinds := [], alts := [], laidByText := true, laidKinds := [.handle], laidTests := true, laidLooks := .later }
def CurveCentreUptoCardSaid : Prop := Claim7.holds Tryd.pinned (.plain (OpenSpec.upto curveCentreSpec)) curveCentreUptoCard
end Rows
end Go.Proofs.YtldlpbfncgcimaaDoor
