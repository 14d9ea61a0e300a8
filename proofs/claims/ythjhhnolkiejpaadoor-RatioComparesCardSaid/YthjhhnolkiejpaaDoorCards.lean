/-
  DERIVED. GIVEN WITH THE SEED: THE CARDS: each row of YthjhhnolkiejpaaDoorRows.lean that lists a variable, with what it lists TIED to the program's text (the seventh form; the later family's looks); each row that meets fmt, with fmt's text TOLD by the authors' own Lean function (tested against real Go, not proved from fmt's source: count such statements apart). THE CARD IS WHAT COUNTS. Prove the row's statement (the work); the ties are given (YthjhhnolkiejpaaDoorTie.lean); close each card by the builder's one call (the guide's Derived/Test/ToyasCard.lean, 'card_holds'). Laid BY PROGRAM, IN A SANDBOX (cutbox-door.mjs). By AI agents, Wed Nov 11 2026. No macro, syntax, notation, axiom, sorry.
-/
import Derived.Test.YthjhhnolkiejpaaDoorRows
import GoSem.ClaimSeven
namespace Go.Proofs.YthjhhnolkiejpaaDoor
namespace Rows

/-- THE TIED CARD OF 'pergolalaw1.WideTimes'. -/
def wideTimesCard : Claim7 := { stood := { row := wideTimesRow, standIns := [], harness := (true, "01d35265bc86d15b5a53061def9130ba9e22f7cb654826370cc71ad175ba982e"), looks := true }, kinds := [], alts := [], laidByText := true, laidKinds := [.data, .data, .data], laidTests := true, laidLooks := .later }
def WideTimesCardSaid : Prop := Claim7.holds Tryd.pinned (.plain (OpenSpec.ofChange wideTimesSpec)) wideTimesCard

/-- THE TIED CARD OF 'pergolalaw1.WideTexts'. -/
def wideTextsCard : Claim7 := { stood := { row := wideTextsRow, standIns := [], harness := (true, "01d35265bc86d15b5a53061def9130ba9e22f7cb654826370cc71ad175ba982e"), looks := true }, kinds := [], alts := [], laidByText := true, laidKinds := [.data, .data, .data], laidTests := true, laidLooks := .later }
def WideTextsCardSaid : Prop := Claim7.holds Tryd.pinned (.plain (OpenSpec.ofChange wideTextsSpec)) wideTextsCard

/-- THE TIED CARD OF 'pergolalaw2.RatioCompares'. -/
def ratioComparesCard : Claim7 := { stood := { row := ratioComparesRow, standIns := [], harness := (true, "01d35265bc86d15b5a53061def9130ba9e22f7cb654826370cc71ad175ba982e"), looks := true }, kinds := [], alts := [], laidByText := true, laidKinds := [.data, .data, .data], laidTests := true, laidLooks := .later }
def RatioComparesCardSaid : Prop := Claim7.holds Tryd.pinned (.plain (OpenSpec.ofChange ratioComparesSpec)) ratioComparesCard

/-- THE TIED CARD OF 'pergolalaw2.RatioOrder'. -/
def ratioOrderCard : Claim7 := { stood := { row := ratioOrderRow, standIns := [], harness := (true, "01d35265bc86d15b5a53061def9130ba9e22f7cb654826370cc71ad175ba982e"), looks := true }, kinds := [], alts := [], laidByText := true, laidKinds := [.data, .data, .data], laidTests := true, laidLooks := .later }
def RatioOrderCardSaid : Prop := Claim7.holds Tryd.pinned (.plain (OpenSpec.ofChange ratioOrderSpec)) ratioOrderCard

/-- THE TIED CARD OF 'pergolalaw2.RatioMins'. -/
def ratioMinsCard : Claim7 := { stood := { row := ratioMinsRow, standIns := [], harness := (true, "01d35265bc86d15b5a53061def9130ba9e22f7cb654826370cc71ad175ba982e"), looks := true }, kinds := [], alts := [], laidByText := true, laidKinds := [.data, .data, .data], laidTests := true, laidLooks := .later }
def RatioMinsCardSaid : Prop := Claim7.holds Tryd.pinned (.plain (OpenSpec.ofChange ratioMinsSpec)) ratioMinsCard

/-- THE TIED CARD OF 'pergolalaw19.CurveGrows'. -/
def curveGrowsCard : Claim7 := { stood := { row := curveGrowsRow, standIns := [], harness := (true, "01d35265bc86d15b5a53061def9130ba9e22f7cb654826370cc71ad175ba982e"), looks := true }, kinds := [], alts := [], laidByText := true, laidKinds := [.handle], laidTests := true, laidLooks := .later }
def CurveGrowsCardSaid : Prop := Claim7.holds Tryd.pinned (.plain (OpenSpec.ofChange curveGrowsSpec)) curveGrowsCard

/-- THE TIED CARD OF 'pergolalaw19.CurveCentre'. -/
def curveCentreCard : Claim7 := { stood := { row := curveCentreRow, standIns := [], harness := (true, "01d35265bc86d15b5a53061def9130ba9e22f7cb654826370cc71ad175ba982e"), looks := true }, kinds := [], alts := [], laidByText := true, laidKinds := [.handle], laidTests := true, laidLooks := .later }
def CurveCentreCardSaid : Prop := Claim7.holds Tryd.pinned (.plain (OpenSpec.ofChange curveCentreSpec)) curveCentreCard

/-- THE SECOND FORM's CARD OF 'pergolalaw1.WideTimes'. -/
def wideTimesUptoCard : Claim7 := { stood := { row := wideTimesUptoRow, standIns := [], harness := (true, "01d35265bc86d15b5a53061def9130ba9e22f7cb654826370cc71ad175ba982e"), looks := true }, kinds := [], alts := [], laidByText := true, laidKinds := [.data, .data, .data], laidTests := true, laidLooks := .later }
def WideTimesUptoCardSaid : Prop := Claim7.holds Tryd.pinned (.plain (OpenSpec.upto wideTimesSpec)) wideTimesUptoCard

/-- THE SECOND FORM's CARD OF 'pergolalaw1.WideTexts'. -/
def wideTextsUptoCard : Claim7 := { stood := { row := wideTextsUptoRow, standIns := [], harness := (true, "01d35265bc86d15b5a53061def9130ba9e22f7cb654826370cc71ad175ba982e"), looks := true }, kinds := [], alts := [], laidByText := true, laidKinds := [.data, .data, .data], laidTests := true, laidLooks := .later }
def WideTextsUptoCardSaid : Prop := Claim7.holds Tryd.pinned (.plain (OpenSpec.upto wideTextsSpec)) wideTextsUptoCard

/-- THE SECOND FORM's CARD OF 'pergolalaw2.RatioCompares'. -/
def ratioComparesUptoCard : Claim7 := { stood := { row := ratioComparesUptoRow, standIns := [], harness := (true, "01d35265bc86d15b5a53061def9130ba9e22f7cb654826370cc71ad175ba982e"), looks := true }, kinds := [], alts := [], laidByText := true, laidKinds := [.data, .data, .data], laidTests := true, laidLooks := .later }
def RatioComparesUptoCardSaid : Prop := Claim7.holds Tryd.pinned (.plain (OpenSpec.upto ratioComparesSpec)) ratioComparesUptoCard

/-- THE SECOND FORM's CARD OF 'pergolalaw2.RatioOrder'. -/
def ratioOrderUptoCard : Claim7 := { stood := { row := ratioOrderUptoRow, standIns := [], harness := (true, "01d35265bc86d15b5a53061def9130ba9e22f7cb654826370cc71ad175ba982e"), looks := true }, kinds := [], alts := [], laidByText := true, laidKinds := [.data, .data, .data], laidTests := true, laidLooks := .later }
def RatioOrderUptoCardSaid : Prop := Claim7.holds Tryd.pinned (.plain (OpenSpec.upto ratioOrderSpec)) ratioOrderUptoCard

/-- THE SECOND FORM's CARD OF 'pergolalaw2.RatioMins'. -/
def ratioMinsUptoCard : Claim7 := { stood := { row := ratioMinsUptoRow, standIns := [], harness := (true, "01d35265bc86d15b5a53061def9130ba9e22f7cb654826370cc71ad175ba982e"), looks := true }, kinds := [], alts := [], laidByText := true, laidKinds := [.data, .data, .data], laidTests := true, laidLooks := .later }
def RatioMinsUptoCardSaid : Prop := Claim7.holds Tryd.pinned (.plain (OpenSpec.upto ratioMinsSpec)) ratioMinsUptoCard

/-- THE SECOND FORM's CARD OF 'pergolalaw19.CurveGrows'. -/
def curveGrowsUptoCard : Claim7 := { stood := { row := curveGrowsUptoRow, standIns := [], harness := (true, "01d35265bc86d15b5a53061def9130ba9e22f7cb654826370cc71ad175ba982e"), looks := true }, kinds := [], alts := [], laidByText := true, laidKinds := [.handle], laidTests := true, laidLooks := .later }
def CurveGrowsUptoCardSaid : Prop := Claim7.holds Tryd.pinned (.plain (OpenSpec.upto curveGrowsSpec)) curveGrowsUptoCard

/-- THE SECOND FORM's CARD OF 'pergolalaw19.CurveCentre'. -/
def curveCentreUptoCard : Claim7 := { stood := { row := curveCentreUptoRow, standIns := [], harness := (true, "01d35265bc86d15b5a53061def9130ba9e22f7cb654826370cc71ad175ba982e"), looks := true }, kinds := [], alts := [], laidByText := true, laidKinds := [.handle], laidTests := true, laidLooks := .later }
def CurveCentreUptoCardSaid : Prop := Claim7.holds Tryd.pinned (.plain (OpenSpec.upto curveCentreSpec)) curveCentreUptoCard
end Rows
end Go.Proofs.YthjhhnolkiejpaaDoor
