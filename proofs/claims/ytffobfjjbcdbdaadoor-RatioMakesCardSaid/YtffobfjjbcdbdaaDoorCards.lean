/-
  DERIVED. GIVEN WITH THE SEED: THE CARDS: each row of YtffobfjjbcdbdaaDoorRows.lean that lists a variable, with what it lists TIED to the program's text (the seventh form; the later family's looks); each row that meets fmt, with fmt's text TOLD by the authors' own Lean function (tested against real Go, not proved from fmt's source: count such statements apart). THE CARD IS WHAT COUNTS. Prove the row's statement (the work); the ties are given (YtffobfjjbcdbdaaDoorTie.lean); close each card by the builder's one call (the guide's Derived/Test/ToyasCard.lean, 'card_holds'). Laid BY PROGRAM, IN A SANDBOX (cutbox-door.mjs). By AI agents, Wed Nov 11 2026. No macro, syntax, notation, axiom, sorry.
-/
import Derived.Test.YtffobfjjbcdbdaaDoorRows
import GoSem.ClaimSeven
namespace Go.Proofs.YtffobfjjbcdbdaaDoor
namespace Rows

/-- THE TIED CARD OF 'pergolalaw1.WideTimes'. -/
def wideTimesCard : Claim7 := { stood := { row := wideTimesRow, standIns := [], harness := (true, "650f7ae4769d46f86d0c001d414a96f80e35b282e0baced803c854939f0a6860"), looks := true }, kinds := [], alts := [], laidByText := true, laidKinds := [.data, .data, .data], laidTests := true, laidLooks := .later }
def WideTimesCardSaid : Prop := Claim7.holds Tryd.pinned (.plain (OpenSpec.ofChange wideTimesSpec)) wideTimesCard

/-- THE TIED CARD OF 'pergolalaw1.WideTexts'. -/
def wideTextsCard : Claim7 := { stood := { row := wideTextsRow, standIns := [], harness := (true, "650f7ae4769d46f86d0c001d414a96f80e35b282e0baced803c854939f0a6860"), looks := true }, kinds := [], alts := [], laidByText := true, laidKinds := [.data, .data, .data], laidTests := true, laidLooks := .later }
def WideTextsCardSaid : Prop := Claim7.holds Tryd.pinned (.plain (OpenSpec.ofChange wideTextsSpec)) wideTextsCard

/-- THE TIED CARD OF 'pergolalaw1.WideDigits'. -/
def wideDigitsCard : Claim7 := { stood := { row := wideDigitsRow, standIns := [], harness := (true, "650f7ae4769d46f86d0c001d414a96f80e35b282e0baced803c854939f0a6860"), looks := true }, kinds := [], alts := [], laidByText := true, laidKinds := [.data, .data, .data], laidTests := true, laidLooks := .later }
def WideDigitsCardSaid : Prop := Claim7.holds Tryd.pinned (.plain (OpenSpec.ofChange wideDigitsSpec)) wideDigitsCard

/-- THE TIED CARD OF 'pergolalaw2.RatioMakes'. -/
def ratioMakesCard : Claim7 := { stood := { row := ratioMakesRow, standIns := [], harness := (true, "650f7ae4769d46f86d0c001d414a96f80e35b282e0baced803c854939f0a6860"), looks := true }, kinds := [], alts := [], laidByText := true, laidKinds := [.data, .data, .data], laidTests := true, laidLooks := .later }
def RatioMakesCardSaid : Prop := Claim7.holds Tryd.pinned (.plain (OpenSpec.ofChange ratioMakesSpec)) ratioMakesCard

/-- THE TIED CARD OF 'pergolalaw2.RatioCompares'. -/
def ratioComparesCard : Claim7 := { stood := { row := ratioComparesRow, standIns := [], harness := (true, "650f7ae4769d46f86d0c001d414a96f80e35b282e0baced803c854939f0a6860"), looks := true }, kinds := [], alts := [], laidByText := true, laidKinds := [.data, .data, .data], laidTests := true, laidLooks := .later }
def RatioComparesCardSaid : Prop := Claim7.holds Tryd.pinned (.plain (OpenSpec.ofChange ratioComparesSpec)) ratioComparesCard

/-- THE TIED CARD OF 'pergolalaw2.RatioOrder'. -/
def ratioOrderCard : Claim7 := { stood := { row := ratioOrderRow, standIns := [], harness := (true, "650f7ae4769d46f86d0c001d414a96f80e35b282e0baced803c854939f0a6860"), looks := true }, kinds := [], alts := [], laidByText := true, laidKinds := [.data, .data, .data], laidTests := true, laidLooks := .later }
def RatioOrderCardSaid : Prop := Claim7.holds Tryd.pinned (.plain (OpenSpec.ofChange ratioOrderSpec)) ratioOrderCard

/-- THE TIED CARD OF 'pergolalaw2.RatioScales'. -/
def ratioScalesCard : Claim7 := { stood := { row := ratioScalesRow, standIns := [], harness := (true, "650f7ae4769d46f86d0c001d414a96f80e35b282e0baced803c854939f0a6860"), looks := true }, kinds := [], alts := [], laidByText := true, laidKinds := [.data, .data, .data], laidTests := true, laidLooks := .later }
def RatioScalesCardSaid : Prop := Claim7.holds Tryd.pinned (.plain (OpenSpec.ofChange ratioScalesSpec)) ratioScalesCard

/-- THE TIED CARD OF 'pergolalaw2.RatioWhole'. -/
def ratioWholeCard : Claim7 := { stood := { row := ratioWholeRow, standIns := [], harness := (true, "650f7ae4769d46f86d0c001d414a96f80e35b282e0baced803c854939f0a6860"), looks := true }, kinds := [], alts := [], laidByText := true, laidKinds := [.data, .data, .data], laidTests := true, laidLooks := .later }
def RatioWholeCardSaid : Prop := Claim7.holds Tryd.pinned (.plain (OpenSpec.ofChange ratioWholeSpec)) ratioWholeCard

/-- THE TIED CARD OF 'pergolalaw2.RatioMins'. -/
def ratioMinsCard : Claim7 := { stood := { row := ratioMinsRow, standIns := [], harness := (true, "650f7ae4769d46f86d0c001d414a96f80e35b282e0baced803c854939f0a6860"), looks := true }, kinds := [], alts := [], laidByText := true, laidKinds := [.data, .data, .data], laidTests := true, laidLooks := .later }
def RatioMinsCardSaid : Prop := Claim7.holds Tryd.pinned (.plain (OpenSpec.ofChange ratioMinsSpec)) ratioMinsCard

/-- THE TIED CARD OF 'pergolalaw2.RatioNears'. -/
def ratioNearsCard : Claim7 := { stood := { row := ratioNearsRow, standIns := [], harness := (true, "650f7ae4769d46f86d0c001d414a96f80e35b282e0baced803c854939f0a6860"), looks := true }, kinds := [], alts := [], laidByText := true, laidKinds := [.data, .data, .data], laidTests := true, laidLooks := .later }
def RatioNearsCardSaid : Prop := Claim7.holds Tryd.pinned (.plain (OpenSpec.ofChange ratioNearsSpec)) ratioNearsCard

/-- THE SECOND FORM's CARD OF 'pergolalaw1.WideTimes'. -/
def wideTimesUptoCard : Claim7 := { stood := { row := wideTimesUptoRow, standIns := [], harness := (true, "650f7ae4769d46f86d0c001d414a96f80e35b282e0baced803c854939f0a6860"), looks := true }, kinds := [], alts := [], laidByText := true, laidKinds := [.data, .data, .data], laidTests := true, laidLooks := .later }
def WideTimesUptoCardSaid : Prop := Claim7.holds Tryd.pinned (.plain (OpenSpec.upto wideTimesSpec)) wideTimesUptoCard

/-- THE SECOND FORM's CARD OF 'pergolalaw1.WideTexts'. -/
def wideTextsUptoCard : Claim7 := { stood := { row := wideTextsUptoRow, standIns := [], harness := (true, "650f7ae4769d46f86d0c001d414a96f80e35b282e0baced803c854939f0a6860"), looks := true }, kinds := [], alts := [], laidByText := true, laidKinds := [.data, .data, .data], laidTests := true, laidLooks := .later }
def WideTextsUptoCardSaid : Prop := Claim7.holds Tryd.pinned (.plain (OpenSpec.upto wideTextsSpec)) wideTextsUptoCard

/-- THE SECOND FORM's CARD OF 'pergolalaw1.WideDigits'. -/
def wideDigitsUptoCard : Claim7 := { stood := { row := wideDigitsUptoRow, standIns := [], harness := (true, "650f7ae4769d46f86d0c001d414a96f80e35b282e0baced803c854939f0a6860"), looks := true }, kinds := [], alts := [], laidByText := true, laidKinds := [.data, .data, .data], laidTests := true, laidLooks := .later }
def WideDigitsUptoCardSaid : Prop := Claim7.holds Tryd.pinned (.plain (OpenSpec.upto wideDigitsSpec)) wideDigitsUptoCard

/-- THE SECOND FORM's CARD OF 'pergolalaw2.RatioMakes'. -/
def ratioMakesUptoCard : Claim7 := { stood := { row := ratioMakesUptoRow, standIns := [], harness := (true, "650f7ae4769d46f86d0c001d414a96f80e35b282e0baced803c854939f0a6860"), looks := true }, kinds := [], alts := [], laidByText := true, laidKinds := [.data, .data, .data], laidTests := true, laidLooks := .later }
def RatioMakesUptoCardSaid : Prop := Claim7.holds Tryd.pinned (.plain (OpenSpec.upto ratioMakesSpec)) ratioMakesUptoCard

/-- THE SECOND FORM's CARD OF 'pergolalaw2.RatioCompares'. -/
def ratioComparesUptoCard : Claim7 := { stood := { row := ratioComparesUptoRow, standIns := [], harness := (true, "650f7ae4769d46f86d0c001d414a96f80e35b282e0baced803c854939f0a6860"), looks := true }, kinds := [], alts := [], laidByText := true, laidKinds := [.data, .data, .data], laidTests := true, laidLooks := .later }
def RatioComparesUptoCardSaid : Prop := Claim7.holds Tryd.pinned (.plain (OpenSpec.upto ratioComparesSpec)) ratioComparesUptoCard

/-- THE SECOND FORM's CARD OF 'pergolalaw2.RatioOrder'. -/
def ratioOrderUptoCard : Claim7 := { stood := { row := ratioOrderUptoRow, standIns := [], harness := (true, "650f7ae4769d46f86d0c001d414a96f80e35b282e0baced803c854939f0a6860"), looks := true }, kinds := [], alts := [], laidByText := true, laidKinds := [.data, .data, .data], laidTests := true, laidLooks := .later }
def RatioOrderUptoCardSaid : Prop := Claim7.holds Tryd.pinned (.plain (OpenSpec.upto ratioOrderSpec)) ratioOrderUptoCard

/-- THE SECOND FORM's CARD OF 'pergolalaw2.RatioScales'. -/
def ratioScalesUptoCard : Claim7 := { stood := { row := ratioScalesUptoRow, standIns := [], harness := (true, "650f7ae4769d46f86d0c001d414a96f80e35b282e0baced803c854939f0a6860"), looks := true }, kinds := [], alts := [], laidByText := true, laidKinds := [.data, .data, .data], laidTests := true, laidLooks := .later }
def RatioScalesUptoCardSaid : Prop := Claim7.holds Tryd.pinned (.plain (OpenSpec.upto ratioScalesSpec)) ratioScalesUptoCard

/-- THE SECOND FORM's CARD OF 'pergolalaw2.RatioWhole'. -/
def ratioWholeUptoCard : Claim7 := { stood := { row := ratioWholeUptoRow, standIns := [], harness := (true, "650f7ae4769d46f86d0c001d414a96f80e35b282e0baced803c854939f0a6860"), looks := true }, kinds := [], alts := [], laidByText := true, laidKinds := [.data, .data, .data], laidTests := true, laidLooks := .later }
def RatioWholeUptoCardSaid : Prop := Claim7.holds Tryd.pinned (.plain (OpenSpec.upto ratioWholeSpec)) ratioWholeUptoCard

/-- THE SECOND FORM's CARD OF 'pergolalaw2.RatioMins'. -/
def ratioMinsUptoCard : Claim7 := { stood := { row := ratioMinsUptoRow, standIns := [], harness := (true, "650f7ae4769d46f86d0c001d414a96f80e35b282e0baced803c854939f0a6860"), looks := true }, kinds := [], alts := [], laidByText := true, laidKinds := [.data, .data, .data], laidTests := true, laidLooks := .later }
def RatioMinsUptoCardSaid : Prop := Claim7.holds Tryd.pinned (.plain (OpenSpec.upto ratioMinsSpec)) ratioMinsUptoCard

/-- THE SECOND FORM's CARD OF 'pergolalaw2.RatioNears'. -/
def ratioNearsUptoCard : Claim7 := { stood := { row := ratioNearsUptoRow, standIns := [], harness := (true, "650f7ae4769d46f86d0c001d414a96f80e35b282e0baced803c854939f0a6860"), looks := true }, kinds := [], alts := [], laidByText := true, laidKinds := [.data, .data, .data], laidTests := true, laidLooks := .later }
def RatioNearsUptoCardSaid : Prop := Claim7.holds Tryd.pinned (.plain (OpenSpec.upto ratioNearsSpec)) ratioNearsUptoCard
end Rows
end Go.Proofs.YtffobfjjbcdbdaaDoor
