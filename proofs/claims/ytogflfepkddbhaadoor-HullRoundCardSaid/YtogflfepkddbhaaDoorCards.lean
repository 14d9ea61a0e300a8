/-
  DERIVED. GIVEN WITH THE SEED: THE CARDS: each row of YtogflfepkddbhaaDoorRows.lean that lists a variable, with what it lists TIED to the program's text (the seventh form; the later family's looks); each row that meets fmt, with fmt's text TOLD by the authors' own Lean function (tested against real Go, not proved from fmt's source: count such statements apart). THE CARD IS WHAT COUNTS. Prove the row's statement (the work); the ties are given (YtogflfepkddbhaaDoorTie.lean); close each card by the builder's one call (the guide's Derived/Test/ToyasCard.lean, 'card_holds'). Laid BY PROGRAM, IN A SANDBOX (cutbox-door.mjs). By AI agents, Wed Nov 11 2026. No macro, syntax, notation, axiom, sorry.
-/
import Derived.Test.YtogflfepkddbhaaDoorRows
import GoSem.ClaimSeven
namespace Go.Proofs.YtogflfepkddbhaaDoor
namespace Rows

/-- THE TIED CARD OF 'pergolalaw21.HullRound'. -/
def hullRoundCard : Claim7 := { stood := { row := hullRoundRow, standIns := [], harness := (true, "2b093a538d10efb7de88d8cfc76f02046b3201894e343ceec324bd8bcd6f4147"), looks := true }, kinds := [], alts := [], laidByText := true, laidKinds := [.handle], laidTests := true, laidLooks := .later }
def HullRoundCardSaid : Prop := Claim7.holds Tryd.pinned (.plain (OpenSpec.ofChange hullRoundSpec)) hullRoundCard

/-- THE TIED CARD OF 'pergolalaw21.HullTurns'. -/
def hullTurnsCard : Claim7 := { stood := { row := hullTurnsRow, standIns := [], harness := (true, "2b093a538d10efb7de88d8cfc76f02046b3201894e343ceec324bd8bcd6f4147"), looks := true }, kinds := [], alts := [], laidByText := true, laidKinds := [.handle], laidTests := true, laidLooks := .later }
def HullTurnsCardSaid : Prop := Claim7.holds Tryd.pinned (.plain (OpenSpec.ofChange hullTurnsSpec)) hullTurnsCard

/-- THE TIED CARD OF 'pergolalaw21.HullBoxes'. -/
def hullBoxesCard : Claim7 := { stood := { row := hullBoxesRow, standIns := [], harness := (true, "2b093a538d10efb7de88d8cfc76f02046b3201894e343ceec324bd8bcd6f4147"), looks := true }, kinds := [], alts := [], laidByText := true, laidKinds := [.handle], laidTests := true, laidLooks := .later }
def HullBoxesCardSaid : Prop := Claim7.holds Tryd.pinned (.plain (OpenSpec.ofChange hullBoxesSpec)) hullBoxesCard

/-- THE TIED CARD OF 'pergolalaw21.HullClose'. -/
def hullCloseCard : Claim7 := { stood := { row := hullCloseRow, standIns := [], harness := (true, "2b093a538d10efb7de88d8cfc76f02046b3201894e343ceec324bd8bcd6f4147"), looks := true }, kinds := [], alts := [], laidByText := true, laidKinds := [.handle], laidTests := true, laidLooks := .later }
def HullCloseCardSaid : Prop := Claim7.holds Tryd.pinned (.plain (OpenSpec.ofChange hullCloseSpec)) hullCloseCard

/-- THE SECOND FORM's CARD OF 'pergolalaw21.HullRound'. -/
def hullRoundUptoCard : Claim7 := { stood := { row := hullRoundUptoRow, standIns := [], harness := (true, "2b093a538d10efb7de88d8cfc76f02046b3201894e343ceec324bd8bcd6f4147"), looks := true }, kinds := [], alts := [], laidByText := true, laidKinds := [.handle], laidTests := true, laidLooks := .later }
def HullRoundUptoCardSaid : Prop := Claim7.holds Tryd.pinned (.plain (OpenSpec.upto hullRoundSpec)) hullRoundUptoCard

/-- THE SECOND FORM's CARD OF 'pergolalaw21.HullTurns'. -/
def hullTurnsUptoCard : Claim7 := { stood := { row := hullTurnsUptoRow, standIns := [], harness := (true, "2b093a538d10efb7de88d8cfc76f02046b3201894e343ceec324bd8bcd6f4147"), looks := true }, kinds := [], alts := [], laidByText := true, laidKinds := [.handle], laidTests := true, laidLooks := .later }
def HullTurnsUptoCardSaid : Prop := Claim7.holds Tryd.pinned (.plain (OpenSpec.upto hullTurnsSpec)) hullTurnsUptoCard

/-- THE SECOND FORM's CARD OF 'pergolalaw21.HullBoxes'. -/
def hullBoxesUptoCard : Claim7 := { stood := { row := hullBoxesUptoRow, standIns := [], harness := (true, "2b093a538d10efb7de88d8cfc76f02046b3201894e343ceec324bd8bcd6f4147"), looks := true }, kinds := [], alts := [], laidByText := true, laidKinds := [.handle], laidTests := true, laidLooks := .later }
def HullBoxesUptoCardSaid : Prop := Claim7.holds Tryd.pinned (.plain (OpenSpec.upto hullBoxesSpec)) hullBoxesUptoCard

/-- THE SECOND FORM's CARD OF 'pergolalaw21.HullClose'. -/
def hullCloseUptoCard : Claim7 := { stood := { row := hullCloseUptoRow, standIns := [], harness := (true, "2b093a538d10efb7de88d8cfc76f02046b3201894e343ceec324bd8bcd6f4147"), looks := true }, kinds := [], alts := [], laidByText := true, laidKinds := [.handle], laidTests := true, laidLooks := .later }
def HullCloseUptoCardSaid : Prop := Claim7.holds Tryd.pinned (.plain (OpenSpec.upto hullCloseSpec)) hullCloseUptoCard
end Rows
end Go.Proofs.YtogflfepkddbhaaDoor
