/-
  DERIVED. GIVEN WITH THE SEED: THE CARDS: each row of YtapfecmdfoobcaaGreatDoorRows.lean that lists a variable, with what it lists TIED to the program's text (the seventh form; the later family's looks); each row that meets fmt, with fmt's text TOLD by the authors' own Lean function (tested against real Go, not proved from fmt's source: count such statements apart). THE CARD IS WHAT COUNTS. Prove the row's statement (the work); the ties are given (YtapfecmdfoobcaaGreatDoorTie.lean); close each card by the builder's one call (the guide's Derived/Test/ToyasCard.lean, 'card_holds'). Laid BY PROGRAM, IN A SANDBOX (cutbox-door.mjs). By AI agents, Wed Nov 11 2026. No macro, syntax, notation, axiom, sorry.
-/
import Derived.Test.YtapfecmdfoobcaaGreatDoorRows
import GoSem.ClaimSeven
namespace Go.Proofs.YtapfecmdfoobcaaGreatDoor
namespace Rows

/-- THE TIED CARD OF 'pergolalaw23.ModelCopies'. -/
def modelCopiesCard : Claim7 := { stood := { row := modelCopiesRow, standIns := [], harness := (true, "7316fd1cf41b14fdc473fb86c1fd48d55caeca1f20f3379703324cd44ac20492"), looks := true }, kinds := [], alts := [], laidByText := true, laidKinds := [.handle], laidTests := true, laidLooks := .later }
def ModelCopiesCardSaid : Prop := Claim7.holds Tryz.pinned (.plain (OpenSpec.ofChange modelCopiesSpec)) modelCopiesCard

/-- THE TIED CARD OF 'pergolalaw23.ModelMay'. -/
def modelMayCard : Claim7 := { stood := { row := modelMayRow, standIns := [], harness := (true, "7316fd1cf41b14fdc473fb86c1fd48d55caeca1f20f3379703324cd44ac20492"), looks := true }, kinds := [], alts := [], laidByText := true, laidKinds := [.handle], laidTests := true, laidLooks := .later }
def ModelMayCardSaid : Prop := Claim7.holds Tryz.pinned (.plain (OpenSpec.ofChange modelMaySpec)) modelMayCard

/-- THE SECOND FORM's CARD OF 'pergolalaw23.ModelCopies'. -/
def modelCopiesUptoCard : Claim7 := { stood := { row := modelCopiesUptoRow, standIns := [], harness := (true, "7316fd1cf41b14fdc473fb86c1fd48d55caeca1f20f3379703324cd44ac20492"), looks := true }, kinds := [], alts := [], laidByText := true, laidKinds := [.handle], laidTests := true, laidLooks := .later }
def ModelCopiesUptoCardSaid : Prop := Claim7.holds Tryz.pinned (.plain (OpenSpec.upto modelCopiesSpec)) modelCopiesUptoCard

/-- THE SECOND FORM's CARD OF 'pergolalaw23.ModelMay'. -/
def modelMayUptoCard : Claim7 := { stood := { row := modelMayUptoRow, standIns := [], harness := (true, "7316fd1cf41b14fdc473fb86c1fd48d55caeca1f20f3379703324cd44ac20492"), looks := true }, kinds := [], alts := [], laidByText := true, laidKinds := [.handle], laidTests := true, laidLooks := .later }
def ModelMayUptoCardSaid : Prop := Claim7.holds Tryz.pinned (.plain (OpenSpec.upto modelMaySpec)) modelMayUptoCard
end Rows
end Go.Proofs.YtapfecmdfoobcaaGreatDoor
