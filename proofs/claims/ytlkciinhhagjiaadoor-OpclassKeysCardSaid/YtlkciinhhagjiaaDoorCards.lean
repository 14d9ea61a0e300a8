/-
  DERIVED. GIVEN WITH THE SEED: THE CARDS: each row of YtlkciinhhagjiaaDoorRows.lean that lists a variable, with what it lists TIED to the program's text (the seventh form; the later family's looks); each row that meets fmt, with fmt's text TOLD by the authors' own Lean function (tested against real Go, not proved from fmt's source: count such statements apart). THE CARD IS WHAT COUNTS. Prove the row's statement (the work); the ties are given (YtlkciinhhagjiaaDoorTie.lean); close each card by the builder's one call (the guide's Derived/Test/ToyasCard.lean, 'card_holds'). Laid BY PROGRAM, IN A SANDBOX (cutbox-door.mjs). By AI agents, Wed Nov 11 2026. No macro, syntax, notation, axiom, sorry.
-/
import Derived.Test.YtlkciinhhagjiaaDoorRows
import GoSem.ClaimSeven
namespace Go.Proofs.YtlkciinhhagjiaaDoor
namespace Rows

/-- THE TIED CARD OF 'pergolalaw6.RelChecks'. -/
def relChecksCard : Claim7 := { stood := { row := relChecksRow, standIns := [], harness := (true, "52669d25a8d0fdb5696362212f774222910c164c6cc41f47cb8f72b21be0220e"), looks := true }, kinds := [], alts := [], laidByText := true, laidKinds := [.handle], laidTests := true, laidLooks := .later }
def RelChecksCardSaid : Prop := Claim7.holds Tryd.pinned (.plain (OpenSpec.ofChange relChecksSpec)) relChecksCard

/-- THE TIED CARD OF 'pergolalaw10.DiskCuts'. -/
def diskCutsCard : Claim7 := { stood := { row := diskCutsRow, standIns := [], harness := (true, "52669d25a8d0fdb5696362212f774222910c164c6cc41f47cb8f72b21be0220e"), looks := true }, kinds := [], alts := [], laidByText := true, laidKinds := [.handle], laidTests := true, laidLooks := .later }
def DiskCutsCardSaid : Prop := Claim7.holds Tryd.pinned (.plain (OpenSpec.ofChange diskCutsSpec)) diskCutsCard

/-- THE TIED CARD OF 'pergolalaw11.SlotsNothing'. -/
def slotsNothingCard : Claim7 := { stood := { row := slotsNothingRow, standIns := [], harness := (true, "52669d25a8d0fdb5696362212f774222910c164c6cc41f47cb8f72b21be0220e"), looks := true }, kinds := [], alts := [], laidByText := true, laidKinds := [.data], laidTests := true, laidLooks := .later }
def SlotsNothingCardSaid : Prop := Claim7.holds Tryd.pinned (.plain (OpenSpec.ofChange slotsNothingSpec)) slotsNothingCard

/-- THE TIED CARD OF 'pergolalaw16.OpclassKeys'. -/
def opclassKeysCard : Claim7 := { stood := { row := opclassKeysRow, standIns := [], harness := (true, "52669d25a8d0fdb5696362212f774222910c164c6cc41f47cb8f72b21be0220e"), looks := true }, kinds := [], alts := [], laidByText := true, laidKinds := [.handle], laidTests := true, laidLooks := .later }
def OpclassKeysCardSaid : Prop := Claim7.holds Tryd.pinned (.plain (OpenSpec.ofChange opclassKeysSpec)) opclassKeysCard

/-- THE SECOND FORM's CARD OF 'pergolalaw6.RelChecks'. -/
def relChecksUptoCard : Claim7 := { stood := { row := relChecksUptoRow, standIns := [], harness := (true, "52669d25a8d0fdb5696362212f774222910c164c6cc41f47cb8f72b21be0220e"), looks := true }, kinds := [], alts := [], laidByText := true, laidKinds := [.handle], laidTests := true, laidLooks := .later }
def RelChecksUptoCardSaid : Prop := Claim7.holds Tryd.pinned (.plain (OpenSpec.upto relChecksSpec)) relChecksUptoCard

/-- THE SECOND FORM's CARD OF 'pergolalaw10.DiskCuts'. -/
def diskCutsUptoCard : Claim7 := { stood := { row := diskCutsUptoRow, standIns := [], harness := (true, "52669d25a8d0fdb5696362212f774222910c164c6cc41f47cb8f72b21be0220e"), looks := true }, kinds := [], alts := [], laidByText := true, laidKinds := [.handle], laidTests := true, laidLooks := .later }
def DiskCutsUptoCardSaid : Prop := Claim7.holds Tryd.pinned (.plain (OpenSpec.upto diskCutsSpec)) diskCutsUptoCard

/-- THE SECOND FORM's CARD OF 'pergolalaw11.SlotsNothing'. -/
def slotsNothingUptoCard : Claim7 := { stood := { row := slotsNothingUptoRow, standIns := [], harness := (true, "52669d25a8d0fdb5696362212f774222910c164c6cc41f47cb8f72b21be0220e"), looks := true }, kinds := [], alts := [], laidByText := true, laidKinds := [.data], laidTests := true, laidLooks := .later }
def SlotsNothingUptoCardSaid : Prop := Claim7.holds Tryd.pinned (.plain (OpenSpec.upto slotsNothingSpec)) slotsNothingUptoCard

/-- THE SECOND FORM's CARD OF 'pergolalaw16.OpclassKeys'. -/
def opclassKeysUptoCard : Claim7 := { stood := { row := opclassKeysUptoRow, standIns := [], harness := (true, "52669d25a8d0fdb5696362212f774222910c164c6cc41f47cb8f72b21be0220e"), looks := true }, kinds := [], alts := [], laidByText := true, laidKinds := [.handle], laidTests := true, laidLooks := .later }
def OpclassKeysUptoCardSaid : Prop := Claim7.holds Tryd.pinned (.plain (OpenSpec.upto opclassKeysSpec)) opclassKeysUptoCard
end Rows
end Go.Proofs.YtlkciinhhagjiaaDoor
