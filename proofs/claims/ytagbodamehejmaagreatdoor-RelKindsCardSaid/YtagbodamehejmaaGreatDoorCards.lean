/-
  DERIVED. GIVEN WITH THE SEED: THE CARDS: each row of YtagbodamehejmaaGreatDoorRows.lean that lists a variable, with what it lists TIED to the program's text (the seventh form; the later family's looks); each row that meets fmt, with fmt's text TOLD by the authors' own Lean function (tested against real Go, not proved from fmt's source: count such statements apart). THE CARD IS WHAT COUNTS. Prove the row's statement (the work); the ties are given (YtagbodamehejmaaGreatDoorTie.lean); close each card by the builder's one call (the guide's Derived/Test/ToyasCard.lean, 'card_holds'). Laid BY PROGRAM, IN A SANDBOX (cutbox-door.mjs). By AI agents, Wed Nov 11 2026. No macro, syntax, notation, axiom, sorry.
-/
import Derived.Test.YtagbodamehejmaaGreatDoorRows
import GoSem.ClaimSeven
namespace Go.Proofs.YtagbodamehejmaaGreatDoor
namespace Rows

/-- THE TIED CARD OF 'pergolalaw6.RelKinds'. -/
def relKindsCard : Claim7 := { stood := { row := relKindsRow, standIns := [], harness := (true, "c6c66eb637b16ec43f5771f781c8caf3663c3b35c585e2c02631bd044a150adb"), looks := true }, kinds := [], alts := [], laidByText := true, laidKinds := [.handle], laidTests := true, laidLooks := .later }
def RelKindsCardSaid : Prop := Claim7.holds Tryz.pinned (.plain (OpenSpec.ofChange relKindsSpec)) relKindsCard

/-- THE SECOND FORM's CARD OF 'pergolalaw6.RelKinds'. -/
def relKindsUptoCard : Claim7 := { stood := { row := relKindsUptoRow, standIns := [], harness := (true, "c6c66eb637b16ec43f5771f781c8caf3663c3b35c585e2c02631bd044a150adb"), looks := true }, kinds := [], alts := [], laidByText := true, laidKinds := [.handle], laidTests := true, laidLooks := .later }
def RelKindsUptoCardSaid : Prop := Claim7.holds Tryz.pinned (.plain (OpenSpec.upto relKindsSpec)) relKindsUptoCard
end Rows
end Go.Proofs.YtagbodamehejmaaGreatDoor
