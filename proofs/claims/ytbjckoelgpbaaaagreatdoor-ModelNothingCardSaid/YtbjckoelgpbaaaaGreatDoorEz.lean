/- EncObjects: the walk -/
import Derived.Test.YtbjckoelgpbaaaaGreatDoorEy
namespace Go.Proofs.YtbjckoelgpbaaaaGreatDoor
set_option linter.unusedVariables false
set_option linter.unusedSimpArgs false
open Go.ChangeShapes Go.WideShapes Go.ChangeAt Go.RowKit

theorem objR_len (k : Int) (n : Nat) (X Y : Nat → Int) : (objR k n X Y).length ≤ 1320 := by
  unfold objR
  split
  · rename_i h; exact objB_len h
  · simp
end Go.Proofs.YtbjckoelgpbaaaaGreatDoor
