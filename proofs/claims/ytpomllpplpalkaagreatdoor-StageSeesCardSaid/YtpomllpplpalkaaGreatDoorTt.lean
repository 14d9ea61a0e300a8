/- StageNet: the walk -/
import Derived.Test.YtpomllpplpalkaaGreatDoorTr
import Derived.Test.YtpomllpplpalkaaGreatDoorTs
namespace Go.Proofs.YtpomllpplpalkaaGreatDoor
set_option linter.unusedVariables false
set_option linter.unusedSimpArgs false
open Go.ChangeShapes Go.WideShapes Go.ChangeAt Go.RowKit Go.Maps

def stp (c : MChg) : CS := if c.kd = 2 then delC c.id else ⟨1, c.id, ⟨c.k, c.n, c.X, c.Y⟩⟩
theorem apC_of {G : List CS} {s : Int → Option MO} {c : CS} (h : doC true G s c = 0) : apc s c = 0 := by
  unfold doC at h
  rw [if_neg (by decide)] at h
  split at h
  · cases h
  · exact h
end Go.Proofs.YtpomllpplpalkaaGreatDoor
