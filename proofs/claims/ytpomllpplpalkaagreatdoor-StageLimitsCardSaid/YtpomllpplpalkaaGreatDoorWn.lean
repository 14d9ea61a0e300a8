/- model: a row of changes that comes in; which are looked at -/
import Derived.Test.YtpomllpplpalkaaGreatDoorWm
import Derived.Test.YtpomllpplpalkaaGreatDoorCp
import Derived.Test.YtpomllpplpalkaaGreatDoorGc
import Derived.Test.YtpomllpplpalkaaGreatDoorEq
import Derived.Lib.SmallJoins
import Derived.Test.YtpomllpplpalkaaGreatDoorRo
import Derived.Deep.Slices
import Derived.ChangeArms
namespace Go.Proofs.YtpomllpplpalkaaGreatDoor
set_option linter.unusedVariables false
set_option linter.unusedSimpArgs false
open Go.ChangeShapes Go.WideShapes Go.ChangeAt Go.RowKit Go.Maps

structure MChg where
  kd : Int
  id : Int
  k : Int
  v : Value
  n : Nat
  X : Nat → Int
  Y : Nat → Int


end Go.Proofs.YtpomllpplpalkaaGreatDoor
