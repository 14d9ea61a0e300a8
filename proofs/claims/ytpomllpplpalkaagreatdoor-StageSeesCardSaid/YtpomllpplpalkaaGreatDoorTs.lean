/- StageNet: what all changes make, and the net ones; Same of two maps that are alike -/
import Derived.Test.YtpomllpplpalkaaGreatDoorTj
namespace Go.Proofs.YtpomllpplpalkaaGreatDoor
set_option linter.unusedVariables false
set_option linter.unusedSimpArgs false
open Go.ChangeShapes Go.WideShapes Go.ChangeAt Go.RowKit Go.Maps Go.Sort

def apc (s : Int → Option MO) (c : CS) : Nat := apN s c.kd c.id c.o.k c.o.n c.o.X c.o.Y
def aps (s : Int → Option MO) (c : CS) : Int → Option MO := apS s c.kd c.id c.o.k c.o.n c.o.X c.o.Y
def apL : (Int → Option MO) → List CS → Int → Option MO
  | s, [] => s
  | s, c :: G => apL (aps s c) G
def OkL : (Int → Option MO) → List CS → Prop
  | _, [] => True
  | s, c :: G => apc s c = 0 ∧ OkL (aps s c) G
theorem apL_app : ∀ (s : Int → Option MO) (G H : List CS), apL s (G ++ H) = apL (apL s G) H
  | _, [], _ => rfl
  | s, c :: G, H => apL_app (aps s c) G H
theorem okL_app : ∀ (s : Int → Option MO) (G H : List CS), OkL s (G ++ H) ↔ OkL s G ∧ OkL (apL s G) H
  | s, [], H => by show OkL s H ↔ True ∧ OkL s H; simp
  | s, c :: G, H => by show (apc s c = 0 ∧ OkL (aps s c) (G ++ H)) ↔ (apc s c = 0 ∧ OkL (aps s c) G) ∧ OkL (apL (aps s c) G) H; rw [okL_app (aps s c) G H, and_assoc]
end Go.Proofs.YtpomllpplpalkaaGreatDoor
