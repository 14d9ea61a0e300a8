/- enc.Unobject -/
import Derived.Test.YtpomllpplpalkaaGreatDoorEu
import Derived.Test.YtpomllpplpalkaaGreatDoorEa
import Derived.Test.YtpomllpplpalkaaGreatDoorOe
import Derived.Test.YtpomllpplpalkaaGreatDoorGc
import Derived.WalkSmall
import Derived.RegionTactic
import Derived.BigRegion
namespace Go.Proofs.YtpomllpplpalkaaGreatDoor
set_option linter.unusedVariables false
set_option linter.unusedSimpArgs false
open Go.ChangeShapes Go.WideShapes Go.ChangeAt Go.RowKit

/-! ### the points that bytes read as -/
def New (W : World) (v : Value) : Prop := ∀ (ad : Addr) (m c : Nat), v = .slice (some ad) m c → W.heap.size ≤ ad.block
theorem new_of_own {W w : World} {base n size : Nat} {e : TypeId} {v : Value} {xs : List Value} (h : w.ownsRow base e size v n xs) (hb : W.heap.size ≤ base) : New W v := fun ad m c e => by
  subst e
  have := (World.ownsRow.lt h ad.block rfl).1
  omega
end Go.Proofs.YtpomllpplpalkaaGreatDoor
