/- model: Same; awake; ModelNothing -/
import Derived.Test.YtpomllpplpalkaaGreatDoorWc
namespace Go.Proofs.YtpomllpplpalkaaGreatDoor
set_option linter.unusedVariables false
set_option linter.unusedSimpArgs false
open Go.ChangeShapes Go.WideShapes Go.ChangeAt Go.RowKit Go.Maps

theorem pts_one {w : World} {B : Nat} {x y : Int} (h0 : w.cell? ⟨B, 0, none⟩ = some (.int .i64 x)) (h1 : w.cell? ⟨B, 1, none⟩ = some (.int .i64 y)) : Pts w (.slice (some ⟨B, 0, none⟩) 1 1) 1 (fun _ => x) (fun _ => y) :=
  ⟨_, 1, B, 0, rfl, Nat.le_refl _, by decide, fun _ => rfl, fun q hq => by
    obtain rfl : q = 0 := by omega
    exact ⟨h0, h1⟩⟩
end Go.Proofs.YtpomllpplpalkaaGreatDoor
