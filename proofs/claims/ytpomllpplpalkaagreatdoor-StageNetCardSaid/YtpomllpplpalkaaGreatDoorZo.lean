/- the document's own MeetsBox and SegDist; SegmAsks -/
import Derived.Test.YtpomllpplpalkaaGreatDoorZd
import Derived.Test.YtpomllpplpalkaaGreatDoorPq
import Derived.Test.YtpomllpplpalkaaGreatDoorZa
import Derived.Deep.RegionWith
import Derived.BigRegion
import Derived.Test.YtpomllpplpalkaaGreatDoorZn
import Derived.Test.YtpomllpplpalkaaGreatDoorPa
import Derived.Test.YtpomllpplpalkaaGreatDoorH
namespace Go.Proofs.YtpomllpplpalkaaGreatDoor
set_option linter.unusedVariables false
open Go.ChangeShapes Go.WideShapes Go.ChangeAt Go.RowKit

theorem c_dot (ax ay bx by' px py : Int) (h1 : nearB ax ay = true) (h2 : nearB bx by' = true) (h3 : nearB px py = true) (W : World) :
    Calls Tryz.prog 135 #[.agg #[.int .i64 ax, .int .i64 ay], .agg #[.int .i64 bx, .int .i64 by'], .agg #[.int .i64 px, .int .i64 py]] W fun e w' => e = .returned (.int .i64 (alZ ax ay bx by' px py)) ∧ Gr W w' := by
  have n1 := nearB_iff.1 h1
  have n2 := nearB_iff.1 h2
  have n3 := nearB_iff.1 h3
  have m1 := mul_near (x := bx - ax) (y := px - ax) (by omega) (by omega)
  have m2 := mul_near (x := by' - ay) (y := py - ay) (by omega) (by omega)
  unfold alZ
  obtain ⟨p1, hp1⟩ : ∃ p, p = (bx - ax) * (px - ax) := ⟨_, rfl⟩
  obtain ⟨p2, hp2⟩ : ∃ p, p = (by' - ay) * (py - ay) := ⟨_, rfl⟩
  rw [← hp1] at m1
  rw [← hp2] at m2
  have e1 : wrap64 (bx - ax) = bx - ax := IntWalk.wrap64_in _ (by omega)
  have e2 : wrap64 (px - ax) = px - ax := IntWalk.wrap64_in _ (by omega)
  have e3 : wrap64 (by' - ay) = by' - ay := IntWalk.wrap64_in _ (by omega)
  have e4 : wrap64 (py - ay) = py - ay := IntWalk.wrap64_in _ (by omega)
  have e5 : wrap64 ((bx - ax) * (px - ax)) = p1 := by rw [← hp1]; exact IntWalk.wrap64_in _ (by omega)
  have e6 : wrap64 ((by' - ay) * (py - ay)) = p2 := by rw [← hp2]; exact IntWalk.wrap64_in _ (by omega)
  have e7 : wrap64 (p1 + p2) = p1 + p2 := IntWalk.wrap64_in _ (by omega)
  have f1 : IntKind.i64.wrap (bx - ax) = bx - ax := IntWalk.i64_in _ (by omega)
  have f2 : IntKind.i64.wrap (px - ax) = px - ax := IntWalk.i64_in _ (by omega)
  have f3 : IntKind.i64.wrap (by' - ay) = by' - ay := IntWalk.i64_in _ (by omega)
  have f4 : IntKind.i64.wrap (py - ay) = py - ay := IntWalk.i64_in _ (by omega)
  have f5 : IntKind.i64.wrap ((bx - ax) * (px - ax)) = p1 := by rw [← hp1]; exact IntWalk.i64_in _ (by omega)
  have f6 : IntKind.i64.wrap ((by' - ay) * (py - ay)) = p2 := by rw [← hp2]; exact IntWalk.i64_in _ (by omega)
  have f7 : IntKind.i64.wrap (p1 + p2) = p1 + p2 := IntWalk.i64_in _ (by omega)
  rw [← hp1, ← hp2]
  clear n1 n2 n3 h1 h2 h3 m1 m2 hp1 hp2
  go_enter Tryz.func135, Tryz.ntmps135
  go_wp2_with fail
  go_ret
  exact ⟨rfl, by go_grown⟩

end Go.Proofs.YtpomllpplpalkaaGreatDoor
