/- ring: Left, Has, Twice; what the document fixes -/
import Derived.Test.YtogflfepkddbhaaDoorGi
namespace Go.Proofs.YtogflfepkddbhaaDoor
set_option linter.unusedVariables false
open Go.ChangeShapes Go.WideShapes Go.ChangeAt Go.RowKit Go.Shelf

/-- Check, told apart. -/
theorem chk_ok {n : Nat} {X Y : Nat → Int} {v : Value} (W : World) (h : Pts W v n X Y) (h0 : (Rg.ringC n X Y).1 = 0) : ∀ w, Gr W w → Calls Tryd.prog 34 #[v] w fun e w' => e = .returned .nilIface ∧ Gr w w' := fun w g =>
  (c_ringCheck w (pts_gr h g)).mono fun e w' hh => by
    obtain ⟨x, rfl, hx, g2⟩ := hh
    rw [h0] at hx
    rcases hx with ⟨rfl, _⟩ | ⟨B, _, h1, _⟩
    · exact ⟨rfl, g2⟩
    · omega
theorem chk_no {n : Nat} {X Y : Nat → Int} {v : Value} (W : World) (h : Pts W v n X Y) (h0 : (Rg.ringC n X Y).1 ≠ 0) : ∀ w, Gr W w → Calls Tryd.prog 34 #[v] w fun e w' => (∃ B, e = .returned (.iface 72 (.pointer (some ⟨B, 0, none⟩)))) ∧ Gr w w' := fun w g =>
  (c_ringCheck w (pts_gr h g)).mono fun e w' hh => by
    obtain ⟨x, rfl, hx, g2⟩ := hh
    rcases hx with ⟨rfl, h1⟩ | ⟨B, rfl, h1, _⟩
    · exact absurd h1 h0
    · exact ⟨⟨B, rfl⟩, g2⟩
/-- Twice the area, as it is added up. -/
def sgZ (n : Nat) (X Y : Nat → Int) : Int := IntKind.i64.wrap (Rg.crS n X Y n)
def lfV (n : Nat) (X Y : Nat → Int) : Bool := decide ((Rg.ringC n X Y).1 = 0) && decide (0 < sgZ n X Y)
def hsV (n : Nat) (X Y : Nat → Int) (px py : Int) : Bool := decide ((Rg.ringC n X Y).1 = 0) && (nearB px py && Rg.hasN n X Y px py)
def twZ (n : Nat) (X Y : Nat → Int) : Int := if (Rg.ringC n X Y).1 = 0 then IntKind.u64.wrap (max (sgZ n X Y) (IntKind.i64.wrap (-(sgZ n X Y)))) else 0
end Go.Proofs.YtogflfepkddbhaaDoor
namespace Go.Proofs.YtogflfepkddbhaaDoor
set_option linter.unusedVariables false
open Go.ChangeShapes Go.WideShapes Go.ChangeAt Go.RowKit

theorem pts4 {w : World} {B : Nat} {X Y : Nat → Int} (h0 : w.cell? ⟨B, 0, none⟩ = some (.int .i64 (X 0))) (g0 : w.cell? ⟨B, 1, none⟩ = some (.int .i64 (Y 0))) (h1 : w.cell? ⟨B, 2, none⟩ = some (.int .i64 (X 1))) (g1 : w.cell? ⟨B, 3, none⟩ = some (.int .i64 (Y 1)))
    (h2 : w.cell? ⟨B, 4, none⟩ = some (.int .i64 (X 2))) (g2 : w.cell? ⟨B, 5, none⟩ = some (.int .i64 (Y 2))) (h3 : w.cell? ⟨B, 6, none⟩ = some (.int .i64 (X 3))) (g3 : w.cell? ⟨B, 7, none⟩ = some (.int .i64 (Y 3))) : Pts w (.slice (some ⟨B, 0, none⟩) 4 4) 4 X Y :=
  ⟨some ⟨B, 0, none⟩, 4, B, 0, rfl, Nat.le_refl _, by decide, fun _ => rfl, fun k hk => by
    match k, hk with
    | 0, _ => exact ⟨h0, g0⟩
    | 1, _ => exact ⟨h1, g1⟩
    | 2, _ => exact ⟨h2, g2⟩
    | 3, _ => exact ⟨h3, g3⟩
    | k + 4, h => exact absurd h (by omega)⟩
theorem pts3 {w : World} {B : Nat} {X Y : Nat → Int} (h0 : w.cell? ⟨B, 0, none⟩ = some (.int .i64 (X 0))) (g0 : w.cell? ⟨B, 1, none⟩ = some (.int .i64 (Y 0))) (h1 : w.cell? ⟨B, 2, none⟩ = some (.int .i64 (X 1))) (g1 : w.cell? ⟨B, 3, none⟩ = some (.int .i64 (Y 1)))
    (h2 : w.cell? ⟨B, 4, none⟩ = some (.int .i64 (X 2))) (g2 : w.cell? ⟨B, 5, none⟩ = some (.int .i64 (Y 2))) : Pts w (.slice (some ⟨B, 0, none⟩) 3 3) 3 X Y :=
  ⟨some ⟨B, 0, none⟩, 3, B, 0, rfl, Nat.le_refl _, by decide, fun _ => rfl, fun k hk => by
    match k, hk with
    | 0, _ => exact ⟨h0, g0⟩
    | 1, _ => exact ⟨h1, g1⟩
    | 2, _ => exact ⟨h2, g2⟩
    | k + 3, h => exact absurd h (by omega)⟩
/-- Check, where it refuses. -/
theorem chk_at {n k id : Nat} {X Y : Nat → Int} {v : Value} (w : World) (h : Pts w v n X Y) (e : Rg.ringC n X Y = (k, id)) (hk : k ≠ 0) : Calls Tryd.prog 34 #[v] w fun e w' => ∃ B, e = .returned (.iface 72 (.pointer (some ⟨B, 0, none⟩))) ∧ FaultAt w' B ringS id k ∧ Gr w w' :=
  (c_ringCheck w h).mono fun e' w' hh => by
    obtain ⟨x, rfl, hx, g2⟩ := hh
    rw [e] at hx
    rcases hx with ⟨rfl, h1⟩ | ⟨B, rfl, _, _, hF⟩
    · exact absurd h1 hk
    · exact ⟨B, rfl, hF, g2⟩
def bwX : Nat → Int | 0 => 0 | 1 => 2 | 2 => 2 | _ => 0
def bwY : Nat → Int | 0 => 0 | 1 => 2 | 2 => 0 | _ => 2
def trX : Nat → Int | 0 => 0 | 1 => 4 | _ => 0
def trY : Nat → Int | 0 => 0 | 1 => 0 | _ => 4
theorem bw_ring : Rg.ringC 4 bwX bwY = (4, 0) := by decide
theorem tr_ring : Rg.ringC 3 trX trY = (0, 0) := by decide
theorem tr_left : lfV 3 trX trY = true := by decide
theorem tr_has : hsV 3 trX trY 1 1 = true := by decide
theorem tr_twice : twZ 3 trX trY = 16 := by decide
end Go.Proofs.YtogflfepkddbhaaDoor
