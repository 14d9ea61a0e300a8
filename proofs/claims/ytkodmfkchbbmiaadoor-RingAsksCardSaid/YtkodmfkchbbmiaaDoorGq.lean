/- RingMoves -/
import Derived.Test.YtkodmfkchbbmiaaDoorGl
import Derived.Test.YtkodmfkchbbmiaaDoorGe
import Derived.Test.YtkodmfkchbbmiaaDoorOd
import Derived.Test.YtkodmfkchbbmiaaDoorOp
import Derived.BigRegion
namespace Go.Proofs.YtkodmfkchbbmiaaDoor
set_option linter.unusedVariables false
set_option linter.unusedSimpArgs false
open Go.ChangeShapes Go.WideShapes Go.ChangeAt Go.RowKit

theorem c_AlIs_aerr {op : ByteArray} {v : Value} {id k : Nat} (W : World) (hE : ErrT W) (h : AErr op W v id k) : Calls Tryd.prog 16 #[v, .int .i64 k, .string op, .int .i64 id] W fun e w' => e = .returned (.bool true) ∧ Gr W w' := by
  rcases h with ⟨rfl, rfl⟩ | ⟨B, rfl, h1, h2, h3⟩
  · exact c_AlIs_nil op id W
  · exact c_AlIs_hit B op id k ⟨h1, h2⟩ W hE h3
theorem c_small5 (ad : Option Addr) (n cap : Nat) (W : World) : Calls Tryd.prog 11 #[.slice ad n cap] W fun e w' => e = .returned (.bool (decide (n ≤ 80))) ∧ Gr W w' := by
  go_enter Tryd.func11, Tryd.ntmps11
  go_wp2_with fail
  go_ret
  exact ⟨by simp; omega, by go_grown⟩
/-- What holds of the moved row. -/
def MovF (n : Nat) (X Y : Nat → Int) (x y : Int) (i : Nat) : Prop := ∀ k, k < i → nearB (X k) (Y k) = true ∧ nearB (X k + x) (Y k + y) = true
theorem movF_s {n : Nat} {X Y : Nat → Int} {x y : Int} {i : Nat} (h : MovF n X Y x y i) (h1 : nearB (X i) (Y i) = true) (h2 : nearB (X i + x) (Y i + y) = true) : MovF n X Y x y (i + 1) := fun k hk => by
  rcases Nat.lt_or_ge k i with c | c
  · exact h k c
  · obtain rfl : k = i := by omega
    exact ⟨h1, h2⟩
def PtAt (W : World) (x y : Int) (p : Value) (wx : World) : Prop := ∃ b : Nat, p = .pointer (some ⟨b, 0, none⟩) ∧ wx.cell? ⟨b, 0, none⟩ = some (.int .i64 x) ∧ wx.cell? ⟨b, 1, none⟩ = some (.int .i64 y) ∧ Gr W wx
end Go.Proofs.YtkodmfkchbbmiaaDoor
