/- enc: numbers laid -/
import Derived.Test.YtldlpbfncgcimaaDoorK
import Derived.Test.YtldlpbfncgcimaaDoorG
import Derived.Test.YtldlpbfncgcimaaDoorEa
import Derived.Test.YtldlpbfncgcimaaDoorW
import Derived.Test.YtldlpbfncgcimaaDoorL
import Derived.Laws.Bits64b
import Derived.ArgAppend
import Derived.OwnWalk
import Derived.Laws.OwnMore
import Derived.Deep.LoopGhost
import Derived.Maps.AppendAt
namespace Go.Proofs.YtldlpbfncgcimaaDoor
set_option linter.unusedVariables false
open Go.ChangeShapes Go.WideShapes Go.ChangeAt Go.RowKit


/-- A byte, as it lies. -/
def bv (c : UInt8) : Value := .int .u8 (c.toNat : Int)
/-- A row of bytes that the call owns. -/
def Own (w : World) (base : Nat) (v : Value) (L : List UInt8) : Prop := w.ownsRow base 5 1 v L.length (L.map bv)
theorem own_row {w : World} {base : Nat} {v : Value} {L : List UInt8} (h : Own w base v L) (k : Nat) (hk : v.ownBlock = some k) : base ≤ k := by
  rcases h.2 with ⟨rfl, -⟩ | ⟨g, cap, cur, rfl, hb, -⟩
  · cases hk
  · simp [Value.ownBlock] at hk; omega
theorem bv_one (L : List UInt8) : ∀ u ∈ L.map bv, u.oneCell' = true := by
  intro u hu
  obtain ⟨x, -, rfl⟩ := List.mem_map.1 hu
  rfl
theorem or128 (v : Nat) (hv : Wd v) : bits BinOp.or IntKind.u8 (((v % 256 : Nat) : Int)) 128 = ((v % 128 + 128 : Nat) : Int) := by
  have e := (bits_nat .u8 8 (by decide) (fun n h0 h1 => wraps_u8 n h0 h1) (v % 256) 128 (by omega) (by omega)).2
  rw [Ec.byte_or] at e
  exact e
theorem wraps_u8' (y : Nat) : IntKind.u8.wrap (y : Int) = ((y % 256 : Nat) : Int) := by
  show ((y : Int)) % 256 = _
  omega
theorem byte_eq {x : Nat} (h : x < 256) : bv (UInt8.ofNat x) = .int .u8 (x : Int) := by
  unfold bv
  rw [UInt8.toNat_ofNat']
  congr 1
  omega
theorem own_nil (W : World) (base : Nat) : Own W base (.slice none 0 0) [] := World.ownsRow_nil _ _ _ _
end Go.Proofs.YtldlpbfncgcimaaDoor
