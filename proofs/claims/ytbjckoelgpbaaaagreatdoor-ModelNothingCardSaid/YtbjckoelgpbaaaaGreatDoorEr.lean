/- enc's reader -/
import Derived.Test.YtbjckoelgpbaaaaGreatDoorFi
import Derived.Test.YtbjckoelgpbaaaaGreatDoorOe
namespace Go.Proofs.YtbjckoelgpbaaaaGreatDoor.Ec
theorem uv_len (f : Nat → Nat) (n : Nat) : ∀ k i acc, (uv f n k i acc).2 ≤ n := by
  intro k
  induction k with
  | zero => intro i acc; exact Nat.zero_le _
  | succ k ih =>
    intro i acc
    by_cases hi : i < n
    · by_cases hb : (i = 9 ∧ 1 < f i) ∨ (0 < i ∧ f i = 0)
      · rw [uv_bad f n _ i acc hb]; exact Nat.zero_le _
      · by_cases hc : f i < 128
        · rw [uv_last f n k i acc hi hb hc]
          show i + 1 ≤ n
          omega
        · rw [uv_more f n k i acc hi hb hc]
          exact ih _ _
    · rw [uv_end f n _ i acc hi]; exact Nat.zero_le _
end Go.Proofs.YtbjckoelgpbaaaaGreatDoor.Ec
namespace Go.Proofs.YtbjckoelgpbaaaaGreatDoor
set_option linter.unusedVariables false
set_option linter.unusedSimpArgs false
open Go.ChangeShapes Go.WideShapes Go.ChangeAt Go.RowKit

/-- The number that a row has at a place, and its bytes. -/
def rd (L : List UInt8) (a : Nat) : Nat × Nat := uL (L.drop a)
theorem rd_wd (L : List UInt8) (a : Nat) : Wd (rd L a).1 ∧ (rd L a).2 ≤ 10 ∧ ((rd L a).2 = 0 → (rd L a).1 = 0) := uL_wd _
theorem rd_len {L : List UInt8} {a : Nat} (h : a ≤ L.length) : a + (rd L a).2 ≤ L.length := by
  have := Ec.uv_len (rb (L.drop a)) (L.drop a).length 10 0 0
  have e : (rd L a).2 ≤ (L.drop a).length := this
  rw [List.length_drop] at e
  omega
/-- A reader: its bytes, where it is, and whether it is spoilt. -/
def Rdr (w : World) (B : Nat) (v : Value) (a : Nat) (s : Bool) : Prop := w.cell? ⟨B, 0, none⟩ = some v ∧ w.cell? ⟨B, 1, none⟩ = some (.int .i64 a) ∧ w.cell? ⟨B, 2, none⟩ = some (.bool s) ∧ w.frozen? ⟨B, 1, none⟩ = false ∧ w.frozen? ⟨B, 2, none⟩ = false
theorem rdr_gr {a b : World} {B : Nat} {v : Value} {n : Nat} {s : Bool} (h : Rdr a B v n s) (g : Gr a b) : Rdr b B v n s :=
  ⟨cell_gr g h.1, cell_gr g h.2.1, cell_gr g h.2.2.1, frozen_gr g h.2.1 h.2.2.2.1, frozen_gr g h.2.2.1 h.2.2.2.2⟩
abbrev onB (B : Nat) : Nat → Prop := fun k => k = B
def RdTo (W : World) (B : Nat) (v : Value) (a : Nat) (s : Bool) (r : Value) (e : Ending) (w' : World) : Prop := e = .returned r ∧ Rdr w' B v a s ∧ Kx (onB B) W w'
/-- What num makes of the reader, and what it answers. -/
def nmS (L : List UInt8) (a : Nat) (s : Bool) (lim : Nat) : Bool := s || decide ((rd L a).2 = 0) || decide (lim < (rd L a).1)
def nmV (L : List UInt8) (a : Nat) (s : Bool) (lim : Nat) : Nat := if nmS L a s lim then 0 else (rd L a).1
end Go.Proofs.YtbjckoelgpbaaaaGreatDoor
