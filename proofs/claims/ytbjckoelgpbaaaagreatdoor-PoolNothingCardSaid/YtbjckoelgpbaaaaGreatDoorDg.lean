/- disk: Crash -/
import Derived.Test.YtbjckoelgpbaaaaGreatDoorDf
namespace Go.Proofs.YtbjckoelgpbaaaaGreatDoor
set_option linter.unusedVariables false
set_option linter.unusedSimpArgs false
open Go.ChangeShapes Go.WideShapes Go.ChangeAt Go.RowKit Go.Maps

theorem row_take {w : World} {ad : Addr} {m c : Nat} {L : List UInt8} (h : Row w (.slice (some ad) m c) L) (k : Nat) (hk : k ≤ L.length) : Row w (.slice (some ad) k c) (L.take k) := by
  obtain ⟨ad', c', B, off, e, h1, h2, h3, h4⟩ := h
  cases e
  have hl : (L.take k).length = k := by rw [List.length_take]; omega
  refine ⟨some ad, c, B, off, by rw [hl], by omega, h2, fun h => h3 (by omega), fun j hj => ?_⟩
  rw [hl] at hj
  rw [h4 j (by omega), List.getElem_take]
theorem row_addr {w : World} {v : Value} {L : List UInt8} (h : Row w v L) (h0 : 0 < L.length) : ∃ B off c, v = .slice (some ⟨B, off, none⟩) L.length c ∧ L.length ≤ c ∧ (c : Int) ≤ 9223372036854775807 := by
  obtain ⟨ad, c, B, off, e, h1, h2, h3, h4⟩ := h
  exact ⟨B, off, c, by rw [e, h3 h0], h1, by omega⟩
theorem pAt_look {P : Program} {o : Oper} {a : Act} {w : World} (m x : Operand) (t : TypeId) (hop : o.op = Op.lookup t m x false)
    (k e : TypeId) (K : Keyed P k) (ht : P.underlying t = some (.map k e)) {z : Value} (hz : (zeroValue e).run P w = .ok z w) (b n : Nat) (D : DataW Value)
    (hm : a.eval m = .map (some b)) (hown : w.ownsMap P k heldE b n D) (key : Value) (kl : Lit) (hx : a.eval x = key) (hkey : keyOf P k key = some kl)
    (v : Value) (hv : ∀ z, D.atKey kl z = .held v) : Od.pAt P o a w v := by
  obtain ⟨v', ps, hrun, hr⟩ := hown.lookup K ht (zd := .held z) (zp := []) hz rfl hkey
  have e1 : (DataW.held v' : DataW Value) = .held v := by
    have := (Prod.mk.inj (Option.some.inj hr)).1
    rw [this]; exact hv _
  obtain rfl := DataW.held.inj e1
  unfold Od.pAt Oper.wp
  simp [execOp, hop, hm, hx, hrun, Result.andThen]
  rw [Oper.upon_value]
  exact ⟨rfl, rfl⟩
section
variable {p g bm : Nat} {M : Option Nat} {d : Dk}
theorem keep_facts (i L : Nat) (hL : 0 < L) (hb : L ≤ 1000000) : ∃ y : Nat, y = i % L ∧ y < L ∧ Int.tmod (i : Int) (L : Int) = (y : Nat) ∧ (L : Int) ≠ 0 ∧ ((L : Int) == 0) = false ∧ wrap64 (y : Int) = y ∧ IntKind.i64.wrap (y : Int) = y ∧ wrap64 (Int.tmod (i : Int) (L : Int)) = y ∧ IntKind.i64.wrap (Int.tmod (i : Int) (L : Int)) = y ∧ (y : Int) < (L : Int) ∧ (0 : Int) ≤ (y : Int) := by
  have hy : i % L < L := Nat.mod_lt _ hL
  have h1 : Int.tmod (i : Int) (L : Int) = ((i % L : Nat) : Int) := rfl
  generalize i % L = y at *
  have w4 : wrap64 (y : Int) = y := wr_small (by omega)
  have w5 : IntKind.i64.wrap (y : Int) = y := wk_small (by omega)
  exact ⟨y, rfl, hy, h1, by omega, by simp; omega, w4, w5, by rw [h1]; exact w4, by rw [h1]; exact w5, by omega, by omega⟩
theorem crG_succ (d : Dk) (f : Nat → Nat) (i : Nat) : crG d f (i + 1) = if f i = 0 then crG d f i else if f i = 1 then splice (crG d f i) (d.ord.getD i 0 * 64) ((d.F (d.ord.getD i 0)).take 32) else splice (crG d f i) (d.ord.getD i 0 * 64) (d.F (d.ord.getD i 0)) := rfl
end
end Go.Proofs.YtbjckoelgpbaaaaGreatDoor
