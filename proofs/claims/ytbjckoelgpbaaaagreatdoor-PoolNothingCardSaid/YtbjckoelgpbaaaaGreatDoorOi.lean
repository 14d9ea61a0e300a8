/- rows of ints and of flags that come in -/
import Derived.Test.YtbjckoelgpbaaaaGreatDoorRo
import Derived.Deep.Slices
import Derived.ChangeArms
namespace Go.Proofs.YtbjckoelgpbaaaaGreatDoor
set_option linter.unusedVariables false
open Go.ChangeShapes Go.WideShapes Go.ChangeAt Go.RowKit

/-- A row of ints. -/
def IntsR (w : World) (v : Value) (L : List Int) : Prop :=
  ∃ (ad : Option Addr) (cap B off : Nat), v = .slice ad L.length cap ∧ L.length ≤ cap ∧ cap ≤ 9223372036854775807 ∧ (0 < L.length → ad = some ⟨B, off, none⟩) ∧ (∀ j, j < L.length → w.cell? ⟨B, off + j, none⟩ = some (.int .i64 (L.getD j 0))) ∧ ∀ j, -9223372036854775808 ≤ L.getD j 0 ∧ L.getD j 0 ≤ 9223372036854775807
theorem intsR_gr {a b : World} {v : Value} {L : List Int} (h : IntsR a v L) (g : Gr a b) : IntsR b v L := by
  obtain ⟨ad, cap, B, off, e, h1, h2, h3, h4, h5⟩ := h
  exact ⟨ad, cap, B, off, e, h1, h2, h3, fun j hj => cell_gr g (h4 j hj), h5⟩
/-- A row of flags. -/
def Bools (w : World) (v : Value) (L : List Bool) : Prop :=
  ∃ (ad : Option Addr) (cap B off : Nat), v = .slice ad L.length cap ∧ L.length ≤ cap ∧ cap ≤ 9223372036854775807 ∧ (0 < L.length → ad = some ⟨B, off, none⟩) ∧ ∀ j, j < L.length → w.cell? ⟨B, off + j, none⟩ = some (.bool (L.getD j false))
theorem bools_gr {a b : World} {v : Value} {L : List Bool} (h : Bools a v L) (g : Gr a b) : Bools b v L := by
  obtain ⟨ad, cap, B, off, e, h1, h2, h3, h4⟩ := h
  exact ⟨ad, cap, B, off, e, h1, h2, h3, fun j hj => cell_gr g (h4 j hj)⟩
section
variable {H : Type} {enc : TypeId × Value → H} {P : Program} {w : World} {base : Nat} {sp : Nat → Bool} {held : Bool} {r : Reach} {b0 : Nat}
theorem addAt_oi (b off j : Nat) : (⟨b, off, none⟩ : Addr).add j = ⟨b, off + j, none⟩ := by unfold Addr.add; split <;> simp_all
theorem cells1_oi {b off : Nat} {x0 : Value} (h : w.cells? base ⟨b, off, none⟩ 1 = some [x0]) : w.cell? ⟨b, off, none⟩ = some x0 := by
  unfold World.cells? at h
  split at h
  · rw [show List.range 1 = [0] from rfl] at h
    simp only [List.mapM_cons, List.mapM_nil, addAt_oi] at h
    obtain ⟨y0, h0, h⟩ := Option.bind_eq_some_iff.1 h
    obtain ⟨t0, h, e0⟩ := Option.bind_eq_some_iff.1 h
    cases h
    cases e0
    exact h0
  · cases h
theorem slice_oi {t e : TypeId} {v : Value} (ht : P.underlying t = some (.slice e)) (hval : Value.okWide P w r b0 t v) : (v = .slice none 0 0) ∨ ∃ b off n c, v = .slice (some ⟨b, off, none⟩) n c ∧ n ≤ c ∧ c ≤ 9223372036854775807 := by
  simp only [Value.okWide, ht, Cell.okWide] at hval
  cases v <;> simp only [Cell.ok, ht] at hval <;> try exact hval.elim
  rename_i a n c
  cases a with
  | none =>
    left
    cases n <;> cases c <;> first | rfl | exact hval.elim
  | some a =>
    right
    obtain ⟨b, off, sp0⟩ := a
    have h3 : sp0 = none := hval.2.2.2.1
    subst h3
    have h2 : (c : Int) ≤ IntKind.i64.max := hval.2.1
    have : IntKind.i64.max = 9223372036854775807 := rfl
    exact ⟨b, off, n, c, rfl, hval.1, by omega⟩
theorem open_intsW {t e : TypeId} {v : Value} {d : DataW H} {ps : List MemPlace} (ht : P.underlying t = some (.slice e)) (he : P.underlying e = some (.int .i64)) (ce : P.cellsOf e = 1)
    (hval : Value.okWide P w r b0 t v) (hd : DataW.Trod enc P w base sp held t v d ps) : ∃ L, IntsR w v L := by
  rcases slice_oi ht hval with rfl | ⟨b, off, n, cap, rfl, h1, h2⟩
  · exact ⟨[], none, 0, 0, 0, rfl, Nat.le_refl _, by decide, fun h => absurd h (by simp), fun j hj => absurd hj (by simp), fun j => by simp⟩
  obtain ⟨fuel, hf⟩ := hd
  rcases Deep.open_slice ht hf with ⟨h, -⟩ | ⟨a, len, cap', m, q, D, Pl, hv, -, hl, -, hm, -, hel⟩
  · simp [Value.cells] at h
  · simp only [Value.cells, List.cons.injEq, Value.slice.injEq, Option.some.injEq, and_true] at hv
    obtain ⟨rfl, rfl, rfl⟩ := hv
    have hlm : n ≤ m := by rw [hm]; split <;> omega
    have key : ∀ k, k < n → ∃ z : Int, w.cell? ⟨b, off + k, none⟩ = some (.int .i64 z) ∧ (-9223372036854775808 ≤ z ∧ z ≤ 9223372036854775807) := fun k hk => by
      obtain ⟨cs', hc, htr⟩ := hel k (by omega)
      rw [ce, addAt_oi, Nat.mul_one] at hc
      obtain ⟨z, rfl, -, hw⟩ := DataW.trod_int he htr
      exact ⟨z, cells1_oi hc, bounds_i64 hw⟩
    refine ⟨List.ofFn fun i : Fin n => (key i.1 i.2).choose, some ⟨b, off, none⟩, cap, b, off, by simp, by simpa using h1, h2, fun _ => rfl, fun j hj => ?_, fun j => ?_⟩
    · have hj' : j < n := by simpa using hj
      rw [List.getD_eq_getElem?_getD, List.getElem?_ofFn]
      simp only [hj', dif_pos, Option.getD_some]
      exact (key j hj').choose_spec.1
    · rw [List.getD_eq_getElem?_getD, List.getElem?_ofFn]
      by_cases hj' : j < n
      · simp only [hj', dif_pos, Option.getD_some]
        exact (key j hj').choose_spec.2
      · simp only [hj', dif_neg, not_false_eq_true, Option.getD_none]
        decide
theorem open_boolsW {t e : TypeId} {v : Value} {d : DataW H} {ps : List MemPlace} (ht : P.underlying t = some (.slice e)) (he : P.underlying e = some .bool) (ce : P.cellsOf e = 1)
    (hval : Value.okWide P w r b0 t v) (hd : DataW.Trod enc P w base sp held t v d ps) : ∃ L, Bools w v L := by
  rcases slice_oi ht hval with rfl | ⟨b, off, n, cap, rfl, h1, h2⟩
  · exact ⟨[], none, 0, 0, 0, rfl, Nat.le_refl _, by decide, fun h => absurd h (by simp), fun j hj => absurd hj (by simp)⟩
  obtain ⟨fuel, hf⟩ := hd
  rcases Deep.open_slice ht hf with ⟨h, -⟩ | ⟨a, len, cap', m, q, D, Pl, hv, -, hl, -, hm, -, hel⟩
  · simp [Value.cells] at h
  · simp only [Value.cells, List.cons.injEq, Value.slice.injEq, Option.some.injEq, and_true] at hv
    obtain ⟨rfl, rfl, rfl⟩ := hv
    have hlm : n ≤ m := by rw [hm]; split <;> omega
    have key : ∀ k, k < n → ∃ z : Bool, w.cell? ⟨b, off + k, none⟩ = some (.bool z) := fun k hk => by
      obtain ⟨cs', hc, htr⟩ := hel k (by omega)
      rw [ce, addAt_oi, Nat.mul_one] at hc
      obtain ⟨z, rfl, -⟩ := DataW.trod_bool he htr
      exact ⟨z, cells1_oi hc⟩
    refine ⟨List.ofFn fun i : Fin n => (key i.1 i.2).choose, some ⟨b, off, none⟩, cap, b, off, by simp, by simpa using h1, h2, fun _ => rfl, fun j hj => ?_⟩
    have hj' : j < n := by simpa using hj
    rw [List.getD_eq_getElem?_getD, List.getElem?_ofFn]
    simp only [hj', dif_pos, Option.getD_some]
    exact (key j hj').choose_spec
end
end Go.Proofs.YtbjckoelgpbaaaaGreatDoor
