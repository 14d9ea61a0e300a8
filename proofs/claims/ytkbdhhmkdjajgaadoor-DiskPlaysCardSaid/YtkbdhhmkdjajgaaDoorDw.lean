/- rows of steps of three ints and a row of bools that come in -/
import Derived.Test.YtkbdhhmkdjajgaaDoorOi
import Derived.Deep.Strs
namespace Go.Proofs.YtkbdhhmkdjajgaaDoor
set_option linter.unusedVariables false
set_option linter.unusedSimpArgs false
open Go.ChangeShapes Go.WideShapes Go.ChangeAt Go.RowKit

/-- A row of steps: three ints, and a row of bools. -/
def Steps10 (w : World) (v : Value) (n : Nat) (A E D : Nat → Int) (kv : Nat → Value) (K : Nat → List Bool) : Prop :=
  ∃ (ad : Option Addr) (cap b off : Nat), v = .slice ad n cap ∧ n ≤ cap ∧ (cap : Int) ≤ 9223372036854775807 ∧ (0 < n → ad = some ⟨b, off, none⟩) ∧
    (∀ k, k < n → w.cell? ⟨b, off + k * 4, none⟩ = some (.int .i64 (A k)) ∧ w.cell? ⟨b, off + k * 4 + 1, none⟩ = some (.int .i64 (E k)) ∧ w.cell? ⟨b, off + k * 4 + 2, none⟩ = some (.int .i64 (D k)) ∧ w.cell? ⟨b, off + k * 4 + 3, none⟩ = some (kv k) ∧ Bools w (kv k) (K k)) ∧
    ∀ k, (-9223372036854775808 ≤ A k ∧ A k ≤ 9223372036854775807) ∧ (-9223372036854775808 ≤ E k ∧ E k ≤ 9223372036854775807) ∧ (-9223372036854775808 ≤ D k ∧ D k ≤ 9223372036854775807)
section
variable {H : Type} {enc : TypeId × Value → H} {P : Program} {w : World} {base : Nat} {sp : Nat → Bool} {held : Bool} {r : Reach} {b0 : Nat}
theorem spot_cellD {a : Addr} {v : Value} (h : w.cell? a = some v) : a.spot = none := by
  unfold World.cell? at h
  split at h
  · split at h <;> simp_all
  · cases h
theorem cells1D {a : Addr} {x0 : Value} (h : w.cells? base a 1 = some [x0]) : w.cell? (a.add 0) = some x0 := by
  unfold World.cells? at h
  split at h
  · rw [show List.range 1 = [0] from rfl] at h
    simp only [List.mapM_cons, List.mapM_nil] at h
    obtain ⟨y0, h0, h⟩ := Option.bind_eq_some_iff.1 h
    obtain ⟨t0, h, e0⟩ := Option.bind_eq_some_iff.1 h
    cases h; cases e0
    exact h0
  · cases h
theorem cells4D {b off : Nat} {x0 x1 x2 x3 : Value} (h : w.cells? base ⟨b, off, none⟩ 4 = some [x0, x1, x2, x3]) : w.cell? ⟨b, off, none⟩ = some x0 ∧ w.cell? ⟨b, off + 1, none⟩ = some x1 ∧ w.cell? ⟨b, off + 2, none⟩ = some x2 ∧ w.cell? ⟨b, off + 3, none⟩ = some x3 := by
  unfold World.cells? at h
  split at h
  · rw [show List.range 4 = [0, 1, 2, 3] from rfl] at h
    simp only [List.mapM_cons, List.mapM_nil, addAt_oi] at h
    obtain ⟨y0, h0, h⟩ := Option.bind_eq_some_iff.1 h
    obtain ⟨t0, h, e0⟩ := Option.bind_eq_some_iff.1 h
    obtain ⟨y1, h1, h⟩ := Option.bind_eq_some_iff.1 h
    obtain ⟨t1, h, e1⟩ := Option.bind_eq_some_iff.1 h
    obtain ⟨y2, h2, h⟩ := Option.bind_eq_some_iff.1 h
    obtain ⟨t2, h, e2⟩ := Option.bind_eq_some_iff.1 h
    obtain ⟨y3, h3, h⟩ := Option.bind_eq_some_iff.1 h
    obtain ⟨t3, h, e3⟩ := Option.bind_eq_some_iff.1 h
    cases h; cases e3; cases e2; cases e1; cases e0
    exact ⟨h0, h1, h2, h3⟩
  · cases h
theorem trod_struct4 {t : TypeId} {f0 f1 f2 f3 : Field} {fuel : Nat} {cs : List Value} {x : DataW H × List MemPlace} (ht : P.underlying t = some (.struct #[f0, f1, f2, f3])) (h : DataW.trod enc P w base sp held fuel t cs = some x) :
    ∃ y0 y1 y2 y3 n, cs.length = P.cellsOf t ∧ DataW.trod enc P w base sp held n f0.type ((cs.drop f0.offset).take (P.cellsOf f0.type)) = some y0 ∧
      DataW.trod enc P w base sp held n f1.type ((cs.drop f1.offset).take (P.cellsOf f1.type)) = some y1 ∧ DataW.trod enc P w base sp held n f2.type ((cs.drop f2.offset).take (P.cellsOf f2.type)) = some y2 ∧ DataW.trod enc P w base sp held n f3.type ((cs.drop f3.offset).take (P.cellsOf f3.type)) = some y3 := by
  obtain ⟨xs, n, _, rfl, hl, hlen, hf⟩ := DataW.trod_struct ht h
  match xs, hlen with
  | [y0, y1, y2, y3], _ => exact ⟨y0, y1, y2, y3, n, hl, by simpa using hf 0 f0 rfl, by simpa using hf 1 f1 rfl, by simpa using hf 2 f2 rfl, by simpa using hf 3 f3 rfl⟩
theorem trod_boolsC {t e : TypeId} {x : Value} {fuel : Nat} {y : DataW H × List MemPlace} (ht : P.underlying t = some (.slice e)) (he : P.underlying e = some .bool) (ce : P.cellsOf e = 1)
    (hd : DataW.trod enc P w base sp held fuel t [x] = some y) : ∃ L, Bools w x L := by
  rcases Deep.open_slice ht hd with ⟨h, -⟩ | ⟨a, n, cap, m, q, D, Pl, hv, -, hl, hcap, hm, -, hel⟩
  · simp only [List.cons.injEq, and_true] at h
    subst h
    exact ⟨[], none, 0, 0, 0, rfl, Nat.le_refl _, by decide, fun h => absurd h (by simp), fun j hj => absurd hj (by simp)⟩
  · simp only [List.cons.injEq, and_true] at hv
    subst hv
    have hlm : n ≤ m := by rw [hm]; split <;> omega
    have hcap' : cap ≤ 9223372036854775807 := by unfold maxLen at hcap; omega
    obtain ⟨b, off, s⟩ := a
    have key : ∀ k, k < n → ∃ z : Bool, w.cell? (((⟨b, off, s⟩ : Addr).add (k * 1)).add 0) = some (.bool z) := fun k hk => by
      obtain ⟨cs', hc, htr⟩ := hel k (by omega)
      rw [ce] at hc
      obtain ⟨z, rfl, -⟩ := DataW.trod_bool he htr
      exact ⟨z, cells1D hc⟩
    by_cases h0 : n = 0
    · subst h0
      exact ⟨[], some ⟨b, off, s⟩, cap, b, off, rfl, Nat.zero_le _, by omega, fun h => absurd h (by simp), fun j hj => absurd hj (by simp)⟩
    · have hs : s = none := by
        obtain ⟨z, hz⟩ := key 0 (by omega)
        have := spot_cellD hz
        unfold Addr.add at this
        (repeat' split at this) <;> simp_all
      subst hs
      have key2 : ∀ k, k < n → ∃ z : Bool, w.cell? ⟨b, off + k, none⟩ = some (.bool z) := fun k hk => by
        obtain ⟨z, h0⟩ := key k hk
        rw [addAt_oi, addAt_oi, Nat.mul_one, Nat.add_zero] at h0
        exact ⟨z, h0⟩
      refine ⟨List.ofFn fun i : Fin n => (key2 i.1 i.2).choose, some ⟨b, off, none⟩, cap, b, off, by simp, by simpa using hl, by omega, fun _ => rfl, fun j hj => ?_⟩
      have hj' : j < n := by simpa using hj
      rw [List.getD_eq_getElem?_getD, List.getElem?_ofFn]
      simp only [hj', dif_pos, Option.getD_some]
      exact (key2 j hj').choose_spec
theorem open_steps10 {t e u s sb : TypeId} {F0 F1 F2 F3 : Field} {v : Value} {d : DataW H} {ps : List MemPlace} (ht : P.underlying t = some (.slice e)) (he : P.underlying e = some (.struct #[F0, F1, F2, F3])) (hu : P.underlying u = some (.int .i64)) (hs : P.underlying s = some (.slice sb)) (hsb : P.underlying sb = some .bool)
    (hF0 : F0.type = u ∧ F0.offset = 0) (hF1 : F1.type = u ∧ F1.offset = 1) (hF2 : F2.type = u ∧ F2.offset = 2) (hF3 : F3.type = s ∧ F3.offset = 3) (ce : P.cellsOf e = 4) (cu : P.cellsOf u = 1) (cs0 : P.cellsOf s = 1) (csb : P.cellsOf sb = 1)
    (hval : Value.okWide P w r b0 t v) (hd : DataW.Trod enc P w base sp held t v d ps) : ∃ n A E D kv K, Steps10 w v n A E D kv K := by
  rcases slice_oi ht hval with rfl | ⟨b, off, n, cap, rfl, h1, h2⟩
  · exact ⟨0, fun _ => 0, fun _ => 0, fun _ => 0, fun _ => .bool false, fun _ => [], none, 0, 0, 0, rfl, Nat.le_refl _, by decide, fun h => absurd h (by omega), fun j hj => absurd hj (by omega), fun j => by simp⟩
  obtain ⟨fuel, hf⟩ := hd
  rcases Deep.open_slice ht hf with ⟨h, -⟩ | ⟨a, len, cap', m, q, D, Pl, hv, -, hl, -, hm, -, hel⟩
  · simp [Value.cells] at h
  · simp only [Value.cells, List.cons.injEq, Value.slice.injEq, Option.some.injEq, and_true] at hv
    obtain ⟨rfl, rfl, rfl⟩ := hv
    have hlm : n ≤ m := by rw [hm]; split <;> omega
    have key : ∀ k, k < n → ∃ z : Int × Int × Int × Value × List Bool, ((-9223372036854775808 ≤ z.1 ∧ z.1 ≤ 9223372036854775807) ∧ (-9223372036854775808 ≤ z.2.1 ∧ z.2.1 ≤ 9223372036854775807) ∧ (-9223372036854775808 ≤ z.2.2.1 ∧ z.2.2.1 ≤ 9223372036854775807)) ∧ w.cell? ⟨b, off + k * 4, none⟩ = some (.int .i64 z.1) ∧ w.cell? ⟨b, off + k * 4 + 1, none⟩ = some (.int .i64 z.2.1) ∧ w.cell? ⟨b, off + k * 4 + 2, none⟩ = some (.int .i64 z.2.2.1) ∧ w.cell? ⟨b, off + k * 4 + 3, none⟩ = some z.2.2.2.1 ∧ Bools w z.2.2.2.1 z.2.2.2.2 := fun k hk => by
      obtain ⟨cs', hc, htr⟩ := hel k (by omega)
      rw [ce, addAt_oi] at hc
      obtain ⟨y0, y1, y2, y3, j, hlen, t0, t1, t2, t3⟩ := trod_struct4 he htr
      rw [ce] at hlen
      match cs', hlen with
      | [x0, x1, x2, x3], _ =>
        rw [hF0.1, hF0.2, cu] at t0
        rw [hF1.1, hF1.2, cu] at t1
        rw [hF2.1, hF2.2, cu] at t2
        rw [hF3.1, hF3.2, cs0] at t3
        obtain ⟨z0, q0, -, g0⟩ := DataW.trod_int hu t0
        obtain ⟨z1, q1, -, g1⟩ := DataW.trod_int hu t1
        obtain ⟨z2, q2, -, g2⟩ := DataW.trod_int hu t2
        simp at q0 q1 q2
        subst q0 q1 q2
        have t4 : DataW.trod enc P w base sp held j s [x3] = some y3 := by simpa using t3
        obtain ⟨L, hL⟩ := trod_boolsC hs hsb csb t4
        obtain ⟨k0, k1, k2, k3⟩ := cells4D hc
        exact ⟨(z0, z1, z2, x3, L), ⟨bounds_i64 g0, bounds_i64 g1, bounds_i64 g2⟩, k0, k1, k2, k3, hL⟩
    refine ⟨n, fun k => if h : k < n then (key k h).choose.1 else 0, fun k => if h : k < n then (key k h).choose.2.1 else 0, fun k => if h : k < n then (key k h).choose.2.2.1 else 0, fun k => if h : k < n then (key k h).choose.2.2.2.1 else .bool false, fun k => if h : k < n then (key k h).choose.2.2.2.2 else [], some ⟨b, off, none⟩, cap, b, off, rfl, h1, by omega, fun _ => rfl, fun k hk => ?_, fun k => ?_⟩
    · simp only [dif_pos hk]
      exact (key k hk).choose_spec.2
    · by_cases hk : k < n
      · simp only [dif_pos hk]
        exact (key k hk).choose_spec.1
      · simp only [dif_neg hk]
        omega
end
end Go.Proofs.YtkbdhhmkdjajgaaDoor
