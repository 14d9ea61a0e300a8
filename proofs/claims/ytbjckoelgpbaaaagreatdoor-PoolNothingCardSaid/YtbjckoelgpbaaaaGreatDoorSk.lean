/- rows of steps of three ints that come in -/
import Derived.Test.YtbjckoelgpbaaaaGreatDoorOi
import Derived.Deep.Strs
namespace Go.Proofs.YtbjckoelgpbaaaaGreatDoor
set_option linter.unusedVariables false
open Go.ChangeShapes Go.WideShapes Go.ChangeAt Go.RowKit

/-- A row of triples of ints. -/
def Steps3 (w : World) (v : Value) (n : Nat) (A B C : Nat → Int) : Prop :=
  ∃ (ad : Option Addr) (cap b off : Nat), v = .slice ad n cap ∧ n ≤ cap ∧ (cap : Int) ≤ 9223372036854775807 ∧ (0 < n → ad = some ⟨b, off, none⟩) ∧
    (∀ k, k < n → w.cell? ⟨b, off + k * 3, none⟩ = some (.int .i64 (A k)) ∧ w.cell? ⟨b, off + k * 3 + 1, none⟩ = some (.int .i64 (B k)) ∧ w.cell? ⟨b, off + k * 3 + 2, none⟩ = some (.int .i64 (C k))) ∧
    ∀ k, (-9223372036854775808 ≤ A k ∧ A k ≤ 9223372036854775807) ∧ (-9223372036854775808 ≤ B k ∧ B k ≤ 9223372036854775807) ∧ (-9223372036854775808 ≤ C k ∧ C k ≤ 9223372036854775807)
theorem steps3_gr {a b : World} {v : Value} {n : Nat} {A B C : Nat → Int} (h : Steps3 a v n A B C) (g : Gr a b) : Steps3 b v n A B C := by
  obtain ⟨ad, cap, bb, off, e, h1, h2, h3, h4, h5⟩ := h
  exact ⟨ad, cap, bb, off, e, h1, h2, h3, fun j hj => ⟨cell_gr g (h4 j hj).1, cell_gr g (h4 j hj).2.1, cell_gr g (h4 j hj).2.2⟩, h5⟩
section
variable {H : Type} {enc : TypeId × Value → H} {P : Program} {w : World} {base : Nat} {sp : Nat → Bool} {held : Bool} {r : Reach} {b0 : Nat}
theorem cells3_oi {b off : Nat} {x0 x1 x2 : Value} (h : w.cells? base ⟨b, off, none⟩ 3 = some [x0, x1, x2]) : w.cell? ⟨b, off, none⟩ = some x0 ∧ w.cell? ⟨b, off + 1, none⟩ = some x1 ∧ w.cell? ⟨b, off + 2, none⟩ = some x2 := by
  unfold World.cells? at h
  split at h
  · rw [show List.range 3 = [0, 1, 2] from rfl] at h
    simp only [List.mapM_cons, List.mapM_nil, addAt_oi] at h
    obtain ⟨y0, h0, h⟩ := Option.bind_eq_some_iff.1 h
    obtain ⟨t0, h, e0⟩ := Option.bind_eq_some_iff.1 h
    obtain ⟨y1, h1, h⟩ := Option.bind_eq_some_iff.1 h
    obtain ⟨t1, h, e1⟩ := Option.bind_eq_some_iff.1 h
    obtain ⟨y2, h2, h⟩ := Option.bind_eq_some_iff.1 h
    obtain ⟨t2, h, e2⟩ := Option.bind_eq_some_iff.1 h
    cases h; cases e2; cases e1; cases e0
    exact ⟨h0, h1, h2⟩
  · cases h
theorem open_steps3 {t e u : TypeId} {F0 F1 F2 : Field} {v : Value} {d : DataW H} {ps : List MemPlace} (ht : P.underlying t = some (.slice e)) (he : P.underlying e = some (.struct #[F0, F1, F2])) (hu : P.underlying u = some (.int .i64))
    (hF0 : F0.type = u ∧ F0.offset = 0) (hF1 : F1.type = u ∧ F1.offset = 1) (hF2 : F2.type = u ∧ F2.offset = 2) (ce : P.cellsOf e = 3) (cu : P.cellsOf u = 1)
    (hval : Value.okWide P w r b0 t v) (hd : DataW.Trod enc P w base sp held t v d ps) : ∃ n A B C, Steps3 w v n A B C := by
  rcases slice_oi ht hval with rfl | ⟨b, off, n, cap, rfl, h1, h2⟩
  · exact ⟨0, fun _ => 0, fun _ => 0, fun _ => 0, none, 0, 0, 0, rfl, Nat.le_refl _, by decide, fun h => absurd h (by omega), fun j hj => absurd hj (by omega), fun j => by simp⟩
  obtain ⟨fuel, hf⟩ := hd
  rcases Deep.open_slice ht hf with ⟨h, -⟩ | ⟨a, len, cap', m, q, D, Pl, hv, -, hl, -, hm, -, hel⟩
  · simp [Value.cells] at h
  · simp only [Value.cells, List.cons.injEq, Value.slice.injEq, Option.some.injEq, and_true] at hv
    obtain ⟨rfl, rfl, rfl⟩ := hv
    have hlm : n ≤ m := by rw [hm]; split <;> omega
    have key : ∀ k, k < n → ∃ z : Int × Int × Int, ((-9223372036854775808 ≤ z.1 ∧ z.1 ≤ 9223372036854775807) ∧ (-9223372036854775808 ≤ z.2.1 ∧ z.2.1 ≤ 9223372036854775807) ∧ (-9223372036854775808 ≤ z.2.2 ∧ z.2.2 ≤ 9223372036854775807)) ∧ w.cell? ⟨b, off + k * 3, none⟩ = some (.int .i64 z.1) ∧ w.cell? ⟨b, off + k * 3 + 1, none⟩ = some (.int .i64 z.2.1) ∧ w.cell? ⟨b, off + k * 3 + 2, none⟩ = some (.int .i64 z.2.2) := fun k hk => by
      obtain ⟨cs', hc, htr⟩ := hel k (by omega)
      rw [ce, addAt_oi] at hc
      obtain ⟨y0, y1, y2, j, -, hlen, t0, t1, t2⟩ := Deep.trod_struct3 he htr
      rw [ce] at hlen
      match cs', hlen with
      | [x0, x1, x2], _ =>
        rw [hF0.1, hF0.2, cu] at t0
        rw [hF1.1, hF1.2, cu] at t1
        rw [hF2.1, hF2.2, cu] at t2
        obtain ⟨z0, q0, -, g0⟩ := DataW.trod_int hu t0
        obtain ⟨z1, q1, -, g1⟩ := DataW.trod_int hu t1
        obtain ⟨z2, q2, -, g2⟩ := DataW.trod_int hu t2
        simp at q0 q1 q2
        subst q0 q1 q2
        exact ⟨(z0, z1, z2), ⟨bounds_i64 g0, bounds_i64 g1, bounds_i64 g2⟩, cells3_oi hc⟩
    refine ⟨n, fun k => if h : k < n then (key k h).choose.1 else 0, fun k => if h : k < n then (key k h).choose.2.1 else 0, fun k => if h : k < n then (key k h).choose.2.2 else 0, some ⟨b, off, none⟩, cap, b, off, rfl, h1, by omega, fun _ => rfl, fun k hk => ?_, fun k => ?_⟩
    · simp only [dif_pos hk]
      exact (key k hk).choose_spec.2
    · by_cases hk : k < n
      · simp only [dif_pos hk]
        exact (key k hk).choose_spec.1
      · simp only [dif_neg hk]
        omega
end
end Go.Proofs.YtbjckoelgpbaaaaGreatDoor
