/- a slice of points that comes in -/
import Derived.Test.YtogflfepkddbhaaDoorCp
import Derived.Test.YtogflfepkddbhaaDoorGc
namespace Go.Proofs.YtogflfepkddbhaaDoor
set_option linter.unusedVariables false
open Go.ChangeShapes Go.WideShapes Go.ChangeAt Go.RowKit
section
variable {H : Type} {enc : TypeId × Value → H} {P : Program} {w : World} {base : Nat} {sp : Nat → Bool} {held : Bool} {r : Reach} {b0 : Nat}
theorem cells2 {b off : Nat} {x0 x1 : Value} (h : w.cells? base ⟨b, off, none⟩ 2 = some [x0, x1]) :
    w.cell? ⟨b, off, none⟩ = some x0 ∧ w.cell? ⟨b, off + 1, none⟩ = some x1 := by
  unfold World.cells? at h
  split at h
  · rw [show List.range 2 = [0, 1] from rfl] at h
    simp only [List.mapM_cons, List.mapM_nil, addr_add] at h
    obtain ⟨y0, h0, h⟩ := Option.bind_eq_some_iff.1 h
    obtain ⟨t0, h, e0⟩ := Option.bind_eq_some_iff.1 h
    obtain ⟨y1, h1, h⟩ := Option.bind_eq_some_iff.1 h
    obtain ⟨t1, h, e1⟩ := Option.bind_eq_some_iff.1 h
    cases h
    cases e1
    cases e0
    exact ⟨h0, h1⟩
  · cases h
theorem slice_form {t e : TypeId} {v : Value} (ht : P.underlying t = some (.slice e)) (hval : Value.okWide P w r b0 t v) : (v = .slice none 0 0) ∨ ∃ a n c, v = .slice (some a) n c ∧ n ≤ c ∧ (c : Int) ≤ IntKind.i64.max ∧ a.spot = none := by
  simp only [Value.okWide, ht, Cell.okWide] at hval
  cases v <;> simp only [Cell.ok, ht] at hval <;> try exact hval.elim
  rename_i a n c
  cases a with
  | none =>
    left
    cases n <;> cases c <;> first | rfl | exact hval.elim
  | some a => right; exact ⟨a, n, c, rfl, hval.1, hval.2.1, hval.2.2.2.1⟩
/-- The points of a slice, off its trace in memory. -/
theorem trod_pts {t p u : TypeId} {G0 G1 : Field} {a : Option Addr} {n cap : Nat} {d : DataW H} {ps : List MemPlace} (ht : P.underlying t = some (.slice p)) (hp : P.underlying p = some (.struct #[G0, G1])) (hu : P.underlying u = some (.int .i64))
    (hG0 : G0.type = u ∧ G0.offset = 0) (hG1 : G1.type = u ∧ G1.offset = 1) (cp : P.cellsOf p = 2) (cu : P.cellsOf u = 1) (hs : (a = none ∧ n = 0 ∧ cap = 0) ∨ (∃ x, a = some x ∧ x.spot = none)) (h1 : n ≤ cap) (h2 : (cap : Int) ≤ 9223372036854775807)
    (hd : DataW.Trod enc P w base sp held t (.slice a n cap) d ps) : ∃ (X Y : Nat → Int) (b off : Nat), (0 < n → a = some ⟨b, off, none⟩) ∧ ∀ k, k < n → w.cell? ⟨b, off + k * 2, none⟩ = some (.int .i64 (X k)) ∧ w.cell? ⟨b, off + k * 2 + 1, none⟩ = some (.int .i64 (Y k)) := by
  rcases hs with ⟨rfl, rfl, rfl⟩ | ⟨⟨b, off, sp0⟩, rfl, h3⟩
  · exact ⟨fun _ => 0, fun _ => 0, 0, 0, fun h => absurd h (by omega), fun k h => absurd h (by omega)⟩
  cases h3
  obtain ⟨fuel, hf⟩ := hd
  rcases Deep.open_slice ht hf with ⟨h, -⟩ | ⟨a, len, cap', m, q, D, Pl, hv, -, hl, -, hm, -, hel⟩
  · simp [Value.cells] at h
  · simp only [Value.cells, List.cons.injEq, Value.slice.injEq, Option.some.injEq, and_true] at hv
    obtain ⟨rfl, rfl, rfl⟩ := hv
    have hlm : n ≤ m := by rw [hm]; split <;> omega
    have key : ∀ k, k < n → ∃ z : Int × Int, w.cell? ⟨b, off + k * 2, none⟩ = some (.int .i64 z.1) ∧ w.cell? ⟨b, off + k * 2 + 1, none⟩ = some (.int .i64 z.2) := fun k hk => by
      obtain ⟨cs', hc, htr⟩ := hel k (by omega)
      rw [cp, addr_add] at hc
      obtain ⟨y0, y1, j, -, hlen, t0, t1⟩ := trod_struct2 hp htr
      rw [cp] at hlen
      match cs', hlen with
      | [x0, x1], _ =>
        rw [hG0.1, hG0.2, cu] at t0
        rw [hG1.1, hG1.2, cu] at t1
        obtain ⟨z0, q0, -, -⟩ := DataW.trod_int hu t0
        obtain ⟨z1, q1, -, -⟩ := DataW.trod_int hu t1
        simp at q0 q1
        subst q0 q1
        exact ⟨(z0, z1), cells2 hc⟩
    refine ⟨fun k => if h : k < n then (key k h).choose.1 else 0, fun k => if h : k < n then (key k h).choose.2 else 0, b, off, fun _ => rfl, fun k hk => ?_⟩
    simp only [dif_pos hk]
    exact (key k hk).choose_spec
theorem open_pts {t p u : TypeId} {G0 G1 : Field} {v : Value} {d : DataW H} {ps : List MemPlace} (ht : P.underlying t = some (.slice p)) (hp : P.underlying p = some (.struct #[G0, G1])) (hu : P.underlying u = some (.int .i64))
    (hG0 : G0.type = u ∧ G0.offset = 0) (hG1 : G1.type = u ∧ G1.offset = 1) (cp : P.cellsOf p = 2) (cu : P.cellsOf u = 1)
    (hval : Value.okWide P w r b0 t v) (hd : DataW.Trod enc P w base sp held t v d ps) : ∃ (n : Nat) (X Y : Nat → Int), Pts w v n X Y := by
  rcases slice_form ht hval with rfl | ⟨a, n, c, rfl, h1, h2, h3⟩
  · exact ⟨0, fun _ => 0, fun _ => 0, none, 0, 0, 0, rfl, Nat.le_refl _, by decide, fun h => absurd h (by omega), fun k h => absurd h (by omega)⟩
  · have h2' : (c : Int) ≤ 9223372036854775807 := h2
    obtain ⟨X, Y, b, off, e, hc⟩ := trod_pts ht hp hu hG0 hG1 cp cu (Or.inr ⟨a, rfl, h3⟩) h1 h2' hd
    exact ⟨n, X, Y, some a, c, b, off, rfl, h1, by omega, e, hc⟩
end
end Go.Proofs.YtogflfepkddbhaaDoor
