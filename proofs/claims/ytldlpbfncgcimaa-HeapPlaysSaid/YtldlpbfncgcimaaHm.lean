/- HeapOrder: pushing all -/
import Derived.Test.YtldlpbfncgcimaaHk
namespace Go.Proofs.Ytldlpbfncgcimaa
set_option linter.unusedVariables false
open Go.ChangeShapes Go.WideShapes Go.ChangeAt Go.RowKit

/-- An entry's six cells at a place. -/
def EntAt (w : World) (b o : Nat) (e : En) : Prop :=
  w.cell? ⟨b, o, none⟩ = some (.int .i64 e.id) ∧ w.cell? ⟨b, o + 1, none⟩ = some (.int .u64 e.hi) ∧ w.cell? ⟨b, o + 2, none⟩ = some (.int .u64 e.lo) ∧ w.cell? ⟨b, o + 3, none⟩ = some (.int .u64 e.den) ∧ w.cell? ⟨b, o + 4, none⟩ = some (.bool e.item) ∧ w.cell? ⟨b, o + 5, none⟩ = some (.int .i64 e.node)
theorem entAt_gr {a b : World} {q o : Nat} {e : En} (h : EntAt a q o e) (g : Gr a b) : EntAt b q o e :=
  ⟨cell_gr g h.1, cell_gr g h.2.1, cell_gr g h.2.2.1, cell_gr g h.2.2.2.1, cell_gr g h.2.2.2.2.1, cell_gr g h.2.2.2.2.2⟩
section
variable {H : Type} {enc : TypeId × Value → H} {P : Program} {w : World} {base : Nat} {sp : Nat → Bool} {held : Bool} {r : Reach} {b0 : Nat}
theorem addr_add6 (b off n : Nat) : (⟨b, off, none⟩ : Addr).add n = ⟨b, off + n, none⟩ := by
  unfold Addr.add
  split
  · rename_i h; simp
  · rfl
theorem cells6 {b off : Nat} {x0 x1 x2 x3 x4 x5 : Value} (h : w.cells? base ⟨b, off, none⟩ 6 = some [x0, x1, x2, x3, x4, x5]) :
    w.cell? ⟨b, off, none⟩ = some x0 ∧ w.cell? ⟨b, off + 1, none⟩ = some x1 ∧ w.cell? ⟨b, off + 2, none⟩ = some x2 ∧ w.cell? ⟨b, off + 3, none⟩ = some x3 ∧ w.cell? ⟨b, off + 4, none⟩ = some x4 ∧ w.cell? ⟨b, off + 5, none⟩ = some x5 := by
  unfold World.cells? at h
  split at h
  · rw [show List.range 6 = [0, 1, 2, 3, 4, 5] from rfl] at h
    simp only [List.mapM_cons, List.mapM_nil, addr_add6] at h
    obtain ⟨y0, h0, h⟩ := Option.bind_eq_some_iff.1 h
    obtain ⟨t0, h, e0⟩ := Option.bind_eq_some_iff.1 h
    obtain ⟨y1, h1, h⟩ := Option.bind_eq_some_iff.1 h
    obtain ⟨t1, h, e1⟩ := Option.bind_eq_some_iff.1 h
    obtain ⟨y2, h2, h⟩ := Option.bind_eq_some_iff.1 h
    obtain ⟨t2, h, e2⟩ := Option.bind_eq_some_iff.1 h
    obtain ⟨y3, h3, h⟩ := Option.bind_eq_some_iff.1 h
    obtain ⟨t3, h, e3⟩ := Option.bind_eq_some_iff.1 h
    obtain ⟨y4, h4, h⟩ := Option.bind_eq_some_iff.1 h
    obtain ⟨t4, h, e4⟩ := Option.bind_eq_some_iff.1 h
    obtain ⟨y5, h5, h⟩ := Option.bind_eq_some_iff.1 h
    obtain ⟨t5, h, e5⟩ := Option.bind_eq_some_iff.1 h
    cases h
    cases e5
    cases e4
    cases e3
    cases e2
    cases e1
    cases e0
    exact ⟨h0, h1, h2, h3, h4, h5⟩
  · cases h
theorem open_ents {t e nr di ui uu ub : TypeId} {E0 E1 E2 N0 N1 D0 D1 D2 : Field} {v : Value} {d : DataW H} {ps : List MemPlace} (ht : P.underlying t = some (.slice e)) (he : P.underlying e = some (.struct #[E0, E1, E2])) (hn : P.underlying nr = some (.struct #[N0, N1])) (hd' : P.underlying di = some (.struct #[D0, D1, D2]))
    (hi : P.underlying ui = some (.int .i64)) (hu : P.underlying uu = some (.int .u64)) (hb : P.underlying ub = some .bool)
    (hE0 : E0.type = nr ∧ E0.offset = 0) (hE1 : E1.type = ub ∧ E1.offset = 4) (hE2 : E2.type = ui ∧ E2.offset = 5) (hN0 : N0.type = ui ∧ N0.offset = 0) (hN1 : N1.type = di ∧ N1.offset = 1) (hD0 : D0.type = uu ∧ D0.offset = 0) (hD1 : D1.type = uu ∧ D1.offset = 1) (hD2 : D2.type = uu ∧ D2.offset = 2)
    (ce : P.cellsOf e = 6) (cn : P.cellsOf nr = 4) (cd : P.cellsOf di = 3) (ci : P.cellsOf ui = 1) (cu : P.cellsOf uu = 1) (cb : P.cellsOf ub = 1)
    (hval : Value.okWide P w r b0 t v) (hd : DataW.Trod enc P w base sp held t v d ps) :
    ∃ (ad : Option Addr) (b off n cap : Nat) (F : Nat → En), v = .slice ad n cap ∧ n ≤ cap ∧ (cap : Int) ≤ 9223372036854775807 ∧ (0 < n → ad = some ⟨b, off, none⟩) ∧ ∀ k, k < n → (F k).ok ∧ EntAt w b (off + k * 6) (F k) := by
  have hs : (v = .slice none 0 0) ∨ ∃ a n c, v = .slice (some a) n c ∧ n ≤ c ∧ (c : Int) ≤ IntKind.i64.max ∧ a.spot = none := by
    simp only [Value.okWide, ht, Cell.okWide] at hval
    cases v <;> simp only [Cell.ok, ht] at hval <;> try exact hval.elim
    rename_i a n c
    cases a with
    | none =>
      left
      cases n <;> cases c <;> first | rfl | exact hval.elim
    | some a => right; exact ⟨a, n, c, rfl, hval.1, hval.2.1, hval.2.2.2.1⟩
  rcases hs with rfl | ⟨⟨b, off, sp0⟩, n, cap, rfl, h1, h2, h3⟩
  · exact ⟨none, 0, 0, 0, 0, fun _ => ⟨0, 0, 0, 0, false, 0⟩, rfl, Nat.le_refl _, by omega, fun h => absurd h (Nat.lt_irrefl _), fun k hk => absurd hk (Nat.not_lt_zero _)⟩
  cases h3
  obtain ⟨fuel, hf⟩ := hd
  rcases Deep.open_slice ht hf with ⟨h, -⟩ | ⟨a, len, cap', m, q, D, Pl, hv, -, hl, -, hm, -, hel⟩
  · simp [Value.cells] at h
  · simp only [Value.cells, List.cons.injEq, Value.slice.injEq, Option.some.injEq, and_true] at hv
    obtain ⟨rfl, rfl, rfl⟩ := hv
    have hlm : n ≤ m := by rw [hm]; split <;> omega
    have key : ∀ k, k < n → ∃ z : En, z.ok ∧ EntAt w b (off + k * 6) z := fun k hk => by
      obtain ⟨cs', hc, htr⟩ := hel k (by omega)
      rw [ce, addr_add6] at hc
      obtain ⟨y0, y1, y2, j, -, hlen, t0, t1, t2⟩ := Deep.trod_struct3 he htr
      rw [ce] at hlen
      match cs', hlen with
      | [x0, x1, x2, x3, x4, x5], _ =>
        rw [hE0.1, hE0.2, cn] at t0
        rw [hE1.1, hE1.2, cb] at t1
        rw [hE2.1, hE2.2, ci] at t2
        obtain ⟨u0, u1, j0, -, -, s0, s1⟩ := trod_struct2 hn t0
        rw [hN0.1, hN0.2, ci] at s0
        rw [hN1.1, hN1.2, cd] at s1
        obtain ⟨v0, v1, v2, j1, -, -, r0, r1, r2⟩ := Deep.trod_struct3 hd' s1
        rw [hD0.1, hD0.2, cu] at r0
        rw [hD1.1, hD1.2, cu] at r1
        rw [hD2.1, hD2.2, cu] at r2
        obtain ⟨z0, q0, -, g0⟩ := DataW.trod_int hi s0
        obtain ⟨z1, q1, -, g1⟩ := DataW.trod_int hu r0
        obtain ⟨z2, q2, -, g2⟩ := DataW.trod_int hu r1
        obtain ⟨z3, q3, -, g3⟩ := DataW.trod_int hu r2
        obtain ⟨z4, q4, -⟩ := DataW.trod_bool hb t1
        obtain ⟨z5, q5, -, g5⟩ := DataW.trod_int hi t2
        simp at q0 q1 q2 q3 q4 q5
        subst q0 q1 q2 q3 q4 q5
        obtain ⟨w1, rfl, W1⟩ := u64_nat g1
        obtain ⟨w2, rfl, W2⟩ := u64_nat g2
        obtain ⟨w3, rfl, W3⟩ := u64_nat g3
        exact ⟨⟨z0, w1, w2, w3, z4, z5⟩, ⟨bounds_i64 g0, W1, W2, W3, bounds_i64 g5⟩, cells6 hc⟩
    refine ⟨_, b, off, n, cap, fun k => if h : k < n then (key k h).choose else ⟨0, 0, 0, 0, false, 0⟩, rfl, h1, h2, fun _ => rfl, fun k hk => ?_⟩
    simp only [dif_pos hk]
    exact (key k hk).choose_spec
end
end Go.Proofs.Ytldlpbfncgcimaa
