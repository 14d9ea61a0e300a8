/- errors as plain data, that come in -/
import Derived.Test.YtgmmhddlfalehaaLq
import Derived.Test.YtgmmhddlfalehaaLs
import Derived.Deep.Strs
namespace Go.Proofs.Ytgmmhddlfalehaa
set_option linter.unusedVariables false
set_option linter.unusedSimpArgs false
open Go.ChangeShapes Go.WideShapes Go.ChangeAt Go.RowKit

/-- An error, as plain data. -/
inductive Nd where
  | nil
  | mk (kind N : Int) (op : ByteArray) (n : Nat) (kids : Nat → Nd)
/-- .. in memory: its four cells. -/
def NdAt (w : World) : Nd → List Value → Prop
  | .nil, _ => False
  | .mk kind N op n kids, cs => ∃ (ad : Option Addr) (cap B off : Nat), cs = [.int .i64 kind, .int .i64 N, .string op, .slice ad n cap] ∧ (-9223372036854775808 ≤ kind ∧ kind ≤ 9223372036854775807) ∧ (-9223372036854775808 ≤ N ∧ N ≤ 9223372036854775807) ∧ op.size ≤ maxLen ∧ n ≤ cap ∧ cap ≤ 9223372036854775807 ∧ (0 < n → ad = some ⟨B, off, none⟩) ∧
      ∀ i, i < n → ∃ x0 x1 x2 x3, w.cell? ⟨B, off + i * 4, none⟩ = some x0 ∧ w.cell? ⟨B, off + i * 4 + 1, none⟩ = some x1 ∧ w.cell? ⟨B, off + i * 4 + 2, none⟩ = some x2 ∧ w.cell? ⟨B, off + i * 4 + 3, none⟩ = some x3 ∧ NdAt w (kids i) [x0, x1, x2, x3]
theorem ndAt_gr {a b : World} (g : Gr a b) : ∀ {T : Nd} {cs : List Value}, NdAt a T cs → NdAt b T cs
  | .nil, _, h => h.elim
  | .mk kind N op n kids, _, h => by
    obtain ⟨ad, cap, B, off, e, h1, h2, h3, h4, h5, h6, h7⟩ := h
    exact ⟨ad, cap, B, off, e, h1, h2, h3, h4, h5, h6, fun i hi => by
      obtain ⟨x0, x1, x2, x3, c0, c1, c2, c3, hk⟩ := h7 i hi
      exact ⟨x0, x1, x2, x3, cell_gr g c0, cell_gr g c1, cell_gr g c2, cell_gr g c3, ndAt_gr g hk⟩⟩
section
variable {H : Type} {enc : TypeId × Value → H} {P : Program} {w : World} {base : Nat} {sp : Nat → Bool} {held : Bool} {r : Reach} {b0 : Nat}
theorem spot_cellN {a : Addr} {v : Value} (h : w.cell? a = some v) : a.spot = none := by
  unfold World.cell? at h
  split at h
  · split at h <;> simp_all
  · cases h
theorem cells4N {a : Addr} {x0 x1 x2 x3 : Value} (h : w.cells? base a 4 = some [x0, x1, x2, x3]) : w.cell? (a.add 0) = some x0 ∧ w.cell? (a.add 1) = some x1 ∧ w.cell? (a.add 2) = some x2 ∧ w.cell? (a.add 3) = some x3 := by
  unfold World.cells? at h
  split at h
  · rw [show List.range 4 = [0, 1, 2, 3] from rfl] at h
    simp only [List.mapM_cons, List.mapM_nil] at h
    obtain ⟨y0, h0, h⟩ := Option.bind_eq_some_iff.1 h
    obtain ⟨t0, h, e0⟩ := Option.bind_eq_some_iff.1 h
    obtain ⟨y1, h1, h⟩ := Option.bind_eq_some_iff.1 h
    obtain ⟨t1, h, e1⟩ := Option.bind_eq_some_iff.1 h
    obtain ⟨y2, h2, h⟩ := Option.bind_eq_some_iff.1 h
    obtain ⟨t2, h, e2⟩ := Option.bind_eq_some_iff.1 h
    obtain ⟨y3, h3, h⟩ := Option.bind_eq_some_iff.1 h
    obtain ⟨t3, h, e3⟩ := Option.bind_eq_some_iff.1 h
    cases h; cases e3; cases e2; cases e1; cases e0
    exact ⟨h0, h1, h2, h3⟩
  · cases h
theorem trod_struct4N {t : TypeId} {f0 f1 f2 f3 : Field} {fuel : Nat} {cs : List Value} {x : DataW H × List MemPlace} (ht : P.underlying t = some (.struct #[f0, f1, f2, f3])) (h : DataW.trod enc P w base sp held fuel t cs = some x) :
    ∃ y0 y1 y2 y3 n, fuel = n + 1 ∧ cs.length = P.cellsOf t ∧ DataW.trod enc P w base sp held n f0.type ((cs.drop f0.offset).take (P.cellsOf f0.type)) = some y0 ∧
      DataW.trod enc P w base sp held n f1.type ((cs.drop f1.offset).take (P.cellsOf f1.type)) = some y1 ∧ DataW.trod enc P w base sp held n f2.type ((cs.drop f2.offset).take (P.cellsOf f2.type)) = some y2 ∧ DataW.trod enc P w base sp held n f3.type ((cs.drop f3.offset).take (P.cellsOf f3.type)) = some y3 := by
  obtain ⟨xs, n, hn, rfl, hl, hlen, hf⟩ := DataW.trod_struct ht h
  match xs, hlen with
  | [y0, y1, y2, y3], _ => exact ⟨y0, y1, y2, y3, n, hn, hl, by simpa using hf 0 f0 rfl, by simpa using hf 1 f1 rfl, by simpa using hf 2 f2 rfl, by simpa using hf 3 f3 rfl⟩
theorem trod_node {t s u st : TypeId} {F0 F1 F2 F3 : Field} (ht : P.underlying t = some (.struct #[F0, F1, F2, F3])) (hs : P.underlying s = some (.slice t)) (hu : P.underlying u = some (.int .i64)) (hst : P.underlying st = some .string)
    (hF0 : F0.type = u ∧ F0.offset = 0) (hF1 : F1.type = u ∧ F1.offset = 1) (hF2 : F2.type = st ∧ F2.offset = 2) (hF3 : F3.type = s ∧ F3.offset = 3) (ct : P.cellsOf t = 4) (cu : P.cellsOf u = 1) (cst : P.cellsOf st = 1) (cs0 : P.cellsOf s = 1) :
    ∀ (fuel : Nat) (cs : List Value) (x : DataW H × List MemPlace), DataW.trod enc P w base sp held fuel t cs = some x → ∃ T, NdAt w T cs := by
  intro fuel
  induction fuel using Nat.strongRecOn with
  | ind fuel ih =>
    intro cs x h
    obtain ⟨y0, y1, y2, y3, j, hj, hlen, t0, t1, t2, t3⟩ := trod_struct4N ht h
    rw [ct] at hlen
    match cs, hlen with
    | [x0, x1, x2, x3], _ =>
      rw [hF0.1, hF0.2, cu] at t0
      rw [hF1.1, hF1.2, cu] at t1
      rw [hF2.1, hF2.2, cst] at t2
      rw [hF3.1, hF3.2, cs0] at t3
      obtain ⟨z0, q0, -, g0⟩ := DataW.trod_int hu t0
      obtain ⟨z1, q1, -, g1⟩ := DataW.trod_int hu t1
      obtain ⟨op, q2, -, g2⟩ := DataW.trod_string hst t2
      simp at q0 q1 q2
      subst q0 q1 q2
      have t4 : DataW.trod enc P w base sp held j s [x3] = some y3 := by simpa using t3
      rcases DataW.trod_slice hs t4 with ⟨h3, -⟩ | ⟨a, n, cap, elems, rest, m, hm, h3, -, -, hl, hcap, hlen, hel, -, -⟩
      · simp only [List.cons.injEq, and_true] at h3
        subst h3
        exact ⟨.mk z0 z1 op 0 (fun _ => .nil), none, 0, 0, 0, rfl, bounds_i64 g0, bounds_i64 g1, g2, Nat.le_refl _, by decide, fun h => absurd h (Nat.lt_irrefl _), fun i hi => absurd hi (Nat.not_lt_zero _)⟩
      · simp only [List.cons.injEq, and_true] at h3
        subst h3
        have hcap' : cap ≤ 9223372036854775807 := by unfold maxLen at hcap; omega
        obtain ⟨b, off, sp0⟩ := a
        have key : ∀ k, k < n → ∃ T x0 x1 x2 x3, w.cell? (((⟨b, off, sp0⟩ : Addr).add (k * 4)).add 0) = some x0 ∧ w.cell? (((⟨b, off, sp0⟩ : Addr).add (k * 4)).add 1) = some x1 ∧ w.cell? (((⟨b, off, sp0⟩ : Addr).add (k * 4)).add 2) = some x2 ∧ w.cell? (((⟨b, off, sp0⟩ : Addr).add (k * 4)).add 3) = some x3 ∧ NdAt w T [x0, x1, x2, x3] := fun k hk => by
          have he := hel k hk
          rw [ct, List.getElem?_eq_getElem (by omega)] at he
          obtain ⟨cs', hc, htr⟩ := Option.bind_eq_some_iff.1 he
          obtain ⟨T, hT⟩ := ih m (by omega) cs' _ htr
          cases T with
          | nil => exact hT.elim
          | mk kd N o nn kk =>
            obtain ⟨ad', cap', B', off', e, hr⟩ := hT
            subst e
            obtain ⟨k0, k1, k2, k3⟩ := cells4N hc
            exact ⟨.mk kd N o nn kk, _, _, _, _, k0, k1, k2, k3, ad', cap', B', off', rfl, hr⟩
        by_cases h0 : n = 0
        · subst h0
          exact ⟨.mk z0 z1 op 0 (fun _ => .nil), _, cap, 0, 0, rfl, bounds_i64 g0, bounds_i64 g1, g2, Nat.zero_le _, hcap', fun h => absurd h (Nat.lt_irrefl _), fun i hi => absurd hi (Nat.not_lt_zero _)⟩
        · have hsp : sp0 = none := by
            obtain ⟨T, y0, y1, y2, y3, hz, -⟩ := key 0 (by omega)
            have := spot_cellN hz
            unfold Addr.add at this
            (repeat' split at this) <;> simp_all
          subst hsp
          refine ⟨.mk z0 z1 op n (fun i => if h : i < n then (key i h).choose else .nil), _, cap, b, off, rfl, bounds_i64 g0, bounds_i64 g1, g2, hl, hcap', fun _ => rfl, fun i hi => ?_⟩
          obtain ⟨y0, y1, y2, y3, k0, k1, k2, k3, hT⟩ := (key i hi).choose_spec
          simp only [addAt_oi] at k0 k1 k2 k3
          refine ⟨y0, y1, y2, y3, k0, k1, k2, k3, ?_⟩
          simp only [dif_pos hi]
          exact hT
theorem open_node {t s u st : TypeId} {F0 F1 F2 F3 : Field} {v : Value} {d : DataW H} {ps : List MemPlace} (ht : P.underlying t = some (.struct #[F0, F1, F2, F3])) (hs : P.underlying s = some (.slice t)) (hu : P.underlying u = some (.int .i64)) (hst : P.underlying st = some .string)
    (hF0 : F0.type = u ∧ F0.offset = 0) (hF1 : F1.type = u ∧ F1.offset = 1) (hF2 : F2.type = st ∧ F2.offset = 2) (hF3 : F3.type = s ∧ F3.offset = 3) (ct : P.cellsOf t = 4) (cu : P.cellsOf u = 1) (cst : P.cellsOf st = 1) (cs0 : P.cellsOf s = 1)
    (hval : Value.okWide P w r b0 t v) (hd : DataW.Trod enc P w base sp held t v d ps) : ∃ T c0 c1 c2 c3, v = .agg #[c0, c1, c2, c3] ∧ NdAt w T [c0, c1, c2, c3] := by
  obtain ⟨cs, rfl, hsz⟩ := okWide_struct ht hval
  obtain ⟨fuel, hf⟩ := hd
  obtain ⟨T, hT⟩ := trod_node ht hs hu hst hF0 hF1 hF2 hF3 ct cu cst cs0 fuel _ _ hf
  obtain ⟨l, rfl⟩ : ∃ l : List Value, cs = l.toArray := ⟨cs.toList, by simp⟩
  have hT' : NdAt w T l := hT
  cases T with
  | nil => exact hT'.elim
  | mk kd N o nn kk =>
    obtain ⟨ad', cap', B', off', e, hr⟩ := hT'
    subst e
    exact ⟨.mk kd N o nn kk, _, _, _, _, rfl, ad', cap', B', off', rfl, hr⟩
end
end Go.Proofs.Ytgmmhddlfalehaa
