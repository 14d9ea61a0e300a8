/- HeapTurns -/
import Derived.Test.YtldlpbfncgcimaaHo
import Derived.Test.YtldlpbfncgcimaaHn
namespace Go.Proofs.Ytldlpbfncgcimaa
set_option linter.unusedVariables false
open Go.ChangeShapes Go.WideShapes Go.ChangeAt Go.RowKit

section
variable {H : Type} {enc : TypeId × Value → H} {P : Program} {w : World} {base : Nat} {sp : Nat → Bool} {held : Bool} {r : Reach} {b0 : Nat}
theorem cells1i {b off : Nat} {x0 : Value} (h : w.cells? base ⟨b, off, none⟩ 1 = some [x0]) : w.cell? ⟨b, off, none⟩ = some x0 := by
  unfold World.cells? at h
  split at h
  · rw [show List.range 1 = [0] from rfl] at h
    simp only [List.mapM_cons, List.mapM_nil, addr_add6] at h
    obtain ⟨y0, h0, h⟩ := Option.bind_eq_some_iff.1 h
    obtain ⟨t0, h, e0⟩ := Option.bind_eq_some_iff.1 h
    cases h
    cases e0
    exact h0
  · cases h
theorem open_ints64 {t e : TypeId} {v : Value} {d : DataW H} {ps : List MemPlace} (ht : P.underlying t = some (.slice e)) (he : P.underlying e = some (.int .i64)) (ce : P.cellsOf e = 1)
    (hval : Value.okWide P w r b0 t v) (hd : DataW.Trod enc P w base sp held t v d ps) :
    ∃ (ad : Option Addr) (b off n cap : Nat) (F : Nat → Int), v = .slice ad n cap ∧ n ≤ cap ∧ (cap : Int) ≤ 9223372036854775807 ∧ (0 < n → ad = some ⟨b, off, none⟩) ∧ ∀ k, k < n → w.cell? ⟨b, off + k, none⟩ = some (.int .i64 (F k)) := by
  have hs : (v = .slice none 0 0) ∨ ∃ a n c, v = .slice (some a) n c ∧ n ≤ c ∧ (c : Int) ≤ IntKind.i64.max ∧ a.spot = none := by
    simp only [Value.okWide, ht, Cell.okWide] at hval
    cases v <;> simp only [Cell.ok, ht] at hval <;> try exact hval.elim
    rename_i a n c
    cases a with
    | none =>
      left
      cases n <;> cases c <;> first | rfl | exact hval.elim
    | some a => right; exact ⟨a, n, c, rfl, hval.1, hval.2.1, hval.2.2.2.1⟩
  rcases hs with rfl | ⟨⟨b, off, sp0⟩, n, cap, rfl, h1, h2, h3⟩
  · exact ⟨none, 0, 0, 0, 0, fun _ => 0, rfl, Nat.le_refl _, by omega, fun h => absurd h (Nat.lt_irrefl _), fun k hk => absurd hk (Nat.not_lt_zero _)⟩
  cases h3
  obtain ⟨fuel, hf⟩ := hd
  rcases Deep.open_slice ht hf with ⟨h, -⟩ | ⟨a, len, cap', m, q, D, Pl, hv, -, hl, -, hm, -, hel⟩
  · simp [Value.cells] at h
  · simp only [Value.cells, List.cons.injEq, Value.slice.injEq, Option.some.injEq, and_true] at hv
    obtain ⟨rfl, rfl, rfl⟩ := hv
    have hlm : n ≤ m := by rw [hm]; split <;> omega
    have key : ∀ k, k < n → ∃ z : Int, w.cell? ⟨b, off + k, none⟩ = some (.int .i64 z) := fun k hk => by
      obtain ⟨cs', hc, htr⟩ := hel k (by omega)
      rw [ce, addr_add6, Nat.mul_one] at hc
      obtain ⟨z, rfl, -, hw⟩ := DataW.trod_int he htr
      exact ⟨z, cells1i hc⟩
    refine ⟨_, b, off, n, cap, fun k => if h : k < n then (key k h).choose else 0, rfl, h1, h2, fun _ => rfl, fun k hk => ?_⟩
    simp only [dif_pos hk]
    exact (key k hk).choose_spec
end
/-- Two heaps that have no block in common. -/
def Sep (pa : Nat) (va : Value) (pb : Nat) (vb : Value) : Prop :=
  pa ≠ pb ∧ va.ownBlock ≠ some pb ∧ vb.ownBlock ≠ some pa ∧ ∀ k, va.ownBlock = some k → vb.ownBlock ≠ some k
theorem Sep.symm {pa pb : Nat} {va vb : Value} (h : Sep pa va pb vb) : Sep pb vb pa va :=
  ⟨h.1.symm, h.2.2.1, h.2.1, fun k hb ha => h.2.2.2 k ha hb⟩
theorem heapAt_lt {w : World} {base p m : Nat} {v : Value} {L : List Nu} (h : HeapAt w base p v L m) : p < w.heap.size ∧ ∀ k, v.ownBlock = some k → base ≤ k ∧ k < w.heap.size :=
  ⟨(Array.getElem?_eq_some_iff.1 h.2.1).1, h.2.2.1.lt⟩
/-- What is done to one heap leaves the other one. -/
theorem two {w w' : World} {base pa pb mb : Nat} {va va' vb : Value} {Lb : List Nu} (hb : HeapAt w base pb vb Lb mb) (hs : Sep pa va pb vb) (hF : Fr w w' pa va va') : HeapAt w' base pb vb Lb mb ∧ Sep pa va' pb vb := by
  obtain ⟨b1, b2, b3, b4⟩ := id hb
  obtain ⟨hpl, hvl⟩ := heapAt_lt hb
  refine ⟨⟨b1, (hF.2.1 pb hpl hs.1.symm (fun e => hs.2.1 e.symm)).trans b2, ?_, b4⟩, hs.1, fun e => ?_, hs.2.2.1, fun k ha hb' => ?_⟩
  · refine ⟨b3.1, ?_⟩
    rcases b3.2 with hn | ⟨g, cap, cur, rfl, hb, hg, rest⟩
    · exact .inl hn
    · refine .inr ⟨g, cap, cur, rfl, hb, (hF.2.1 g (Array.getElem?_eq_some_iff.1 hg).1 (fun e => hs.2.2.1 (by simp [Value.ownBlock, e])) (fun e => hs.2.2.2 g e.symm (by simp [Value.ownBlock]))).trans hg, rest⟩
  · rcases hF.2.2 pb e with h | h
    · exact hs.2.1 h
    · omega
  · rcases hF.2.2 k ha with h | h
    · exact hs.2.2.2 k h hb'
    · have := (hvl k hb').2; omega
theorem heapAt_base {w : World} {b1 b0 p m : Nat} {v : Value} {L : List Nu} (h : HeapAt w b1 p v L m) (hb : b0 ≤ b1) : HeapAt w b0 p v L m := by
  obtain ⟨h1, h2, h3, h4⟩ := h
  refine ⟨Nat.le_trans hb h1, h2, ⟨h3.1, ?_⟩, h4⟩
  rcases h3.2 with hn | ⟨g, cap, cur, rfl, hb', rest⟩
  · exact .inl hn
  · exact .inr ⟨g, cap, cur, rfl, Nat.le_trans hb hb', rest⟩
/-- The same entries are taken from two heaps of the same entries. -/
theorem same_first {F : Nat → Int} {n : Nat} {x y : Nu} {La Lb Ma Mb : List Nu} (hS : (La.map Nu.e).Perm (Lb.map Nu.e)) (hT : ∀ z ∈ La, ∃ t, t < n ∧ z.e = entT F t)
    (pa : (x :: Ma).Perm La) (pb : (y :: Mb).Perm Lb) (ma : ∀ z ∈ La, ltN z x = false) (mb : ∀ z ∈ Lb, ltN z y = false) : x.e = y.e ∧ (Ma.map Nu.e).Perm (Mb.map Nu.e) := by
  have hx : x ∈ La := pa.mem_iff.1 List.mem_cons_self
  have hy : y ∈ Lb := pb.mem_iff.1 List.mem_cons_self
  obtain ⟨y', hy', ey'⟩ := List.mem_map.1 (hS.mem_iff.2 (List.mem_map_of_mem (f := Nu.e) hy))
  obtain ⟨x', hx', ex'⟩ := List.mem_map.1 (hS.mem_iff.1 (List.mem_map_of_mem (f := Nu.e) hx))
  have h1 : ltE y.e x.e = false := by rw [← ey']; exact ltE_of_ltN (ma y' hy')
  have h2 : ltE x.e y.e = false := by rw [← ex']; exact ltE_of_ltN (mb x' hx')
  have hxy : x.e = y.e := by
    obtain ⟨s, -, es⟩ := hT x hx
    obtain ⟨t, -, et⟩ := hT y' hy'
    rw [ey'] at et
    have hc : cmpE x.e y.e = 0 := by
      unfold ltE ltC at h1 h2
      rw [decide_eq_false_iff_not] at h1 h2
      have := cmpE_Cmp.1 x.e y.e
      omega
    rw [es, et] at hc
    rw [es, et, entT_inj hc]
  refine ⟨hxy, ?_⟩
  have := ((pa.map Nu.e).trans hS).trans (pb.map Nu.e).symm
  rw [List.map_cons, List.map_cons, hxy] at this
  exact this.cons_inv
theorem turned (E : Nat → En) (n : Nat) : ((ordL E n).map Nu.e).Perm ((ordL (fun t => E (n - 1 - t)) n).map Nu.e) := by
  have e1 : (ordL E n).map Nu.e = (List.range n).map E := by unfold ordL; rw [List.map_map]; rfl
  have e2 : (ordL (fun t => E (n - 1 - t)) n).map Nu.e = ((List.range n).map E).reverse := by
    unfold ordL
    rw [List.map_map]
    refine List.ext_getElem (by simp) fun k h1 h2 => ?_
    rw [List.getElem_reverse]
    simp
  rw [e1, e2]
  exact (List.reverse_perm _).symm
end Go.Proofs.Ytldlpbfncgcimaa
