/- HeapPlays: steps that come in; what is alike -/
import Derived.Test.YtldlpbfncgcimaaHv
import Derived.Test.YtldlpbfncgcimaaHr
namespace Go.Proofs.Ytldlpbfncgcimaa
set_option linter.unusedVariables false
open Go.ChangeShapes Go.WideShapes Go.ChangeAt Go.RowKit

theorem eqNear (a b c d : Int) (w : World) : (binOp .eql 44 (.agg #[.int .i64 a, .int .u64 b, .int .u64 c, .int .u64 d]) (.agg #[.int .i64 a, .int .u64 b, .int .u64 c, .int .u64 d])).run Try.prog w = .ok (.bool true) w := by
  simp [go_sem]
set_option maxHeartbeats 2000000 in
set_option maxRecDepth 100000 in
theorem c_same (ai ah al ad : Int) (ab : Bool) (an : Int) (W : World) : Calls Try.prog 26 #[.agg #[.int .i64 ai, .int .u64 ah, .int .u64 al, .int .u64 ad, .bool ab, .int .i64 an], .agg #[.int .i64 ai, .int .u64 ah, .int .u64 al, .int .u64 ad, .bool ab, .int .i64 an]] W fun e w' => e = .returned (.bool true) ∧ Gr W w' := by
  have h1 := eqNear ai ah al ad
  have h2 : (ab == ab) = true := by simp
  have h3 : (an == an) = true := by simp
  go_enter Try.func26, Try.ntmps26
  go_wp2_with fail
  go_ret
  exact ⟨rfl, by go_grown⟩
section
variable {H : Type} {enc : TypeId × Value → H} {P : Program} {w : World} {base : Nat} {sp : Nat → Bool} {held : Bool} {r : Reach} {b0 : Nat}
theorem cells7 {b off : Nat} {x0 x1 x2 x3 x4 x5 x6 : Value} (h : w.cells? base ⟨b, off, none⟩ 7 = some [x0, x1, x2, x3, x4, x5, x6]) :
    w.cell? ⟨b, off, none⟩ = some x0 ∧ w.cell? ⟨b, off + 1, none⟩ = some x1 ∧ w.cell? ⟨b, off + 2, none⟩ = some x2 ∧ w.cell? ⟨b, off + 3, none⟩ = some x3 ∧ w.cell? ⟨b, off + 4, none⟩ = some x4 ∧ w.cell? ⟨b, off + 5, none⟩ = some x5 ∧ w.cell? ⟨b, off + 6, none⟩ = some x6 := by
  unfold World.cells? at h
  split at h
  · rw [show List.range 7 = [0, 1, 2, 3, 4, 5, 6] from rfl] at h
    simp only [List.mapM_cons, List.mapM_nil, addr_add6] at h
    obtain ⟨y0, h0, h⟩ := Option.bind_eq_some_iff.1 h
    obtain ⟨t0, h, e0⟩ := Option.bind_eq_some_iff.1 h
    obtain ⟨y1, h1, h⟩ := Option.bind_eq_some_iff.1 h
    obtain ⟨t1, h, e1⟩ := Option.bind_eq_some_iff.1 h
    obtain ⟨y2, h2, h⟩ := Option.bind_eq_some_iff.1 h
    obtain ⟨t2, h, e2⟩ := Option.bind_eq_some_iff.1 h
    obtain ⟨y3, h3, h⟩ := Option.bind_eq_some_iff.1 h
    obtain ⟨t3, h, e3⟩ := Option.bind_eq_some_iff.1 h
    obtain ⟨y4, h4, h⟩ := Option.bind_eq_some_iff.1 h
    obtain ⟨t4, h, e4⟩ := Option.bind_eq_some_iff.1 h
    obtain ⟨y5, h5, h⟩ := Option.bind_eq_some_iff.1 h
    obtain ⟨t5, h, e5⟩ := Option.bind_eq_some_iff.1 h
    obtain ⟨y6, h6, h⟩ := Option.bind_eq_some_iff.1 h
    obtain ⟨t6, h, e6⟩ := Option.bind_eq_some_iff.1 h
    cases h
    cases e6
    cases e5
    cases e4
    cases e3
    cases e2
    cases e1
    cases e0
    exact ⟨h0, h1, h2, h3, h4, h5, h6⟩
  · cases h
theorem open_steps {t s e nr di ui uu ub : TypeId} {S0 S1 E0 E1 E2 N0 N1 D0 D1 D2 : Field} {v : Value} {d : DataW H} {ps : List MemPlace} (ht : P.underlying t = some (.slice s)) (hs' : P.underlying s = some (.struct #[S0, S1])) (he : P.underlying e = some (.struct #[E0, E1, E2])) (hn : P.underlying nr = some (.struct #[N0, N1])) (hd' : P.underlying di = some (.struct #[D0, D1, D2]))
    (hi : P.underlying ui = some (.int .i64)) (hu : P.underlying uu = some (.int .u64)) (hb : P.underlying ub = some .bool)
    (hS0 : S0.type = ui ∧ S0.offset = 0) (hS1 : S1.type = e ∧ S1.offset = 1) (hE0 : E0.type = nr ∧ E0.offset = 0) (hE1 : E1.type = ub ∧ E1.offset = 4) (hE2 : E2.type = ui ∧ E2.offset = 5) (hN0 : N0.type = ui ∧ N0.offset = 0) (hN1 : N1.type = di ∧ N1.offset = 1) (hD0 : D0.type = uu ∧ D0.offset = 0) (hD1 : D1.type = uu ∧ D1.offset = 1) (hD2 : D2.type = uu ∧ D2.offset = 2)
    (cs : P.cellsOf s = 7) (ce : P.cellsOf e = 6) (cn : P.cellsOf nr = 4) (cd : P.cellsOf di = 3) (ci : P.cellsOf ui = 1) (cu : P.cellsOf uu = 1) (cb : P.cellsOf ub = 1)
    (hval : Value.okWide P w r b0 t v) (hd : DataW.Trod enc P w base sp held t v d ps) :
    ∃ (ad : Option Addr) (b off n cap : Nat) (K : Nat → Int) (F : Nat → En), v = .slice ad n cap ∧ n ≤ cap ∧ (cap : Int) ≤ 9223372036854775807 ∧ (0 < n → ad = some ⟨b, off, none⟩) ∧ ∀ k, k < n → (F k).ok ∧ w.cell? ⟨b, off + k * 7, none⟩ = some (.int .i64 (K k)) ∧ EntAt w b (off + k * 7 + 1) (F k) := by
  have hs : (v = .slice none 0 0) ∨ ∃ a n c, v = .slice (some a) n c ∧ n ≤ c ∧ (c : Int) ≤ IntKind.i64.max ∧ a.spot = none := by
    simp only [Value.okWide, ht, Cell.okWide] at hval
    cases v <;> simp only [Cell.ok, ht] at hval <;> try exact hval.elim
    rename_i a n c
    cases a with
    | none =>
      left
      cases n <;> cases c <;> first | rfl | exact hval.elim
    | some a => right; exact ⟨a, n, c, rfl, hval.1, hval.2.1, hval.2.2.2.1⟩
  rcases hs with rfl | ⟨⟨b, off, sp0⟩, n, cap, rfl, h1, h2, h3⟩
  · exact ⟨none, 0, 0, 0, 0, fun _ => 0, fun _ => ⟨0, 0, 0, 0, false, 0⟩, rfl, Nat.le_refl _, by omega, fun h => absurd h (Nat.lt_irrefl _), fun k hk => absurd hk (Nat.not_lt_zero _)⟩
  cases h3
  obtain ⟨fuel, hf⟩ := hd
  rcases Deep.open_slice ht hf with ⟨h, -⟩ | ⟨a, len, cap', m, q, D, Pl, hv, -, hl, -, hm, -, hel⟩
  · simp [Value.cells] at h
  · simp only [Value.cells, List.cons.injEq, Value.slice.injEq, Option.some.injEq, and_true] at hv
    obtain ⟨rfl, rfl, rfl⟩ := hv
    have hlm : n ≤ m := by rw [hm]; split <;> omega
    have key : ∀ k, k < n → ∃ z : Int × En, z.2.ok ∧ w.cell? ⟨b, off + k * 7, none⟩ = some (.int .i64 z.1) ∧ EntAt w b (off + k * 7 + 1) z.2 := fun k hk => by
      obtain ⟨cs', hc, htr⟩ := hel k (by omega)
      rw [cs, addr_add6] at hc
      obtain ⟨p0, p1, j9, -, hlen, r9, t9⟩ := trod_struct2 hs' htr
      rw [cs] at hlen
      match cs', hlen with
      | [x9, x0, x1, x2, x3, x4, x5], _ =>
        rw [hS0.1, hS0.2, ci] at r9
        rw [hS1.1, hS1.2, ce] at t9
        obtain ⟨y0, y1, y2, j, -, -, t0, t1, t2⟩ := Deep.trod_struct3 he t9
        rw [hE0.1, hE0.2, cn] at t0
        rw [hE1.1, hE1.2, cb] at t1
        rw [hE2.1, hE2.2, ci] at t2
        obtain ⟨u0, u1, j0, -, -, s0, s1⟩ := trod_struct2 hn t0
        rw [hN0.1, hN0.2, ci] at s0
        rw [hN1.1, hN1.2, cd] at s1
        obtain ⟨v0, v1, v2, j1, -, -, r0, r1, r2⟩ := Deep.trod_struct3 hd' s1
        rw [hD0.1, hD0.2, cu] at r0
        rw [hD1.1, hD1.2, cu] at r1
        rw [hD2.1, hD2.2, cu] at r2
        obtain ⟨z9, q9, -, g9⟩ := DataW.trod_int hi r9
        obtain ⟨z0, q0, -, g0⟩ := DataW.trod_int hi s0
        obtain ⟨z1, q1, -, g1⟩ := DataW.trod_int hu r0
        obtain ⟨z2, q2, -, g2⟩ := DataW.trod_int hu r1
        obtain ⟨z3, q3, -, g3⟩ := DataW.trod_int hu r2
        obtain ⟨z4, q4, -⟩ := DataW.trod_bool hb t1
        obtain ⟨z5, q5, -, g5⟩ := DataW.trod_int hi t2
        simp at q9 q0 q1 q2 q3 q4 q5
        subst q9 q0 q1 q2 q3 q4 q5
        obtain ⟨w1, rfl, W1⟩ := u64_nat g1
        obtain ⟨w2, rfl, W2⟩ := u64_nat g2
        obtain ⟨w3, rfl, W3⟩ := u64_nat g3
        obtain ⟨k0, k1, k2, k3, k4, k5, k6⟩ := cells7 hc
        exact ⟨(z9, ⟨z0, w1, w2, w3, z4, z5⟩), ⟨bounds_i64 g0, W1, W2, W3, bounds_i64 g5⟩, k0, k1, k2, k3, k4, k5, k6⟩
    refine ⟨_, b, off, n, cap, fun k => if h : k < n then (key k h).choose.1 else 0, fun k => if h : k < n then (key k h).choose.2 else ⟨0, 0, 0, 0, false, 0⟩, rfl, h1, h2, fun _ => rfl, fun k hk => ?_⟩
    simp only [dif_pos hk]
    exact (key k hk).choose_spec
end
/-- What is done to the program's heap leaves the document's. -/
theorem twoR {w w' : World} {base pa pb : Nat} {va va' vb : Value} {R : List En} (hb : RefAt w base pb vb R) (hs : Sep pa va pb vb) (hF : Fr w w' pa va va') : RefAt w' base pb vb R ∧ Sep pa va' pb vb := by
  obtain ⟨b1, b2, b3, b4⟩ := id hb
  have hpl := (Array.getElem?_eq_some_iff.1 b2).1
  have hvl := b3.lt
  refine ⟨⟨b1, (hF.2.1 pb hpl hs.1.symm (fun e => hs.2.1 e.symm)).trans b2, ?_, b4⟩, hs.1, fun e => ?_, hs.2.2.1, fun k ha hb' => ?_⟩
  · refine ⟨b3.1, ?_⟩
    rcases b3.2 with hn | ⟨g, cap, cur, rfl, hb, hg, rest⟩
    · exact .inl hn
    · refine .inr ⟨g, cap, cur, rfl, hb, (hF.2.1 g (Array.getElem?_eq_some_iff.1 hg).1 (fun e => hs.2.2.1 (by simp [Value.ownBlock, e])) (fun e => hs.2.2.2 g e.symm (by simp [Value.ownBlock]))).trans hg, rest⟩
  · rcases hF.2.2 pb e with h | h
    · exact hs.2.1 h
    · omega
  · rcases hF.2.2 k ha with h | h
    · exact hs.2.2.2 k h hb'
    · have := (hvl k hb').2; omega
/-- Both heaps, alike. -/
def PlayAt (B pa pr i : Nat) (W w : World) : Prop :=
  ∃ (v : Value) (L : List Nu) (m : Nat) (u : Value) (R : List En), HeapAt w B pa v L m ∧ RefAt w B pr u R ∧ Hp.hp ltN L ∧ Both L R m ∧ Sep pa v pr u ∧ (∀ y ∈ L, y.e.ok) ∧ Gr W w ∧ m ≤ i ∧ L.length ≤ i
theorem both_ok {L : List Nu} {R : List En} {m : Nat} (h : Both L R m) (hok : ∀ y ∈ L, y.e.ok) : ∀ y ∈ R, y.ok := by
  obtain ⟨S, h1, h2, -⟩ := h
  intro y hy
  rw [← h2] at hy
  obtain ⟨z, hz, rfl⟩ := List.mem_map.1 hy
  exact hok z (h1.mem_iff.2 hz)
theorem tops_alike {L : List Nu} {R : List En} {m : Nat} (h : Both L R m) (hh : Hp.hp ltN L) : ∃ (e : En) (q : Bool), topV L = .tuple #[.agg #[.int .i64 (e).id, .int .u64 (e).hi, .int .u64 (e).lo, .int .u64 (e).den, .bool (e).item, .int .i64 (e).node], .bool q] ∧ rTopV R = .tuple #[.agg #[.int .i64 (e).id, .int .u64 (e).hi, .int .u64 (e).lo, .int .u64 (e).den, .bool (e).item, .int .i64 (e).node], .bool q] := by
  cases L with
  | nil =>
    have : R = [] := List.eq_nil_of_length_eq_zero (by have := h.len; simp at this; exact this.symm)
    subst this
    exact ⟨zeroEn, false, rfl, by unfold rTopV; rw [dif_neg (by simp)]; rfl⟩
  | cons x L =>
    obtain ⟨hk, he, -⟩ := h.first (x := x) List.mem_cons_self (fun y hy => Hp.hp_root ltN_ord hh (by simp) y hy)
    refine ⟨x.e, true, rfl, ?_⟩
    unfold rTopV
    rw [dif_pos hk, ← he]
end Go.Proofs.Ytldlpbfncgcimaa
