/- ratio.Min: what the document fixes of it; slices of distances that come in -/
import Derived.Test.YthjhhnolkiejpaaDoorS
import Derived.Test.YthjhhnolkiejpaaDoorVg
import Derived.Deep.Slices
import Derived.Deep.Strs
namespace Go.Proofs.YthjhhnolkiejpaaDoor
set_option linter.unusedVariables false
open Go.ChangeShapes Go.WideShapes Go.ChangeAt Go.RowKit

theorem cmpI_neg (H L D : Nat → Nat) (i k : Nat) : cmpI H L D k i = -cmpI H L D i k := cmpD_neg ..
theorem cmpI_trans (H L D : Nat → Nat) {i j k : Nat} (a : cmpI H L D i j ≤ 0) (b : cmpI H L D j k ≤ 0) : cmpI H L D i k ≤ 0 := (cmpD_trans a b).1
theorem cmpI_trans2 (H L D : Nat → Nat) {i j k : Nat} (a : cmpI H L D i j ≤ 0) (b : cmpI H L D j k ≤ 0) : cmpI H L D i k = 0 → cmpI H L D i j = 0 ∧ cmpI H L D j k = 0 := (cmpD_trans a b).2
theorem best_succ (H L D : Nat → Nat) {k : Nat} (hk : k ≠ 0) : bestI H L D (k + 1) = if cmpI H L D k (bestI H L D k) < 0 then k else bestI H L D k := by
  show (if k = 0 then 0 else _) = _
  rw [if_neg hk]
/-- None of the first n is less than the one taken. -/
theorem best_least (H L D : Nat → Nat) : ∀ n k, k < n → ¬ cmpI H L D k (bestI H L D n) < 0 := by
  intro n
  induction n with
  | zero => intro k h; omega
  | succ n ih =>
    intro k hk
    by_cases h0 : n = 0
    · subst h0
      obtain rfl : k = 0 := by omega
      have : bestI H L D 1 = 0 := by unfold bestI; simp
      rw [show (0 + 1) = 1 from rfl, this]
      have := cmpI_neg H L D 0 0
      omega
    · rw [best_succ H L D h0]
      split
      · rename_i hlt
        by_cases hkn : k = n
        · subst hkn
          have := cmpI_neg H L D k k
          omega
        · intro hc
          have h1 := cmpI_trans H L D (Int.le_of_lt hc) (Int.le_of_lt hlt)
          have h2 := cmpI_trans2 H L D (Int.le_of_lt hc) (Int.le_of_lt hlt)
          have h3 := ih k (by omega)
          have h4 : cmpI H L D k (bestI H L D n) = 0 := by omega
          have := (h2 h4).1
          omega
      · rename_i hlt
        by_cases hkn : k = n
        · subst hkn; exact hlt
        · exact ih k (by omega)
/-- A row behind another. -/
def catN (n : Nat) (F G : Nat → Nat) (k : Nat) : Nat := if k < n then F k else G (k - n)
theorem cat_lt {n : Nat} (F G : Nat → Nat) {k : Nat} (h : k < n) : catN n F G k = F k := if_pos h
theorem cat_ge (n : Nat) (F G : Nat → Nat) (k : Nat) : catN n F G (n + k) = G k := by
  unfold catN
  rw [if_neg (by omega), Nat.add_sub_cancel_left]
theorem best_cat_lt (n : Nat) (H L D H' L' D' : Nat → Nat) : ∀ k, k ≤ n → bestI (catN n H H') (catN n L L') (catN n D D') k = bestI H L D k := by
  intro k
  induction k with
  | zero => intro _; rfl
  | succ k ih =>
    intro hk
    by_cases h0 : k = 0
    · subst h0; unfold bestI; simp
    · rw [best_succ _ _ _ h0, best_succ _ _ _ h0, ih (by omega)]
      have hb : bestI H L D k < n := by
        obtain ⟨m, rfl⟩ : ∃ m, k = m + 1 := ⟨k - 1, by omega⟩
        have := best_lt H L D m
        omega
      have : cmpI (catN n H H') (catN n L L') (catN n D D') k (bestI H L D k) = cmpI H L D k (bestI H L D k) := by
        unfold cmpI
        rw [cat_lt H H' (show k < n by omega), cat_lt L L' (show k < n by omega), cat_lt D D' (show k < n by omega), cat_lt H H' hb, cat_lt L L' hb, cat_lt D D' hb]
      rw [this]
/-- How the first of the least ones of the second row stands to that of the first. -/
def cmpX (H L D H' L' D' : Nat → Nat) (i k : Nat) : Int := cmpD (val (H' i) (L' i)) (D' i) (val (H k) (L k)) (D k)
theorem best_cat (n : Nat) (H L D H' L' D' : Nat → Nat) (hn : 0 < n) : ∀ m, 0 < m → bestI (catN n H H') (catN n L L') (catN n D D') (n + m) = if cmpX H L D H' L' D' (bestI H' L' D' m) (bestI H L D n) < 0 then n + bestI H' L' D' m else bestI H L D n := by
  intro m
  induction m with
  | zero => intro h; omega
  | succ m ih =>
    intro _
    have hb : bestI H L D n < n := by
      obtain ⟨j, rfl⟩ : ∃ j, n = j + 1 := ⟨n - 1, by omega⟩
      exact best_lt H L D j
    have e1 : ∀ i k, k < n → cmpI (catN n H H') (catN n L L') (catN n D D') (n + i) k = cmpX H L D H' L' D' i k := fun i k hk => by
      unfold cmpI cmpX
      rw [cat_ge, cat_ge, cat_ge, cat_lt H H' hk, cat_lt L L' hk, cat_lt D D' hk]
    have e2 : ∀ i k, cmpI (catN n H H') (catN n L L') (catN n D D') (n + i) (n + k) = cmpI H' L' D' i k := fun i k => by
      unfold cmpI
      rw [cat_ge, cat_ge, cat_ge, cat_ge, cat_ge, cat_ge]
    rw [← Nat.add_assoc, best_succ _ _ _ (show n + m ≠ 0 by omega)]
    by_cases h0 : m = 0
    · subst h0
      rw [Nat.add_zero, best_cat_lt n H L D H' L' D' n (Nat.le_refl _)]
      have : bestI H' L' D' (0 + 1) = 0 := by unfold bestI; simp
      rw [this]
      have := e1 0 _ hb
      rw [Nat.add_zero] at this
      rw [this, Nat.add_zero]
    · rw [ih (by omega), best_succ _ _ _ h0]
      have f1 := e1 m _ hb
      have f2 := e2 m (bestI H' L' D' m)
      by_cases hx : cmpX H L D H' L' D' (bestI H' L' D' m) (bestI H L D n) < 0
      · rw [if_pos hx, f2]
        by_cases hy : cmpI H' L' D' m (bestI H' L' D' m) < 0
        · rw [if_pos hy, if_pos hy]
          have t1 : cmpX H L D H' L' D' m (bestI H L D n) ≤ 0 := (cmpD_trans (Int.le_of_lt hy) (Int.le_of_lt hx)).1
          have t2 : cmpX H L D H' L' D' m (bestI H L D n) = 0 → _ := (cmpD_trans (Int.le_of_lt hy) (Int.le_of_lt hx)).2
          rw [if_pos]
          rcases Int.lt_or_eq_of_le t1 with h | h
          · exact h
          · have := (t2 h).1
            unfold cmpI at hy
            omega
        · rw [if_neg hy, if_neg hy, if_pos hx]
      · rw [if_neg hx, f1]
        by_cases hy : cmpI H' L' D' m (bestI H' L' D' m) < 0
        · rw [if_pos hy]
        · rw [if_neg hy, if_neg hx, if_neg]
          intro hz
          apply hx
          have n1 : cmpI H' L' D' (bestI H' L' D' m) m ≤ 0 := by
            have := cmpI_neg H' L' D' m (bestI H' L' D' m)
            omega
          have t1 : cmpX H L D H' L' D' (bestI H' L' D' m) (bestI H L D n) ≤ 0 := (cmpD_trans n1 (Int.le_of_lt hz)).1
          have t2 : cmpX H L D H' L' D' (bestI H' L' D' m) (bestI H L D n) = 0 → _ := (cmpD_trans n1 (Int.le_of_lt hz)).2
          rcases Int.lt_or_eq_of_le t1 with h | h
          · exact h
          · have := (t2 h).2
            unfold cmpX at hz
            omega

section
variable {H : Type} {enc : TypeId × Value → H} {P : Program} {w : World} {base : Nat} {sp : Nat → Bool} {held : Bool} {r : Reach} {b0 : Nat}
theorem addr_add3 (b off n : Nat) : (⟨b, off, none⟩ : Addr).add n = ⟨b, off + n, none⟩ := by
  unfold Addr.add
  split
  · rename_i h; simp
  · rfl
theorem cells3 {b off : Nat} {x0 x1 x2 : Value} (h : w.cells? base ⟨b, off, none⟩ 3 = some [x0, x1, x2]) :
    w.cell? ⟨b, off, none⟩ = some x0 ∧ w.cell? ⟨b, off + 1, none⟩ = some x1 ∧ w.cell? ⟨b, off + 2, none⟩ = some x2 := by
  unfold World.cells? at h
  split at h
  · rw [show List.range 3 = [0, 1, 2] from rfl] at h
    simp only [List.mapM_cons, List.mapM_nil, addr_add3] at h
    obtain ⟨y0, h0, h⟩ := Option.bind_eq_some_iff.1 h
    obtain ⟨t0, h, e0⟩ := Option.bind_eq_some_iff.1 h
    obtain ⟨y1, h1, h⟩ := Option.bind_eq_some_iff.1 h
    obtain ⟨t1, h, e1⟩ := Option.bind_eq_some_iff.1 h
    obtain ⟨y2, h2, h⟩ := Option.bind_eq_some_iff.1 h
    obtain ⟨t2, h, e2⟩ := Option.bind_eq_some_iff.1 h
    cases h
    cases e2
    cases e1
    cases e0
    exact ⟨h0, h1, h2⟩
  · cases h
theorem open_dists {t e u : TypeId} {F0 F1 F2 : Field} {v : Value} {d : DataW H} {ps : List MemPlace} (ht : P.underlying t = some (.slice e)) (he : P.underlying e = some (.struct #[F0, F1, F2])) (hu : P.underlying u = some (.int .u64))
    (hF0 : F0.type = u ∧ F0.offset = 0) (hF1 : F1.type = u ∧ F1.offset = 1) (hF2 : F2.type = u ∧ F2.offset = 2) (ce : P.cellsOf e = 3) (cu : P.cellsOf u = 1)
    (hval : Value.okWide P w r b0 t v) (hd : DataW.Trod enc P w base sp held t v d ps) :
    v = .slice none 0 0 ∨ ∃ (b off n cap : Nat) (A B C : Nat → Nat), v = .slice (some ⟨b, off, none⟩) n cap ∧ n ≤ cap ∧ (cap : Int) ≤ 9223372036854775807 ∧
      ∀ k, k < n → (Wd (A k) ∧ Wd (B k) ∧ Wd (C k)) ∧ w.cell? ⟨b, off + k * 3, none⟩ = some (.int .u64 (A k)) ∧ w.cell? ⟨b, off + k * 3 + 1, none⟩ = some (.int .u64 (B k)) ∧ w.cell? ⟨b, off + k * 3 + 2, none⟩ = some (.int .u64 (C k)) := by
  have hs : (v = .slice none 0 0) ∨ ∃ a n c, v = .slice (some a) n c ∧ n ≤ c ∧ (c : Int) ≤ IntKind.i64.max ∧ a.spot = none := by
    simp only [Value.okWide, ht, Cell.okWide] at hval
    cases v <;> simp only [Cell.ok, ht] at hval <;> try exact hval.elim
    rename_i a n c
    cases a with
    | none =>
      left
      cases n <;> cases c <;> first | rfl | exact hval.elim
    | some a => right; exact ⟨a, n, c, rfl, hval.1, hval.2.1, hval.2.2.2.1⟩
  rcases hs with rfl | ⟨⟨b, off, sp0⟩, n, cap, rfl, h1, h2, h3⟩
  · exact Or.inl rfl
  right
  cases h3
  obtain ⟨fuel, hf⟩ := hd
  rcases Deep.open_slice ht hf with ⟨h, -⟩ | ⟨a, len, cap', m, q, D, Pl, hv, -, hl, -, hm, -, hel⟩
  · simp [Value.cells] at h
  · simp only [Value.cells, List.cons.injEq, Value.slice.injEq, Option.some.injEq, and_true] at hv
    obtain ⟨rfl, rfl, rfl⟩ := hv
    have hlm : n ≤ m := by rw [hm]; split <;> omega
    have key : ∀ k, k < n → ∃ z : Nat × Nat × Nat, (Wd z.1 ∧ Wd z.2.1 ∧ Wd z.2.2) ∧ w.cell? ⟨b, off + k * 3, none⟩ = some (.int .u64 z.1) ∧ w.cell? ⟨b, off + k * 3 + 1, none⟩ = some (.int .u64 z.2.1) ∧ w.cell? ⟨b, off + k * 3 + 2, none⟩ = some (.int .u64 z.2.2) := fun k hk => by
      obtain ⟨cs', hc, htr⟩ := hel k (by omega)
      rw [ce, addr_add3] at hc
      obtain ⟨y0, y1, y2, j, -, hlen, t0, t1, t2⟩ := Deep.trod_struct3 he htr
      rw [ce] at hlen
      match cs', hlen with
      | [x0, x1, x2], _ =>
        rw [hF0.1, hF0.2, cu] at t0
        rw [hF1.1, hF1.2, cu] at t1
        rw [hF2.1, hF2.2, cu] at t2
        obtain ⟨z0, q0, -, g0⟩ := DataW.trod_int hu t0
        obtain ⟨z1, q1, -, g1⟩ := DataW.trod_int hu t1
        obtain ⟨z2, q2, -, g2⟩ := DataW.trod_int hu t2
        simp at q0 q1 q2
        subst q0 q1 q2
        obtain ⟨u0, rfl, W0⟩ := u64_nat g0
        obtain ⟨u1, rfl, W1⟩ := u64_nat g1
        obtain ⟨u2, rfl, W2⟩ := u64_nat g2
        exact ⟨(u0, u1, u2), ⟨W0, W1, W2⟩, cells3 hc⟩
    refine ⟨b, off, n, cap, fun k => if h : k < n then (key k h).choose.1 else 0, fun k => if h : k < n then (key k h).choose.2.1 else 0, fun k => if h : k < n then (key k h).choose.2.2 else 0, rfl, h1, h2, fun k hk => ?_⟩
    simp only [dif_pos hk]
    exact (key k hk).choose_spec
end
end Go.Proofs.YthjhhnolkiejpaaDoor
