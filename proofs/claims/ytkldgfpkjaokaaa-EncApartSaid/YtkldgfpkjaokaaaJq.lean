/- unlike changes have unlike bytes, and none is the other's beginning; a row of changes; rows of changes that come in -/
import Derived.Test.YtkldgfpkjaokaaaJm
import Derived.Test.YtkldgfpkjaokaaaOj
namespace Go.Proofs.Ytkldgfpkjaokaaa
set_option linter.unusedVariables false
set_option linter.unusedSimpArgs false
open Go.ChangeShapes Go.WideShapes Go.ChangeAt Go.RowKit


/-- A change: what, which item, its kind, its points. -/
structure Chg where
  kd : Int
  id : Int
  k : Int
  v : Value
  n : Nat
  X : Nat → Int
  Y : Nat → Int
abbrev Chg.code (c : Chg) : Nat := chgC c.kd c.id c.k c.n c.X c.Y
abbrev Chg.bytes (c : Chg) : List UInt8 := chgB c.kd c.id c.k c.n c.X c.Y
/-- Are two changes the same? -/
def Chg.same (a b : Chg) : Prop := a.kd = b.kd ∧ a.id = b.id ∧ a.k = b.k ∧ a.n = b.n ∧ ∀ i, i < a.n → a.X i = b.X i ∧ a.Y i = b.Y i
theorem Chg.as_same {L : List UInt8} {a b : Chg} {p q : Nat} (A : ChgAs L a.kd a.id a.k a.n a.X a.Y p) (B : ChgAs L b.kd b.id b.k b.n b.X b.Y q) : a.same b :=
  ⟨A.what.symm.trans B.what, A.item.symm.trans B.item, A.kind.symm.trans B.kind, A.many.symm.trans B.many, fun i hi => by
    have h2 : i < b.n := by have := A.many.symm.trans B.many; omega
    exact ⟨(A.xs i hi).1.symm.trans (B.xs i h2).1, (A.xs i hi).2.symm.trans (B.xs i h2).2⟩⟩
theorem Chg.same_bytes {a b : Chg} (h : a.same b) : a.bytes = b.bytes := by
  obtain ⟨h1, h2, h3, h4, h5⟩ := h
  unfold Chg.bytes chgB objB
  rw [← h1, ← h2, ← h3, ← h4, ptsB_congr a.n h5]
theorem Chg.of_prefix {a b : Chg} (ha : a.code = 0) (hb : b.code = 0) {M : List UInt8} (e : b.bytes = a.bytes ++ M) : a.same b := by
  have A := chg_as ha M
  have B := chg_as hb []
  rw [List.append_nil] at B
  have B' : ChgAs (a.bytes ++ M) b.kd b.id b.k b.n b.X b.Y b.bytes.length := e ▸ B
  exact Chg.as_same A B'
theorem Chg.same_symm {a b : Chg} (h : a.same b) : b.same a := by
  obtain ⟨h1, h2, h3, h4, h5⟩ := h
  exact ⟨h1.symm, h2.symm, h3.symm, h4.symm, fun i hi => ⟨(h5 i (by omega)).1.symm, (h5 i (by omega)).2.symm⟩⟩
/-- As far as both go, their bytes are the same only if they are. -/
theorem Chg.apart {a b : Chg} (ha : a.code = 0) (hb : b.code = 0) {n : Nat} (hn : n = min a.bytes.length b.bytes.length) : a.bytes.take n = b.bytes.take n ↔ a.same b := by
  constructor
  · intro h
    by_cases c : a.bytes.length ≤ b.bytes.length
    · have e : n = a.bytes.length := by omega
      rw [e, List.take_length] at h
      exact Chg.of_prefix (M := b.bytes.drop a.bytes.length) ha hb (by rw [h, List.length_take, Nat.min_eq_left c, List.take_append_drop])
    · have e : n = b.bytes.length := by omega
      rw [e, List.take_length] at h
      exact Chg.same_symm (Chg.of_prefix (M := a.bytes.drop b.bytes.length) hb ha (by rw [← h, List.length_take, Nat.min_eq_left (by omega), List.take_append_drop]))
  · intro h
    rw [Chg.same_bytes h]
/-- The bytes of a row of changes, from the i-th on; of the first ones. -/
def catF (D : Nat → Chg) : Nat → List UInt8
  | 0 => []
  | i + 1 => catF D i ++ (D i).bytes
def catB (D : Nat → Chg) (n i : Nat) : List UInt8 := (catF D n).drop (catF D i).length
theorem catF_split (D : Nat → Chg) {i : Nat} : ∀ n, i ≤ n → catF D n = catF D i ++ catB D n i := by
  intro n
  induction n with
  | zero => intro h; obtain rfl : i = 0 := by omega
            simp [catF, catB]
  | succ n ih =>
    intro h
    by_cases e : i = n + 1
    · subst e; unfold catB; rw [List.drop_length, List.append_nil]
    · have q := ih (by omega)
      have : (catF D (n + 1)).take (catF D i).length = catF D i := by
        simp only [catF]
        rw [q, List.append_assoc, List.take_left]
      unfold catB
      conv => lhs; rw [← List.take_append_drop (catF D i).length (catF D (n + 1)), this]
theorem catB_zero (D : Nat → Chg) (n : Nat) : catB D n 0 = catF D n := by unfold catB; simp [catF]
theorem catB_last (D : Nat → Chg) (n : Nat) : catB D n n = [] := by unfold catB; rw [List.drop_length]
theorem catB_step (D : Nat → Chg) {n i : Nat} (h : i < n) : catB D n i = (D i).bytes ++ catB D n (i + 1) := by
  have a := catF_split D n (Nat.le_of_lt h)
  have b := catF_split D n h
  simp only [catF] at b
  rw [a, List.append_assoc] at b
  exact List.append_cancel_left b
theorem catB_drop (D : Nat → Chg) {n i : Nat} (h : i < n) : (catB D n i).drop (D i).bytes.length = catB D n (i + 1) := by
  rw [catB_step D h, List.drop_left]

/-- A change's four cells, and its points. -/
def ChgAt (w : World) (B o : Nat) (c : Chg) : Prop := w.cell? ⟨B, o, none⟩ = some (.int .i64 c.kd) ∧ w.cell? ⟨B, o + 1, none⟩ = some (.int .i64 c.id) ∧ w.cell? ⟨B, o + 2, none⟩ = some (.int .i64 c.k) ∧ w.cell? ⟨B, o + 3, none⟩ = some c.v ∧ Pts w c.v c.n c.X c.Y
theorem chgAt_gr {a b : World} {B o : Nat} {c : Chg} (h : ChgAt a B o c) (g : Gr a b) : ChgAt b B o c := ⟨cell_gr g h.1, cell_gr g h.2.1, cell_gr g h.2.2.1, cell_gr g h.2.2.2.1, pts_gr h.2.2.2.2 g⟩
def Chs (w : World) (v : Value) (n : Nat) (D : Nat → Chg) : Prop :=
  ∃ (ad : Option Addr) (cap B off : Nat), v = .slice ad n cap ∧ n ≤ cap ∧ cap ≤ 9223372036854775807 ∧ (0 < n → ad = some ⟨B, off, none⟩) ∧ ∀ k, k < n → ChgAt w B (off + k * 4) (D k)
section
variable {H : Type} {enc : TypeId × Value → H} {P : Program} {w : World} {base : Nat} {sp : Nat → Bool} {held : Bool} {r : Reach} {b0 : Nat}
theorem cells4s {a : Addr} {x0 x1 x2 x3 : Value} (h : w.cells? base a 4 = some [x0, x1, x2, x3]) : w.cell? (a.add 0) = some x0 ∧ w.cell? (a.add 1) = some x1 ∧ w.cell? (a.add 2) = some x2 ∧ w.cell? (a.add 3) = some x3 := by
  unfold World.cells? at h
  split at h
  · rw [show List.range 4 = [0, 1, 2, 3] from rfl] at h
    simp only [List.mapM_cons, List.mapM_nil] at h
    obtain ⟨y0, h0, h⟩ := Option.bind_eq_some_iff.1 h
    obtain ⟨t0, h, e0⟩ := Option.bind_eq_some_iff.1 h
    obtain ⟨y1, h1, h⟩ := Option.bind_eq_some_iff.1 h
    obtain ⟨t1, h, e1⟩ := Option.bind_eq_some_iff.1 h
    obtain ⟨y2, h2, h⟩ := Option.bind_eq_some_iff.1 h
    obtain ⟨t2, h, e2⟩ := Option.bind_eq_some_iff.1 h
    obtain ⟨y3, h3, h⟩ := Option.bind_eq_some_iff.1 h
    obtain ⟨t3, h, e3⟩ := Option.bind_eq_some_iff.1 h
    cases h
    cases e3
    cases e2
    cases e1
    cases e0
    exact ⟨h0, h1, h2, h3⟩
  · cases h
def Chg.none : Chg := ⟨0, 0, 0, .nilIface, 0, fun _ => 0, fun _ => 0⟩
theorem open_changes {tt t ti to' s p u : TypeId} {F0 F1 I0 I1 O0 O1 G0 G1 : Field} {x : Value} {d : DataW H} {ps : List MemPlace} (htt : P.underlying tt = some (.slice t)) (hs : P.underlying t = some (.struct #[F0, F1])) (hsi : P.underlying ti = some (.struct #[I0, I1])) (hso : P.underlying to' = some (.struct #[O0, O1]))
    (hF0 : F0.type = u ∧ F0.offset = 0) (hF1 : F1.type = ti ∧ F1.offset = 1) (hI0 : I0.type = u ∧ I0.offset = 0) (hI1 : I1.type = to' ∧ I1.offset = 1) (hO0 : O0.type = u ∧ O0.offset = 0) (hO1 : O1.type = s ∧ O1.offset = 1)
    (ct : P.cellsOf t = 4) (ci : P.cellsOf ti = 3) (co : P.cellsOf to' = 2) (cs' : P.cellsOf s = 1)
    (ht : P.underlying s = some (.slice p)) (hp : P.underlying p = some (.struct #[G0, G1])) (hu : P.underlying u = some (.int .i64))
    (hG0 : G0.type = u ∧ G0.offset = 0) (hG1 : G1.type = u ∧ G1.offset = 1) (cp : P.cellsOf p = 2) (cu : P.cellsOf u = 1)
    (hval : Value.okWide P w r b0 tt x) (hd : DataW.Trod enc P w base sp held tt x d ps) : ∃ (n : Nat) (D : Nat → Chg), Chs w x n D := by
  have hform : (x = .slice none 0 0) ∨ ∃ a n c, x = .slice (some a) n c ∧ n ≤ c ∧ (c : Int) ≤ IntKind.i64.max ∧ a.spot = none := by
    simp only [Value.okWide, htt, Cell.okWide] at hval
    cases x <;> simp only [Cell.ok, htt] at hval <;> try exact hval.elim
    rename_i a n c
    cases a with
    | none =>
      left
      cases n <;> cases c <;> first | rfl | exact hval.elim
    | some a => right; exact ⟨a, n, c, rfl, hval.1, hval.2.1, hval.2.2.2.1⟩
  rcases hform with rfl | ⟨⟨b, off, sp0⟩, n, cap, rfl, h1, h2, h3⟩
  · exact ⟨0, fun _ => Chg.none, none, 0, 0, 0, rfl, Nat.le_refl _, by decide, fun h => absurd h (by omega), fun k h => absurd h (by omega)⟩
  cases h3
  have h2' : cap ≤ 9223372036854775807 := by
    have : IntKind.i64.max = 9223372036854775807 := rfl
    omega
  obtain ⟨fuel, hf⟩ := hd
  rcases Deep.open_slice htt hf with ⟨h, -⟩ | ⟨a, len, cap', m, q', D, Pl, hv, -, hl, -, hm, -, hel⟩
  · simp [Value.cells] at h
  · simp only [Value.cells, List.cons.injEq, Value.slice.injEq, Option.some.injEq, and_true] at hv
    obtain ⟨rfl, rfl, rfl⟩ := hv
    have hlm : n ≤ m := by rw [hm]; split <;> omega
    have key : ∀ k, k < n → ∃ c : Chg, ChgAt w b (off + k * 4) c := fun k hk => by
      obtain ⟨cs0, hc, htr⟩ := hel k (by omega)
      rw [ct, addr_add1] at hc
      have hlen : cs0.length = 4 := (World.cells?_some hc).2.1
      obtain ⟨y0, y1, j, -, -, t0, t1⟩ := trod_struct2 hs htr
      match cs0, hlen with
      | [xa, xb, xc, xe], _ =>
        rw [hF0.1, hF0.2, cu] at t0
        rw [hF1.1, hF1.2, ci] at t1
        obtain ⟨z0, q0, -, -⟩ := DataW.trod_int hu t0
        simp at q0
        obtain ⟨y2, y3, j2, -, -, t2, t3⟩ := trod_struct2 hsi t1
        rw [hI0.1, hI0.2, cu] at t2
        rw [hI1.1, hI1.2, co] at t3
        obtain ⟨z1, q1, -, -⟩ := DataW.trod_int hu t2
        simp at q1
        obtain ⟨y4, y5, j3, -, -, t4, t5⟩ := trod_struct2 hso t3
        rw [hO0.1, hO0.2, cu] at t4
        rw [hO1.1, hO1.2, cs'] at t5
        obtain ⟨z2, q2, -, -⟩ := DataW.trod_int hu t4
        simp at q2
        subst q0 q1 q2
        have t6 : DataW.trod enc P w base sp held j3 s [xe] = some y5 := by simpa using t5
        obtain ⟨m', X, Y, hP⟩ := trod_ptsC ht hp hu hG0 hG1 cp cu t6
        obtain ⟨k0, k1, k2, k3⟩ := cells4s hc
        rw [addr_add1] at k0 k1 k2 k3
        exact ⟨⟨z0, z1, z2, xe, m', X, Y⟩, k0, k1, k2, k3, hP⟩
    refine ⟨n, fun k => if h : k < n then (key k h).choose else Chg.none, some ⟨b, off, none⟩, cap, b, off, rfl, h1, h2', fun _ => rfl, fun k hk => ?_⟩
    simp only [dif_pos hk]
    exact (key k hk).choose_spec
end
end Go.Proofs.Ytkldgfpkjaokaaa
