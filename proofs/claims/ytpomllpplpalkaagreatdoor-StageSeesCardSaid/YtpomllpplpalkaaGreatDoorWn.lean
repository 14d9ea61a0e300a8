import Derived.Test.YtpomllpplpalkaaGreatDoorCp
import Derived.Test.YtpomllpplpalkaaGreatDoorGc
import Derived.Test.YtpomllpplpalkaaGreatDoorEq
import Derived.Lib.SmallJoins
import Derived.Test.YtpomllpplpalkaaGreatDoorWm
import Derived.Test.YtpomllpplpalkaaGreatDoorRo
import Derived.Deep.Slices
import Derived.ChangeArms
/- objects and queries that come in -/
namespace Go.Proofs.YtpomllpplpalkaaGreatDoor
set_option linter.unusedVariables false
set_option linter.unusedSimpArgs false
open Go.ChangeShapes Go.WideShapes Go.ChangeAt Go.RowKit
theorem addr_addO (b off n : Nat) : (⟨b, off, none⟩ : Addr).add n = ⟨b, off + n, none⟩ := by
  unfold Addr.add; split <;> simp_all
section
variable {H : Type} {enc : TypeId × Value → H} {P : Program} {w : World} {base : Nat} {sp : Nat → Bool} {held : Bool} {r : Reach} {b0 : Nat}
theorem spot_cell {a : Addr} {v : Value} (h : w.cell? a = some v) : a.spot = none := by
  unfold World.cell? at h
  split at h
  · split at h
    · cases h
    · rename_i hs; simpa using hs
  · cases h
theorem cells2s {a : Addr} {x0 x1 : Value} (h : w.cells? base a 2 = some [x0, x1]) : w.cell? (a.add 0) = some x0 ∧ w.cell? (a.add 1) = some x1 := by
  unfold World.cells? at h
  split at h
  · rw [show List.range 2 = [0, 1] from rfl] at h
    simp only [List.mapM_cons, List.mapM_nil] at h
    obtain ⟨y0, h0, h⟩ := Option.bind_eq_some_iff.1 h
    obtain ⟨t0, h, e0⟩ := Option.bind_eq_some_iff.1 h
    obtain ⟨y1, h1, h⟩ := Option.bind_eq_some_iff.1 h
    obtain ⟨t1, h, e1⟩ := Option.bind_eq_some_iff.1 h
    cases h
    cases e1
    cases e0
    exact ⟨h0, h1⟩
  · cases h
theorem trod_ptsC {t p u : TypeId} {G0 G1 : Field} {x : Value} {fuel : Nat} {y : DataW H × List MemPlace} (ht : P.underlying t = some (.slice p)) (hp : P.underlying p = some (.struct #[G0, G1])) (hu : P.underlying u = some (.int .i64))
    (hG0 : G0.type = u ∧ G0.offset = 0) (hG1 : G1.type = u ∧ G1.offset = 1) (cp : P.cellsOf p = 2) (cu : P.cellsOf u = 1)
    (hd : DataW.trod enc P w base sp held fuel t [x] = some y) : ∃ (n : Nat) (X Y : Nat → Int), Pts w x n X Y := by
  rcases Deep.open_slice ht hd with ⟨h, -⟩ | ⟨a, n, cap, m, q, D, Pl, hv, -, hl, hcap, hm, -, hel⟩
  · simp only [List.cons.injEq, and_true] at h
    subst h
    exact ⟨0, fun _ => 0, fun _ => 0, none, 0, 0, 0, rfl, Nat.le_refl _, by decide, fun h => absurd h (by omega), fun k h => absurd h (by omega)⟩
  · simp only [List.cons.injEq, and_true] at hv
    subst hv
    have hlm : n ≤ m := by rw [hm]; split <;> omega
    have hcap' : cap ≤ 9223372036854775807 := by unfold maxLen at hcap; omega
    obtain ⟨b, off, s⟩ := a
    have key : ∀ k, k < n → ∃ z : Int × Int, w.cell? (((⟨b, off, s⟩ : Addr).add (k * 2)).add 0) = some (.int .i64 z.1) ∧ w.cell? (((⟨b, off, s⟩ : Addr).add (k * 2)).add 1) = some (.int .i64 z.2) := fun k hk => by
      obtain ⟨cs', hc, htr⟩ := hel k (by omega)
      rw [cp] at hc
      obtain ⟨y0, y1, j, -, hlen, t0, t1⟩ := trod_struct2 hp htr
      rw [cp] at hlen
      match cs', hlen with
      | [x0, x1], _ =>
        rw [hG0.1, hG0.2, cu] at t0
        rw [hG1.1, hG1.2, cu] at t1
        obtain ⟨z0, q0, -, -⟩ := DataW.trod_int hu t0
        obtain ⟨z1, q1, -, -⟩ := DataW.trod_int hu t1
        simp at q0 q1
        subst q0 q1
        exact ⟨(z0, z1), cells2s hc⟩
    by_cases h0 : n = 0
    · subst h0
      exact ⟨0, fun _ => 0, fun _ => 0, some ⟨b, off, s⟩, cap, b, off, rfl, Nat.zero_le _, hcap', fun h => absurd h (by omega), fun k h => absurd h (by omega)⟩
    · have hs : s = none := by
        obtain ⟨z, hz, -⟩ := key 0 (by omega)
        have := spot_cell hz
        unfold Addr.add at this
        (repeat' split at this) <;> simp_all
      subst hs
      have key2 : ∀ k, k < n → ∃ z : Int × Int, w.cell? ⟨b, off + k * 2, none⟩ = some (.int .i64 z.1) ∧ w.cell? ⟨b, off + k * 2 + 1, none⟩ = some (.int .i64 z.2) := fun k hk => by
        obtain ⟨z, h0, h1⟩ := key k hk
        rw [addr_addO, addr_addO] at h0 h1
        exact ⟨z, h0, h1⟩
      refine ⟨n, fun k => if h : k < n then (key2 k h).choose.1 else 0, fun k => if h : k < n then (key2 k h).choose.2 else 0, some ⟨b, off, none⟩, cap, b, off, rfl, hl, hcap', fun _ => rfl, fun k hk => ?_⟩
      simp only [dif_pos hk]
      exact (key2 k hk).choose_spec
theorem open_query {t tb s p u : TypeId} {F0 F1 F2 B0 B1 G0 G1 : Field} {v : Value} {d : DataW H} {ps : List MemPlace} (hs : P.underlying t = some (.struct #[F0, F1, F2])) (hsb : P.underlying tb = some (.struct #[B0, B1]))
    (hF0 : F0.type = u ∧ F0.offset = 0) (hF1 : F1.type = tb ∧ F1.offset = 1) (hF2 : F2.type = s ∧ F2.offset = 5) (hB0 : B0.type = p ∧ B0.offset = 0) (hB1 : B1.type = p ∧ B1.offset = 2)
    (ct : P.cellsOf t = 6) (cb : P.cellsOf tb = 4) (cs' : P.cellsOf s = 1)
    (ht : P.underlying s = some (.slice p)) (hp : P.underlying p = some (.struct #[G0, G1])) (hu : P.underlying u = some (.int .i64))
    (hG0 : G0.type = u ∧ G0.offset = 0) (hG1 : G1.type = u ∧ G1.offset = 1) (cp : P.cellsOf p = 2) (cu : P.cellsOf u = 1)
    (hval : Value.okWide P w r b0 t v) (hd : DataW.Trod enc P w base sp held t v d ps) : ∃ (k lx ly hx hy : Int) (x : Value) (n : Nat) (X Y : Nat → Int), v = .agg #[.int .i64 k, .int .i64 lx, .int .i64 ly, .int .i64 hx, .int .i64 hy, x] ∧ Pts w x n X Y := by
  obtain ⟨cs, rfl, hsz⟩ := okWide_struct hs hval
  obtain ⟨fuel, hf⟩ := hd
  obtain ⟨y0, y1, y2, j, -, hlen, t0, t1, t2⟩ := Deep.trod_struct3 hs hf
  rw [ct] at hlen
  replace hlen : cs.toList.length = 6 := hlen
  obtain ⟨l, rfl⟩ : ∃ l : List Value, cs = l.toArray := ⟨cs.toList, by simp⟩
  match l, hlen with
  | [a, b, c, e, f, g], _ =>
    rw [hF0.1, hF0.2, cu] at t0
    rw [hF1.1, hF1.2, cb] at t1
    rw [hF2.1, hF2.2, cs'] at t2
    obtain ⟨z0, q0, -, -⟩ := DataW.trod_int hu t0
    simp [Value.cells] at q0
    obtain ⟨y3, y4, j2, -, -, t3, t4⟩ := trod_struct2 hsb t1
    rw [hB0.1, hB0.2, cp] at t3
    rw [hB1.1, hB1.2, cp] at t4
    obtain ⟨y5, y6, j3, -, -, t5, t6⟩ := trod_struct2 hp t3
    rw [hG0.1, hG0.2, cu] at t5
    rw [hG1.1, hG1.2, cu] at t6
    obtain ⟨y7, y8, j4, -, -, t7, t8⟩ := trod_struct2 hp t4
    rw [hG0.1, hG0.2, cu] at t7
    rw [hG1.1, hG1.2, cu] at t8
    obtain ⟨z1, q1, -, -⟩ := DataW.trod_int hu t5
    obtain ⟨z2, q2, -, -⟩ := DataW.trod_int hu t6
    obtain ⟨z3, q3, -, -⟩ := DataW.trod_int hu t7
    obtain ⟨z4, q4, -, -⟩ := DataW.trod_int hu t8
    simp [Value.cells] at q1 q2 q3 q4
    subst q0 q1 q2 q3 q4
    have t9 : DataW.trod enc P w base sp held j s [g] = some y2 := by simpa [Value.cells] using t2
    obtain ⟨n, X, Y, hP⟩ := trod_ptsC ht hp hu hG0 hG1 cp cu t9
    exact ⟨z0, z1, z2, z3, z4, g, n, X, Y, rfl, hP⟩
end
end Go.Proofs.YtpomllpplpalkaaGreatDoor
/- model: a row of changes that comes in; which are looked at -/
namespace Go.Proofs.YtpomllpplpalkaaGreatDoor
set_option linter.unusedVariables false
set_option linter.unusedSimpArgs false
open Go.ChangeShapes Go.WideShapes Go.ChangeAt Go.RowKit Go.Maps

structure MChg where
  kd : Int
  id : Int
  k : Int
  v : Value
  n : Nat
  X : Nat → Int
  Y : Nat → Int
theorem addr_addm (b off n : Nat) : (⟨b, off, none⟩ : Addr).add n = ⟨b, off + n, none⟩ := by unfold Addr.add; split <;> simp_all
def MChgAt (w : World) (B o : Nat) (c : MChg) : Prop := w.cell? ⟨B, o, none⟩ = some (.int .i64 c.kd) ∧ w.cell? ⟨B, o + 1, none⟩ = some (.int .i64 c.id) ∧ w.cell? ⟨B, o + 2, none⟩ = some (.int .i64 c.k) ∧ w.cell? ⟨B, o + 3, none⟩ = some c.v ∧ Pts w c.v c.n c.X c.Y ∧ i64R c.id
theorem mchgAt_gr {a b : World} {B o : Nat} {c : MChg} (h : MChgAt a B o c) (g : Gr a b) : MChgAt b B o c := ⟨cell_gr g h.1, cell_gr g h.2.1, cell_gr g h.2.2.1, cell_gr g h.2.2.2.1, pts_gr h.2.2.2.2.1 g, h.2.2.2.2.2⟩
def MChs (w : World) (v : Value) (n : Nat) (D : Nat → MChg) : Prop :=
  ∃ (ad : Option Addr) (cap B off : Nat), v = .slice ad n cap ∧ n ≤ cap ∧ cap ≤ 9223372036854775807 ∧ (0 < n → ad = some ⟨B, off, none⟩) ∧ ∀ k, k < n → MChgAt w B (off + k * 4) (D k)
section
variable {H : Type} {enc : TypeId × Value → H} {P : Program} {w : World} {base : Nat} {sp : Nat → Bool} {held : Bool} {r : Reach} {b0 : Nat}
theorem cells4m {a : Addr} {x0 x1 x2 x3 : Value} (h : w.cells? base a 4 = some [x0, x1, x2, x3]) : w.cell? (a.add 0) = some x0 ∧ w.cell? (a.add 1) = some x1 ∧ w.cell? (a.add 2) = some x2 ∧ w.cell? (a.add 3) = some x3 := by
  unfold World.cells? at h
  split at h
  · rw [show List.range 4 = [0, 1, 2, 3] from rfl] at h
    simp only [List.mapM_cons, List.mapM_nil] at h
    obtain ⟨y0, h0, h⟩ := Option.bind_eq_some_iff.1 h
    obtain ⟨t0, h, e0⟩ := Option.bind_eq_some_iff.1 h
    obtain ⟨y1, h1, h⟩ := Option.bind_eq_some_iff.1 h
    obtain ⟨t1, h, e1⟩ := Option.bind_eq_some_iff.1 h
    obtain ⟨y2, h2, h⟩ := Option.bind_eq_some_iff.1 h
    obtain ⟨t2, h, e2⟩ := Option.bind_eq_some_iff.1 h
    obtain ⟨y3, h3, h⟩ := Option.bind_eq_some_iff.1 h
    obtain ⟨t3, h, e3⟩ := Option.bind_eq_some_iff.1 h
    cases h
    cases e3
    cases e2
    cases e1
    cases e0
    exact ⟨h0, h1, h2, h3⟩
  · cases h
def MChg.none : MChg := ⟨0, 0, 0, .nilIface, 0, fun _ => 0, fun _ => 0⟩
end


theorem mChs_gr {a b : World} {v : Value} {n : Nat} {D : Nat → MChg} (h : MChs a v n D) (g : Gr a b) : MChs b v n D := by
  obtain ⟨ad, cap, B, off, e, h1, h2, h3, h4⟩ := h
  exact ⟨ad, cap, B, off, e, h1, h2, h3, fun k hk => mchgAt_gr (h4 k hk) g⟩
end Go.Proofs.YtpomllpplpalkaaGreatDoor
