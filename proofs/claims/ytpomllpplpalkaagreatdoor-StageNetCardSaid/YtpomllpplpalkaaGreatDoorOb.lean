/- objects and queries that come in -/
import Derived.Test.YtpomllpplpalkaaGreatDoorCp
import Derived.Test.YtpomllpplpalkaaGreatDoorGc
import Derived.Test.YtpomllpplpalkaaGreatDoorEq
import Derived.Lib.SmallJoins
namespace Go.Proofs.YtpomllpplpalkaaGreatDoor
set_option linter.unusedVariables false
set_option linter.unusedSimpArgs false
open Go.ChangeShapes Go.WideShapes Go.ChangeAt Go.RowKit
theorem addr_addO (b off n : Nat) : (⟨b, off, none⟩ : Addr).add n = ⟨b, off + n, none⟩ := by
  unfold Addr.add; split <;> simp_all
section
variable {H : Type} {enc : TypeId × Value → H} {P : Program} {w : World} {base : Nat} {sp : Nat → Bool} {held : Bool} {r : Reach} {b0 : Nat}
theorem spot_cell {a : Addr} {v : Value} (h : w.cell? a = some v) : a.spot = none := by
  unfold World.cell? at h
  split at h
  · split at h
    · cases h
    · rename_i hs; simpa using hs
  · cases h
theorem cells2s {a : Addr} {x0 x1 : Value} (h : w.cells? base a 2 = some [x0, x1]) : w.cell? (a.add 0) = some x0 ∧ w.cell? (a.add 1) = some x1 := by
  unfold World.cells? at h
  split at h
  · rw [show List.range 2 = [0, 1] from rfl] at h
    simp only [List.mapM_cons, List.mapM_nil] at h
    obtain ⟨y0, h0, h⟩ := Option.bind_eq_some_iff.1 h
    obtain ⟨t0, h, e0⟩ := Option.bind_eq_some_iff.1 h
    obtain ⟨y1, h1, h⟩ := Option.bind_eq_some_iff.1 h
    obtain ⟨t1, h, e1⟩ := Option.bind_eq_some_iff.1 h
    cases h
    cases e1
    cases e0
    exact ⟨h0, h1⟩
  · cases h
theorem trod_ptsC {t p u : TypeId} {G0 G1 : Field} {x : Value} {fuel : Nat} {y : DataW H × List MemPlace} (ht : P.underlying t = some (.slice p)) (hp : P.underlying p = some (.struct #[G0, G1])) (hu : P.underlying u = some (.int .i64))
    (hG0 : G0.type = u ∧ G0.offset = 0) (hG1 : G1.type = u ∧ G1.offset = 1) (cp : P.cellsOf p = 2) (cu : P.cellsOf u = 1)
    (hd : DataW.trod enc P w base sp held fuel t [x] = some y) : ∃ (n : Nat) (X Y : Nat → Int), Pts w x n X Y := by
  rcases Deep.open_slice ht hd with ⟨h, -⟩ | ⟨a, n, cap, m, q, D, Pl, hv, -, hl, hcap, hm, -, hel⟩
  · simp only [List.cons.injEq, and_true] at h
    subst h
    exact ⟨0, fun _ => 0, fun _ => 0, none, 0, 0, 0, rfl, Nat.le_refl _, by decide, fun h => absurd h (by omega), fun k h => absurd h (by omega)⟩
  · simp only [List.cons.injEq, and_true] at hv
    subst hv
    have hlm : n ≤ m := by rw [hm]; split <;> omega
    have hcap' : cap ≤ 9223372036854775807 := by unfold maxLen at hcap; omega
    obtain ⟨b, off, s⟩ := a
    have key : ∀ k, k < n → ∃ z : Int × Int, w.cell? (((⟨b, off, s⟩ : Addr).add (k * 2)).add 0) = some (.int .i64 z.1) ∧ w.cell? (((⟨b, off, s⟩ : Addr).add (k * 2)).add 1) = some (.int .i64 z.2) := fun k hk => by
      obtain ⟨cs', hc, htr⟩ := hel k (by omega)
      rw [cp] at hc
      obtain ⟨y0, y1, j, -, hlen, t0, t1⟩ := trod_struct2 hp htr
      rw [cp] at hlen
      match cs', hlen with
      | [x0, x1], _ =>
        rw [hG0.1, hG0.2, cu] at t0
        rw [hG1.1, hG1.2, cu] at t1
        obtain ⟨z0, q0, -, -⟩ := DataW.trod_int hu t0
        obtain ⟨z1, q1, -, -⟩ := DataW.trod_int hu t1
        simp at q0 q1
        subst q0 q1
        exact ⟨(z0, z1), cells2s hc⟩
    by_cases h0 : n = 0
    · subst h0
      exact ⟨0, fun _ => 0, fun _ => 0, some ⟨b, off, s⟩, cap, b, off, rfl, Nat.zero_le _, hcap', fun h => absurd h (by omega), fun k h => absurd h (by omega)⟩
    · have hs : s = none := by
        obtain ⟨z, hz, -⟩ := key 0 (by omega)
        have := spot_cell hz
        unfold Addr.add at this
        (repeat' split at this) <;> simp_all
      subst hs
      have key2 : ∀ k, k < n → ∃ z : Int × Int, w.cell? ⟨b, off + k * 2, none⟩ = some (.int .i64 z.1) ∧ w.cell? ⟨b, off + k * 2 + 1, none⟩ = some (.int .i64 z.2) := fun k hk => by
        obtain ⟨z, h0, h1⟩ := key k hk
        rw [addr_addO, addr_addO] at h0 h1
        exact ⟨z, h0, h1⟩
      refine ⟨n, fun k => if h : k < n then (key2 k h).choose.1 else 0, fun k => if h : k < n then (key2 k h).choose.2 else 0, some ⟨b, off, none⟩, cap, b, off, rfl, hl, hcap', fun _ => rfl, fun k hk => ?_⟩
      simp only [dif_pos hk]
      exact (key2 k hk).choose_spec
end
end Go.Proofs.YtpomllpplpalkaaGreatDoor
