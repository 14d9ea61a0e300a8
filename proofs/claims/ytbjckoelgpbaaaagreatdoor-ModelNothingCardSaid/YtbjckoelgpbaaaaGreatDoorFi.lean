/- parts of rows of bytes -/
import Derived.Test.YtbjckoelgpbaaaaGreatDoorEa
namespace Go.Proofs.YtbjckoelgpbaaaaGreatDoor
set_option linter.unusedVariables false
open Go.ChangeShapes Go.WideShapes Go.ChangeAt Go.RowKit

theorem bytes_elem : Tryz.prog.underlying 109 = some (.slice (Tryz.prog.elem 109)) := by kernel_rfl
theorem run_part {ad : Option Addr} {n cap l h m : Nat} {lo hi : Option Value} {w : World} (hb : (Instr.sliceBounds true n cap lo hi none).run Tryz.prog w = .ok (l, h, m) w) :
    (Instr.slice 109 (.slice ad n cap) lo hi none).run Tryz.prog w = .ok (sliced ad l h m 1) w := by
  have hs : (sizeOf (Tryz.prog.elem 109)).run Tryz.prog w = .ok 1 w := by kernel_rfl
  rw [run_slice_any w 109 ad n cap bytes_elem lo hi none, hb]
  simp only [Result.andThen, hs]
/-- A part of a row. -/
theorem row_part {w : World} {v : Value} {L : List UInt8} (l h : Nat) (hl : l ≤ h) (hh : h ≤ L.length) (hR : Row w v L) :
    ∃ ad n cap, v = .slice ad n cap ∧ n = L.length ∧ n ≤ cap ∧ (cap : Int) ≤ 9223372036854775807 ∧ Row w (sliced ad l h cap 1) ((L.take h).drop l) := by
  obtain ⟨ad, cap, B, off, rfl, h1, h2, h3, h4⟩ := hR
  refine ⟨ad, _, cap, rfl, rfl, h1, by omega, ?_⟩
  have hlen : ((L.take h).drop l).length = h - l := by simp; omega
  refine ⟨(if cap = l then ad else ad.map (·.add (l * 1))), cap - l, B, off + l, by rw [hlen]; rfl, by rw [hlen]; omega, by omega, fun hp => ?_, fun j hj => ?_⟩
  · rw [hlen] at hp
    rw [h3 (by omega), if_neg (by omega)]
    show some ((⟨B, off, none⟩ : Addr).add (l * 1)) = _
    rw [show (⟨B, off, none⟩ : Addr).add (l * 1) = ⟨B, off + l, none⟩ from by unfold Addr.add; split <;> simp_all]
  · rw [hlen] at hj
    rw [Nat.add_assoc, h4 (l + j) (by omega)]
    simp
theorem run_from {ad : Option Addr} {n cap l : Nat} (hl : l ≤ n) (w : World) : (Instr.slice 109 (.slice ad n cap) (some (.int .i64 l)) none none).run Tryz.prog w = .ok (sliced ad l n cap 1) w := by
  have hs : (sizeOf (Tryz.prog.elem 109)).run Tryz.prog w = .ok 1 w := by kernel_rfl
  rw [run_slice_l w 109 ad n cap bytes_elem .i64 l (by omega) (by omega), hs]
  rfl
theorem run_to {ad : Option Addr} {n cap h : Nat} (hl : h ≤ cap) (w : World) : (Instr.slice 109 (.slice ad n cap) none (some (.int .i64 h)) none).run Tryz.prog w = .ok (sliced ad 0 h cap 1) w := by
  have hs : (sizeOf (Tryz.prog.elem 109)).run Tryz.prog w = .ok 1 w := by kernel_rfl
  rw [run_slice_h w 109 ad n cap bytes_elem .i64 h (by omega) (by omega), hs]
  rfl
theorem run_mid {ad : Option Addr} {n cap l h : Nat} (hl : l ≤ h) (hh : h ≤ cap) (w : World) : (Instr.slice 109 (.slice ad n cap) (some (.int .i64 l)) (some (.int .i64 h)) none).run Tryz.prog w = .ok (sliced ad l h cap 1) w := by
  have hs : (sizeOf (Tryz.prog.elem 109)).run Tryz.prog w = .ok 1 w := by kernel_rfl
  rw [run_slice_lh w 109 ad n cap bytes_elem .i64 .i64 l h (by omega) (by omega) (by omega), hs]
  rfl
/-- From a place on: the new slice, told of every world. -/
theorem row_from {w : World} {v : Value} {L : List UInt8} (l : Nat) (hl : l ≤ L.length) (hR : Row w v L) :
    ∃ v', (∀ w0, (Instr.slice 109 v (some (.int .i64 l)) none none).run Tryz.prog w0 = .ok v' w0) ∧ Row w v' (L.drop l) := by
  obtain ⟨ad, n, cap, rfl, e, h1, h2, h3⟩ := row_part l L.length hl (Nat.le_refl _) hR
  rw [List.take_length] at h3
  subst e
  exact ⟨_, fun w0 => run_from hl w0, h3⟩
theorem row_to {w : World} {v : Value} {L : List UInt8} (h : Nat) (hl : h ≤ L.length) (hR : Row w v L) :
    ∃ v', (∀ w0, (Instr.slice 109 v none (some (.int .i64 h)) none).run Tryz.prog w0 = .ok v' w0) ∧ Row w v' (L.take h) := by
  obtain ⟨ad, n, cap, rfl, e, h1, h2, h3⟩ := row_part 0 h (Nat.zero_le _) hl hR
  exact ⟨_, fun w0 => run_to (by omega) w0, h3⟩
theorem row_mid {w : World} {v : Value} {L : List UInt8} (l h : Nat) (hl : l ≤ h) (hh : h ≤ L.length) (hR : Row w v L) :
    ∃ v', (∀ w0, (Instr.slice 109 v (some (.int .i64 l)) (some (.int .i64 h)) none).run Tryz.prog w0 = .ok v' w0) ∧ Row w v' ((L.take h).drop l) := by
  obtain ⟨ad, n, cap, rfl, e, h1, h2, h3⟩ := row_part l h hl hh hR
  exact ⟨_, fun w0 => run_mid hl (by omega) w0, h3⟩
end Go.Proofs.YtbjckoelgpbaaaaGreatDoor
