/- enc: objects laid -/
import Derived.Test.YtldlpbfncgcimaaEi
import Derived.Deep.RegionWith
namespace Go.Proofs.Ytldlpbfncgcimaa
set_option linter.unusedVariables false
open Go.ChangeShapes Go.WideShapes Go.ChangeAt Go.RowKit

theorem c_UnvarintR {L : List UInt8} {v : Value} (W : World) (h : Row W v L) (hl : L.length ≤ 100000) :
    Calls Try.prog 12 #[v] W fun e w' => e = .returned (.tuple #[.int .u64 (uL L).1, .int .i64 (uL L).2]) ∧ Gr W w' := by
  obtain ⟨ad, cap, B, off, rfl, h1, h2, h3, h4⟩ := h
  exact c_rUnvarint L.length cap (rb L) ad B off h3 W hl (fun j _ => rb_lt L j) (fun j hj => by rw [← rb_at L hj]; exact h4 j hj)
theorem uL_wd (L : List UInt8) : Wd (uL L).1 ∧ (uL L).2 ≤ 10 ∧ ((uL L).2 = 0 → (uL L).1 = 0) := by
  have := Ec.uv_wd (rb L) L.length 10 0 0 (by decide)
  exact ⟨this.1, by show (Ec.uv (rb L) L.length 10 0 0).2 ≤ 10; have := this.2.1; omega, this.2.2⟩
set_option maxHeartbeats 2000000 in
set_option maxRecDepth 100000 in
theorem c_rUnsigned {L : List UInt8} {v : Value} (W : World) (h : Row W v L) (hl : L.length ≤ 100000) :
    Calls Try.prog 14 #[v] W fun e w' => e = .returned (.tuple #[.int .i64 (si (uL L).1), .int .i64 (uL L).2, .bool (decide (0 < (uL L).2))]) ∧ Gr W w' := by
  have HA := Lib.hid (c_UnvarintR W h hl)
  obtain ⟨ww, hs, h0⟩ := uL_wd L
  obtain ⟨x, ex⟩ : ∃ x, x = (uL L).1 := ⟨_, rfl⟩
  obtain ⟨s, es⟩ : ∃ s, s = (uL L).2 := ⟨_, rfl⟩
  rw [← ex, ← es] at HA h0
  rw [← ex] at ww
  rw [← es] at hs
  rw [← ex, ← es]
  clear ex es h
  unfold Wd at ww
  by_cases hz : s = 0
  · subst hz
    obtain rfl := h0 rfl
    have e1 : si 0 = 0 := by unfold si; rw [if_neg (by omega)]; rfl
    have e2 : decide (0 < 0) = false := rfl
    rw [e1, e2]
    clear e1 e2 h0
    go_enter Try.func14, Try.ntmps14
    go_wp2_with (first | (go_at_call 12; (with_reducible refine HA.out.mono ?_); rintro e w2 ⟨rfl, gz⟩))
    go_ret3
    exact ⟨rfl, gz⟩
  · rw [decide_eq_true (show 0 < s by omega)]
    have b1 : ((s : Int) == 0) = false := by simp; omega
    have b2 : (s == 0) = false := by simp; omega
    obtain ⟨q, hq⟩ : ∃ q, q = x / 2 := ⟨_, rfl⟩
    have c1 : (x : Int) / 2 = (q : Int) := by omega
    have c1b : x / 2 = q := hq.symm
    have c2 : IntKind.i64.wrap (q : Int) = q := by rw [IntKind.wrap_i64]; omega
    have c2b : (q : Int) ≤ 9223372036854775807 := by omega
    by_cases hb : x % 2 = 1
    · have d1 : (x : Int) % 2 = 1 := by omega
      have e1 : si x = -(q : Int) - 1 := by unfold si; rw [if_pos hb, hq]
      obtain ⟨r, er⟩ : ∃ r : Int, r = -(q : Int) - 1 := ⟨_, rfl⟩
      rw [e1, ← er]
      have d2 : IntKind.i64.wrap (-(q : Int)) = -(q : Int) := by rw [IntKind.wrap_i64]; omega
      have d3 : IntKind.i64.wrap (-(q : Int) - 1) = r := by rw [IntKind.wrap_i64]; omega
      have d4 : wrap64 (-(q : Int)) = -(q : Int) := IntWalk.wrap64_in _ (by omega)
      have d5 : wrap64 (-(q : Int) - 1) = r := by rw [← er]; exact IntWalk.wrap64_in _ (by omega)
      have d6 : -(q : Int) - 1 = r := er.symm
      clear e1 er hq hb h0
      go_enter Try.func14, Try.ntmps14
      go_wp2_with (first | (go_at_call 12; (with_reducible refine HA.out.mono ?_); rintro e w2 ⟨rfl, gz⟩))
      go_ret3
      exact ⟨rfl, gz⟩
    · have d1 : (x : Int) % 2 = 0 := by omega
      have e1 : si x = (q : Int) := by unfold si; rw [if_neg hb, hq]
      rw [e1]
      clear e1 hq hb h0
      go_enter Try.func14, Try.ntmps14
      go_wp2_with (first | (go_at_call 12; (with_reducible refine HA.out.mono ?_); rintro e w2 ⟨rfl, gz⟩))
      go_ret3
      exact ⟨rfl, gz⟩
end Go.Proofs.Ytldlpbfncgcimaa
