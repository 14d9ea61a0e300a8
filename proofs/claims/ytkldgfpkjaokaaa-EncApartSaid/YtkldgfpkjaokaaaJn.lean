/- Unobject, Unchange of what was laid, and of a beginning of it -/
import Derived.Test.YtkldgfpkjaokaaaJm
import Derived.Test.YtkldgfpkjaokaaaJd
namespace Go.Proofs.Ytkldgfpkjaokaaa
set_option linter.unusedVariables false
set_option linter.unusedSimpArgs false
open Go.ChangeShapes Go.WideShapes Go.ChangeAt Go.RowKit

theorem pts_congr {w : World} {v : Value} {n : Nat} {X Y P Q : Nat → Int} (h : Pts w v n X Y) (e : ∀ i, i < n → X i = P i ∧ Y i = Q i) : Pts w v n P Q := by
  obtain ⟨ad, cap, B, off, h1, h2, h3, h4, h5⟩ := h
  exact ⟨ad, cap, B, off, h1, h2, h3, h4, fun k hk => by rw [← (e k hk).1, ← (e k hk).2]; exact h5 k hk⟩
theorem uo_back {k : Int} {n : Nat} {X Y : Nat → Int} {M : List UInt8} {u : Value} (h : objC k n X Y = 0) (W : World) (hR : Row W u (objB k n X Y ++ M)) (hM : M.length ≤ 60000) :
    Calls Try.prog 16 #[u] W fun e w' => ∃ v, e = .returned (.tuple #[.agg #[.int .i64 k, v], .int .i64 ((objB k n X Y).length : Nat), .nilIface]) ∧ Pts w' v n X Y ∧ Gr W w' := by
  have hl := objB_len h
  have a := obj_as h M
  refine (c_Unobject W hR (by simp only [List.length_append]; omega)).mono ?_
  rintro e w' (⟨hb, _⟩ | ⟨_, v, rfl, hP, _, g⟩)
  · rw [a.bad] at hb; cases hb
  · rw [a.many] at hP
    exact ⟨v, by rw [a.kind, a.len], pts_congr hP a.xs, g⟩
theorem uo_cut {k : Int} {n c : Nat} {X Y : Nat → Int} {u : Value} (h : objC k n X Y = 0) (hc : c < (objB k n X Y).length) (W : World) (hR : Row W u ((objB k n X Y).take c)) :
    Calls Try.prog 16 #[u] W fun e w' => ∃ B, e = .returned (.tuple #[.agg #[.int .i64 0, .slice none 0 0], .int .i64 0, .iface 61 (.pointer (some ⟨B, 0, none⟩))]) ∧ FaultAt w' B objectS 0 10 ∧ Gr W w' := by
  have hl := objB_len h
  refine (c_Unobject W hR (by simp only [List.length_take]; omega)).mono ?_
  rintro e w' (⟨_, B, rfl, hF, g⟩ | ⟨hb, _⟩)
  · exact ⟨B, rfl, hF, g⟩
  · rw [obj_cut h hc] at hb; cases hb
theorem uc_back {kd id k : Int} {n : Nat} {X Y : Nat → Int} {M : List UInt8} {u : Value} (h : chgC kd id k n X Y = 0) (W : World) (hR : Row W u (chgB kd id k n X Y ++ M)) (hM : M.length ≤ 60000) :
    Calls Try.prog 8 #[u] W fun e w' => ∃ v, e = .returned (.tuple #[.agg #[.int .i64 kd, .int .i64 id, .int .i64 k, v], .int .i64 ((chgB kd id k n X Y).length : Nat), .nilIface]) ∧ Pts w' v n X Y ∧ Gr W w' := by
  have hl := chgB_len h
  have a := chg_as h M
  refine (c_Unchange W hR (by simp only [List.length_append]; omega)).mono ?_
  rintro e w' (⟨hb, _⟩ | ⟨_, v, rfl, hP, g⟩)
  · rw [a.bad] at hb; cases hb
  · rw [a.many] at hP
    exact ⟨v, by rw [a.what, a.item, a.kind, a.len], pts_congr hP a.xs, g⟩
theorem us_back {z : Int} (hz : Iw z) {M : List UInt8} {u : Value} (W : World) (hR : Row W u (Ec.vr (zz z) ++ M)) (hM : M.length ≤ 60000) :
    Calls Try.prog 29 #[u] W fun e w' => e = .returned (.tuple #[.int .i64 z, .int .i64 ((Ec.vr (zz z)).length : Nat), .bool true]) ∧ Gr W w' := by
  have hl := Ec.vr_len10 (iw_wd hz)
  refine (c_UnsignedL W hR (by simp only [List.length_append]; omega)).mono ?_
  rintro e w' ⟨rfl, g⟩
  refine ⟨?_, g⟩
  rw [uL_vr _ (iw_wd hz)]
  show Ending.returned (.tuple #[.int .i64 (si (zz z)), .int .i64 _, .bool (decide (0 < (Ec.vr (zz z)).length))]) = _
  rw [si_zz hz, decide_eq_true (by omega)]
end Go.Proofs.Ytkldgfpkjaokaaa
