/- Unz of both -/
import Derived.Test.YtldlpbfncgcimaaDoorCv
namespace Go.Proofs.YtldlpbfncgcimaaDoor
set_option linter.unusedVariables false
open Go.ChangeShapes Go.WideShapes Go.ChangeAt Go.RowKit

theorem gat_succ (v k : Nat) : Cv.gat v (k + 1) = Cv.gat v k + v / 4 ^ k % 2 * 2 ^ k := rfl
theorem p431 : (4 : Nat) ^ 31 = 4611686018427387904 := by decide
theorem p231 : (2 : Nat) ^ 31 = 2147483648 := by decide
theorem p232 : (2 : Nat) ^ 32 = 4294967296 := by decide
theorem zv_gat {v a b : Nat} (hv : v < 4611686018427387904) (ea : a = Cv.gat v 31) (eb : b = Cv.gat (v / 2) 31) : Cv.zv a b = v := by
  rw [ea, eb]
  unfold Cv.zv
  exact Cv.spr_gat 31 v (by rw [p431]; exact hv)
theorem unz_facts (v : Nat) : ∃ a b a2 b2 : Nat, a = Cv.gat v 31 ∧ b = Cv.gat (v / 2) 31 ∧ a2 = Cv.gat v 32 ∧ b2 = Cv.gat (v / 2) 32 ∧ a < 2147483648 ∧ b < 2147483648 ∧ a2 < 4294967296 ∧ b2 < 4294967296 ∧ a2 = a + v / 4611686018427387904 % 2 * 2147483648 ∧ b2 = b + v / 2 / 4611686018427387904 % 2 * 2147483648 := by
  have s1 := gat_succ v 31
  have s2 := gat_succ (v / 2) 31
  have l1 := Cv.gat_lt v 31
  have l2 := Cv.gat_lt (v / 2) 31
  have l3 := Cv.gat_lt v (31 + 1)
  have l4 := Cv.gat_lt (v / 2) (31 + 1)
  rw [p431, p231] at s1 s2
  rw [p231] at l1 l2
  rw [show 31 + 1 = 32 from rfl] at s1 s2 l3 l4
  rw [p232] at l3 l4
  exact ⟨_, _, _, _, rfl, rfl, rfl, rfl, l1, l2, l3, l4, s1, s2⟩
theorem unz_both_no (v a b t : Nat) (ha : a < 2147483648) (hb : b < 2147483648) (et : t = v / 4611686018427387904)
    (g1 : ∀ w, Calls Tryd.prog 55 #[.int .u64 v] w fun e w' => e = .returned (.int .i64 a) ∧ Gr w w') (g2 : ∀ w, Calls Tryd.prog 55 #[.int .u64 (v / 2 : Nat)] w fun e w' => e = .returned (.int .i64 b) ∧ Gr w w') (h : t ≠ 0 ∨ nearB ((a : Int) - 1073741824) ((b : Int) - 1073741824) = false) (w : World) :
    Calls Tryd.prog 32 #[.int .u64 v] w (Ans w (.agg #[.int .i64 0, .int .i64 0]) 2) := by
  refine (unz_no v (v / 2) a b t _ _ w (by omega) (by omega) (by omega) (by omega) rfl rfl ?_ g1 g2).mono fun e w' hh => ans_ref (k := 2) (by omega) hh
  by_cases h0 : t = 0
  · right
    refine ⟨by rw [beq_iff_eq]; omega, by rw [← Bool.not_eq_true, bne_iff_ne]; omega, ?_⟩
    rcases h with h | h
    · exact absurd h0 h
    · exact h
  · left; exact ⟨by rw [← Bool.not_eq_true, beq_iff_eq]; omega, by rw [bne_iff_ne]; omega⟩
theorem Unz_both (v : Nat) (hv : Wd v) : ∃ (x y : Int) (k : Nat), (∀ w, Calls Tryd.prog 32 #[.int .u64 v] w (Ans w (.agg #[.int .i64 x, .int .i64 y]) k)) ∧ ∀ w, Calls Tryd.prog 33 #[.int .u64 v] w fun e w' => e = .returned (.tuple #[.agg #[.int .i64 x, .int .i64 y], .int .i64 k]) ∧ Gr w w' := by
  have g1 := fun w => c_gather v hv w
  have g2 := fun w => c_gather (v / 2) (by unfold Wd at *; omega) w
  obtain ⟨a, b, a2, b2, ea, eb, ea2, eb2, l1, l2, l3, l4, s1, s2⟩ := unz_facts v
  rw [← ea] at g1
  rw [← eb] at g2
  have rno : nearB ((a2 : Int) - 1073741824) ((b2 : Int) - 1073741824) = false → ∀ w, Calls Tryd.prog 33 #[.int .u64 v] w fun e w' => e = .returned (.tuple #[.agg #[.int .i64 0, .int .i64 0], .int .i64 2]) ∧ Gr w w' := fun h w =>
    rUnz_core v a2 b2 0 2 _ _ 0 0 2 w hv ea2 eb2 (by omega) (by omega) rfl rfl (Or.inl ⟨rfl, rfl, rfl, rfl, rfl⟩) (fun w' => c_rZ_no _ _ h w')
  by_cases hlt : v < 4611686018427387904
  · have e1 : a2 = a := by omega
    have e2 : b2 = b := by omega
    have hz := zv_gat hlt ea eb
    cases hn : nearB ((a : Int) - 1073741824) ((b : Int) - 1073741824) with
    | false => exact ⟨0, 0, 2, unz_both_no v a b 0 l1 l2 (by omega) g1 g2 (Or.inr hn), rno (by rw [e1, e2]; exact hn)⟩
    | true =>
      refine ⟨(a : Int) - 1073741824, (b : Int) - 1073741824, 0, fun w => ?_, fun w => ?_⟩
      · have C := c_Unz a b l1 l2 _ _ (by omega) (by omega) hn w
        rw [hz] at C
        exact C.mono fun e w' hh => ans_nil hh
      · have C := fun w' => c_rZ ((a : Int) - 1073741824) ((b : Int) - 1073741824) a b hn (by omega) (by omega) w'
        rw [hz] at C
        exact rUnz_core v a2 b2 v 0 ((a : Int) - 1073741824) ((b : Int) - 1073741824) _ _ 0 w hv ea2 eb2 (by omega) (by omega) (by rw [e1]) (by rw [e2]) (Or.inr ⟨rfl, rfl, rfl, rfl, rfl⟩) C
  · refine ⟨0, 0, 2, unz_both_no v a b _ l1 l2 rfl g1 g2 (Or.inl (by omega)), rno ?_⟩
    rw [← Bool.not_eq_true, nearB_iff]
    have hv' : v < 18446744073709551616 := hv
    have : v / 4611686018427387904 % 2 = 1 ∨ v / 2 / 4611686018427387904 % 2 = 1 := by omega
    rcases this with h | h
    · rw [h] at s1; omega
    · rw [h] at s2; omega
end Go.Proofs.YtldlpbfncgcimaaDoor
