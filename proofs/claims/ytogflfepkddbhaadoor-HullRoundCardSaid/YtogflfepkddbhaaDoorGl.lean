/- RingLimits -/
import Derived.Test.YtogflfepkddbhaaDoorGk
import Derived.WalkSmall
import Derived.Test.YtogflfepkddbhaaDoorEa
namespace Go.Proofs.YtogflfepkddbhaaDoor
set_option linter.unusedVariables false
open Go.ChangeShapes Go.WideShapes Go.ChangeAt Go.RowKit

set_option maxRecDepth 100000 in
theorem c_RoundG (z : Int) (h1 : -9223372036854775808 ≤ z) (h2 : z ≤ 9223372036854775807) (m : Nat) (hm : 0 < m) (hm2 : m ≤ 1000000) (W : World) :
    Calls Tryd.prog 14 #[.int .i64 z, .int .i64 m] W fun e w' => ∃ k : Nat, k < m ∧ e = .returned (.int .i64 (k : Int)) ∧ Gr W w' := by
  obtain ⟨r, er⟩ : ∃ r, r = Int.tmod z (m : Int) := ⟨_, rfl⟩
  have hr : r.natAbs < m := by
    rw [er, Int.natAbs_tmod, Int.natAbs_natCast]
    exact Nat.mod_lt _ hm
  have e1 : Int.tmod z (m : Int) = r := er.symm
  have e2 : IntKind.i64.wrap (Int.tmod z (m : Int)) = r := by rw [e1, IntKind.wrap_i64]; omega
  have e3 : IntKind.i64.wrap r = r := by rw [IntKind.wrap_i64]; omega
  have hm0 : (m : Int) ≠ 0 := by omega
  have hm1 : ((m : Int) == 0) = false := by simp; omega
  have r1 : -(1000000 : Int) ≤ r := by omega
  have r2 : r ≤ 1000000 := by omega
  have m2 : (m : Int) ≤ 1000000 := by omega
  by_cases h : r < 0
  · have t1 : decide (r < 0) = true := decide_eq_true h
    have hk : ∃ k : Nat, r + (m : Int) = (k : Int) ∧ k < m := ⟨(r + m).toNat, by omega, by omega⟩
    have HK := Lib.hid hk
    clear er hr hk
    go_enter Tryd.func14, Tryd.ntmps14
    go_wp2_with fail
    go_ret
    obtain ⟨k, h3, h4⟩ := HK.out
    exact ⟨k, h4, by rw [← h3]; rfl, Below.refl _ _⟩
  · have t1 : decide (r < 0) = false := decide_eq_false h
    have hk : ∃ k : Nat, r = (k : Int) ∧ k < m := ⟨r.toNat, by omega, by omega⟩
    have HK := Lib.hid hk
    clear er hr hk
    go_enter Tryd.func14, Tryd.ntmps14
    go_wp2_with fail
    go_ret
    obtain ⟨k, h3, h4⟩ := HK.out
    exact ⟨k, h4, by rw [← h3]; rfl, Below.refl _ _⟩
end Go.Proofs.YtogflfepkddbhaaDoor
namespace Go.Proofs.YtogflfepkddbhaaDoor
set_option linter.unusedVariables false
open Go.ChangeShapes Go.WideShapes Go.ChangeAt Go.RowKit

theorem anyown_ltG {w : World} {base n size k : Nat} {e : TypeId} {x : Value} {xs : List Value} (h : w.ownsRow base e size x n xs) (hk : x.ownBlock = some k) : k < w.heap.size ∧ base ≤ k := by
  rcases h.2 with ⟨rfl, -⟩ | ⟨g, cap, cur, rfl, hb, hg, -⟩
  · cases hk
  · simp [Value.ownBlock] at hk
    have := (Array.getElem?_eq_some_iff.1 hg).1
    omega
/-- The cells of a row of points. -/
def rowP (X Y : Nat → Int) : Nat → List Value
  | 0 => []
  | n + 1 => rowP X Y n ++ [.int .i64 (X n), .int .i64 (Y n)]
theorem rowP_len (X Y : Nat → Int) : ∀ n, (rowP X Y n).length = n * 2
  | 0 => rfl
  | n + 1 => by simp only [rowP, List.length_append, rowP_len X Y n, List.length_cons, List.length_nil]; omega
theorem rowP_at (X Y : Nat → Int) : ∀ n k, k < n → (rowP X Y n)[k * 2]? = some (.int .i64 (X k)) ∧ (rowP X Y n)[k * 2 + 1]? = some (.int .i64 (Y k))
  | 0, k, h => absurd h (by omega)
  | n + 1, k, h => by
    have hl := rowP_len X Y n
    simp only [rowP]
    by_cases hk : k < n
    · rw [List.getElem?_append_left (by omega), List.getElem?_append_left (by omega)]
      exact rowP_at X Y n k hk
    · obtain rfl : k = n := by omega
      rw [List.getElem?_append_right (by omega), List.getElem?_append_right (by omega), hl, Nat.sub_self, show k * 2 + 1 - k * 2 = 1 by omega]
      exact ⟨rfl, rfl⟩
theorem own_pts {w : World} {base n : Nat} {e : TypeId} {v : Value} {X Y : Nat → Int} (h : w.ownsRow base e 2 v n (rowP X Y n)) : Pts w v n X Y := by
  rcases h.2 with ⟨rfl, h0⟩ | ⟨g, cap, cur, rfl, hb, hg, hn, hc, hs, ht⟩
  · obtain rfl : n = 0 := h0
    exact ⟨none, 0, 0, 0, rfl, Nat.le_refl _, by decide, fun h => absurd h (by omega), fun k h => absurd h (by omega)⟩
  · refine ⟨some ⟨g, 0, none⟩, cap, g, 0, rfl, hn, by unfold maxLen at hc; omega, fun _ => rfl, fun k hk => ?_⟩
    rw [Nat.zero_add]
    exact ⟨by rw [h.cellAt (k * 2) (by omega)]; exact (rowP_at X Y n k hk).1, by rw [h.cellAt (k * 2 + 1) (by omega)]; exact (rowP_at X Y n k hk).2⟩
/-- A point of an own row is set. -/
theorem pts_put {w : World} {g cap n i j : Nat} {X Y : Nat → Int} (h : Pts w (.slice (some ⟨g, 0, none⟩) n cap) n X Y) (hi : i < n) (hj : j < n) :
    Pts ((w.setCell ⟨g, i * 2, none⟩ (.int .i64 (X j))).setCell ⟨g, i * 2 + 1, none⟩ (.int .i64 (Y j))) (.slice (some ⟨g, 0, none⟩) n cap) n (Rg.putF X i j) (Rg.putF Y i j) := by
  obtain ⟨ad, cap', B, off, e, h1, h2, h3, h4⟩ := h
  cases e
  have e2 := h3 (by omega)
  cases e2
  refine ⟨_, cap, g, 0, rfl, h1, h2, fun _ => rfl, fun k hk => ?_⟩
  have c0 := h4 i hi
  rw [Nat.zero_add] at c0
  have ck := h4 k hk
  rw [Nat.zero_add] at ck ⊢
  unfold Rg.putF
  by_cases e : k = i
  · subst e
    rw [if_pos rfl, if_pos rfl]
    constructor
    · rw [World.cell?_setCell_other _ _ _ _ (by simp)]
      exact World.cell?_setCell_same' _ _ _ (by rw [c0.1]; rfl)
    · refine World.cell?_setCell_same' _ _ _ ?_
      rw [World.cell?_setCell_other _ _ _ _ (by simp), c0.2]; rfl
  · rw [if_neg e, if_neg e]
    rw [World.cell?_setCell_other _ _ _ _ (by simp <;> omega), World.cell?_setCell_other _ _ _ _ (by simp <;> omega), World.cell?_setCell_other _ _ _ _ (by simp <;> omega), World.cell?_setCell_other _ _ _ _ (by simp <;> omega)]
    exact ck
theorem wX (k : Nat) (h : k ≤ 70) : IntKind.i64.wrap (10 * (k : Int)) = Rg.cvX k ∧ IntKind.i64.wrap (Rg.cvX k * k) = Rg.cvY k ∧ wrap64 (10 * (k : Int)) = Rg.cvX k ∧ wrap64 (Rg.cvX k * k) = Rg.cvY k := by
  unfold Rg.cvX Rg.cvY
  have h2 : 10 * (k : Int) * k ≤ 10 * 70 * 70 := by
    have h3 : (k : Int) * k ≤ 70 * 70 := Int.mul_le_mul (by omega) (by omega) (by omega) (by omega)
    rw [Int.mul_assoc, Int.mul_assoc]; omega
  have h4 : 0 ≤ 10 * (k : Int) * k := Int.mul_nonneg (by omega) (by omega)
  exact ⟨IntWalk.i64_in _ (by omega), IntWalk.i64_in _ (by omega), IntWalk.wrap64_in _ (by omega), IntWalk.wrap64_in _ (by omega)⟩
end Go.Proofs.YtogflfepkddbhaaDoor
