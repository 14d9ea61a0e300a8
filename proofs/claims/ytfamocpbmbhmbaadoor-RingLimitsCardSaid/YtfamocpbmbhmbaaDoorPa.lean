/- plane: points that may be, and what turns on them -/
import Derived.Test.YtfamocpbmbhmbaaDoorB
namespace Go.Proofs.YtfamocpbmbhmbaaDoor
set_option linter.unusedVariables false
open Go.ChangeShapes Go.WideShapes Go.ChangeAt Go.RowKit

/-- A point that may be. -/
def nearB (x y : Int) : Bool := decide (-1073741823 ≤ x) && decide (x ≤ 1073741823) && decide (-1073741823 ≤ y) && decide (y ≤ 1073741823)
theorem nearB_iff {x y : Int} : nearB x y = true ↔ -1073741823 ≤ x ∧ x ≤ 1073741823 ∧ -1073741823 ≤ y ∧ y ≤ 1073741823 := by
  unfold nearB; simp [and_assoc]

theorem c_near (x y : Int) (w : World) :
    Calls Tryd.prog 57 #[.agg #[.int .i64 x, .int .i64 y]] w fun e w' => e = .returned (.bool (nearB x y)) ∧ Gr w w' := by
  by_cases h1 : -1073741823 ≤ x
  · by_cases h2 : x ≤ 1073741823
    · by_cases h3 : -1073741823 ≤ y
      · by_cases h4 : y ≤ 1073741823
        · have e : nearB x y = true := nearB_iff.2 ⟨h1, h2, h3, h4⟩
          rw [e]
          go_enter Tryd.func57, Tryd.ntmps57
          go_wp2
          go_ret
          exact ⟨rfl, by go_grown⟩
        · have e : nearB x y = false := by unfold nearB; simp [h4]
          rw [e]
          go_enter Tryd.func57, Tryd.ntmps57
          go_wp2
          go_ret
          exact ⟨rfl, by go_grown⟩
      · have e : nearB x y = false := by unfold nearB; simp [h3]
        rw [e]
        go_enter Tryd.func57, Tryd.ntmps57
        go_wp2
        go_ret
        exact ⟨rfl, by go_grown⟩
    · have e : nearB x y = false := by unfold nearB; simp [h2]
      rw [e]
      go_enter Tryd.func57, Tryd.ntmps57
      go_wp2
      go_ret
      exact ⟨rfl, by go_grown⟩
  · have e : nearB x y = false := by unfold nearB; simp [h1]
    rw [e]
    go_enter Tryd.func57, Tryd.ntmps57
    go_wp2
    go_ret
    exact ⟨rfl, by go_grown⟩

/-- All of n points may be. -/
def allB (X Y : Nat → Int) : Nat → Bool
  | 0 => true
  | n + 1 => allB X Y n && nearB (X n) (Y n)
theorem allB_iff (X Y : Nat → Int) (n : Nat) : allB X Y n = true ↔ ∀ k, k < n → nearB (X k) (Y k) = true := by
  induction n with
  | zero => simp [allB]
  | succ n ih =>
    simp only [allB, Bool.and_eq_true, ih]
    constructor
    · rintro ⟨h1, h2⟩ k hk
      rcases Nat.lt_succ_iff_lt_or_eq.1 hk with h | rfl
      · exact h1 k h
      · exact h2
    · intro h
      exact ⟨fun k hk => h k (by omega), h n (by omega)⟩

theorem c_allNear (n : Nat) (X Y : Nat → Int) (b : Nat) (w : World) (hn : n ≤ 100) (hb : b < w.heap.size)
    (hc : ∀ k, k < n → w.cell? ⟨b, k * 2, none⟩ = some (.int .i64 (X k)) ∧ w.cell? ⟨b, k * 2 + 1, none⟩ = some (.int .i64 (Y k))) :
    Calls Tryd.prog 79 #[.slice (some ⟨b, 0, none⟩) n n] w fun e w' => e = .returned (.bool (allB X Y n)) ∧ Gr w w' := by
  go_enter Tryd.func79, Tryd.ntmps79
  go_wp2_with fail
  go_loopg [7] n (fun k v wr => ∃ i : Nat, i ≤ n ∧ k = n - i ∧ v = .int .i64 i ∧ allB X Y i = true ∧ Gr w wr)
  case atStart => exact ⟨0, by omega, by omega, rfl, rfl, Gr.of_eq rfl⟩
  case round =>
    obtain ⟨i, hi, hk, rfl, hall, hg⟩ := hrel
    by_cases h : i < n
    · have ti : decide ((i : Int) < (n : Int)) = true := decide_eq_true (by omega)
      have ti2 : decide (i < n) = true := decide_eq_true h
      have c0 := cell_gr hg (hc i h).1
      have c1 := cell_gr hg (hc i h).2
      obtain ⟨q, hq⟩ : ∃ q, q = nearB (X i) (Y i) := ⟨_, rfl⟩
      have hN := Lib.hid (c_near (X i) (Y i))
      rw [← hq] at hN
      cases q
      · have e : allB X Y n = false := by
          rw [← Bool.not_eq_true, allB_iff]
          intro H
          rw [H i h] at hq
          cases hq
        have HE := Lib.hid e
        clear hall e hq hc
        go_wp2_with (go_at_call 57; (with_reducible refine (hN.out _).mono ?_); rintro e w' ⟨rfl, hg1⟩)
        go_ret
        exact ⟨by rw [HE.out]; rfl, Gr.trans (Gr.trans hg (by go_grown)) hg1⟩
      · have e : allB X Y (i + 1) = true := by simp only [allB, hall, ← hq]; rfl
        have HE := Lib.hid e
        clear hall e hq hc
        go_wp2_with (go_at_call 57; (with_reducible refine (hN.out _).mono ?_); rintro e w' ⟨rfl, hg1⟩)
        go_roundg (n - (i + 1))
        case measure => omega
        case rel => exact ⟨i + 1, by omega, rfl, by go_num, HE.out, Gr.trans (Gr.trans hg (by go_grown)) hg1⟩
    · have e : i = n := by omega
      subst e
      go_wp2_with fail
      go_ret
      exact ⟨by simp [hall], hg⟩
end Go.Proofs.YtfamocpbmbhmbaaDoor
