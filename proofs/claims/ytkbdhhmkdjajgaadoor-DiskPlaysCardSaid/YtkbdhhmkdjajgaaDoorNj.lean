/- DiskPlays: which steps are looked at -/
import Derived.Test.YtkbdhhmkdjajgaaDoorDw
import Derived.Test.YtkbdhhmkdjajgaaDoorNe
namespace Go.Proofs.YtkbdhhmkdjajgaaDoor
set_option linter.unusedVariables false
set_option linter.unusedSimpArgs false
open Go.ChangeShapes Go.WideShapes Go.ChangeAt Go.RowKit Go.Maps

set_option maxHeartbeats 2000000 in
set_option maxRecDepth 100000 in
theorem c_Sum2 (n m B : Nat) (hn : n ≤ 2000) (hm : m ≤ 9223372036854775807) (W : World) (hc : W.cell? ⟨B, 0, none⟩ = some (.int .i64 m)) (hc1 : W.cell? ⟨B, 1, none⟩ = some (.int .i64 1)) :
    Calls Tryd.prog 24 #[.int .i64 n, .slice (some ⟨B, 0, none⟩) 2 2] W fun e w' => ∃ r : Nat, e = .returned (.int .i64 (r : Nat)) ∧ (r = n + m + 1 ∨ 2000 < r) ∧ r ≤ 1099511627776 ∧ Gr W w' := by
  have hm2 : (m : Int) ≤ 9223372036854775807 := by omega
  have hn2 : (n : Int) ≤ 2000 := by omega
  have t1 : decide ((1099511627776 : Int) < (n : Int)) = false := decide_eq_false (by omega)
  have t1b : (n : Int) ≤ 1099511627776 := by omega
  by_cases h2 : 1099511627776 < n + m
  · have t2 : decide ((1099511627776 : Int) - (n : Int) < (m : Int)) = true := decide_eq_true (by omega)
    clear hm hn hc1
    go_enter Tryd.func24, Tryd.ntmps24
    go_wp2_with fail
    refine wp_loop_rounds 1 ?_
    rw [rounds_succ]
    go_wp2_with fail
    go_ret
    exact ⟨1099511627776, rfl, Or.inr (by decide), by decide, Below.refl _ _⟩
  have t2 : decide ((1099511627776 : Int) - (n : Int) < (m : Int)) = false := decide_eq_false (by omega)
  have t3 : (m : Int) ≤ 1099511627776 := by omega
  obtain ⟨x, hx⟩ : ∃ x, x = n + m := ⟨_, rfl⟩
  have e2 : (n : Int) + (m : Int) = (x : Int) := by omega
  have e3 : wrap64 ((n : Int) + (m : Int)) = (x : Int) := by rw [e2]; exact IntWalk.wrap64_in _ (by omega)
  have e4 : IntKind.i64.wrap ((n : Int) + (m : Int)) = (x : Int) := by rw [e2]; exact IntWalk.i64_in _ (by omega)
  have hx2 : x ≤ 1099511627776 := by omega
  have s1 : decide ((1099511627776 : Int) < (x : Int)) = false := decide_eq_false (by omega)
  have s1b : (x : Int) ≤ 1099511627776 := by omega
  by_cases h3 : x = 1099511627776
  · have s2 : decide ((1099511627776 : Int) - (x : Int) < 1) = true := decide_eq_true (by omega)
    clear hm hn h2 hx h3 hx2
    go_enter Tryd.func24, Tryd.ntmps24
    go_wp2_with fail
    refine wp_loop_rounds 2 ?_
    rw [rounds_succ]
    go_wp2_with fail
    rw [rounds_succ]
    go_wp2_with fail
    go_ret
    exact ⟨1099511627776, rfl, Or.inr (by decide), by decide, Below.refl _ _⟩
  have s2 : decide ((1099511627776 : Int) - (x : Int) < 1) = false := decide_eq_false (by omega)
  have e5 : wrap64 ((x : Int) + 1) = ((x + 1 : Nat) : Int) := by rw [show (x : Int) + 1 = ((x + 1 : Nat) : Int) by omega]; exact IntWalk.wrap64_in _ (by omega)
  have e6 : IntKind.i64.wrap ((x : Int) + 1) = ((x + 1 : Nat) : Int) := by rw [show (x : Int) + 1 = ((x + 1 : Nat) : Int) by omega]; exact IntWalk.i64_in _ (by omega)
  have s3 : (1 : Int) ≤ 1099511627776 - (x : Int) := by omega
  have hfin : x + 1 = n + m + 1 ∧ x + 1 ≤ 1099511627776 := by omega
  have HF := Lib.hid hfin
  generalize hy : x + 1 = y at *
  clear hm hn h2 hx h3 hx2 hfin
  go_enter Tryd.func24, Tryd.ntmps24
  go_wp2_with fail
  refine wp_loop_rounds 3 ?_
  rw [rounds_succ]
  go_wp2_with fail
  rw [rounds_succ]
  go_wp2_with fail
  rw [rounds_succ]
  go_wp2_with fail
  go_ret
  exact ⟨y, by first | rfl | (rw [← hy]; rfl), Or.inl HF.out.1, HF.out.2, Below.refl _ _⟩
/-- What it tells of the steps. -/
def Small10 (n : Nat) (K : Nat → List Bool) (e : Ending) : Prop := ∃ b : Bool, e = .returned (.bool b) ∧ (b = true → n ≤ 200 ∧ ∀ k, k < n → (K k).length ≤ 2000)
set_option maxHeartbeats 2000000 in
set_option maxRecDepth 100000 in
theorem c_small10 {v : Value} {n : Nat} {A E D : Nat → Int} {kv : Nat → Value} {K : Nat → List Bool} (W : World) (h : Steps10 W v n A E D kv K) :
    Calls Tryd.prog 4 #[v] W fun e w' => Small10 n K e ∧ Gr W w' := by
  obtain ⟨ad, cap, B, off, rfl, c1, c2, c3, c4, -⟩ := h
  have HX := Lib.hid c4
  clear c4
  go_enter Tryd.func4, Tryd.ntmps4
  go_wp2_with fail
  go_loopg [3, 4] n (fun j x y wr => ∃ i t : Nat, x = .int .i64 t ∧ y = .int .i64 i ∧ i ≤ n ∧ t ≤ 2000 ∧ j = n - i ∧ Gr W wr ∧ Hid (∀ k, k < i → (K k).length ≤ 2000))
  case atStart => exact ⟨0, 0, rfl, rfl, by omega, by omega, by omega, by go_grown, Lib.hid (fun k hk => absurd hk (by omega))⟩
  case round =>
    obtain ⟨i, t, rfl, rfl, hi, ht, hj, hg, HB⟩ := hrel
    by_cases hin : i < n
    · have ti : decide ((i : Int) < (n : Int)) = true := decide_eq_true (by omega)
      have ti2 : decide (i < n) = true := decide_eq_true hin
      have ti3 : (i : Int) < (n : Int) := by omega
      have ti4 : (i : Int) < (cap : Int) := by omega
      obtain rfl := c3 (by omega)
      obtain ⟨-, -, -, q3, kad, kcap, KB, koff, ek, k1, k2, k3, k4⟩ := HX.out i hin
      rw [ek] at q3
      have r3 := cell_gr hg q3
      obtain ⟨m, hm⟩ : ∃ m, m = (K i).length := ⟨_, rfl⟩
      rw [← hm] at r3 k1
      have hm9 : m ≤ 9223372036854775807 := by omega
      have AS := Lib.hid (fun (B' : Nat) w (h0 : w.cell? ⟨B', 0, none⟩ = some (.int .i64 m)) (h1 : w.cell? ⟨B', 1, none⟩ = some (.int .i64 1)) => c_Sum2 t m B' ht hm9 w h0 h1)
      have HM := Lib.hid hm
      clear q3 k1 k2 k3 k4 ek hm hm9
      go_wp2_with fail
      go_at_call 24
      refine (AS.out _ _ (by go_simp) (by go_simp)).mono ?_
      rintro e w1 ⟨r, rfl, hr, hr2, g1⟩
      have G1 : Gr W w1 := Gr.trans (Gr.trans hg ((Below.refl _ _).alloc (Nat.le_refl _) _)) g1
      by_cases hb : r ≤ 2000
      · have tb : decide ((2000 : Int) < (r : Int)) = false := decide_eq_false (by omega)
        have tb2 : (r : Int) ≤ 2000 := by omega
        have HB2 : Hid (∀ k, k < i + 1 → (K k).length ≤ 2000) := Lib.hid (fun k hk => by
          by_cases e : k = i
          · subst e; rw [← HM.out]; omega
          · exact HB.out k (by omega))
        clear g1 hr hr2
        go_wp2_with fail
        go_roundg (n - (i + 1))
        case measure => omega
        case rel => exact ⟨i + 1, r, rfl, by go_num, by omega, hb, by omega, G1, HB2⟩
      · have tb : decide ((2000 : Int) < (r : Int)) = true := decide_eq_true (by omega)
        clear g1 hr hr2
        go_wp2_with fail
        go_ret
        exact ⟨⟨false, rfl, fun h => (by cases h)⟩, G1⟩
    · obtain rfl : i = n := by omega
      have ti : decide ((i : Int) < (i : Int)) = false := decide_eq_false (by omega)
      have ti3 : ¬ (i : Int) < (i : Int) := by omega
      by_cases h2 : i ≤ 200
      · have t9 : decide ((i : Int) ≤ 200) = true := decide_eq_true (by omega)
        have t9b : decide (i ≤ 200) = true := decide_eq_true h2
        go_wp2_with fail
        go_ret
        exact ⟨⟨true, rfl, fun _ => ⟨h2, HB.out⟩⟩, hg⟩
      · have t9 : decide ((i : Int) ≤ 200) = false := decide_eq_false (by omega)
        have t9b : decide (i ≤ 200) = false := decide_eq_false h2
        go_wp2_with fail
        go_ret
        exact ⟨⟨false, rfl, fun h => (by cases h)⟩, hg⟩
end Go.Proofs.YtkbdhhmkdjajgaaDoor
