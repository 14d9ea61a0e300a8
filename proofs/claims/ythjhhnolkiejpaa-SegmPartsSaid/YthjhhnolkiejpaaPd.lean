/- plane: what turns on boxes -/
import Derived.Test.YthjhhnolkiejpaaPc
namespace Go.Proofs.Ythjhhnolkiejpaa
set_option linter.unusedVariables false
open Go.ChangeShapes Go.WideShapes Go.ChangeAt Go.RowKit

theorem boxErr_true {lx ly hx hy : Int} (h : boxB lx ly hx hy = true) : boxErr lx ly hx hy = .nilIface := by
  unfold boxB at h
  unfold boxErr
  rw [Bool.and_eq_true, Bool.and_eq_true] at h
  rw [if_pos h.1.1, if_pos]
  rw [h.1.2, h.2]; rfl
theorem boxErr_false {lx ly hx hy : Int} (h : boxB lx ly hx hy = false) : ∃ k : Int, boxErr lx ly hx hy = .iface 56 (.int .i64 k) := by
  unfold boxB at h
  unfold boxErr
  by_cases h1 : (nearB lx ly && nearB hx hy) = true
  · rw [if_pos h1]
    by_cases h2 : (decide (lx ≤ hx) && decide (ly ≤ hy)) = true
    · rw [h1, Bool.true_and, h2] at h
      cases h
    · rw [if_neg h2]
      exact ⟨_, rfl⟩
  · rw [if_neg h1]
    exact ⟨_, rfl⟩
/-- All of n boxes may be. -/
def allBox (A B C D : Nat → Int) : Nat → Bool
  | 0 => true
  | n + 1 => allBox A B C D n && boxB (A n) (B n) (C n) (D n)
theorem allBox_iff (A B C D : Nat → Int) (n : Nat) : allBox A B C D n = true ↔ ∀ k, k < n → boxB (A k) (B k) (C k) (D k) = true := by
  induction n with
  | zero => simp [allBox]
  | succ n ih =>
    simp only [allBox, Bool.and_eq_true, ih]
    constructor
    · rintro ⟨h1, h2⟩ k hk
      rcases Nat.lt_succ_iff_lt_or_eq.1 hk with h | rfl
      · exact h1 k h
      · exact h2
    · intro h
      exact ⟨fun k hk => h k (by omega), h n (by omega)⟩

theorem c_mayBe (n : Nat) (A B C D : Nat → Int) (b : Nat) (w : World) (hn : n ≤ 100) (hb : b < w.heap.size)
    (hc : ∀ k, k < n → w.cell? ⟨b, k * 4, none⟩ = some (.int .i64 (A k)) ∧ w.cell? ⟨b, k * 4 + 1, none⟩ = some (.int .i64 (B k)) ∧ w.cell? ⟨b, k * 4 + 2, none⟩ = some (.int .i64 (C k)) ∧ w.cell? ⟨b, k * 4 + 3, none⟩ = some (.int .i64 (D k))) :
    Calls Try.prog 58 #[.slice (some ⟨b, 0, none⟩) n n] w fun e w' => e = .returned (.bool (allBox A B C D n)) ∧ Gr w w' := by
  go_enter Try.func58, Try.ntmps58
  go_wp2_with fail
  go_loopg [7] n (fun k v wr => ∃ i : Nat, i ≤ n ∧ k = n - i ∧ v = .int .i64 i ∧ allBox A B C D i = true ∧ Gr w wr)
  case atStart => exact ⟨0, by omega, by omega, rfl, rfl, Gr.of_eq rfl⟩
  case round =>
    obtain ⟨i, hi, hk, rfl, hall, hg⟩ := hrel
    by_cases h : i < n
    · have ti : decide ((i : Int) < (n : Int)) = true := decide_eq_true (by omega)
      have ti2 : decide (i < n) = true := decide_eq_true h
      have c0 := cell_gr hg (hc i h).1
      have c1 := cell_gr hg (hc i h).2.1
      have c2 := cell_gr hg (hc i h).2.2.1
      have c3 := cell_gr hg (hc i h).2.2.2
      obtain ⟨q, hq⟩ : ∃ q, q = boxB (A i) (B i) (C i) (D i) := ⟨_, rfl⟩
      have hC := c_CheckBox (A i) (B i) (C i) (D i)
      cases q
      · have e : allBox A B C D n = false := by
          rw [← Bool.not_eq_true, allBox_iff]
          intro H
          rw [H i h] at hq
          cases hq
        have HE := Lib.hid e
        obtain ⟨z, hz⟩ := boxErr_false hq.symm
        rw [hz] at hC
        have hN := Lib.hid hC
        clear hall e hq hc hC hz
        go_wp2_with (go_at_call 56; (with_reducible refine (hN.out _).mono ?_); rintro e w' ⟨rfl, hg1⟩)
        go_ret
        exact ⟨by rw [HE.out]; rfl, Gr.trans (Gr.trans hg (by go_grown)) hg1⟩
      · have e : allBox A B C D (i + 1) = true := by simp only [allBox, hall, ← hq]; rfl
        have HE := Lib.hid e
        rw [boxErr_true hq.symm] at hC
        have hN := Lib.hid hC
        clear hall e hq hc hC
        go_wp2_with (go_at_call 56; (with_reducible refine (hN.out _).mono ?_); rintro e w' ⟨rfl, hg1⟩)
        go_roundg (n - (i + 1))
        case measure => omega
        case rel => exact ⟨i + 1, by omega, rfl, by go_num, HE.out, Gr.trans (Gr.trans hg (by go_grown)) hg1⟩
    · have e : i = n := by omega
      subst e
      go_wp2_with fail
      go_ret
      exact ⟨by simp [hall], hg⟩

theorem c_mayBe1 (lx ly hx hy : Int) (b : Nat) (w : World) (hb : b < w.heap.size)
    (k0 : w.cell? ⟨b, 0, none⟩ = some (.int .i64 lx)) (k1 : w.cell? ⟨b, 1, none⟩ = some (.int .i64 ly)) (k2 : w.cell? ⟨b, 2, none⟩ = some (.int .i64 hx)) (k3 : w.cell? ⟨b, 3, none⟩ = some (.int .i64 hy)) :
    Calls Try.prog 58 #[.slice (some ⟨b, 0, none⟩) 1 1] w fun e w' => e = .returned (.bool (boxB lx ly hx hy)) ∧ Gr w w' := by
  have h := c_mayBe 1 (fun _ => lx) (fun _ => ly) (fun _ => hx) (fun _ => hy) b w (by omega) hb (fun k hk => by
    obtain rfl : k = 0 := by omega
    exact ⟨k0, k1, k2, k3⟩)
  have e : allBox (fun _ => lx) (fun _ => ly) (fun _ => hx) (fun _ => hy) 1 = boxB lx ly hx hy := by simp [allBox]
  rw [e] at h
  exact h
theorem c_mayBe2 (lx ly hx hy mx my nx ny : Int) (b : Nat) (w : World) (hb : b < w.heap.size)
    (k0 : w.cell? ⟨b, 0, none⟩ = some (.int .i64 lx)) (k1 : w.cell? ⟨b, 1, none⟩ = some (.int .i64 ly)) (k2 : w.cell? ⟨b, 2, none⟩ = some (.int .i64 hx)) (k3 : w.cell? ⟨b, 3, none⟩ = some (.int .i64 hy))
    (k4 : w.cell? ⟨b, 4, none⟩ = some (.int .i64 mx)) (k5 : w.cell? ⟨b, 5, none⟩ = some (.int .i64 my)) (k6 : w.cell? ⟨b, 6, none⟩ = some (.int .i64 nx)) (k7 : w.cell? ⟨b, 7, none⟩ = some (.int .i64 ny)) :
    Calls Try.prog 58 #[.slice (some ⟨b, 0, none⟩) 2 2] w fun e w' => e = .returned (.bool (boxB lx ly hx hy && boxB mx my nx ny)) ∧ Gr w w' := by
  have h := c_mayBe 2 (fun k => [lx, mx].getD k 0) (fun k => [ly, my].getD k 0) (fun k => [hx, nx].getD k 0) (fun k => [hy, ny].getD k 0) b w (by omega) hb (fun k hk => by
    rcases (by omega : k = 0 ∨ k = 1) with rfl | rfl
    · exact ⟨k0, k1, k2, k3⟩
    · exact ⟨k4, k5, k6, k7⟩)
  have e : allBox (fun k => [lx, mx].getD k 0) (fun k => [ly, my].getD k 0) (fun k => [hx, nx].getD k 0) (fun k => [hy, ny].getD k 0) 2 = (boxB lx ly hx hy && boxB mx my nx ny) := by simp [allBox]
  rw [e] at h
  exact h

/-- The box has the point. -/
def inB (lx ly hx hy px py : Int) : Bool := decide (lx ≤ px) && decide (px ≤ hx) && decide (ly ≤ py) && decide (py ≤ hy)
theorem c_holds (lx ly hx hy px py : Int) (w : World) :
    Calls Try.prog 59 #[.agg #[.int .i64 lx, .int .i64 ly, .int .i64 hx, .int .i64 hy], .agg #[.int .i64 px, .int .i64 py]] w fun e w' => e = .returned (.bool (inB lx ly hx hy px py)) ∧ Gr w w' := by
  obtain ⟨q, hq⟩ : ∃ q, q = inB lx ly hx hy px py := ⟨_, rfl⟩
  rw [← hq]
  unfold inB at hq
  by_cases h1 : lx ≤ px
  · by_cases h2 : px ≤ hx
    · by_cases h3 : ly ≤ py
      · by_cases h4 : py ≤ hy
        · obtain rfl : q = true := by rw [hq]; simp [h1, h2, h3, h4]
          clear hq
          go_enter Try.func59, Try.ntmps59
          go_wp2
          go_ret
          exact ⟨rfl, by go_grown⟩
        · obtain rfl : q = false := by rw [hq]; simp [h4]
          clear hq
          go_enter Try.func59, Try.ntmps59
          go_wp2
          go_ret
          exact ⟨rfl, by go_grown⟩
      · obtain rfl : q = false := by rw [hq]; simp [h3]
        clear hq
        go_enter Try.func59, Try.ntmps59
        go_wp2
        go_ret
        exact ⟨rfl, by go_grown⟩
    · obtain rfl : q = false := by rw [hq]; simp [h2]
      clear hq
      go_enter Try.func59, Try.ntmps59
      go_wp2
      go_ret
      exact ⟨rfl, by go_grown⟩
  · obtain rfl : q = false := by rw [hq]; simp [h1]
    clear hq
    go_enter Try.func59, Try.ntmps59
    go_wp2
    go_ret
    exact ⟨rfl, by go_grown⟩

set_option maxHeartbeats 1000000 in
theorem c_Has (lx ly hx hy px py : Int) (W : World) :
    Calls Try.prog 19 #[.agg #[.int .i64 lx, .int .i64 ly, .int .i64 hx, .int .i64 hy], .agg #[.int .i64 px, .int .i64 py]] W fun e w' => e = .returned (.bool (boxB lx ly hx hy && nearB px py && inB lx ly hx hy px py)) ∧ Gr W w' := by
  obtain ⟨q1, e1⟩ : ∃ q, q = boxB lx ly hx hy := ⟨_, rfl⟩
  obtain ⟨q2, e2⟩ : ∃ q, q = nearB px py := ⟨_, rfl⟩
  obtain ⟨q3, e3⟩ : ∃ q, q = inB lx ly hx hy px py := ⟨_, rfl⟩
  have M : ∀ b w, b < w.heap.size → w.cell? ⟨b, 0, none⟩ = some (.int .i64 lx) → w.cell? ⟨b, 1, none⟩ = some (.int .i64 ly) → w.cell? ⟨b, 2, none⟩ = some (.int .i64 hx) → w.cell? ⟨b, 3, none⟩ = some (.int .i64 hy) →
      Calls Try.prog 58 #[.slice (some ⟨b, 0, none⟩) 1 1] w fun e w' => e = .returned (.bool q1) ∧ Gr w w' := fun b w hb k0 k1 k2 k3 => by
    rw [e1]; exact c_mayBe1 lx ly hx hy b w hb k0 k1 k2 k3
  have N := c_near px py
  have O := c_holds lx ly hx hy px py
  rw [← e1, ← e2, ← e3]
  rw [← e2] at N
  rw [← e3] at O
  have H1 := Lib.hid M
  have H2 := Lib.hid N
  have H3 := Lib.hid O
  clear M N O e1 e2 e3
  have hc : q1 = false ∨ (q1 = true ∧ q2 = false) ∨ (q1 = true ∧ q2 = true) := by cases q1 <;> cases q2 <;> simp
  rcases hc with rfl | ⟨rfl, rfl⟩ | ⟨rfl, rfl⟩
  · go_enter Try.func19, Try.ntmps19
    go_wp2_with fail
    go_at_call 58
    refine ((H1.out _ _ (by go_simp) (by go_simp) (by go_simp) (by go_simp) (by go_simp))).mono ?_
    rintro e w1 ⟨rfl, hw1⟩
    have cw1_0_0 : w1.cell? ⟨W.heap.size, 0, none⟩ = some (.int .i64 lx) := cell_gr hw1 (by go_simp)
    have cw1_0_1 : w1.cell? ⟨W.heap.size, 1, none⟩ = some (.int .i64 ly) := cell_gr hw1 (by go_simp)
    have cw1_0_2 : w1.cell? ⟨W.heap.size, 2, none⟩ = some (.int .i64 hx) := cell_gr hw1 (by go_simp)
    have cw1_0_3 : w1.cell? ⟨W.heap.size, 3, none⟩ = some (.int .i64 hy) := cell_gr hw1 (by go_simp)
    have zw1_0 : W.heap.size < w1.heap.size := World.block_lt_of_cell? _ _ cw1_0_0
    have cw1_1_0 : w1.cell? ⟨W.heap.size + 1, 0, none⟩ = some (.int .i64 px) := cell_gr hw1 (by go_simp)
    have cw1_1_1 : w1.cell? ⟨W.heap.size + 1, 1, none⟩ = some (.int .i64 py) := cell_gr hw1 (by go_simp)
    have zw1_1 : W.heap.size + 1 < w1.heap.size := World.block_lt_of_cell? _ _ cw1_1_0
    have gw1 : Gr W w1 := Gr.trans (by go_grown) hw1
    clear hw1
    go_wp2_with fail
    go_ret
    exact ⟨rfl, by go_grown⟩
  · go_enter Try.func19, Try.ntmps19
    go_wp2_with fail
    go_at_call 58
    refine ((H1.out _ _ (by go_simp) (by go_simp) (by go_simp) (by go_simp) (by go_simp))).mono ?_
    rintro e w1 ⟨rfl, hw1⟩
    have cw1_0_0 : w1.cell? ⟨W.heap.size, 0, none⟩ = some (.int .i64 lx) := cell_gr hw1 (by go_simp)
    have cw1_0_1 : w1.cell? ⟨W.heap.size, 1, none⟩ = some (.int .i64 ly) := cell_gr hw1 (by go_simp)
    have cw1_0_2 : w1.cell? ⟨W.heap.size, 2, none⟩ = some (.int .i64 hx) := cell_gr hw1 (by go_simp)
    have cw1_0_3 : w1.cell? ⟨W.heap.size, 3, none⟩ = some (.int .i64 hy) := cell_gr hw1 (by go_simp)
    have zw1_0 : W.heap.size < w1.heap.size := World.block_lt_of_cell? _ _ cw1_0_0
    have cw1_1_0 : w1.cell? ⟨W.heap.size + 1, 0, none⟩ = some (.int .i64 px) := cell_gr hw1 (by go_simp)
    have cw1_1_1 : w1.cell? ⟨W.heap.size + 1, 1, none⟩ = some (.int .i64 py) := cell_gr hw1 (by go_simp)
    have zw1_1 : W.heap.size + 1 < w1.heap.size := World.block_lt_of_cell? _ _ cw1_1_0
    have gw1 : Gr W w1 := Gr.trans (by go_grown) hw1
    clear hw1
    go_wp2_with fail
    go_at_call 60
    refine ((H2.out _)).mono ?_
    rintro e w2 ⟨rfl, hw2⟩
    have cw2_0_0 : w2.cell? ⟨W.heap.size, 0, none⟩ = some (.int .i64 lx) := cell_gr hw2 (by go_simp)
    have cw2_0_1 : w2.cell? ⟨W.heap.size, 1, none⟩ = some (.int .i64 ly) := cell_gr hw2 (by go_simp)
    have cw2_0_2 : w2.cell? ⟨W.heap.size, 2, none⟩ = some (.int .i64 hx) := cell_gr hw2 (by go_simp)
    have cw2_0_3 : w2.cell? ⟨W.heap.size, 3, none⟩ = some (.int .i64 hy) := cell_gr hw2 (by go_simp)
    have zw2_0 : W.heap.size < w2.heap.size := World.block_lt_of_cell? _ _ cw2_0_0
    have cw2_1_0 : w2.cell? ⟨W.heap.size + 1, 0, none⟩ = some (.int .i64 px) := cell_gr hw2 (by go_simp)
    have cw2_1_1 : w2.cell? ⟨W.heap.size + 1, 1, none⟩ = some (.int .i64 py) := cell_gr hw2 (by go_simp)
    have zw2_1 : W.heap.size + 1 < w2.heap.size := World.block_lt_of_cell? _ _ cw2_1_0
    have gw2 : Gr W w2 := Gr.trans (by have gg := gw1; have gs := gg.size; go_grown) hw2
    clear hw2 gw1 zw1_0 cw1_0_0 cw1_0_1 cw1_0_2 cw1_0_3 zw1_1 cw1_1_0 cw1_1_1
    go_wp2_with fail
    go_ret
    exact ⟨rfl, by go_grown⟩
  · go_enter Try.func19, Try.ntmps19
    go_wp2_with fail
    go_at_call 58
    refine ((H1.out _ _ (by go_simp) (by go_simp) (by go_simp) (by go_simp) (by go_simp))).mono ?_
    rintro e w1 ⟨rfl, hw1⟩
    have cw1_0_0 : w1.cell? ⟨W.heap.size, 0, none⟩ = some (.int .i64 lx) := cell_gr hw1 (by go_simp)
    have cw1_0_1 : w1.cell? ⟨W.heap.size, 1, none⟩ = some (.int .i64 ly) := cell_gr hw1 (by go_simp)
    have cw1_0_2 : w1.cell? ⟨W.heap.size, 2, none⟩ = some (.int .i64 hx) := cell_gr hw1 (by go_simp)
    have cw1_0_3 : w1.cell? ⟨W.heap.size, 3, none⟩ = some (.int .i64 hy) := cell_gr hw1 (by go_simp)
    have zw1_0 : W.heap.size < w1.heap.size := World.block_lt_of_cell? _ _ cw1_0_0
    have cw1_1_0 : w1.cell? ⟨W.heap.size + 1, 0, none⟩ = some (.int .i64 px) := cell_gr hw1 (by go_simp)
    have cw1_1_1 : w1.cell? ⟨W.heap.size + 1, 1, none⟩ = some (.int .i64 py) := cell_gr hw1 (by go_simp)
    have zw1_1 : W.heap.size + 1 < w1.heap.size := World.block_lt_of_cell? _ _ cw1_1_0
    have gw1 : Gr W w1 := Gr.trans (by go_grown) hw1
    clear hw1
    go_wp2_with fail
    go_at_call 60
    refine ((H2.out _)).mono ?_
    rintro e w2 ⟨rfl, hw2⟩
    have cw2_0_0 : w2.cell? ⟨W.heap.size, 0, none⟩ = some (.int .i64 lx) := cell_gr hw2 (by go_simp)
    have cw2_0_1 : w2.cell? ⟨W.heap.size, 1, none⟩ = some (.int .i64 ly) := cell_gr hw2 (by go_simp)
    have cw2_0_2 : w2.cell? ⟨W.heap.size, 2, none⟩ = some (.int .i64 hx) := cell_gr hw2 (by go_simp)
    have cw2_0_3 : w2.cell? ⟨W.heap.size, 3, none⟩ = some (.int .i64 hy) := cell_gr hw2 (by go_simp)
    have zw2_0 : W.heap.size < w2.heap.size := World.block_lt_of_cell? _ _ cw2_0_0
    have cw2_1_0 : w2.cell? ⟨W.heap.size + 1, 0, none⟩ = some (.int .i64 px) := cell_gr hw2 (by go_simp)
    have cw2_1_1 : w2.cell? ⟨W.heap.size + 1, 1, none⟩ = some (.int .i64 py) := cell_gr hw2 (by go_simp)
    have zw2_1 : W.heap.size + 1 < w2.heap.size := World.block_lt_of_cell? _ _ cw2_1_0
    have gw2 : Gr W w2 := Gr.trans (by have gg := gw1; have gs := gg.size; go_grown) hw2
    clear hw2 gw1 zw1_0 cw1_0_0 cw1_0_1 cw1_0_2 cw1_0_3 zw1_1 cw1_1_0 cw1_1_1
    go_wp2_with fail
    go_at_call 59
    refine ((H3.out _)).mono ?_
    rintro e w3 ⟨rfl, hw3⟩
    have cw3_0_0 : w3.cell? ⟨W.heap.size, 0, none⟩ = some (.int .i64 lx) := cell_gr hw3 (by go_simp)
    have cw3_0_1 : w3.cell? ⟨W.heap.size, 1, none⟩ = some (.int .i64 ly) := cell_gr hw3 (by go_simp)
    have cw3_0_2 : w3.cell? ⟨W.heap.size, 2, none⟩ = some (.int .i64 hx) := cell_gr hw3 (by go_simp)
    have cw3_0_3 : w3.cell? ⟨W.heap.size, 3, none⟩ = some (.int .i64 hy) := cell_gr hw3 (by go_simp)
    have zw3_0 : W.heap.size < w3.heap.size := World.block_lt_of_cell? _ _ cw3_0_0
    have cw3_1_0 : w3.cell? ⟨W.heap.size + 1, 0, none⟩ = some (.int .i64 px) := cell_gr hw3 (by go_simp)
    have cw3_1_1 : w3.cell? ⟨W.heap.size + 1, 1, none⟩ = some (.int .i64 py) := cell_gr hw3 (by go_simp)
    have zw3_1 : W.heap.size + 1 < w3.heap.size := World.block_lt_of_cell? _ _ cw3_1_0
    have gw3 : Gr W w3 := Gr.trans (by have gg := gw2; have gs := gg.size; go_grown) hw3
    clear hw3 gw2 zw2_0 cw2_0_0 cw2_0_1 cw2_0_2 cw2_0_3 zw2_1 cw2_1_0 cw2_1_1
    go_wp2_with fail
    go_ret
    exact ⟨rfl, by go_grown⟩

/-- How far v is from lo to hi. -/
def beyZ (lo hi v : Int) : Int := if v < lo then lo - v else if hi < v then v - hi else 0
theorem c_beyond (lo hi v : Int) (h : lo ≤ hi) (h1 : -1073741823 ≤ lo ∧ lo ≤ 1073741823) (h2 : -1073741823 ≤ hi ∧ hi ≤ 1073741823) (h3 : -1073741823 ≤ v ∧ v ≤ 1073741823) (w : World) :
    Calls Try.prog 64 #[.int .i64 lo, .int .i64 hi, .int .i64 v] w fun e w' => e = .returned (.int .i64 (beyZ lo hi v)) ∧ Gr w w' := by
  have e1 : wrap64 (lo - v) = lo - v := IntWalk.wrap64_in _ (by omega)
  have e2 : wrap64 (v - hi) = v - hi := IntWalk.wrap64_in _ (by omega)
  have f1 : IntKind.i64.wrap (lo - v) = lo - v := IntWalk.i64_in _ (by omega)
  have f2 : IntKind.i64.wrap (v - hi) = v - hi := IntWalk.i64_in _ (by omega)
  go_enter Try.func64, Try.ntmps64
  have M : ∀ w, (Builtin.max_ #[3, 3, 3] 3 #[.int .i64 (lo - v), .int .i64 0, .int .i64 (v - hi)]).run Try.prog w = .ok (.int .i64 (beyZ lo hi v)) w := fun w => by
    have e : beyZ lo hi v = (if (v - hi) > (if 0 > lo - v then 0 else lo - v) then v - hi else (if 0 > lo - v then 0 else lo - v)) := by
      unfold beyZ
      split <;> split <;> (try split) <;> omega
    rw [e]
    simp [Builtin.max_, Builtin.max2, go_sem]
  go_wp2_with fail
  go_ret
  exact ⟨rfl, by go_grown⟩

set_option maxHeartbeats 2000000 in
theorem c_Meets (lx ly hx hy mx my nx ny : Int) (W : World) :
    Calls Try.prog 18 #[.agg #[.int .i64 lx, .int .i64 ly, .int .i64 hx, .int .i64 hy], .agg #[.int .i64 mx, .int .i64 my, .int .i64 nx, .int .i64 ny]] W fun e w' => e = .returned (.bool (boxB lx ly hx hy && boxB mx my nx ny && decide (lx ≤ nx) && decide (mx ≤ hx) && decide (ly ≤ ny) && decide (my ≤ hy))) ∧ Gr W w' := by
  obtain ⟨q1, e1⟩ : ∃ q, q = (boxB lx ly hx hy && boxB mx my nx ny) := ⟨_, rfl⟩
  have M : ∀ b w, b < w.heap.size → w.cell? ⟨b, 0, none⟩ = some (.int .i64 lx) → w.cell? ⟨b, 1, none⟩ = some (.int .i64 ly) → w.cell? ⟨b, 2, none⟩ = some (.int .i64 hx) → w.cell? ⟨b, 3, none⟩ = some (.int .i64 hy) →
      w.cell? ⟨b, 4, none⟩ = some (.int .i64 mx) → w.cell? ⟨b, 5, none⟩ = some (.int .i64 my) → w.cell? ⟨b, 6, none⟩ = some (.int .i64 nx) → w.cell? ⟨b, 7, none⟩ = some (.int .i64 ny) →
      Calls Try.prog 58 #[.slice (some ⟨b, 0, none⟩) 2 2] w fun e w' => e = .returned (.bool q1) ∧ Gr w w' := fun b w hb k0 k1 k2 k3 k4 k5 k6 k7 => by
    rw [e1]; exact c_mayBe2 lx ly hx hy mx my nx ny b w hb k0 k1 k2 k3 k4 k5 k6 k7
  rw [← e1]
  obtain ⟨r, hr⟩ : ∃ r, r = (q1 && decide (lx ≤ nx) && decide (mx ≤ hx) && decide (ly ≤ ny) && decide (my ≤ hy)) := ⟨_, rfl⟩
  rw [← hr]
  have H1 := Lib.hid M
  clear M e1
  have hc : (q1 = false ∧ r = false) ∨ (q1 = true ∧ ¬ lx ≤ nx ∧ r = false) ∨ (q1 = true ∧ lx ≤ nx ∧ ¬ mx ≤ hx ∧ r = false) ∨ (q1 = true ∧ lx ≤ nx ∧ mx ≤ hx ∧ ¬ ly ≤ ny ∧ r = false) ∨ (q1 = true ∧ lx ≤ nx ∧ mx ≤ hx ∧ ly ≤ ny ∧ ¬ my ≤ hy ∧ r = false) ∨ (q1 = true ∧ lx ≤ nx ∧ mx ≤ hx ∧ ly ≤ ny ∧ my ≤ hy ∧ r = true) := by
    cases q1
    · left; exact ⟨rfl, by rw [hr]; rfl⟩
    · right
      by_cases a1 : lx ≤ nx <;> by_cases a2 : mx ≤ hx <;> by_cases a3 : ly ≤ ny <;> by_cases a4 : my ≤ hy <;> simp [hr, a1, a2, a3, a4]
  clear hr
  rcases hc with ⟨rfl, rfl⟩ | ⟨rfl, a1, rfl⟩ | ⟨rfl, a1, a2, rfl⟩ | ⟨rfl, a1, a2, a3, rfl⟩ | ⟨rfl, a1, a2, a3, a4, rfl⟩ | ⟨rfl, a1, a2, a3, a4, rfl⟩
  all_goals
    go_enter Try.func18, Try.ntmps18
    go_wp2_with fail
    go_at_call 58
    refine ((H1.out _ _ (by go_simp) (by go_simp) (by go_simp) (by go_simp) (by go_simp) (by go_simp) (by go_simp) (by go_simp) (by go_simp))).mono ?_
    rintro e w1 ⟨rfl, hw1⟩
    have cw1_0_0 : w1.cell? ⟨W.heap.size, 0, none⟩ = some (.int .i64 lx) := cell_gr hw1 (by go_simp)
    have cw1_0_1 : w1.cell? ⟨W.heap.size, 1, none⟩ = some (.int .i64 ly) := cell_gr hw1 (by go_simp)
    have cw1_0_2 : w1.cell? ⟨W.heap.size, 2, none⟩ = some (.int .i64 hx) := cell_gr hw1 (by go_simp)
    have cw1_0_3 : w1.cell? ⟨W.heap.size, 3, none⟩ = some (.int .i64 hy) := cell_gr hw1 (by go_simp)
    have zw1_0 : W.heap.size < w1.heap.size := World.block_lt_of_cell? _ _ cw1_0_0
    have cw1_1_0 : w1.cell? ⟨W.heap.size + 1, 0, none⟩ = some (.int .i64 mx) := cell_gr hw1 (by go_simp)
    have cw1_1_1 : w1.cell? ⟨W.heap.size + 1, 1, none⟩ = some (.int .i64 my) := cell_gr hw1 (by go_simp)
    have cw1_1_2 : w1.cell? ⟨W.heap.size + 1, 2, none⟩ = some (.int .i64 nx) := cell_gr hw1 (by go_simp)
    have cw1_1_3 : w1.cell? ⟨W.heap.size + 1, 3, none⟩ = some (.int .i64 ny) := cell_gr hw1 (by go_simp)
    have zw1_1 : W.heap.size + 1 < w1.heap.size := World.block_lt_of_cell? _ _ cw1_1_0
    have gw1 : Gr W w1 := Gr.trans (by go_grown) hw1
    clear hw1
    go_wp2_with fail
    go_ret
    exact ⟨by first | rfl | simp [a4], by go_grown⟩

set_option maxHeartbeats 1000000 in
theorem c_Inside (lx ly hx hy mx my nx ny : Int) (W : World) :
    Calls Try.prog 17 #[.agg #[.int .i64 lx, .int .i64 ly, .int .i64 hx, .int .i64 hy], .agg #[.int .i64 mx, .int .i64 my, .int .i64 nx, .int .i64 ny]] W fun e w' => e = .returned (.bool (boxB lx ly hx hy && boxB mx my nx ny && inB mx my nx ny lx ly && inB mx my nx ny hx hy)) ∧ Gr W w' := by
  obtain ⟨q1, e1⟩ : ∃ q, q = (boxB lx ly hx hy && boxB mx my nx ny) := ⟨_, rfl⟩
  obtain ⟨q2, e2⟩ : ∃ q, q = inB mx my nx ny lx ly := ⟨_, rfl⟩
  obtain ⟨q3, e3⟩ : ∃ q, q = inB mx my nx ny hx hy := ⟨_, rfl⟩
  have M : ∀ b w, b < w.heap.size → w.cell? ⟨b, 0, none⟩ = some (.int .i64 lx) → w.cell? ⟨b, 1, none⟩ = some (.int .i64 ly) → w.cell? ⟨b, 2, none⟩ = some (.int .i64 hx) → w.cell? ⟨b, 3, none⟩ = some (.int .i64 hy) →
      w.cell? ⟨b, 4, none⟩ = some (.int .i64 mx) → w.cell? ⟨b, 5, none⟩ = some (.int .i64 my) → w.cell? ⟨b, 6, none⟩ = some (.int .i64 nx) → w.cell? ⟨b, 7, none⟩ = some (.int .i64 ny) →
      Calls Try.prog 58 #[.slice (some ⟨b, 0, none⟩) 2 2] w fun e w' => e = .returned (.bool q1) ∧ Gr w w' := fun b w hb k0 k1 k2 k3 k4 k5 k6 k7 => by
    rw [e1]; exact c_mayBe2 lx ly hx hy mx my nx ny b w hb k0 k1 k2 k3 k4 k5 k6 k7
  have N := c_holds mx my nx ny lx ly
  have O := c_holds mx my nx ny hx hy
  rw [← e1, ← e2, ← e3]
  rw [← e2] at N
  rw [← e3] at O
  have H1 := Lib.hid M
  have H2 := Lib.hid N
  have H3 := Lib.hid O
  clear M N O e1 e2 e3
  have hc : q1 = false ∨ (q1 = true ∧ q2 = false) ∨ (q1 = true ∧ q2 = true) := by cases q1 <;> cases q2 <;> simp
  rcases hc with rfl | ⟨rfl, rfl⟩ | ⟨rfl, rfl⟩
  · go_enter Try.func17, Try.ntmps17
    go_wp2_with fail
    go_at_call 58
    refine ((H1.out _ _ (by go_simp) (by go_simp) (by go_simp) (by go_simp) (by go_simp) (by go_simp) (by go_simp) (by go_simp) (by go_simp))).mono ?_
    rintro e w1 ⟨rfl, hw1⟩
    have cw1_0_0 : w1.cell? ⟨W.heap.size, 0, none⟩ = some (.int .i64 lx) := cell_gr hw1 (by go_simp)
    have cw1_0_1 : w1.cell? ⟨W.heap.size, 1, none⟩ = some (.int .i64 ly) := cell_gr hw1 (by go_simp)
    have cw1_0_2 : w1.cell? ⟨W.heap.size, 2, none⟩ = some (.int .i64 hx) := cell_gr hw1 (by go_simp)
    have cw1_0_3 : w1.cell? ⟨W.heap.size, 3, none⟩ = some (.int .i64 hy) := cell_gr hw1 (by go_simp)
    have zw1_0 : W.heap.size < w1.heap.size := World.block_lt_of_cell? _ _ cw1_0_0
    have cw1_1_0 : w1.cell? ⟨W.heap.size + 1, 0, none⟩ = some (.int .i64 mx) := cell_gr hw1 (by go_simp)
    have cw1_1_1 : w1.cell? ⟨W.heap.size + 1, 1, none⟩ = some (.int .i64 my) := cell_gr hw1 (by go_simp)
    have cw1_1_2 : w1.cell? ⟨W.heap.size + 1, 2, none⟩ = some (.int .i64 nx) := cell_gr hw1 (by go_simp)
    have cw1_1_3 : w1.cell? ⟨W.heap.size + 1, 3, none⟩ = some (.int .i64 ny) := cell_gr hw1 (by go_simp)
    have zw1_1 : W.heap.size + 1 < w1.heap.size := World.block_lt_of_cell? _ _ cw1_1_0
    have gw1 : Gr W w1 := Gr.trans (by go_grown) hw1
    clear hw1
    go_wp2_with fail
    go_ret
    exact ⟨rfl, by go_grown⟩
  · go_enter Try.func17, Try.ntmps17
    go_wp2_with fail
    go_at_call 58
    refine ((H1.out _ _ (by go_simp) (by go_simp) (by go_simp) (by go_simp) (by go_simp) (by go_simp) (by go_simp) (by go_simp) (by go_simp))).mono ?_
    rintro e w1 ⟨rfl, hw1⟩
    have cw1_0_0 : w1.cell? ⟨W.heap.size, 0, none⟩ = some (.int .i64 lx) := cell_gr hw1 (by go_simp)
    have cw1_0_1 : w1.cell? ⟨W.heap.size, 1, none⟩ = some (.int .i64 ly) := cell_gr hw1 (by go_simp)
    have cw1_0_2 : w1.cell? ⟨W.heap.size, 2, none⟩ = some (.int .i64 hx) := cell_gr hw1 (by go_simp)
    have cw1_0_3 : w1.cell? ⟨W.heap.size, 3, none⟩ = some (.int .i64 hy) := cell_gr hw1 (by go_simp)
    have zw1_0 : W.heap.size < w1.heap.size := World.block_lt_of_cell? _ _ cw1_0_0
    have cw1_1_0 : w1.cell? ⟨W.heap.size + 1, 0, none⟩ = some (.int .i64 mx) := cell_gr hw1 (by go_simp)
    have cw1_1_1 : w1.cell? ⟨W.heap.size + 1, 1, none⟩ = some (.int .i64 my) := cell_gr hw1 (by go_simp)
    have cw1_1_2 : w1.cell? ⟨W.heap.size + 1, 2, none⟩ = some (.int .i64 nx) := cell_gr hw1 (by go_simp)
    have cw1_1_3 : w1.cell? ⟨W.heap.size + 1, 3, none⟩ = some (.int .i64 ny) := cell_gr hw1 (by go_simp)
    have zw1_1 : W.heap.size + 1 < w1.heap.size := World.block_lt_of_cell? _ _ cw1_1_0
    have gw1 : Gr W w1 := Gr.trans (by go_grown) hw1
    clear hw1
    go_wp2_with fail
    go_at_call 59
    refine ((H2.out _)).mono ?_
    rintro e w2 ⟨rfl, hw2⟩
    have cw2_0_0 : w2.cell? ⟨W.heap.size, 0, none⟩ = some (.int .i64 lx) := cell_gr hw2 (by go_simp)
    have cw2_0_1 : w2.cell? ⟨W.heap.size, 1, none⟩ = some (.int .i64 ly) := cell_gr hw2 (by go_simp)
    have cw2_0_2 : w2.cell? ⟨W.heap.size, 2, none⟩ = some (.int .i64 hx) := cell_gr hw2 (by go_simp)
    have cw2_0_3 : w2.cell? ⟨W.heap.size, 3, none⟩ = some (.int .i64 hy) := cell_gr hw2 (by go_simp)
    have zw2_0 : W.heap.size < w2.heap.size := World.block_lt_of_cell? _ _ cw2_0_0
    have cw2_1_0 : w2.cell? ⟨W.heap.size + 1, 0, none⟩ = some (.int .i64 mx) := cell_gr hw2 (by go_simp)
    have cw2_1_1 : w2.cell? ⟨W.heap.size + 1, 1, none⟩ = some (.int .i64 my) := cell_gr hw2 (by go_simp)
    have cw2_1_2 : w2.cell? ⟨W.heap.size + 1, 2, none⟩ = some (.int .i64 nx) := cell_gr hw2 (by go_simp)
    have cw2_1_3 : w2.cell? ⟨W.heap.size + 1, 3, none⟩ = some (.int .i64 ny) := cell_gr hw2 (by go_simp)
    have zw2_1 : W.heap.size + 1 < w2.heap.size := World.block_lt_of_cell? _ _ cw2_1_0
    have gw2 : Gr W w2 := Gr.trans (by have gg := gw1; have gs := gg.size; go_grown) hw2
    clear hw2 gw1 zw1_0 cw1_0_0 cw1_0_1 cw1_0_2 cw1_0_3 zw1_1 cw1_1_0 cw1_1_1 cw1_1_2 cw1_1_3
    go_wp2_with fail
    go_ret
    exact ⟨rfl, by go_grown⟩
  · go_enter Try.func17, Try.ntmps17
    go_wp2_with fail
    go_at_call 58
    refine ((H1.out _ _ (by go_simp) (by go_simp) (by go_simp) (by go_simp) (by go_simp) (by go_simp) (by go_simp) (by go_simp) (by go_simp))).mono ?_
    rintro e w1 ⟨rfl, hw1⟩
    have cw1_0_0 : w1.cell? ⟨W.heap.size, 0, none⟩ = some (.int .i64 lx) := cell_gr hw1 (by go_simp)
    have cw1_0_1 : w1.cell? ⟨W.heap.size, 1, none⟩ = some (.int .i64 ly) := cell_gr hw1 (by go_simp)
    have cw1_0_2 : w1.cell? ⟨W.heap.size, 2, none⟩ = some (.int .i64 hx) := cell_gr hw1 (by go_simp)
    have cw1_0_3 : w1.cell? ⟨W.heap.size, 3, none⟩ = some (.int .i64 hy) := cell_gr hw1 (by go_simp)
    have zw1_0 : W.heap.size < w1.heap.size := World.block_lt_of_cell? _ _ cw1_0_0
    have cw1_1_0 : w1.cell? ⟨W.heap.size + 1, 0, none⟩ = some (.int .i64 mx) := cell_gr hw1 (by go_simp)
    have cw1_1_1 : w1.cell? ⟨W.heap.size + 1, 1, none⟩ = some (.int .i64 my) := cell_gr hw1 (by go_simp)
    have cw1_1_2 : w1.cell? ⟨W.heap.size + 1, 2, none⟩ = some (.int .i64 nx) := cell_gr hw1 (by go_simp)
    have cw1_1_3 : w1.cell? ⟨W.heap.size + 1, 3, none⟩ = some (.int .i64 ny) := cell_gr hw1 (by go_simp)
    have zw1_1 : W.heap.size + 1 < w1.heap.size := World.block_lt_of_cell? _ _ cw1_1_0
    have gw1 : Gr W w1 := Gr.trans (by go_grown) hw1
    clear hw1
    go_wp2_with fail
    go_at_call 59
    refine ((H2.out _)).mono ?_
    rintro e w2 ⟨rfl, hw2⟩
    have cw2_0_0 : w2.cell? ⟨W.heap.size, 0, none⟩ = some (.int .i64 lx) := cell_gr hw2 (by go_simp)
    have cw2_0_1 : w2.cell? ⟨W.heap.size, 1, none⟩ = some (.int .i64 ly) := cell_gr hw2 (by go_simp)
    have cw2_0_2 : w2.cell? ⟨W.heap.size, 2, none⟩ = some (.int .i64 hx) := cell_gr hw2 (by go_simp)
    have cw2_0_3 : w2.cell? ⟨W.heap.size, 3, none⟩ = some (.int .i64 hy) := cell_gr hw2 (by go_simp)
    have zw2_0 : W.heap.size < w2.heap.size := World.block_lt_of_cell? _ _ cw2_0_0
    have cw2_1_0 : w2.cell? ⟨W.heap.size + 1, 0, none⟩ = some (.int .i64 mx) := cell_gr hw2 (by go_simp)
    have cw2_1_1 : w2.cell? ⟨W.heap.size + 1, 1, none⟩ = some (.int .i64 my) := cell_gr hw2 (by go_simp)
    have cw2_1_2 : w2.cell? ⟨W.heap.size + 1, 2, none⟩ = some (.int .i64 nx) := cell_gr hw2 (by go_simp)
    have cw2_1_3 : w2.cell? ⟨W.heap.size + 1, 3, none⟩ = some (.int .i64 ny) := cell_gr hw2 (by go_simp)
    have zw2_1 : W.heap.size + 1 < w2.heap.size := World.block_lt_of_cell? _ _ cw2_1_0
    have gw2 : Gr W w2 := Gr.trans (by have gg := gw1; have gs := gg.size; go_grown) hw2
    clear hw2 gw1 zw1_0 cw1_0_0 cw1_0_1 cw1_0_2 cw1_0_3 zw1_1 cw1_1_0 cw1_1_1 cw1_1_2 cw1_1_3
    go_wp2_with fail
    go_at_call 59
    refine ((H3.out _)).mono ?_
    rintro e w3 ⟨rfl, hw3⟩
    have cw3_0_0 : w3.cell? ⟨W.heap.size, 0, none⟩ = some (.int .i64 lx) := cell_gr hw3 (by go_simp)
    have cw3_0_1 : w3.cell? ⟨W.heap.size, 1, none⟩ = some (.int .i64 ly) := cell_gr hw3 (by go_simp)
    have cw3_0_2 : w3.cell? ⟨W.heap.size, 2, none⟩ = some (.int .i64 hx) := cell_gr hw3 (by go_simp)
    have cw3_0_3 : w3.cell? ⟨W.heap.size, 3, none⟩ = some (.int .i64 hy) := cell_gr hw3 (by go_simp)
    have zw3_0 : W.heap.size < w3.heap.size := World.block_lt_of_cell? _ _ cw3_0_0
    have cw3_1_0 : w3.cell? ⟨W.heap.size + 1, 0, none⟩ = some (.int .i64 mx) := cell_gr hw3 (by go_simp)
    have cw3_1_1 : w3.cell? ⟨W.heap.size + 1, 1, none⟩ = some (.int .i64 my) := cell_gr hw3 (by go_simp)
    have cw3_1_2 : w3.cell? ⟨W.heap.size + 1, 2, none⟩ = some (.int .i64 nx) := cell_gr hw3 (by go_simp)
    have cw3_1_3 : w3.cell? ⟨W.heap.size + 1, 3, none⟩ = some (.int .i64 ny) := cell_gr hw3 (by go_simp)
    have zw3_1 : W.heap.size + 1 < w3.heap.size := World.block_lt_of_cell? _ _ cw3_1_0
    have gw3 : Gr W w3 := Gr.trans (by have gg := gw2; have gs := gg.size; go_grown) hw3
    clear hw3 gw2 zw2_0 cw2_0_0 cw2_0_1 cw2_0_2 cw2_0_3 zw2_1 cw2_1_0 cw2_1_1 cw2_1_2 cw2_1_3
    go_wp2_with fail
    go_ret
    exact ⟨rfl, by go_grown⟩

/-- Square's answer, of points that may be. -/
def sqZ (ax ay bx by' : Int) : Int := (bx - ax) * (bx - ax) + (by' - ay) * (by' - ay)
set_option maxHeartbeats 1000000 in
theorem c_Square_no (ax ay bx by' : Int) (W : World) (hq : (nearB ax ay && nearB bx by') = false) :
    Calls Try.prog 72 #[.agg #[.int .i64 ax, .int .i64 ay], .agg #[.int .i64 bx, .int .i64 by']] W fun e w' => e = .returned (.agg #[.int .u64 0, .int .u64 0, .int .u64 0]) ∧ Gr W w' := by
  have M : ∀ b w, b < w.heap.size → w.cell? ⟨b, 0, none⟩ = some (.int .i64 ax) → w.cell? ⟨b, 1, none⟩ = some (.int .i64 ay) → w.cell? ⟨b, 2, none⟩ = some (.int .i64 bx) → w.cell? ⟨b, 3, none⟩ = some (.int .i64 by') →
      Calls Try.prog 100 #[.slice (some ⟨b, 0, none⟩) 2 2] w fun e w' => e = .returned (.bool false) ∧ Gr w w' := fun b w hb k0 k1 k2 k3 => by
    rw [← hq]; exact c_allNear2 ax ay bx by' b w hb k0 k1 k2 k3
  have H1 := Lib.hid M
  clear M hq
  go_enter Try.func72, Try.ntmps72
  go_wp2_with fail
  go_at_call 100
  refine ((H1.out _ _ (by go_simp) (by go_simp) (by go_simp) (by go_simp) (by go_simp))).mono ?_
  rintro e w1 ⟨rfl, hw1⟩
  have cw1_0_0 : w1.cell? ⟨W.heap.size, 0, none⟩ = some (.int .i64 ax) := cell_gr hw1 (by go_simp)
  have cw1_0_1 : w1.cell? ⟨W.heap.size, 1, none⟩ = some (.int .i64 ay) := cell_gr hw1 (by go_simp)
  have zw1_0 : W.heap.size < w1.heap.size := World.block_lt_of_cell? _ _ cw1_0_0
  have cw1_1_0 : w1.cell? ⟨W.heap.size + 1, 0, none⟩ = some (.int .i64 bx) := cell_gr hw1 (by go_simp)
  have cw1_1_1 : w1.cell? ⟨W.heap.size + 1, 1, none⟩ = some (.int .i64 by') := cell_gr hw1 (by go_simp)
  have zw1_1 : W.heap.size + 1 < w1.heap.size := World.block_lt_of_cell? _ _ cw1_1_0
  have cw1_2_0 : w1.cell? ⟨W.heap.size + 1 + 1, 0, none⟩ = some (.int .u64 0) := cell_gr hw1 (by go_simp)
  have fw1_2_0 : w1.frozen? ⟨W.heap.size + 1 + 1, 0, none⟩ = false := frozen_gr (v := .int .u64 0) hw1 (by go_simp) (by go_simp)
  have cw1_2_1 : w1.cell? ⟨W.heap.size + 1 + 1, 1, none⟩ = some (.int .u64 0) := cell_gr hw1 (by go_simp)
  have fw1_2_1 : w1.frozen? ⟨W.heap.size + 1 + 1, 1, none⟩ = false := frozen_gr (v := .int .u64 0) hw1 (by go_simp) (by go_simp)
  have cw1_2_2 : w1.cell? ⟨W.heap.size + 1 + 1, 2, none⟩ = some (.int .u64 0) := cell_gr hw1 (by go_simp)
  have fw1_2_2 : w1.frozen? ⟨W.heap.size + 1 + 1, 2, none⟩ = false := frozen_gr (v := .int .u64 0) hw1 (by go_simp) (by go_simp)
  have zw1_2 : W.heap.size + 1 + 1 < w1.heap.size := World.block_lt_of_cell? _ _ cw1_2_0
  have gw1 : Gr W w1 := Gr.trans (by go_grown) hw1
  clear hw1
  go_wp2_with fail
  refine bodyPost_ret (v := .agg #[.int .u64 0, .int .u64 0, .int .u64 0]) (by simp [results, Try.results72, go_sem, *]) rfl ⟨rfl, by go_grown⟩
set_option maxHeartbeats 1000000 in
theorem c_Square2 (ax ay bx by' : Int) (W : World) (hq : nearB ax ay = true ∧ nearB bx by' = true) :
    Calls Try.prog 72 #[.agg #[.int .i64 ax, .int .i64 ay], .agg #[.int .i64 bx, .int .i64 by']] W fun e w' => e = .returned (.agg #[.int .u64 0, .int .u64 (sqZ ax ay bx by'), .int .u64 1]) ∧ Gr W w' := by
  have M : ∀ b w, b < w.heap.size → w.cell? ⟨b, 0, none⟩ = some (.int .i64 ax) → w.cell? ⟨b, 1, none⟩ = some (.int .i64 ay) → w.cell? ⟨b, 2, none⟩ = some (.int .i64 bx) → w.cell? ⟨b, 3, none⟩ = some (.int .i64 by') →
      Calls Try.prog 100 #[.slice (some ⟨b, 0, none⟩) 2 2] w fun e w' => e = .returned (.bool true) ∧ Gr w w' := fun b w hb k0 k1 k2 k3 => by
    have := c_allNear2 ax ay bx by' b w hb k0 k1 k2 k3
    rw [hq.1, hq.2] at this
    exact this
  have n1 := nearB_iff.1 hq.1
  have n2 := nearB_iff.1 hq.2
  have Q := c_squares (bx - ax) (by' - ay) (by omega) (by omega)
  have e1 : wrap64 (bx - ax) = bx - ax := IntWalk.wrap64_in _ (by omega)
  have e2 : wrap64 (by' - ay) = by' - ay := IntWalk.wrap64_in _ (by omega)
  have f1 : IntKind.i64.wrap (bx - ax) = bx - ax := IntWalk.i64_in _ (by omega)
  have f2 : IntKind.i64.wrap (by' - ay) = by' - ay := IntWalk.i64_in _ (by omega)
  obtain ⟨z, hz⟩ : ∃ z, z = sqZ ax ay bx by' := ⟨_, rfl⟩
  have hz' : (bx - ax) * (bx - ax) + (by' - ay) * (by' - ay) = z := hz.symm
  rw [← hz]
  rw [hz'] at Q
  have H1 := Lib.hid M
  have H2 := Lib.hid Q
  clear M Q hq n1 n2 hz hz'
  go_enter Try.func72, Try.ntmps72
  go_wp2_with fail
  go_at_call 100
  refine ((H1.out _ _ (by go_simp) (by go_simp) (by go_simp) (by go_simp) (by go_simp))).mono ?_
  rintro e w1 ⟨rfl, hw1⟩
  have cw1_0_0 : w1.cell? ⟨W.heap.size, 0, none⟩ = some (.int .i64 ax) := cell_gr hw1 (by go_simp)
  have cw1_0_1 : w1.cell? ⟨W.heap.size, 1, none⟩ = some (.int .i64 ay) := cell_gr hw1 (by go_simp)
  have zw1_0 : W.heap.size < w1.heap.size := World.block_lt_of_cell? _ _ cw1_0_0
  have cw1_1_0 : w1.cell? ⟨W.heap.size + 1, 0, none⟩ = some (.int .i64 bx) := cell_gr hw1 (by go_simp)
  have cw1_1_1 : w1.cell? ⟨W.heap.size + 1, 1, none⟩ = some (.int .i64 by') := cell_gr hw1 (by go_simp)
  have zw1_1 : W.heap.size + 1 < w1.heap.size := World.block_lt_of_cell? _ _ cw1_1_0
  have cw1_2_0 : w1.cell? ⟨W.heap.size + 1 + 1, 0, none⟩ = some (.int .u64 0) := cell_gr hw1 (by go_simp)
  have fw1_2_0 : w1.frozen? ⟨W.heap.size + 1 + 1, 0, none⟩ = false := frozen_gr (v := .int .u64 0) hw1 (by go_simp) (by go_simp)
  have cw1_2_1 : w1.cell? ⟨W.heap.size + 1 + 1, 1, none⟩ = some (.int .u64 0) := cell_gr hw1 (by go_simp)
  have fw1_2_1 : w1.frozen? ⟨W.heap.size + 1 + 1, 1, none⟩ = false := frozen_gr (v := .int .u64 0) hw1 (by go_simp) (by go_simp)
  have cw1_2_2 : w1.cell? ⟨W.heap.size + 1 + 1, 2, none⟩ = some (.int .u64 0) := cell_gr hw1 (by go_simp)
  have fw1_2_2 : w1.frozen? ⟨W.heap.size + 1 + 1, 2, none⟩ = false := frozen_gr (v := .int .u64 0) hw1 (by go_simp) (by go_simp)
  have zw1_2 : W.heap.size + 1 + 1 < w1.heap.size := World.block_lt_of_cell? _ _ cw1_2_0
  have gw1 : Gr W w1 := Gr.trans (by go_grown) hw1
  clear hw1
  go_wp2_with fail
  go_at_call 63
  refine ((H2.out _)).mono ?_
  rintro e w2 ⟨rfl, hw2⟩
  have cw2_0_0 : w2.cell? ⟨W.heap.size, 0, none⟩ = some (.int .i64 ax) := cell_gr hw2 (by go_simp)
  have cw2_0_1 : w2.cell? ⟨W.heap.size, 1, none⟩ = some (.int .i64 ay) := cell_gr hw2 (by go_simp)
  have zw2_0 : W.heap.size < w2.heap.size := World.block_lt_of_cell? _ _ cw2_0_0
  have cw2_1_0 : w2.cell? ⟨W.heap.size + 1, 0, none⟩ = some (.int .i64 bx) := cell_gr hw2 (by go_simp)
  have cw2_1_1 : w2.cell? ⟨W.heap.size + 1, 1, none⟩ = some (.int .i64 by') := cell_gr hw2 (by go_simp)
  have zw2_1 : W.heap.size + 1 < w2.heap.size := World.block_lt_of_cell? _ _ cw2_1_0
  have cw2_2_0 : w2.cell? ⟨W.heap.size + 1 + 1, 0, none⟩ = some (.int .u64 0) := cell_gr hw2 (by go_simp)
  have fw2_2_0 : w2.frozen? ⟨W.heap.size + 1 + 1, 0, none⟩ = false := frozen_gr (v := .int .u64 0) hw2 (by go_simp) (by go_simp)
  have cw2_2_1 : w2.cell? ⟨W.heap.size + 1 + 1, 1, none⟩ = some (.int .u64 0) := cell_gr hw2 (by go_simp)
  have fw2_2_1 : w2.frozen? ⟨W.heap.size + 1 + 1, 1, none⟩ = false := frozen_gr (v := .int .u64 0) hw2 (by go_simp) (by go_simp)
  have cw2_2_2 : w2.cell? ⟨W.heap.size + 1 + 1, 2, none⟩ = some (.int .u64 0) := cell_gr hw2 (by go_simp)
  have fw2_2_2 : w2.frozen? ⟨W.heap.size + 1 + 1, 2, none⟩ = false := frozen_gr (v := .int .u64 0) hw2 (by go_simp) (by go_simp)
  have zw2_2 : W.heap.size + 1 + 1 < w2.heap.size := World.block_lt_of_cell? _ _ cw2_2_0
  have gw2 : Gr W w2 := Gr.trans (by have gg := gw1; have gs := gg.size; go_grown) hw2
  clear hw2 gw1 zw1_0 cw1_0_0 cw1_0_1 zw1_1 cw1_1_0 cw1_1_1 zw1_2 cw1_2_0 fw1_2_0 cw1_2_1 fw1_2_1 cw1_2_2 fw1_2_2
  go_wp2_with fail
  refine bodyPost_ret (v := .agg #[.int .u64 0, .int .u64 z, .int .u64 1]) (by simp [results, Try.results72, go_sem, *]) rfl ⟨rfl, by go_grown⟩
end Go.Proofs.Ythjhhnolkiejpaa
