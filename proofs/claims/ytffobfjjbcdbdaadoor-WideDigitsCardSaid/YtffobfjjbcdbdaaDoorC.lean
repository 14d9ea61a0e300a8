/- WideDigits -/
import Derived.Test.YtffobfjjbcdbdaaDoorU
namespace Go.Proofs.YtffobfjjbcdbdaaDoor
set_option linter.unusedVariables false
open Go.ChangeShapes Go.WideShapes Go.ChangeAt Go.RowKit

theorem parse_bad_head {M : Nat} {b : UInt8} {r : List UInt8} (h : b.toNat < 48 ∨ 57 < b.toNat) : Rd.parse M (b :: r) = none := by
  unfold Rd.parse
  split
  · rfl
  · unfold Rd.scan
    rw [if_neg (by omega)]
theorem parse_nought {M : Nat} {r : List UInt8} (h : r ≠ []) : Rd.parse M (48 :: r) = none := by
  unfold Rd.parse
  rw [if_pos]
  refine Or.inr (Or.inr ⟨?_, rfl⟩)
  cases r with
  | nil => exact absurd rfl h
  | cons a t => simp
theorem parse_bad_end {M : Nat} {b : UInt8} {s : List UInt8} (h : b.toNat < 48 ∨ 57 < b.toNat) : Rd.parse M (s ++ [b]) = none := by
  unfold Rd.parse
  split
  · rfl
  · rw [Rd.scan_append]
    cases Rd.scan M 0 s with
    | none => rfl
    | some n =>
      simp only [Option.bind]
      unfold Rd.scan
      rw [if_neg (by omega)]
theorem dec_inj {a b : Nat} (h : Lib.decDigits a = Lib.decDigits b) : a = b := by
  have h1 := Rd.scan_dec (M := a + b + 1) a (by omega)
  have h2 := Rd.scan_dec (M := a + b + 1) b (by omega)
  rw [h, h2] at h1
  exact (Option.some.inj h1).symm
theorem parse_more {M n : Nat} (hM : M ≤ 10 ^ 39) (hn : 0 < n) : Rd.parse M (Lib.decDigits n ++ [55]) = if n * 10 + 7 < M then some (n * 10 + 7) else none := by
  have e : Lib.decDigits (n * 10 + 7) = Lib.decDigits n ++ [55] := by
    rw [Lib.decDigits, dif_neg (by omega), show (n * 10 + 7) / 10 = n by omega, show (n * 10 + 7) % 10 = 7 by omega]
    rfl
  rw [← e]
  split
  · rename_i h; exact Rd.parse_dec hM h
  · rename_i h
    cases hp : Rd.parse M (Lib.decDigits (n * 10 + 7)) with
    | none => rfl
    | some m =>
      obtain ⟨h1, h2, -⟩ := Rd.parse_some hp
      have := dec_inj h1
      omega

set_option maxHeartbeats 1000000 in
set_option maxRecDepth 100000 in
theorem digits_none (hi lo : Nat) (s : ByteArray) (how : Int) (W : World) (hs : s.size ≤ 100) (hp : Lib.TabIs Tryd.prog W "internal/strconv.uint64pow10" .u64 Lib.pow10Tab)
    (hh : how = 0 ∨ how = 1 ∨ how = 2 ∨ how = 3 ∨ how = 4 ∨ how = 5)
    (A1 : ∀ w, Gr W w → Calls Tryd.prog 26 #[.agg #[.int .u64 hi, .int .u64 lo]] w fun e w' => e = .returned (.string s) ∧ Gr w w')
    (A2 : ∀ t w, t = (⟨#[48]⟩ : ByteArray) ++ s ∨ t = (⟨#[43]⟩ : ByteArray) ++ s ∨ t = (⟨#[45]⟩ : ByteArray) ++ s ∨ t = (⟨#[32]⟩ : ByteArray) ++ s ∨ t = s ++ (⟨#[32]⟩ : ByteArray) ∨ t = (⟨#[]⟩ : ByteArray) → Calls Tryd.prog 24 #[.string t] w fun e w' => e = .returned (.tuple #[.agg #[.int .u64 0, .int .u64 0], .bool false]) ∧ Gr w w') :
    Calls Tryd.prog 5 #[.int .u64 hi, .int .u64 lo, .int .i64 how] W fun e w' => e = .returned (.bool true) ∧ Gr W w' := by
  have H1 := Lib.hid A1
  have H2 := Lib.hid A2
  have AW : ∀ w, Gr W w → Calls Tryd.prog 23 #[] w fun e w' => e = .returned (.bool true) ∧ Gr w w' := fun w g => c_awake w (tab_below hp g)
  have HAW := Lib.hid AW
  clear A1 A2 AW hp
  have hs1 : ¬ 9223372036854775807 < 1 + s.size := by omega
  have hs2 : ¬ 9223372036854775807 < s.size + 1 := by omega
  rcases hh with rfl | rfl | rfl | rfl | rfl | rfl
  all_goals
    go_enter Tryd.func5, Tryd.ntmps5
    go_wp2_with fail
    go_at_call 14
    refine ((c_w hi lo _)).mono ?_
    rintro e w1 ⟨rfl, hw1⟩
    have gw1 : Gr W w1 := Gr.trans (by go_grown) hw1
    clear hw1
    go_wp2_with fail
    go_at_call 26
    refine ((H1.out _ gw1)).mono ?_
    rintro e w2 ⟨rfl, hw2⟩
    have gw2 : Gr W w2 := Gr.trans (by have gg := gw1; have gs := gg.size; go_grown) hw2
    clear hw2 gw1
    go_wp2_with fail
    go_at_call 24
    refine ((H2.out _ _ (by simp))).mono ?_
    rintro e w3 ⟨rfl, hw3⟩
    have gw3 : Gr W w3 := Gr.trans (by have gg := gw2; have gs := gg.size; go_grown) hw3
    clear hw3 gw2
    go_wp2_with fail
    refine wp_region_spread (by kernel_rfl) (by kernel_rfl) ?_
    repeat (first | go_big_quiet_skip | (go_big_quiet_want; go_big_quiet_op; (first | go_big_quiet_on | (apply Exists.intro; refine ⟨fun _ => ?_, ?_⟩; (· (first | (go_at_call 14; first | ((with_reducible refine ((a_w00 _)).mono ?_); rintro e w' ⟨rfl, hg⟩; exact ⟨rfl, spread_gr hg⟩)) | (go_at_call 23; first | ((with_reducible refine ((HAW.out _ (Gr.trans (by have gg := gw3; have gs := gg.size; go_grown) (gr_spread _ _)))).mono ?_); rintro e w' ⟨rfl, hg⟩; exact ⟨rfl, spread_gr hg⟩)))); go_big_quiet_on))))
    refine wpQuiet_nil ?_
    intro wr hr
    obtain ⟨mr, rfl⟩ := hr
    go_wp2_with fail
    go_ret
    exact ⟨rfl, Gr.trans (by have gg := gw3; have gs := gg.size; go_grown) (gr_spread _ _)⟩

theorem a_w07 (w : World) : Calls Tryd.prog 14 #[.int .u64 0, .int .u64 7] w fun e w' => e = .returned (.agg #[.int .u64 0, .int .u64 7]) ∧ Gr w w' := c_w 0 7 w
set_option maxHeartbeats 2000000 in
set_option maxRecDepth 100000 in
theorem digits_more (hi lo ph pl tp th tl sh sl : Nat) (ok ov : Bool) (s : ByteArray) (how : Int) (W : World) (hs : s.size ≤ 100) (hp : Lib.TabIs Tryd.prog W "internal/strconv.uint64pow10" .u64 Lib.pow10Tab)
    (hh : decide (0 ≤ how) = false ∨ (decide (0 ≤ how) = true ∧ decide (how < 6) = false))
    (A1 : ∀ w, Gr W w → Calls Tryd.prog 26 #[.agg #[.int .u64 hi, .int .u64 lo]] w fun e w' => e = .returned (.string s) ∧ Gr w w')
    (A2 : ∀ w, Calls Tryd.prog 24 #[.string (s ++ (⟨#[55]⟩ : ByteArray))] w fun e w' => e = .returned (.tuple #[.agg #[.int .u64 ph, .int .u64 pl], .bool ok]) ∧ Gr w w')
    (A3 : ∀ w, Calls Tryd.prog 13 #[.agg #[.int .u64 hi, .int .u64 lo], .int .u64 10] w fun e w' => e = .returned (.tuple #[.int .u64 tp, .agg #[.int .u64 th, .int .u64 tl]]) ∧ Gr w w')
    (A4 : ∀ w, Calls Tryd.prog 28 #[.agg #[.int .u64 th, .int .u64 tl], .agg #[.int .u64 0, .int .u64 7]] w fun e w' => e = .returned (.tuple #[.agg #[.int .u64 sh, .int .u64 sl], .bool ov]) ∧ Gr w w')
    (hc : (0 < tp ∧ ok = false) ∨ (tp = 0 ∧ ov = true ∧ ok = false) ∨ (tp = 0 ∧ ov = false ∧ s = ⟨#[48]⟩ ∧ ok = false) ∨ (tp = 0 ∧ ov = false ∧ s ≠ ⟨#[48]⟩ ∧ ok = true ∧ ph = sh ∧ pl = sl)) :
    Calls Tryd.prog 5 #[.int .u64 hi, .int .u64 lo, .int .i64 how] W fun e w' => e = .returned (.bool true) ∧ Gr W w' := by
  have H1 := Lib.hid A1
  have H2 := Lib.hid A2
  have H3 := Lib.hid A3
  have H4 := Lib.hid A4
  have AW : ∀ w, Gr W w → Calls Tryd.prog 23 #[] w fun e w' => e = .returned (.bool true) ∧ Gr w w' := fun w g => c_awake w (tab_below hp g)
  have HAW := Lib.hid AW
  have HC := Lib.hid hc
  clear A1 A2 A3 A4 AW hp hc
  have hs1 : ¬ 9223372036854775807 < 1 + s.size := by omega
  have hs2 : ¬ 9223372036854775807 < s.size + 1 := by omega
  rcases hh with hh | ⟨hh, hh2⟩
  all_goals
    go_enter Tryd.func5, Tryd.ntmps5
    go_wp2_with fail
    go_at_call 14
    refine ((c_w hi lo _)).mono ?_
    rintro e w1 ⟨rfl, hw1⟩
    have gw1 : Gr W w1 := Gr.trans (by go_grown) hw1
    clear hw1
    go_wp2_with fail
    go_at_call 26
    refine ((H1.out _ gw1)).mono ?_
    rintro e w2 ⟨rfl, hw2⟩
    have gw2 : Gr W w2 := Gr.trans (by have gg := gw1; have gs := gg.size; go_grown) hw2
    clear hw2 gw1
    go_wp2_with fail
    go_at_call 24
    refine ((H2.out _)).mono ?_
    rintro e w3 ⟨rfl, hw3⟩
    have gw3 : Gr W w3 := Gr.trans (by have gg := gw2; have gs := gg.size; go_grown) hw3
    clear hw3 gw2
    go_wp2_with fail
    go_at_call 14
    refine ((c_w hi lo _)).mono ?_
    rintro e w4 ⟨rfl, hw4⟩
    have cw4_0_0 : w4.cell? ⟨w3.heap.size, 0, none⟩ = some (.int .u64 ph) := cell_gr hw4 (by go_simp)
    have cw4_0_1 : w4.cell? ⟨w3.heap.size, 1, none⟩ = some (.int .u64 pl) := cell_gr hw4 (by go_simp)
    have zw4_0 : w3.heap.size < w4.heap.size := World.block_lt_of_cell? _ _ cw4_0_0
    have gw4 : Gr W w4 := Gr.trans (by have gg := gw3; have gs := gg.size; go_grown) hw4
    clear hw4 gw3
    go_wp2_with fail
    go_at_call 13
    refine ((H3.out _)).mono ?_
    rintro e w5 ⟨rfl, hw5⟩
    have cw5_0_0 : w5.cell? ⟨w3.heap.size, 0, none⟩ = some (.int .u64 ph) := cell_gr hw5 (by go_simp)
    have cw5_0_1 : w5.cell? ⟨w3.heap.size, 1, none⟩ = some (.int .u64 pl) := cell_gr hw5 (by go_simp)
    have zw5_0 : w3.heap.size < w5.heap.size := World.block_lt_of_cell? _ _ cw5_0_0
    have gw5 : Gr W w5 := Gr.trans (by have gg := gw4; have gs := gg.size; go_grown) hw5
    clear hw5 gw4 zw4_0 cw4_0_0 cw4_0_1
    go_wp2_with fail
    refine Hm.wp_region_made 8 6 7 15 #[.int .u64 0, .int .u64 0] #[.int .u64 sh, .int .u64 sl] 24 (by kernel_rfl) (by simp only [List.getElem?_toArray, List.getElem?_cons_succ, List.getElem?_cons_zero] <;> rfl) (by simp only [List.getElem?_toArray, List.getElem?_cons_succ, List.getElem?_cons_zero] <;> rfl) (by kernel_rfl) (fun _ _ => ?_) ?_
    · unfold Oper.wp; go_simp
    intro KQ hKQ
    repeat (first | (refine Hm.wpG_sp (by decide) ?_ ?_; (· (try dsimp only); first | (rw [if_neg (by decide)]; trivial) | (rw [if_pos rfl]; (intro B w' g hB hw; have c0 : w'.cell? ⟨B, 0, none⟩ = some (.int .u64 0) := Hm.cell_of_heap hw 0; have f0 := Hm.frozen_of_heap hw 0; have c1 : w'.cell? ⟨B, 1, none⟩ = some (.int .u64 0) := Hm.cell_of_heap hw 1; have f1 := Hm.frozen_of_heap hw 1; unfold Oper.wp; go_simp; exact ⟨((g.setCell hB _).setCell hB _), (Hm.heap_set_same (Hm.heap_set_same hw))⟩)))) | (refine Hm.wpG_skip (by decide) rfl ?_; simp only [Act.put, List.setIfInBounds_toArray, List.set_cons_zero, List.set_cons_succ]) | (refine Hm.wpG_want (by decide) rfl ?_; apply Exists.intro; refine ⟨?_, ?_⟩; (· intro wx gx; (obtain ⟨mx, rfl⟩ := spread_of_gr gx; clear gx); all_goals (apply Hd.gAt_of_quiet; intro K hK; go_big_quiet_op; first | exact hK _ rfl | (apply Exists.intro; refine ⟨fun _ => ?_, ?_⟩; (· (first | (go_at_call 14; first | ((with_reducible refine ((a_w07 _)).mono ?_); rintro e w' ⟨rfl, hg⟩; exact ⟨rfl, spread_gr hg⟩)) | (go_at_call 28; first | ((with_reducible refine ((H4.out _)).mono ?_); rintro e w' ⟨rfl, hg⟩; exact ⟨rfl, spread_gr hg⟩)))); exact hK _ rfl))); try simp only [Act.put, List.setIfInBounds_toArray, List.set_cons_zero, List.set_cons_succ]))
    refine Hm.wpG_nil (hKQ _ ?_)
    clear hKQ KQ
    intro B6 w6 hw6 hBw6 hhw6
    have cw6_0_0 : w6.cell? ⟨w3.heap.size, 0, none⟩ = some (.int .u64 ph) := cell_gr hw6 (by go_simp)
    have cw6_0_1 : w6.cell? ⟨w3.heap.size, 1, none⟩ = some (.int .u64 pl) := cell_gr hw6 (by go_simp)
    have zw6_0 : w3.heap.size < w6.heap.size := World.block_lt_of_cell? _ _ cw6_0_0
    have cw6_1_0 : w6.cell? ⟨w5.heap.size, 0, none⟩ = some (.int .u64 th) := cell_gr hw6 (by go_simp)
    have cw6_1_1 : w6.cell? ⟨w5.heap.size, 1, none⟩ = some (.int .u64 tl) := cell_gr hw6 (by go_simp)
    have zw6_1 : w5.heap.size < w6.heap.size := World.block_lt_of_cell? _ _ cw6_1_0
    have cw6_2_0 : w6.cell? ⟨B6, 0, none⟩ = some (.int .u64 sh) := Hm.cell_of_heap hhw6 0
    have cw6_2_1 : w6.cell? ⟨B6, 1, none⟩ = some (.int .u64 sl) := Hm.cell_of_heap hhw6 1
    have zw6_2 : B6 < w6.heap.size := World.block_lt_of_cell? _ _ cw6_2_0
    have gw6 : Gr W w6 := Gr.trans (by have gg := gw5; have gs := gg.size; go_grown) hw6
    clear hw6 hBw6 hhw6 gw5 zw5_0 cw5_0_0 cw5_0_1
    rcases HC.out with ⟨ht, rfl⟩ | ⟨rfl, rfl, rfl⟩ | ⟨rfl, rfl, rfl, rfl⟩ | ⟨rfl, rfl, hs0, rfl, ep, el⟩
    · have t1 : decide ((0 : Int) < (tp : Int)) = true := decide_eq_true (by omega)
      have t2 : decide (0 < tp) = true := decide_eq_true ht
      clear HC
      go_wp2_with fail
      go_at_call 23
      refine ((HAW.out _ gw6)).mono ?_
      rintro e w7 ⟨rfl, hw7⟩
      have cw7_0_0 : w7.cell? ⟨w3.heap.size, 0, none⟩ = some (.int .u64 ph) := cell_gr hw7 (by go_simp)
      have cw7_0_1 : w7.cell? ⟨w3.heap.size, 1, none⟩ = some (.int .u64 pl) := cell_gr hw7 (by go_simp)
      have zw7_0 : w3.heap.size < w7.heap.size := World.block_lt_of_cell? _ _ cw7_0_0
      have cw7_1_0 : w7.cell? ⟨w5.heap.size, 0, none⟩ = some (.int .u64 th) := cell_gr hw7 (by go_simp)
      have cw7_1_1 : w7.cell? ⟨w5.heap.size, 1, none⟩ = some (.int .u64 tl) := cell_gr hw7 (by go_simp)
      have zw7_1 : w5.heap.size < w7.heap.size := World.block_lt_of_cell? _ _ cw7_1_0
      have cw7_2_0 : w7.cell? ⟨B6, 0, none⟩ = some (.int .u64 sh) := cell_gr hw7 (by go_simp)
      have cw7_2_1 : w7.cell? ⟨B6, 1, none⟩ = some (.int .u64 sl) := cell_gr hw7 (by go_simp)
      have zw7_2 : B6 < w7.heap.size := World.block_lt_of_cell? _ _ cw7_2_0
      have gw7 : Gr W w7 := Gr.trans (by have gg := gw6; have gs := gg.size; go_grown) hw7
      clear hw7 gw6 zw6_0 cw6_0_0 cw6_0_1 zw6_1 cw6_1_0 cw6_1_1 zw6_2 cw6_2_0 cw6_2_1
      go_wp2_with fail
      go_ret
      exact ⟨rfl, gw7⟩
    · clear HC
      go_wp2_with fail
      go_at_call 23
      refine ((HAW.out _ gw6)).mono ?_
      rintro e w7 ⟨rfl, hw7⟩
      have cw7_0_0 : w7.cell? ⟨w3.heap.size, 0, none⟩ = some (.int .u64 ph) := cell_gr hw7 (by go_simp)
      have cw7_0_1 : w7.cell? ⟨w3.heap.size, 1, none⟩ = some (.int .u64 pl) := cell_gr hw7 (by go_simp)
      have zw7_0 : w3.heap.size < w7.heap.size := World.block_lt_of_cell? _ _ cw7_0_0
      have cw7_1_0 : w7.cell? ⟨w5.heap.size, 0, none⟩ = some (.int .u64 th) := cell_gr hw7 (by go_simp)
      have cw7_1_1 : w7.cell? ⟨w5.heap.size, 1, none⟩ = some (.int .u64 tl) := cell_gr hw7 (by go_simp)
      have zw7_1 : w5.heap.size < w7.heap.size := World.block_lt_of_cell? _ _ cw7_1_0
      have cw7_2_0 : w7.cell? ⟨B6, 0, none⟩ = some (.int .u64 sh) := cell_gr hw7 (by go_simp)
      have cw7_2_1 : w7.cell? ⟨B6, 1, none⟩ = some (.int .u64 sl) := cell_gr hw7 (by go_simp)
      have zw7_2 : B6 < w7.heap.size := World.block_lt_of_cell? _ _ cw7_2_0
      have gw7 : Gr W w7 := Gr.trans (by have gg := gw6; have gs := gg.size; go_grown) hw7
      clear hw7 gw6 zw6_0 cw6_0_0 cw6_0_1 zw6_1 cw6_1_0 cw6_1_1 zw6_2 cw6_2_0 cw6_2_1
      go_wp2_with fail
      go_ret
      exact ⟨rfl, gw7⟩
    · clear HC
      go_wp2_with fail
      go_at_call 23
      refine ((HAW.out _ gw6)).mono ?_
      rintro e w7 ⟨rfl, hw7⟩
      have cw7_0_0 : w7.cell? ⟨w3.heap.size, 0, none⟩ = some (.int .u64 ph) := cell_gr hw7 (by go_simp)
      have cw7_0_1 : w7.cell? ⟨w3.heap.size, 1, none⟩ = some (.int .u64 pl) := cell_gr hw7 (by go_simp)
      have zw7_0 : w3.heap.size < w7.heap.size := World.block_lt_of_cell? _ _ cw7_0_0
      have cw7_1_0 : w7.cell? ⟨w5.heap.size, 0, none⟩ = some (.int .u64 th) := cell_gr hw7 (by go_simp)
      have cw7_1_1 : w7.cell? ⟨w5.heap.size, 1, none⟩ = some (.int .u64 tl) := cell_gr hw7 (by go_simp)
      have zw7_1 : w5.heap.size < w7.heap.size := World.block_lt_of_cell? _ _ cw7_1_0
      have cw7_2_0 : w7.cell? ⟨B6, 0, none⟩ = some (.int .u64 sh) := cell_gr hw7 (by go_simp)
      have cw7_2_1 : w7.cell? ⟨B6, 1, none⟩ = some (.int .u64 sl) := cell_gr hw7 (by go_simp)
      have zw7_2 : B6 < w7.heap.size := World.block_lt_of_cell? _ _ cw7_2_0
      have gw7 : Gr W w7 := Gr.trans (by have gg := gw6; have gs := gg.size; go_grown) hw7
      clear hw7 gw6 zw6_0 cw6_0_0 cw6_0_1 zw6_1 cw6_1_0 cw6_1_1 zw6_2 cw6_2_0 cw6_2_1
      go_wp2_with fail
      go_ret
      exact ⟨rfl, gw7⟩
    · have hE : ∀ w, (binOp .eql 24 (.agg #[.int .u64 ph, .int .u64 pl]) (.agg #[.int .u64 sh, .int .u64 sl])).run Tryd.prog w = .ok (.bool true) w := fun w => by
        rw [eqU, decide_eq_true ⟨ep, el⟩]
      clear ep el
      have hne : s.toList ≠ [48] := by
        intro h
        rw [ByteArray.toList_eq] at h
        exact hs0 (by cases s with | mk d => exact congrArg ByteArray.mk (Array.toList_inj.1 h))
      have t1 : (s.toList == [48]) = false := by simpa using hne
      have t2 : (s.toList == (⟨#[48]⟩ : ByteArray).toList) = false := by rw [ByteArray.toList_eq ⟨#[48]⟩]; exact t1
      clear HC
      go_wp2_with fail
      go_at_call 23
      refine ((HAW.out _ gw6)).mono ?_
      rintro e w7 ⟨rfl, hw7⟩
      have cw7_0_0 : w7.cell? ⟨w3.heap.size, 0, none⟩ = some (.int .u64 ph) := cell_gr hw7 (by go_simp)
      have cw7_0_1 : w7.cell? ⟨w3.heap.size, 1, none⟩ = some (.int .u64 pl) := cell_gr hw7 (by go_simp)
      have zw7_0 : w3.heap.size < w7.heap.size := World.block_lt_of_cell? _ _ cw7_0_0
      have cw7_1_0 : w7.cell? ⟨w5.heap.size, 0, none⟩ = some (.int .u64 th) := cell_gr hw7 (by go_simp)
      have cw7_1_1 : w7.cell? ⟨w5.heap.size, 1, none⟩ = some (.int .u64 tl) := cell_gr hw7 (by go_simp)
      have zw7_1 : w5.heap.size < w7.heap.size := World.block_lt_of_cell? _ _ cw7_1_0
      have cw7_2_0 : w7.cell? ⟨B6, 0, none⟩ = some (.int .u64 sh) := cell_gr hw7 (by go_simp)
      have cw7_2_1 : w7.cell? ⟨B6, 1, none⟩ = some (.int .u64 sl) := cell_gr hw7 (by go_simp)
      have zw7_2 : B6 < w7.heap.size := World.block_lt_of_cell? _ _ cw7_2_0
      have gw7 : Gr W w7 := Gr.trans (by have gg := gw6; have gs := gg.size; go_grown) hw7
      clear hw7 gw6 zw6_0 cw6_0_0 cw6_0_1 zw6_1 cw6_1_0 cw6_1_1 zw6_2 cw6_2_0 cw6_2_1
      go_wp2_with fail
      go_ret
      exact ⟨rfl, gw7⟩

theorem ba_cons (b : UInt8) (l : List UInt8) : (⟨#[b]⟩ : ByteArray) ++ ⟨l.toArray⟩ = ⟨(b :: l).toArray⟩ := ba_append [b] l
theorem ba_snoc (b : UInt8) (l : List UInt8) : (⟨l.toArray⟩ : ByteArray) ++ (⟨#[b]⟩ : ByteArray) = ⟨(l ++ [b]).toArray⟩ := ba_append l [b]
theorem dec_ne (n : Nat) : Lib.decDigits n ≠ [] := by
  intro h
  have := congrArg List.length h
  rw [Lib.decDigits_length] at this
  rw [Lib.nDigits] at this
  split at this <;> simp at this
theorem walk_WideDigits (hi lo : Nat) (how : Int) (h1 : Wd hi) (h2 : Wd lo) (h3 : -9223372036854775808 ≤ how ∧ how ≤ 9223372036854775807) (W : World) (hp : Lib.TabIs Tryd.prog W "internal/strconv.uint64pow10" .u64 Lib.pow10Tab) :
    Calls Tryd.prog 5 #[.int .u64 hi, .int .u64 lo, .int .i64 how] W fun e w' => e = .returned (.bool true) ∧ Gr W w' := by
  obtain ⟨n, hn⟩ : ∃ n, n = val hi lo := ⟨_, rfl⟩
  have hlt : n < p128 := by rw [hn]; unfold val p128 Wd at *; omega
  have hnd : Lib.nDigits n ≤ 39 := nDig_le (by omega) (by unfold p128 at hlt; omega)
  have hsz : (⟨(Lib.decDigits n).toArray⟩ : ByteArray).size ≤ 100 := by
    show (Lib.decDigits n).toArray.size ≤ 100
    rw [List.size_toArray, Lib.decDigits_length]
    omega
  have A1 : ∀ w, Gr W w → Calls Tryd.prog 26 #[.agg #[.int .u64 hi, .int .u64 lo]] w fun e w' => e = .returned (.string ⟨(Lib.decDigits n).toArray⟩) ∧ Gr w w' := fun w g => by
    rw [hn]; exact c_Text hi lo h1 h2 w (tab_below hp g)
  by_cases hh : 0 ≤ how ∧ how < 6
  · refine digits_none hi lo _ how W hsz hp (by omega) A1 fun t w ht => ?_
    have e : Rd.parse p128 t.data.toList = none := by
      rcases ht with rfl | rfl | rfl | rfl | rfl | rfl
      · rw [ba_cons]; exact parse_nought (dec_ne n)
      · rw [ba_cons]; exact parse_bad_head (by decide)
      · rw [ba_cons]; exact parse_bad_head (by decide)
      · rw [ba_cons]; exact parse_bad_head (by decide)
      · rw [ba_snoc]; exact parse_bad_end (by decide)
      · rfl
    have C := c_Parse t w
    rw [e] at C
    exact C
  · have hh' : decide (0 ≤ how) = false ∨ (decide (0 ≤ how) = true ∧ decide (how < 6) = false) := by
      by_cases h : 0 ≤ how
      · right; exact ⟨decide_eq_true h, decide_eq_false (by omega)⟩
      · left; exact decide_eq_false h
    obtain ⟨tp, th, tl, etp, etl, wth, wtl, T⟩ := times10 hi lo h1 h2
    obtain ⟨sh, sl, ov, eov, esl, wsh, wsl, A⟩ := add_digit th tl 7 wth wtl (by omega)
    rw [← hn] at etp etl
    have C : ∀ w, Calls Tryd.prog 24 #[.string ((⟨(Lib.decDigits n).toArray⟩ : ByteArray) ++ (⟨#[55]⟩ : ByteArray))] w fun e w' => e = .returned (parsed (Rd.parse p128 (Lib.decDigits n ++ [55]))) ∧ Gr w w' := fun w => by
      rw [ba_snoc]; exact c_Parse _ w
    rcases Nat.eq_zero_or_pos n with h0 | hpos
    · have e : Rd.parse p128 (Lib.decDigits n ++ [55]) = none := by
        rw [h0, show Lib.decDigits 0 = [48] by rw [Lib.decDigits]; rfl]
        exact parse_nought (by simp)
      rw [e] at C
      have hs : (⟨(Lib.decDigits n).toArray⟩ : ByteArray) = ⟨#[48]⟩ := by
        rw [h0, show Lib.decDigits 0 = [48] by rw [Lib.decDigits]; rfl]
      refine digits_more hi lo 0 0 tp th tl sh sl false ov _ how W hsz hp hh' A1 C T A (Or.inr (Or.inr (Or.inl ⟨?_, ?_, hs, rfl⟩)))
      · rw [etp, h0]; unfold p128; omega
      · rw [eov, etl, h0]; exact decide_eq_false (by unfold p128; omega)
    · have e := parse_more (M := p128) (by unfold p128; omega) hpos
      by_cases hm : n * 10 + 7 < p128
      · rw [if_pos hm] at e
        rw [e] at C
        have hmod : n * 10 % p128 = n * 10 := Nat.mod_eq_of_lt (by omega)
        rw [hmod] at etl
        rw [etl, Nat.mod_eq_of_lt hm] at esl
        rw [etl] at eov
        have q1 : (n * 10 + 7) / 18446744073709551616 = sh := by rw [← esl]; unfold val Wd at *; omega
        have q2 : (n * 10 + 7) % 18446744073709551616 = sl := by rw [← esl]; unfold val Wd at *; omega
        refine digits_more hi lo _ _ tp th tl sh sl true ov _ how W hsz hp hh' A1 C T A (Or.inr (Or.inr (Or.inr ⟨?_, ?_, ?_, rfl, q1, q2⟩)))
        · rw [etp]; exact Nat.div_eq_of_lt (by omega)
        · rw [eov]; exact decide_eq_false (by omega)
        · intro h
          have h' : Lib.decDigits n = Lib.decDigits 0 := by
            have := congrArg (fun b : ByteArray => b.data.toList) h
            simpa [show Lib.decDigits 0 = [48] by rw [Lib.decDigits]; rfl] using this
          have := dec_inj h'
          omega
      · rw [if_neg hm] at e
        rw [e] at C
        by_cases ht : p128 ≤ n * 10
        · refine digits_more hi lo 0 0 tp th tl sh sl false ov _ how W hsz hp hh' A1 C T A (Or.inl ⟨?_, rfl⟩)
          rw [etp]; exact Nat.div_pos ht (by unfold p128; omega)
        · have hmod : n * 10 % p128 = n * 10 := Nat.mod_eq_of_lt (by omega)
          refine digits_more hi lo 0 0 tp th tl sh sl false ov _ how W hsz hp hh' A1 C T A (Or.inr (Or.inl ⟨?_, ?_, rfl⟩))
          · rw [etp]; exact Nat.div_eq_of_lt (by omega)
          · rw [eov, etl, hmod]; exact decide_eq_true (by omega)
end Go.Proofs.YtffobfjjbcdbdaaDoor
