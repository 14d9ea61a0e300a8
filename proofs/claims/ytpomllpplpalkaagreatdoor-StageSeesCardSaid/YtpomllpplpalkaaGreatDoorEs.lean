import Derived.Test.YtpomllpplpalkaaGreatDoorGd
import Derived.Test.YtpomllpplpalkaaGreatDoorEq
/- the document's rings: CheckRing -/
namespace Go.Proofs.YtpomllpplpalkaaGreatDoor
set_option linter.unusedVariables false
open Go.ChangeShapes Go.WideShapes Go.ChangeAt Go.RowKit

set_option maxHeartbeats 8000000 in
set_option maxRecDepth 100000 in
theorem c_CheckRing {n : Nat} {X Y : Nat → Int} {v : Value} (W : World) (h : Pts W v n X Y) :
    Calls Tryz.prog 126 #[v] W (RRingTo W n X Y) := by
  have HP := Lib.hid h
  obtain ⟨ad, cap, B, off, rfl, h1, h2, h3, h4⟩ := h
  have h2i : (n : Int) ≤ 9223372036854775807 := by omega
  by_cases c1 : n < 3
  · have t1 : decide ((n : Int) < 3) = true := decide_eq_true (by omega)
    have t2 : (n : Int) < 3 := by omega
    have hk := Rg.ringC_3 (X := X) (Y := Y) (show n < 3 ∨ 64 < n by omega)
    have HK := Lib.hid hk
    clear hk h3 h4 c1
    go_enter Tryz.func126, Tryz.ntmps126
    go_wp2_with fail
    go_ret2
    exact rringTo HK.out (Below.refl _ _)
  have t1 : decide ((n : Int) < 3) = false := decide_eq_false (by omega)
  have t2 : ¬ (n : Int) < 3 := by omega
  by_cases c2 : 64 < n
  · have t3 : decide ((64 : Int) < (n : Int)) = true := decide_eq_true (by omega)
    have t4 : (64 : Int) < (n : Int) := by omega
    have hk := Rg.ringC_3 (X := X) (Y := Y) (show n < 3 ∨ 64 < n by omega)
    have HK := Lib.hid hk
    clear hk h3 h4 c1
    go_enter Tryz.func126, Tryz.ntmps126
    go_wp2_with fail
    go_ret2
    exact rringTo HK.out (Below.refl _ _)
  have t3 : decide ((64 : Int) < (n : Int)) = false := decide_eq_false (by omega)
  have t4 : ¬ (64 : Int) < (n : Int) := by omega
  have hn64 : (n : Int) ≤ 64 := by omega
  have hn0 : ¬ (n < 3 ∨ 64 < n) := by omega
  obtain rfl := h3 (by omega)
  have HX := Lib.hid h4
  have HN := Lib.hid hn0
  clear h3 h4 hn0
  go_enter Tryz.func126, Tryz.ntmps126
  go_wp2_with fail
  go_loopg [5] n (fun k y wr => ∃ i : Nat, y = .int .i64 i ∧ i ≤ n ∧ k = n - i ∧ (∀ m, m < i → nearB (X m) (Y m) = true) ∧ Gr W wr)
  case atStart => exact ⟨0, rfl, Nat.zero_le _, by omega, fun m hm => absurd hm (by omega), Below.refl _ _⟩
  case round =>
    obtain ⟨i, rfl, hi, hk, hnr, hg⟩ := hrel
    have HNR := Lib.hid hnr
    clear hnr
    by_cases hin : i < n
    · have ti : decide ((i : Int) < (n : Int)) = true := decide_eq_true (by omega)
      have ti2 : decide (i < n) = true := decide_eq_true hin
      have ti3 : (i : Int) < (n : Int) := by omega
      obtain ⟨k0, k1⟩ := HX.out i hin
      have p0 := cell_gr hg k0
      have p1 := cell_gr hg k1
      have CP := c_rPoint (X i) (Y i)
      have hmm : n - (i + 1) < gk := by omega
      clear k0 k1 hk
      cases hq : nearB (X i) (Y i)
      · rw [hq] at CP
        have hk := Rg.ringC_2 HN.out hin hq HNR.out
        have HC := Lib.hid CP
        have HK := Lib.hid hk
        generalize X i = x at p0 HC
        generalize Y i = y at p1 HC
        clear CP hk hq
        go_wp2_with fail
        go_at_call 52
        (with_reducible refine (HC.out _).mono ?_)
        rintro e w1 ⟨rfl, g1⟩
        have G1 : Gr W w1 := Gr.trans (Gr.trans hg (by go_grown)) g1
        go_wp2_with fail
        go_ret2
        exact rringTo HK.out G1
      · rw [hq] at CP
        have hnx : ∀ m, m < i + 1 → nearB (X m) (Y m) = true := fun m hm => by
          rcases Nat.lt_succ_iff_lt_or_eq.1 hm with h | rfl
          · exact HNR.out m h
          · exact hq
        have HC := Lib.hid CP
        have HNX := Lib.hid hnx
        generalize X i = x at p0 HC
        generalize Y i = y at p1 HC
        clear CP hq hnx
        go_wp2_with fail
        go_at_call 52
        (with_reducible refine (HC.out _).mono ?_)
        rintro e w1 ⟨rfl, g1⟩
        have G1 : Gr W w1 := Gr.trans (Gr.trans hg (by go_grown)) g1
        go_wp2_with fail
        go_roundg (n - (i + 1))
        case measure => exact hmm
        case rel => exact ⟨i + 1, by go_num, hin, rfl, HNX.out, G1⟩
    · obtain rfl : n = i := by omega
      have ti : decide ((n : Int) < (n : Int)) = false := decide_eq_false (by omega)
      have ti2 : decide (n < n) = false := decide_eq_false (by omega)
      clear hk hin
      go_wp2_with fail
      obtain ⟨wo, rfl⟩ : ∃ wo : World, wo = wr := ⟨_, rfl⟩
      go_loopg [6] n (fun k y wr => ∃ i : Nat, y = .int .i64 i ∧ i ≤ n ∧ k = n - i ∧ (∀ a, a < i → ∀ b, a < b → b < n → Rg.bdF n X Y a b = false) ∧ Gr W wr)
      case atStart => exact ⟨0, rfl, Nat.zero_le _, by omega, fun a ha => absurd ha (by omega), hg⟩
      case round =>
        obtain ⟨i, rfl, hi, hk, hbd, hg2⟩ := hrel
        have HB := Lib.hid hbd
        clear hbd
        by_cases hin : i < n
        · have ti : decide ((i : Int) < (n : Int)) = true := decide_eq_true (by omega)
          have ti2 : decide (i < n) = true := decide_eq_true hin
          have ti3 : (i : Int) < (n : Int) := by omega
          have hmm : n - (i + 1) < gk := by omega
          clear hk
          go_wp2_with fail
          obtain ⟨wp, rfl⟩ : ∃ wp : World, wp = wr := ⟨_, rfl⟩
          go_loopg [7] (n - (i + 1)) (fun k y wr => ∃ j : Nat, y = .int .i64 j ∧ i < j ∧ j ≤ n ∧ k = n - j ∧ (∀ b, i < b → b < j → Rg.bdF n X Y i b = false) ∧ Gr W wr)
          case atStart => exact ⟨i + 1, by go_num, by omega, by omega, rfl, fun b h1 h2 => absurd h1 (by omega), hg2⟩
          case round =>
            obtain ⟨j, rfl, hij, hj, hk, hbj, hg3⟩ := hrel
            have HBJ := Lib.hid hbj
            clear hbj
            by_cases hjn : j < n
            · have tj : decide ((j : Int) < (n : Int)) = true := decide_eq_true (by omega)
              have tj2 : decide (j < n) = true := decide_eq_true hjn
              have tj3 : (j : Int) < (n : Int) := by omega
              obtain ⟨k0, k1⟩ := HX.out i hin
              obtain ⟨l0, l1⟩ := HX.out j hjn
              have p0 := cell_gr hg3 k0
              have p1 := cell_gr hg3 k1
              have q0 := cell_gr hg3 l0
              have q1 := cell_gr hg3 l1
              have CC := fun w (g : Gr wr w) => c_rclash w (pts_gr HP.out (Gr.trans hg3 g)) HNR.out i j hij hjn (by have := HN.out; omega) (by omega)
              have E := eqPt2 (X i) (Y i) (X j) (Y j)
              have hbe : Rg.bdF n X Y i j = ((decide (X i = X j) && decide (Y i = Y j)) || Rg.clF n X Y i j) := rfl
              generalize (decide (X i = X j) && decide (Y i = Y j)) = qe at E hbe
              generalize Rg.clF n X Y i j = qc at CC hbe
              generalize X i = xi at p0 E
              generalize Y i = yi at p1 E
              generalize X j = xj at q0 E
              generalize Y j = yj at q1 E
              have HC := Lib.hid CC
              have hmm2 : n - (j + 1) < gk := by omega
              clear CC k0 k1 l0 l1 hk
              cases qe
              · cases qc
                · have hnx : ∀ b, i < b → b < j + 1 → Rg.bdF n X Y i b = false := fun b h1 h2 => by
                    rcases Nat.lt_succ_iff_lt_or_eq.1 h2 with h | rfl
                    · exact HBJ.out b h1 h
                    · exact hbe
                  have HNX := Lib.hid hnx
                  clear hnx hbe
                  have gwr := hg3
                  go_wp2_with fail
                  refine wp_region_spread (by kernel_rfl) (by kernel_rfl) ?_
                  try simp only [List.append]
                  repeat (first | go_big_quiet_skip | (go_big_quiet_want; go_big_quiet_op; (first | go_big_quiet_on | (apply Exists.intro; refine ⟨fun _ => ?_, ?_⟩; (· (first | (go_at_call 173; first | ((with_reducible refine ((HC.out _ (gr_spread _ _))).mono ?_); rintro e w' ⟨rfl, hg⟩; exact ⟨rfl, spread_gr hg⟩)))); go_big_quiet_on))))
                  refine wpQuiet_nil ?_
                  intro wr hr
                  obtain ⟨mr, rfl⟩ := hr
                  have G1 := Gr.trans hg3 (gr_spread wr mr)
                  go_wp2_with fail
                  go_roundg (n - (j + 1))
                  case measure => exact hmm2
                  case rel => exact ⟨j + 1, by go_num, by omega, hjn, rfl, HNX.out, G1⟩
                · have hk := Rg.ringC_4 HN.out HNR.out hij hjn hbe HB.out
                  have HK := Lib.hid hk
                  clear hk hbe
                  have gwr := hg3
                  go_wp2_with fail
                  refine wp_region_spread (by kernel_rfl) (by kernel_rfl) ?_
                  try simp only [List.append]
                  repeat (first | go_big_quiet_skip | (go_big_quiet_want; go_big_quiet_op; (first | go_big_quiet_on | (apply Exists.intro; refine ⟨fun _ => ?_, ?_⟩; (· (first | (go_at_call 173; first | ((with_reducible refine ((HC.out _ (gr_spread _ _))).mono ?_); rintro e w' ⟨rfl, hg⟩; exact ⟨rfl, spread_gr hg⟩)))); go_big_quiet_on))))
                  refine wpQuiet_nil ?_
                  intro wr hr
                  obtain ⟨mr, rfl⟩ := hr
                  have G1 := Gr.trans hg3 (gr_spread wr mr)
                  go_wp2_with fail
                  go_ret2
                  exact rringTo HK.out G1
              · have hk := Rg.ringC_4 HN.out HNR.out hij hjn (hbe.trans (Bool.true_or _)) HB.out
                have HK := Lib.hid hk
                clear hk hbe
                have gwr := hg3
                go_wp2_with fail
                refine wp_region_spread (by kernel_rfl) (by kernel_rfl) ?_
                try simp only [List.append]
                repeat (first | go_big_quiet_skip | (go_big_quiet_want; go_big_quiet_op; (first | go_big_quiet_on | (apply Exists.intro; refine ⟨fun _ => ?_, ?_⟩; (· fail); go_big_quiet_on))))
                refine wpQuiet_nil ?_
                intro wr hr
                obtain ⟨mr, rfl⟩ := hr
                have G1 := Gr.trans hg3 (gr_spread wr mr)
                go_wp2_with fail
                go_ret2
                exact rringTo HK.out G1
            · obtain rfl : n = j := by omega
              have tj : decide ((n : Int) < (n : Int)) = false := decide_eq_false (by omega)
              have tj2 : decide (n < n) = false := decide_eq_false (by omega)
              have hnx : ∀ a, a < i + 1 → ∀ b, a < b → b < n → Rg.bdF n X Y a b = false := fun a ha b h1 h2 => by
                rcases Nat.lt_succ_iff_lt_or_eq.1 ha with h | rfl
                · exact HB.out a h b h1 h2
                · exact HBJ.out b h1 h2
              have HNX := Lib.hid hnx
              clear hnx hk hjn
              go_wp2_with fail
              go_roundg (n - (i + 1))
              case measure => exact hmm
              case rel => exact ⟨i + 1, by go_num, hin, rfl, HNX.out, hg3⟩
        · obtain rfl : n = i := by omega
          have ti4 : decide ((n : Int) < (n : Int)) = false := decide_eq_false (by omega)
          have hk0 := Rg.ringC_0 HN.out HNR.out HB.out
          have HK := Lib.hid hk0
          clear hk0 hk hin
          go_wp2_with fail
          go_ret2
          exact rringTo HK.out hg2
end Go.Proofs.YtpomllpplpalkaaGreatDoor
/- the document's Check of objects; two objects alike -/
namespace Go.Proofs.YtpomllpplpalkaaGreatDoor
set_option linter.unusedVariables false
set_option linter.unusedSimpArgs false
open Go.ChangeShapes Go.WideShapes Go.ChangeAt Go.RowKit

theorem boxN_pt (x y : Int) : boxN x y x y = if nearB x y = true then 0 else 2 := by
  unfold boxN
  cases nearB x y
  · rfl
  · rw [decide_eq_true (Int.le_refl x), decide_eq_true (Int.le_refl y)]; rfl
theorem boxN_iv (x y : Int) : boxN x 0 y 0 = if nearB x y = true then (if y < x then 1 else 0) else 2 := by
  unfold boxN
  have e : (nearB x 0 && nearB y 0) = nearB x y := by
    rw [Bool.eq_iff_iff, Bool.and_eq_true, nearB_iff, nearB_iff, nearB_iff]
    omega
  rw [e]
  cases nearB x y
  · rfl
  · simp only [if_true]
    by_cases h : y < x
    · rw [if_pos h, decide_eq_false (by omega : ¬ x ≤ y)]; rfl
    · rw [if_neg h, decide_eq_true (by omega : x ≤ y)]; rfl
def RChTo (W : World) (c : Nat) (e : Ending) (w' : World) : Prop := e = .returned (.int .i64 (c : Nat)) ∧ Gr W w'
set_option maxHeartbeats 2000000 in
set_option maxRecDepth 100000 in
theorem rcheck_verts (k : Int) (n cap : Nat) (ad : Option Addr) (W : World) (hk : k = 1 ∧ n ≠ 1 ∨ k = 2 ∧ n ≠ 1 ∨ k = 3 ∧ n ≠ 2) :
    Calls Tryz.prog 113 #[.agg #[.int .i64 k, .slice ad n cap]] W (RChTo W 3) := by
  rcases hk with ⟨rfl, h⟩ | ⟨rfl, h⟩ | ⟨rfl, h⟩
  · have t1 : ((n : Int) != 1) = true := by simp; omega
    have t2 : (n != 1) = true := by simp; omega
    clear h
    go_enter Tryz.func113, Tryz.ntmps113
    go_wp2_with fail
    go_ret
    exact ⟨rfl, by go_grown⟩
  · have t1 : ((n : Int) != 1) = true := by simp; omega
    have t2 : (n != 1) = true := by simp; omega
    clear h
    go_enter Tryz.func113, Tryz.ntmps113
    go_wp2_with fail
    go_ret
    exact ⟨rfl, by go_grown⟩
  · have t1 : ((n : Int) != 2) = true := by simp; omega
    have t2 : (n != 2) = true := by simp; omega
    clear h
    go_enter Tryz.func113, Tryz.ntmps113
    go_wp2_with fail
    go_ret
    exact ⟨rfl, by go_grown⟩
set_option maxHeartbeats 2000000 in
set_option maxRecDepth 100000 in
theorem rcheck_kind (k : Int) (n cap : Nat) (ad : Option Addr) (W : World) (h4 : k ≠ 4) (h3 : k ≠ 3) (h1 : k ≠ 1) (h2 : k ≠ 2) :
    Calls Tryz.prog 113 #[.agg #[.int .i64 k, .slice ad n cap]] W (RChTo W 5) := by
  have t1 : (k == 1) = false := by simp; omega
  have t2 : (k == 2) = false := by simp; omega
  have t3 : (k == 3) = false := by simp; omega
  have t4 : (k == 4) = false := by simp; omega
  clear h1 h2 h3 h4
  go_enter Tryz.func113, Tryz.ntmps113
  go_wp2_with fail
  go_ret
  exact ⟨rfl, by go_grown⟩
set_option maxHeartbeats 2000000 in
set_option maxRecDepth 100000 in
theorem rcheck_ring {n : Nat} {X Y : Nat → Int} {v : Value} (W : World) (h : Pts W v n X Y) :
    Calls Tryz.prog 113 #[.agg #[.int .i64 4, v]] W (RChTo W (Rg.ringC n X Y).1) := by
  have A1 : ∀ w, Gr W w → Calls Tryz.prog 126 #[v] w fun e w' => e = .returned (.tuple #[.int .i64 ((Rg.ringC n X Y).1 : Nat), .int .i64 ((Rg.ringC n X Y).2 : Nat)]) ∧ Gr w w' := fun w g => c_CheckRing w (pts_gr h g)
  generalize (Rg.ringC n X Y).1 = c at A1 ⊢
  generalize (Rg.ringC n X Y).2 = id at A1
  obtain ⟨ad, cap, B, off, rfl, _⟩ := h
  have H1 := Lib.hid A1
  clear A1
  go_enter Tryz.func113, Tryz.ntmps113
  go_wp2_with fail
  go_at_call 126
  refine ((H1.out _ (by go_grown))).mono ?_
  rintro e w1 ⟨rfl, hw1⟩
  have cw1_0_0 : w1.cell? ⟨W.heap.size, 0, none⟩ = some (.int .i64 4) := cell_gr hw1 (by go_simp)
  have cw1_0_1 : w1.cell? ⟨W.heap.size, 1, none⟩ = some (.slice ad n cap) := cell_gr hw1 (by go_simp)
  have zw1_0 : W.heap.size < w1.heap.size := World.block_lt_of_cell? _ _ cw1_0_0
  have gw1 : Gr W w1 := Gr.trans (by go_grown) hw1
  clear hw1
  go_wp2_with fail
  go_ret
  exact ⟨rfl, gw1⟩
set_option maxHeartbeats 4000000 in
set_option maxRecDepth 100000 in
theorem rcheck_1 (x y : Int) (B off cap : Nat) (W : World) (p0 : W.cell? ⟨B, off, none⟩ = some (.int .i64 x)) (p1 : W.cell? ⟨B, off + 1, none⟩ = some (.int .i64 y)) :
    Calls Tryz.prog 113 #[.agg #[.int .i64 1, .slice (some ⟨B, off, none⟩) 1 cap]] W (RChTo W (boxN x y x y)) := by
  rw [boxN_pt]
  have A1 := c_rPoint x y
  have hB := World.block_lt_of_cell? _ _ p0
  cases hq : nearB x y
  · rw [hq] at A1
    rw [if_neg (by decide)]
    have H1 := Lib.hid A1
    clear A1
    clear hq
    go_enter Tryz.func113, Tryz.ntmps113
    go_wp2_with fail
    go_at_call 52
    refine ((H1.out _)).mono ?_
    rintro e w1 ⟨rfl, hw1⟩
    have cw1_0_0 : w1.cell? ⟨W.heap.size, 0, none⟩ = some (.int .i64 1) := cell_gr hw1 (by go_simp)
    have cw1_0_1 : w1.cell? ⟨W.heap.size, 1, none⟩ = some (.slice (some ⟨B, off, none⟩) 1 cap) := cell_gr hw1 (by go_simp)
    have zw1_0 : W.heap.size < w1.heap.size := World.block_lt_of_cell? _ _ cw1_0_0
    have gw1 : Gr W w1 := Gr.trans (by go_grown) hw1
    clear hw1
    go_wp2_with fail
    go_ret
    exact ⟨rfl, gw1⟩
  · rw [hq] at A1
    rw [if_pos rfl]
    have H1 := Lib.hid A1
    clear A1
    clear hq
    go_enter Tryz.func113, Tryz.ntmps113
    go_wp2_with fail
    go_at_call 52
    refine ((H1.out _)).mono ?_
    rintro e w1 ⟨rfl, hw1⟩
    have cw1_0_0 : w1.cell? ⟨W.heap.size, 0, none⟩ = some (.int .i64 1) := cell_gr hw1 (by go_simp)
    have cw1_0_1 : w1.cell? ⟨W.heap.size, 1, none⟩ = some (.slice (some ⟨B, off, none⟩) 1 cap) := cell_gr hw1 (by go_simp)
    have zw1_0 : W.heap.size < w1.heap.size := World.block_lt_of_cell? _ _ cw1_0_0
    have gw1 : Gr W w1 := Gr.trans (by go_grown) hw1
    clear hw1
    go_wp2_with fail
    refine wp_region_spread (by kernel_rfl) (by kernel_rfl) ?_
    try simp only [List.append]
    repeat (first | go_big_quiet_skip | (go_big_quiet_want; go_big_quiet_op; (first | go_big_quiet_on | (apply Exists.intro; refine ⟨fun _ => ?_, ?_⟩; (· fail); go_big_quiet_on))))
    refine wpQuiet_nil ?_
    intro w2 hhw2
    have hw2 := Hd.gr_of_spread hhw2
    have cw2_0_0 : w2.cell? ⟨W.heap.size, 0, none⟩ = some (.int .i64 1) := cell_gr hw2 (by go_simp)
    have cw2_0_1 : w2.cell? ⟨W.heap.size, 1, none⟩ = some (.slice (some ⟨B, off, none⟩) 1 cap) := cell_gr hw2 (by go_simp)
    have zw2_0 : W.heap.size < w2.heap.size := World.block_lt_of_cell? _ _ cw2_0_0
    have gw2 : Gr W w2 := Gr.trans (by have gg := gw1; have gs := gg.size; go_grown) hw2
    clear hw2 hhw2 gw1 zw1_0 cw1_0_0 cw1_0_1
    go_wp2_with fail
    go_ret
    exact ⟨rfl, gw2⟩
set_option maxHeartbeats 4000000 in
set_option maxRecDepth 100000 in
theorem rcheck_2 (x y : Int) (B off cap : Nat) (W : World) (p0 : W.cell? ⟨B, off, none⟩ = some (.int .i64 x)) (p1 : W.cell? ⟨B, off + 1, none⟩ = some (.int .i64 y)) :
    Calls Tryz.prog 113 #[.agg #[.int .i64 2, .slice (some ⟨B, off, none⟩) 1 cap]] W (RChTo W (boxN x 0 y 0)) := by
  rw [boxN_iv]
  have A1 := c_rPoint x y
  have hB := World.block_lt_of_cell? _ _ p0
  cases hq : nearB x y
  · rw [hq] at A1
    rw [if_neg (by decide)]
    have H1 := Lib.hid A1
    clear A1
    clear hq
    go_enter Tryz.func113, Tryz.ntmps113
    go_wp2_with fail
    go_at_call 52
    refine ((H1.out _)).mono ?_
    rintro e w1 ⟨rfl, hw1⟩
    have cw1_0_0 : w1.cell? ⟨W.heap.size, 0, none⟩ = some (.int .i64 2) := cell_gr hw1 (by go_simp)
    have cw1_0_1 : w1.cell? ⟨W.heap.size, 1, none⟩ = some (.slice (some ⟨B, off, none⟩) 1 cap) := cell_gr hw1 (by go_simp)
    have zw1_0 : W.heap.size < w1.heap.size := World.block_lt_of_cell? _ _ cw1_0_0
    have gw1 : Gr W w1 := Gr.trans (by go_grown) hw1
    clear hw1
    go_wp2_with fail
    go_ret
    exact ⟨rfl, gw1⟩
  · rw [hq] at A1
    rw [if_pos rfl]
    have H1 := Lib.hid A1
    clear A1
    clear hq
    by_cases c : y < x
    · rw [if_pos c]
      have t1 : decide (y < x) = true := decide_eq_true c
      go_enter Tryz.func113, Tryz.ntmps113
      go_wp2_with fail
      go_at_call 52
      refine ((H1.out _)).mono ?_
      rintro e w1 ⟨rfl, hw1⟩
      have cw1_0_0 : w1.cell? ⟨W.heap.size, 0, none⟩ = some (.int .i64 2) := cell_gr hw1 (by go_simp)
      have cw1_0_1 : w1.cell? ⟨W.heap.size, 1, none⟩ = some (.slice (some ⟨B, off, none⟩) 1 cap) := cell_gr hw1 (by go_simp)
      have zw1_0 : W.heap.size < w1.heap.size := World.block_lt_of_cell? _ _ cw1_0_0
      have cw1_1_0 : w1.cell? ⟨B, off, none⟩ = some (.int .i64 x) := cell_gr hw1 (by go_simp)
      have cw1_1_1 : w1.cell? ⟨B, off + 1, none⟩ = some (.int .i64 y) := cell_gr hw1 (by go_simp)
      have zw1_1 : B < w1.heap.size := World.block_lt_of_cell? _ _ cw1_1_0
      have gw1 : Gr W w1 := Gr.trans (by go_grown) hw1
      clear hw1
      go_wp2_with fail
      refine wp_region_spread (by kernel_rfl) (by kernel_rfl) ?_
      try simp only [List.append]
      repeat (first | go_big_quiet_skip | (go_big_quiet_want; go_big_quiet_op; (first | go_big_quiet_on | (apply Exists.intro; refine ⟨fun _ => ?_, ?_⟩; (· fail); go_big_quiet_on))))
      refine wpQuiet_nil ?_
      intro w2 hhw2
      have hw2 := Hd.gr_of_spread hhw2
      have cw2_0_0 : w2.cell? ⟨W.heap.size, 0, none⟩ = some (.int .i64 2) := cell_gr hw2 (by go_simp)
      have cw2_0_1 : w2.cell? ⟨W.heap.size, 1, none⟩ = some (.slice (some ⟨B, off, none⟩) 1 cap) := cell_gr hw2 (by go_simp)
      have zw2_0 : W.heap.size < w2.heap.size := World.block_lt_of_cell? _ _ cw2_0_0
      have cw2_1_0 : w2.cell? ⟨B, off, none⟩ = some (.int .i64 x) := cell_gr hw2 (by go_simp)
      have cw2_1_1 : w2.cell? ⟨B, off + 1, none⟩ = some (.int .i64 y) := cell_gr hw2 (by go_simp)
      have zw2_1 : B < w2.heap.size := World.block_lt_of_cell? _ _ cw2_1_0
      have gw2 : Gr W w2 := Gr.trans (by have gg := gw1; have gs := gg.size; go_grown) hw2
      clear hw2 hhw2 gw1 zw1_0 cw1_0_0 cw1_0_1 zw1_1 cw1_1_0 cw1_1_1
      go_wp2_with fail
      go_ret
      exact ⟨rfl, gw2⟩
    · rw [if_neg c]
      have t1 : decide (y < x) = false := decide_eq_false c
      go_enter Tryz.func113, Tryz.ntmps113
      go_wp2_with fail
      go_at_call 52
      refine ((H1.out _)).mono ?_
      rintro e w1 ⟨rfl, hw1⟩
      have cw1_0_0 : w1.cell? ⟨W.heap.size, 0, none⟩ = some (.int .i64 2) := cell_gr hw1 (by go_simp)
      have cw1_0_1 : w1.cell? ⟨W.heap.size, 1, none⟩ = some (.slice (some ⟨B, off, none⟩) 1 cap) := cell_gr hw1 (by go_simp)
      have zw1_0 : W.heap.size < w1.heap.size := World.block_lt_of_cell? _ _ cw1_0_0
      have cw1_1_0 : w1.cell? ⟨B, off, none⟩ = some (.int .i64 x) := cell_gr hw1 (by go_simp)
      have cw1_1_1 : w1.cell? ⟨B, off + 1, none⟩ = some (.int .i64 y) := cell_gr hw1 (by go_simp)
      have zw1_1 : B < w1.heap.size := World.block_lt_of_cell? _ _ cw1_1_0
      have gw1 : Gr W w1 := Gr.trans (by go_grown) hw1
      clear hw1
      go_wp2_with fail
      refine wp_region_spread (by kernel_rfl) (by kernel_rfl) ?_
      try simp only [List.append]
      repeat (first | go_big_quiet_skip | (go_big_quiet_want; go_big_quiet_op; (first | go_big_quiet_on | (apply Exists.intro; refine ⟨fun _ => ?_, ?_⟩; (· fail); go_big_quiet_on))))
      refine wpQuiet_nil ?_
      intro w2 hhw2
      have hw2 := Hd.gr_of_spread hhw2
      have cw2_0_0 : w2.cell? ⟨W.heap.size, 0, none⟩ = some (.int .i64 2) := cell_gr hw2 (by go_simp)
      have cw2_0_1 : w2.cell? ⟨W.heap.size, 1, none⟩ = some (.slice (some ⟨B, off, none⟩) 1 cap) := cell_gr hw2 (by go_simp)
      have zw2_0 : W.heap.size < w2.heap.size := World.block_lt_of_cell? _ _ cw2_0_0
      have cw2_1_0 : w2.cell? ⟨B, off, none⟩ = some (.int .i64 x) := cell_gr hw2 (by go_simp)
      have cw2_1_1 : w2.cell? ⟨B, off + 1, none⟩ = some (.int .i64 y) := cell_gr hw2 (by go_simp)
      have zw2_1 : B < w2.heap.size := World.block_lt_of_cell? _ _ cw2_1_0
      have gw2 : Gr W w2 := Gr.trans (by have gg := gw1; have gs := gg.size; go_grown) hw2
      clear hw2 hhw2 gw1 zw1_0 cw1_0_0 cw1_0_1 zw1_1 cw1_1_0 cw1_1_1
      go_wp2_with fail
      go_ret
      exact ⟨rfl, gw2⟩
set_option maxHeartbeats 4000000 in
set_option maxRecDepth 100000 in
theorem rcheck_3 (x y z u : Int) (B off cap : Nat) (W : World) (p0 : W.cell? ⟨B, off, none⟩ = some (.int .i64 x)) (p1 : W.cell? ⟨B, off + 1, none⟩ = some (.int .i64 y)) (p2 : W.cell? ⟨B, off + 2, none⟩ = some (.int .i64 z)) (p3 : W.cell? ⟨B, off + 3, none⟩ = some (.int .i64 u)) :
    Calls Tryz.prog 113 #[.agg #[.int .i64 3, .slice (some ⟨B, off, none⟩) 2 cap]] W (RChTo W (boxN x y z u)) := by
  have A1 := c_rCheckBox x y z u
  rw [boxN_code] at A1
  generalize boxN x y z u = c at A1 ⊢
  have hB := World.block_lt_of_cell? _ _ p0
  have p4 : W.cell? ⟨B, off + 2 + 1, none⟩ = some (.int .i64 u) := p3
  have H1 := Lib.hid A1
  clear A1
  go_enter Tryz.func113, Tryz.ntmps113
  go_wp2_with fail
  go_wp2_with fail
  refine wp_region_spread (by kernel_rfl) (by kernel_rfl) ?_
  try simp only [List.append]
  repeat (first | go_big_quiet_skip | (go_big_quiet_want; go_big_quiet_op; (first | go_big_quiet_on | (apply Exists.intro; refine ⟨fun _ => ?_, ?_⟩; (· (first | (go_at_call 125; first | ((with_reducible refine ((H1.out _)).mono ?_); rintro e w' ⟨rfl, hg⟩; exact ⟨rfl, spread_gr hg⟩)))); go_big_quiet_on))))
  refine wpQuiet_nil ?_
  intro w2 hhw2
  have hw2 := Hd.gr_of_spread hhw2
  have cw2_0_0 : w2.cell? ⟨W.heap.size, 0, none⟩ = some (.int .i64 3) := cell_gr hw2 (by go_simp)
  have cw2_0_1 : w2.cell? ⟨W.heap.size, 1, none⟩ = some (.slice (some ⟨B, off, none⟩) 2 cap) := cell_gr hw2 (by go_simp)
  have zw2_0 : W.heap.size < w2.heap.size := World.block_lt_of_cell? _ _ cw2_0_0
  have gw2 : Gr W w2 := Gr.trans (by go_grown) hw2
  clear hw2 hhw2
  go_wp2_with fail
  go_ret
  exact ⟨rfl, gw2⟩
theorem c_rCheck {n : Nat} {X Y : Nat → Int} {v : Value} (k : Int) (W : World) (h : Pts W v n X Y) :
    Calls Tryz.prog 113 #[.agg #[.int .i64 k, v]] W (RChTo W (objC k n X Y)) := by
  by_cases h4 : k = 4
  · subst h4; rw [objC_4]; exact rcheck_ring W h
  obtain ⟨ad, cap, _, _, rfl, _⟩ := (show Pts W v n X Y from h)
  by_cases h3 : k = 3
  · subst h3
    rw [objC_3]
    by_cases hn : n = 2
    · rw [if_pos hn]
      subst hn
      obtain ⟨B, off, rfl, hB, p0, p1, p2⟩ := pts_at0 h (by omega)
      exact rcheck_3 _ _ _ _ B off cap W p0 p1 (p2 (by omega)).1 (p2 (by omega)).2
    · rw [if_neg hn]
      exact rcheck_verts 3 n cap ad W (Or.inr (Or.inr ⟨rfl, hn⟩))
  by_cases h1 : k = 1
  · subst h1
    rw [objC_1]
    by_cases hn : n = 1
    · rw [if_pos hn]
      subst hn
      obtain ⟨B, off, rfl, hB, p0, p1, p2⟩ := pts_at0 h (by omega)
      exact rcheck_1 _ _ B off cap W p0 p1
    · rw [if_neg hn]
      exact rcheck_verts 1 n cap ad W (Or.inl ⟨rfl, hn⟩)
  by_cases h2 : k = 2
  · subst h2
    rw [objC_2]
    by_cases hn : n = 1
    · rw [if_pos hn]
      subst hn
      obtain ⟨B, off, rfl, hB, p0, p1, p2⟩ := pts_at0 h (by omega)
      exact rcheck_2 _ _ B off cap W p0 p1
    · rw [if_neg hn]
      exact rcheck_verts 2 n cap ad W (Or.inr (Or.inl ⟨rfl, hn⟩))
  rw [objC_x h4 h3 h1 h2]
  exact rcheck_kind k n cap ad W h4 h3 h1 h2
end Go.Proofs.YtpomllpplpalkaaGreatDoor
