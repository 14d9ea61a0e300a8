/- the document's rings: CheckRing -/
import Derived.Test.YtpomllpplpalkaaGreatDoorGd
namespace Go.Proofs.YtpomllpplpalkaaGreatDoor
set_option linter.unusedVariables false
open Go.ChangeShapes Go.WideShapes Go.ChangeAt Go.RowKit

set_option maxHeartbeats 8000000 in
set_option maxRecDepth 100000 in
theorem c_CheckRing {n : Nat} {X Y : Nat → Int} {v : Value} (W : World) (h : Pts W v n X Y) :
    Calls Tryz.prog 126 #[v] W (RRingTo W n X Y) := by
  have HP := Lib.hid h
  obtain ⟨ad, cap, B, off, rfl, h1, h2, h3, h4⟩ := h
  have h2i : (n : Int) ≤ 9223372036854775807 := by omega
  by_cases c1 : n < 3
  · have t1 : decide ((n : Int) < 3) = true := decide_eq_true (by omega)
    have t2 : (n : Int) < 3 := by omega
    have hk := Rg.ringC_3 (X := X) (Y := Y) (show n < 3 ∨ 64 < n by omega)
    have HK := Lib.hid hk
    clear hk h3 h4 c1
    go_enter Tryz.func126, Tryz.ntmps126
    go_wp2_with fail
    go_ret2
    exact rringTo HK.out (Below.refl _ _)
  have t1 : decide ((n : Int) < 3) = false := decide_eq_false (by omega)
  have t2 : ¬ (n : Int) < 3 := by omega
  by_cases c2 : 64 < n
  · have t3 : decide ((64 : Int) < (n : Int)) = true := decide_eq_true (by omega)
    have t4 : (64 : Int) < (n : Int) := by omega
    have hk := Rg.ringC_3 (X := X) (Y := Y) (show n < 3 ∨ 64 < n by omega)
    have HK := Lib.hid hk
    clear hk h3 h4 c1
    go_enter Tryz.func126, Tryz.ntmps126
    go_wp2_with fail
    go_ret2
    exact rringTo HK.out (Below.refl _ _)
  have t3 : decide ((64 : Int) < (n : Int)) = false := decide_eq_false (by omega)
  have t4 : ¬ (64 : Int) < (n : Int) := by omega
  have hn64 : (n : Int) ≤ 64 := by omega
  have hn0 : ¬ (n < 3 ∨ 64 < n) := by omega
  obtain rfl := h3 (by omega)
  have HX := Lib.hid h4
  have HN := Lib.hid hn0
  clear h3 h4 hn0
  go_enter Tryz.func126, Tryz.ntmps126
  go_wp2_with fail
  go_loopg [5] n (fun k y wr => ∃ i : Nat, y = .int .i64 i ∧ i ≤ n ∧ k = n - i ∧ (∀ m, m < i → nearB (X m) (Y m) = true) ∧ Gr W wr)
  case atStart => exact ⟨0, rfl, Nat.zero_le _, by omega, fun m hm => absurd hm (by omega), Below.refl _ _⟩
  case round =>
    obtain ⟨i, rfl, hi, hk, hnr, hg⟩ := hrel
    have HNR := Lib.hid hnr
    clear hnr
    by_cases hin : i < n
    · have ti : decide ((i : Int) < (n : Int)) = true := decide_eq_true (by omega)
      have ti2 : decide (i < n) = true := decide_eq_true hin
      have ti3 : (i : Int) < (n : Int) := by omega
      obtain ⟨k0, k1⟩ := HX.out i hin
      have p0 := cell_gr hg k0
      have p1 := cell_gr hg k1
      have CP := c_rPoint (X i) (Y i)
      have hmm : n - (i + 1) < gk := by omega
      clear k0 k1 hk
      cases hq : nearB (X i) (Y i)
      · rw [hq] at CP
        have hk := Rg.ringC_2 HN.out hin hq HNR.out
        have HC := Lib.hid CP
        have HK := Lib.hid hk
        generalize X i = x at p0 HC
        generalize Y i = y at p1 HC
        clear CP hk hq
        go_wp2_with fail
        go_at_call 52
        (with_reducible refine (HC.out _).mono ?_)
        rintro e w1 ⟨rfl, g1⟩
        have G1 : Gr W w1 := Gr.trans (Gr.trans hg (by go_grown)) g1
        go_wp2_with fail
        go_ret2
        exact rringTo HK.out G1
      · rw [hq] at CP
        have hnx : ∀ m, m < i + 1 → nearB (X m) (Y m) = true := fun m hm => by
          rcases Nat.lt_succ_iff_lt_or_eq.1 hm with h | rfl
          · exact HNR.out m h
          · exact hq
        have HC := Lib.hid CP
        have HNX := Lib.hid hnx
        generalize X i = x at p0 HC
        generalize Y i = y at p1 HC
        clear CP hq hnx
        go_wp2_with fail
        go_at_call 52
        (with_reducible refine (HC.out _).mono ?_)
        rintro e w1 ⟨rfl, g1⟩
        have G1 : Gr W w1 := Gr.trans (Gr.trans hg (by go_grown)) g1
        go_wp2_with fail
        go_roundg (n - (i + 1))
        case measure => exact hmm
        case rel => exact ⟨i + 1, by go_num, hin, rfl, HNX.out, G1⟩
    · obtain rfl : n = i := by omega
      have ti : decide ((n : Int) < (n : Int)) = false := decide_eq_false (by omega)
      have ti2 : decide (n < n) = false := decide_eq_false (by omega)
      clear hk hin
      go_wp2_with fail
      obtain ⟨wo, rfl⟩ : ∃ wo : World, wo = wr := ⟨_, rfl⟩
      go_loopg [6] n (fun k y wr => ∃ i : Nat, y = .int .i64 i ∧ i ≤ n ∧ k = n - i ∧ (∀ a, a < i → ∀ b, a < b → b < n → Rg.bdF n X Y a b = false) ∧ Gr W wr)
      case atStart => exact ⟨0, rfl, Nat.zero_le _, by omega, fun a ha => absurd ha (by omega), hg⟩
      case round =>
        obtain ⟨i, rfl, hi, hk, hbd, hg2⟩ := hrel
        have HB := Lib.hid hbd
        clear hbd
        by_cases hin : i < n
        · have ti : decide ((i : Int) < (n : Int)) = true := decide_eq_true (by omega)
          have ti2 : decide (i < n) = true := decide_eq_true hin
          have ti3 : (i : Int) < (n : Int) := by omega
          have hmm : n - (i + 1) < gk := by omega
          clear hk
          go_wp2_with fail
          obtain ⟨wp, rfl⟩ : ∃ wp : World, wp = wr := ⟨_, rfl⟩
          go_loopg [7] (n - (i + 1)) (fun k y wr => ∃ j : Nat, y = .int .i64 j ∧ i < j ∧ j ≤ n ∧ k = n - j ∧ (∀ b, i < b → b < j → Rg.bdF n X Y i b = false) ∧ Gr W wr)
          case atStart => exact ⟨i + 1, by go_num, by omega, by omega, rfl, fun b h1 h2 => absurd h1 (by omega), hg2⟩
          case round =>
            obtain ⟨j, rfl, hij, hj, hk, hbj, hg3⟩ := hrel
            have HBJ := Lib.hid hbj
            clear hbj
            by_cases hjn : j < n
            · have tj : decide ((j : Int) < (n : Int)) = true := decide_eq_true (by omega)
              have tj2 : decide (j < n) = true := decide_eq_true hjn
              have tj3 : (j : Int) < (n : Int) := by omega
              obtain ⟨k0, k1⟩ := HX.out i hin
              obtain ⟨l0, l1⟩ := HX.out j hjn
              have p0 := cell_gr hg3 k0
              have p1 := cell_gr hg3 k1
              have q0 := cell_gr hg3 l0
              have q1 := cell_gr hg3 l1
              have CC := fun w (g : Gr wr w) => c_rclash w (pts_gr HP.out (Gr.trans hg3 g)) HNR.out i j hij hjn (by have := HN.out; omega) (by omega)
              have E := eqPt2 (X i) (Y i) (X j) (Y j)
              have hbe : Rg.bdF n X Y i j = ((decide (X i = X j) && decide (Y i = Y j)) || Rg.clF n X Y i j) := rfl
              generalize (decide (X i = X j) && decide (Y i = Y j)) = qe at E hbe
              generalize Rg.clF n X Y i j = qc at CC hbe
              generalize X i = xi at p0 E
              generalize Y i = yi at p1 E
              generalize X j = xj at q0 E
              generalize Y j = yj at q1 E
              have HC := Lib.hid CC
              have hmm2 : n - (j + 1) < gk := by omega
              clear CC k0 k1 l0 l1 hk
              cases qe
              · cases qc
                · have hnx : ∀ b, i < b → b < j + 1 → Rg.bdF n X Y i b = false := fun b h1 h2 => by
                    rcases Nat.lt_succ_iff_lt_or_eq.1 h2 with h | rfl
                    · exact HBJ.out b h1 h
                    · exact hbe
                  have HNX := Lib.hid hnx
                  clear hnx hbe
                  have gwr := hg3
                  go_wp2_with fail
                  refine wp_region_spread (by kernel_rfl) (by kernel_rfl) ?_
                  try simp only [List.append]
                  repeat (first | go_big_quiet_skip | (go_big_quiet_want; go_big_quiet_op; (first | go_big_quiet_on | (apply Exists.intro; refine ⟨fun _ => ?_, ?_⟩; (· (first | (go_at_call 173; first | ((with_reducible refine ((HC.out _ (gr_spread _ _))).mono ?_); rintro e w' ⟨rfl, hg⟩; exact ⟨rfl, spread_gr hg⟩)))); go_big_quiet_on))))
                  refine wpQuiet_nil ?_
                  intro wr hr
                  obtain ⟨mr, rfl⟩ := hr
                  have G1 := Gr.trans hg3 (gr_spread wr mr)
                  go_wp2_with fail
                  go_roundg (n - (j + 1))
                  case measure => exact hmm2
                  case rel => exact ⟨j + 1, by go_num, by omega, hjn, rfl, HNX.out, G1⟩
                · have hk := Rg.ringC_4 HN.out HNR.out hij hjn hbe HB.out
                  have HK := Lib.hid hk
                  clear hk hbe
                  have gwr := hg3
                  go_wp2_with fail
                  refine wp_region_spread (by kernel_rfl) (by kernel_rfl) ?_
                  try simp only [List.append]
                  repeat (first | go_big_quiet_skip | (go_big_quiet_want; go_big_quiet_op; (first | go_big_quiet_on | (apply Exists.intro; refine ⟨fun _ => ?_, ?_⟩; (· (first | (go_at_call 173; first | ((with_reducible refine ((HC.out _ (gr_spread _ _))).mono ?_); rintro e w' ⟨rfl, hg⟩; exact ⟨rfl, spread_gr hg⟩)))); go_big_quiet_on))))
                  refine wpQuiet_nil ?_
                  intro wr hr
                  obtain ⟨mr, rfl⟩ := hr
                  have G1 := Gr.trans hg3 (gr_spread wr mr)
                  go_wp2_with fail
                  go_ret2
                  exact rringTo HK.out G1
              · have hk := Rg.ringC_4 HN.out HNR.out hij hjn (hbe.trans (Bool.true_or _)) HB.out
                have HK := Lib.hid hk
                clear hk hbe
                have gwr := hg3
                go_wp2_with fail
                refine wp_region_spread (by kernel_rfl) (by kernel_rfl) ?_
                try simp only [List.append]
                repeat (first | go_big_quiet_skip | (go_big_quiet_want; go_big_quiet_op; (first | go_big_quiet_on | (apply Exists.intro; refine ⟨fun _ => ?_, ?_⟩; (· fail); go_big_quiet_on))))
                refine wpQuiet_nil ?_
                intro wr hr
                obtain ⟨mr, rfl⟩ := hr
                have G1 := Gr.trans hg3 (gr_spread wr mr)
                go_wp2_with fail
                go_ret2
                exact rringTo HK.out G1
            · obtain rfl : n = j := by omega
              have tj : decide ((n : Int) < (n : Int)) = false := decide_eq_false (by omega)
              have tj2 : decide (n < n) = false := decide_eq_false (by omega)
              have hnx : ∀ a, a < i + 1 → ∀ b, a < b → b < n → Rg.bdF n X Y a b = false := fun a ha b h1 h2 => by
                rcases Nat.lt_succ_iff_lt_or_eq.1 ha with h | rfl
                · exact HB.out a h b h1 h2
                · exact HBJ.out b h1 h2
              have HNX := Lib.hid hnx
              clear hnx hk hjn
              go_wp2_with fail
              go_roundg (n - (i + 1))
              case measure => exact hmm
              case rel => exact ⟨i + 1, by go_num, hin, rfl, HNX.out, hg3⟩
        · obtain rfl : n = i := by omega
          have ti4 : decide ((n : Int) < (n : Int)) = false := decide_eq_false (by omega)
          have hk0 := Rg.ringC_0 HN.out HNR.out HB.out
          have HK := Lib.hid hk0
          clear hk0 hk hin
          go_wp2_with fail
          go_ret2
          exact rringTo HK.out hg2
end Go.Proofs.YtpomllpplpalkaaGreatDoor
