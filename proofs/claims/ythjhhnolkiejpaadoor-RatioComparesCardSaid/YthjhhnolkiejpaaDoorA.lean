/- what the document fixes of wide: awake answers true; and three more functions -/
import Derived.Test.YthjhhnolkiejpaaDoorT
namespace Go.Proofs.YthjhhnolkiejpaaDoor
set_option linter.unusedVariables false
open Go.ChangeShapes Go.WideShapes Go.ChangeAt Go.RowKit

theorem c_from3 (a0 a1 a2 b0 b1 b2 : Nat) (h0 : Wd a0) (h1 : Wd a1) (k0 : Wd b0) (k1 : Wd b1) (w : World) :
    Calls Tryd.prog 46 #[.int .i64 3, .agg #[.int .u64 a0, .int .u64 a1, .int .u64 a2], .agg #[.int .u64 b0, .int .u64 b1, .int .u64 b2]] w fun e w' => e = .returned (.int .i64 (cmpN (val a2 a1 * 18446744073709551616 + a0) (val b2 b1 * 18446744073709551616 + b0))) ∧ Gr w w' := by
  have hv : cmpN (val a2 a1 * 18446744073709551616 + a0) (val b2 b1 * 18446744073709551616 + b0) = if cmpN a2 b2 = 0 then (if cmpN a1 b1 = 0 then cmpN a0 b0 else cmpN a1 b1) else cmpN a2 b2 := by
    unfold cmpN val Wd at *
    split <;> split <;> (try split) <;> (try split) <;> (try split) <;> (try split) <;> omega
  rcases Nat.lt_trichotomy a2 b2 with h | h | h
  · have e1 := cmpN_lt h
    rw [hv, e1]
    have E1 := Lib.hid e1
    clear hv e1 h0 h1 k0 k1 h
    go_enter Tryd.func46, Tryd.ntmps46
    go_wp2_with (go_at_call 69; refine (c_cmp _ _ _).mono ?_; rw [E1.out]; rintro e w' ⟨rfl, rfl⟩)
    go_ret
    exact ⟨rfl, by go_grown⟩
  · subst h
    have e1 := cmpN_eq (rfl : a2 = a2)
    rw [hv, e1, if_pos rfl]
    have E1 := Lib.hid e1
    clear e1 hv h0 k0
    rcases Nat.lt_trichotomy a1 b1 with h | h | h
    · have e2 := cmpN_lt h
      rw [e2]
      have E2 := Lib.hid e2
      clear e2 h h1 k1
      go_enter Tryd.func46, Tryd.ntmps46
      go_wp2_with (go_at_call 69; refine (c_cmp _ _ _).mono ?_; (first | rw [E1.out] | rw [E2.out]); rintro e w' ⟨rfl, rfl⟩)
      go_ret
      exact ⟨rfl, by go_grown⟩
    · subst h
      have e2 := cmpN_eq (rfl : a1 = a1)
      rw [e2, if_pos rfl]
      have E2 := Lib.hid e2
      clear e2 h1 k1
      go_enter Tryd.func46, Tryd.ntmps46
      go_wp2_with (go_at_call 69; refine (c_cmp _ _ _).mono ?_; (first | rw [E1.out] | rw [E2.out] | skip); rintro e w' ⟨rfl, rfl⟩)
      go_ret
      exact ⟨rfl, by go_grown⟩
    · have e2 := cmpN_gt h
      rw [e2]
      have E2 := Lib.hid e2
      clear e2 h h1 k1
      go_enter Tryd.func46, Tryd.ntmps46
      go_wp2_with (go_at_call 69; refine (c_cmp _ _ _).mono ?_; (first | rw [E1.out] | rw [E2.out]); rintro e w' ⟨rfl, rfl⟩)
      go_ret
      exact ⟨rfl, by go_grown⟩
  · have e1 := cmpN_gt h
    rw [hv, e1]
    have E1 := Lib.hid e1
    clear hv e1 h0 h1 k0 k1 h
    go_enter Tryd.func46, Tryd.ntmps46
    go_wp2_with (go_at_call 69; refine (c_cmp _ _ _).mono ?_; rw [E1.out]; rintro e w' ⟨rfl, rfl⟩)
    go_ret
    exact ⟨rfl, by go_grown⟩

theorem val_words (n : Nat) : val (n / 18446744073709551616) (n % 18446744073709551616) = n := by
  unfold val
  rw [Nat.mul_comm]
  exact Nat.div_add_mod n 18446744073709551616
theorem wd_mod (n : Nat) : Wd (n % 18446744073709551616) := Nat.mod_lt _ (by omega)
/-- CompareProducts: how the products stand, whole. -/
theorem c_CompareProducts (ah al b ch cl d : Nat) (h1 : Wd ah) (h2 : Wd al) (h3 : Wd b) (h4 : Wd ch) (h5 : Wd cl) (h6 : Wd d) (w : World) :
    Calls Tryd.prog 18 #[.agg #[.int .u64 ah, .int .u64 al], .int .u64 b, .agg #[.int .u64 ch, .int .u64 cl], .int .u64 d] w fun e w' => e = .returned (.int .i64 (cmpN (val ah al * b) (val ch cl * d))) ∧ Gr w w' := by
  have T1 := c_Times ah al b h1 h2 h3
  have T2 := c_Times ch cl d h4 h5 h6
  obtain ⟨p, hp⟩ : ∃ p, p = val ah al * b := ⟨_, rfl⟩
  obtain ⟨q, hq⟩ : ∃ q, q = val ch cl * d := ⟨_, rfl⟩
  rw [← hp] at T1 ⊢
  rw [← hq] at T2 ⊢
  obtain ⟨p2, hp2⟩ : ∃ x, x = p / 18446744073709551616 / 18446744073709551616 := ⟨_, rfl⟩
  obtain ⟨p1, hp1⟩ : ∃ x, x = p / 18446744073709551616 % 18446744073709551616 := ⟨_, rfl⟩
  obtain ⟨p0, hp0⟩ : ∃ x, x = p % 18446744073709551616 := ⟨_, rfl⟩
  obtain ⟨q2, hq2⟩ : ∃ x, x = q / 18446744073709551616 / 18446744073709551616 := ⟨_, rfl⟩
  obtain ⟨q1, hq1⟩ : ∃ x, x = q / 18446744073709551616 % 18446744073709551616 := ⟨_, rfl⟩
  obtain ⟨q0, hq0⟩ : ∃ x, x = q % 18446744073709551616 := ⟨_, rfl⟩
  have F := c_from3 p0 p1 p2 q0 q1 q2 (by rw [hp0]; exact wd_mod _) (by rw [hp1]; exact wd_mod _) (by rw [hq0]; exact wd_mod _) (by rw [hq1]; exact wd_mod _)
  rw [← hp2, ← hp1, ← hp0] at T1
  rw [← hq2, ← hq1, ← hq0] at T2
  have ep : val p2 p1 * 18446744073709551616 + p0 = p := by rw [hp2, hp1, val_words, hp0, Nat.mul_comm]; exact Nat.div_add_mod _ _
  have eq : val q2 q1 * 18446744073709551616 + q0 = q := by rw [hq2, hq1, val_words, hq0, Nat.mul_comm]; exact Nat.div_add_mod _ _
  rw [ep, eq] at F
  have HT1 := Lib.hid T1
  have HT2 := Lib.hid T2
  have HF := Lib.hid F
  clear T1 T2 F hp hq hp2 hp1 hp0 hq2 hq1 hq0 ep eq h1 h2 h3 h4 h5 h6
  go_enter Tryd.func18, Tryd.ntmps18
  go_wp2_with fail
  go_at_call 10
  refine (HT1.out _).mono ?_
  rintro e w1 ⟨rfl, hg1⟩
  obtain ⟨hc1, hf1⟩ := bcell hg1
  have hz1 : w.heap.size + 1 < w1.heap.size := by have := hg1.size; simp at this; omega
  go_wp2_with fail
  go_at_call 10
  refine (HT2.out _).mono ?_
  rintro e w2 ⟨rfl, hg2⟩
  obtain ⟨hc2, hf2⟩ := bcell hg2
  have hz2 : w1.heap.size < w2.heap.size := by have := hg2.size; simp at this; omega
  have hz3 : w.heap.size + 1 < w2.heap.size := by omega
  go_wp2_with fail
  go_at_call 46
  refine (HF.out _).mono ?_
  rintro e w3 ⟨rfl, hg3⟩
  go_wp2_with fail
  go_ret
  refine ⟨rfl, ?_⟩
  have g1 : Gr w w1 := Gr.trans (by go_grown) hg1
  have g2 : Gr w w2 := Gr.trans (g1.alloc (by omega) _) hg2
  exact Gr.trans (g2.alloc (by omega) _) hg3

theorem a_Mul (w : World) : Calls Tryd.prog 14 #[.int .u64 9223372036854775808, .int .u64 4] w fun e w' => e = .returned (.agg #[.int .u64 2, .int .u64 0]) ∧ Gr w w' :=
  c_Mul 9223372036854775808 4 (by unfold Wd; omega) (by unfold Wd; omega) w
theorem a_w20 (w : World) : Calls Tryd.prog 11 #[.int .u64 2, .int .u64 0] w fun e w' => e = .returned (.agg #[.int .u64 2, .int .u64 0]) ∧ Gr w w' := c_w 2 0 w
theorem a_w10 (w : World) : Calls Tryd.prog 11 #[.int .u64 1, .int .u64 0] w fun e w' => e = .returned (.agg #[.int .u64 1, .int .u64 0]) ∧ Gr w w' := c_w 1 0 w
theorem a_w05 (w : World) : Calls Tryd.prog 11 #[.int .u64 0, .int .u64 5] w fun e w' => e = .returned (.agg #[.int .u64 0, .int .u64 5]) ∧ Gr w w' := c_w 0 5 w
theorem a_Compare (w : World) : Calls Tryd.prog 48 #[.agg #[.int .u64 1, .int .u64 0], .agg #[.int .u64 0, .int .u64 5]] w fun e w' => e = .returned (.int .i64 1) ∧ Gr w w' :=
  c_Compare 1 0 0 5 (by unfold Wd; omega) (by unfold Wd; omega) (by unfold Wd; omega) (by unfold Wd; omega) w
theorem a_Text (w : World) (hp : Lib.TabIs Tryd.prog w "internal/strconv.uint64pow10" .u64 Lib.pow10Tab) : Calls Tryd.prog 23 #[.agg #[.int .u64 1, .int .u64 0]] w fun e w' => e = .returned (.string ⟨#[49, 56, 52, 52, 54, 55, 52, 52, 48, 55, 51, 55, 48, 57, 53, 53, 49, 54, 49, 54]⟩) ∧ Gr w w' := by
  have e : (Lib.decDigits (val 1 0)).toArray = #[49, 56, 52, 52, 54, 55, 52, 52, 48, 55, 51, 55, 48, 57, 53, 53, 49, 54, 49, 54] := by
    rw [Lib.decDigits_eq]
    decide +kernel
  rw [← e]
  exact c_Text 1 0 (by unfold Wd; omega) (by unfold Wd; omega) w hp

set_option maxRecDepth 100000 in
theorem c_awake (W : World) (hp : Lib.TabIs Tryd.prog W "internal/strconv.uint64pow10" .u64 Lib.pow10Tab) :
    Calls Tryd.prog 20 #[] W fun e w' => e = .returned (.bool true) ∧ Gr W w' := by
  go_enter Tryd.func20, Tryd.ntmps20
  go_wp2_with fail
  go_at_call 14
  refine (a_Mul _).mono ?_
  rintro e w1 ⟨rfl, g1⟩
  go_wp2_with fail
  go_at_call 11
  refine (a_w20 _).mono ?_
  rintro e w2 ⟨rfl, g2⟩
  replace g2 := Gr.trans g1 g2
  clear g1
  go_wp2_with fail
  go_at_call 11
  refine (a_w10 _).mono ?_
  rintro e w3 ⟨rfl, g3⟩
  replace g3 := Gr.trans g2 g3
  clear g2
  go_wp2_with fail
  go_at_call 23
  refine (a_Text _ (tab_below hp g3)).mono ?_
  rintro e w4 ⟨rfl, g4⟩
  replace g4 := Gr.trans g3 g4
  clear g3
  go_wp2_with fail
  go_at_call 11
  refine (a_w10 _).mono ?_
  rintro e w5 ⟨rfl, g5⟩
  replace g5 := Gr.trans g4 g5
  clear g4
  go_wp2_with fail
  go_at_call 11
  refine (a_w05 _).mono ?_
  rintro e w6 ⟨rfl, g6⟩
  replace g6 := Gr.trans g5 g6
  clear g5
  go_wp2_with fail
  go_at_call 48
  refine (a_Compare _).mono ?_
  rintro e w7 ⟨rfl, g7⟩
  replace g7 := Gr.trans g6 g7
  clear g6
  go_wp2_with fail
  go_ret
  exact ⟨rfl, g7⟩
end Go.Proofs.YthjhhnolkiejpaaDoor
