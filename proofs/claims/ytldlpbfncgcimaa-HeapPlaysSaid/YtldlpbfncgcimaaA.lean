/- what the document fixes of wide: awake answers true; and three more functions -/
import Derived.Test.YtldlpbfncgcimaaT
namespace Go.Proofs.Ytldlpbfncgcimaa
set_option linter.unusedVariables false
open Go.ChangeShapes Go.WideShapes Go.ChangeAt Go.RowKit

theorem c_from3 (a0 a1 a2 b0 b1 b2 : Nat) (h0 : Wd a0) (h1 : Wd a1) (k0 : Wd b0) (k1 : Wd b1) (w : World) :
    Calls Try.prog 62 #[.int .i64 3, .agg #[.int .u64 a0, .int .u64 a1, .int .u64 a2], .agg #[.int .u64 b0, .int .u64 b1, .int .u64 b2]] w fun e w' => e = .returned (.int .i64 (cmpN (val a2 a1 * 18446744073709551616 + a0) (val b2 b1 * 18446744073709551616 + b0))) ∧ Gr w w' := by
  have hv : cmpN (val a2 a1 * 18446744073709551616 + a0) (val b2 b1 * 18446744073709551616 + b0) = if cmpN a2 b2 = 0 then (if cmpN a1 b1 = 0 then cmpN a0 b0 else cmpN a1 b1) else cmpN a2 b2 := by
    unfold cmpN val Wd at *
    split <;> split <;> (try split) <;> (try split) <;> (try split) <;> (try split) <;> omega
  rcases Nat.lt_trichotomy a2 b2 with h | h | h
  · have e1 := cmpN_lt h
    rw [hv, e1]
    have E1 := Lib.hid e1
    clear hv e1 h0 h1 k0 k1 h
    go_enter Try.func62, Try.ntmps62
    go_wp2_with (go_at_call 73; refine (c_cmp _ _ _).mono ?_; rw [E1.out]; rintro e w' ⟨rfl, rfl⟩)
    go_ret
    exact ⟨rfl, by go_grown⟩
  · subst h
    have e1 := cmpN_eq (rfl : a2 = a2)
    rw [hv, e1, if_pos rfl]
    have E1 := Lib.hid e1
    clear e1 hv h0 k0
    rcases Nat.lt_trichotomy a1 b1 with h | h | h
    · have e2 := cmpN_lt h
      rw [e2]
      have E2 := Lib.hid e2
      clear e2 h h1 k1
      go_enter Try.func62, Try.ntmps62
      go_wp2_with (go_at_call 73; refine (c_cmp _ _ _).mono ?_; (first | rw [E1.out] | rw [E2.out]); rintro e w' ⟨rfl, rfl⟩)
      go_ret
      exact ⟨rfl, by go_grown⟩
    · subst h
      have e2 := cmpN_eq (rfl : a1 = a1)
      rw [e2, if_pos rfl]
      have E2 := Lib.hid e2
      clear e2 h1 k1
      go_enter Try.func62, Try.ntmps62
      go_wp2_with (go_at_call 73; refine (c_cmp _ _ _).mono ?_; (first | rw [E1.out] | rw [E2.out] | skip); rintro e w' ⟨rfl, rfl⟩)
      go_ret
      exact ⟨rfl, by go_grown⟩
    · have e2 := cmpN_gt h
      rw [e2]
      have E2 := Lib.hid e2
      clear e2 h h1 k1
      go_enter Try.func62, Try.ntmps62
      go_wp2_with (go_at_call 73; refine (c_cmp _ _ _).mono ?_; (first | rw [E1.out] | rw [E2.out]); rintro e w' ⟨rfl, rfl⟩)
      go_ret
      exact ⟨rfl, by go_grown⟩
  · have e1 := cmpN_gt h
    rw [hv, e1]
    have E1 := Lib.hid e1
    clear hv e1 h0 h1 k0 k1 h
    go_enter Try.func62, Try.ntmps62
    go_wp2_with (go_at_call 73; refine (c_cmp _ _ _).mono ?_; rw [E1.out]; rintro e w' ⟨rfl, rfl⟩)
    go_ret
    exact ⟨rfl, by go_grown⟩

theorem val_words (n : Nat) : val (n / 18446744073709551616) (n % 18446744073709551616) = n := by
  unfold val
  rw [Nat.mul_comm]
  exact Nat.div_add_mod n 18446744073709551616
theorem wd_mod (n : Nat) : Wd (n % 18446744073709551616) := Nat.mod_lt _ (by omega)
/-- CompareProducts: how the products stand, whole. -/
theorem c_CompareProducts (ah al b ch cl d : Nat) (h1 : Wd ah) (h2 : Wd al) (h3 : Wd b) (h4 : Wd ch) (h5 : Wd cl) (h6 : Wd d) (w : World) :
    Calls Try.prog 53 #[.agg #[.int .u64 ah, .int .u64 al], .int .u64 b, .agg #[.int .u64 ch, .int .u64 cl], .int .u64 d] w fun e w' => e = .returned (.int .i64 (cmpN (val ah al * b) (val ch cl * d))) ∧ Gr w w' := by
  have T1 := c_Times ah al b h1 h2 h3
  have T2 := c_Times ch cl d h4 h5 h6
  obtain ⟨p, hp⟩ : ∃ p, p = val ah al * b := ⟨_, rfl⟩
  obtain ⟨q, hq⟩ : ∃ q, q = val ch cl * d := ⟨_, rfl⟩
  rw [← hp] at T1 ⊢
  rw [← hq] at T2 ⊢
  obtain ⟨p2, hp2⟩ : ∃ x, x = p / 18446744073709551616 / 18446744073709551616 := ⟨_, rfl⟩
  obtain ⟨p1, hp1⟩ : ∃ x, x = p / 18446744073709551616 % 18446744073709551616 := ⟨_, rfl⟩
  obtain ⟨p0, hp0⟩ : ∃ x, x = p % 18446744073709551616 := ⟨_, rfl⟩
  obtain ⟨q2, hq2⟩ : ∃ x, x = q / 18446744073709551616 / 18446744073709551616 := ⟨_, rfl⟩
  obtain ⟨q1, hq1⟩ : ∃ x, x = q / 18446744073709551616 % 18446744073709551616 := ⟨_, rfl⟩
  obtain ⟨q0, hq0⟩ : ∃ x, x = q % 18446744073709551616 := ⟨_, rfl⟩
  have F := c_from3 p0 p1 p2 q0 q1 q2 (by rw [hp0]; exact wd_mod _) (by rw [hp1]; exact wd_mod _) (by rw [hq0]; exact wd_mod _) (by rw [hq1]; exact wd_mod _)
  rw [← hp2, ← hp1, ← hp0] at T1
  rw [← hq2, ← hq1, ← hq0] at T2
  have ep : val p2 p1 * 18446744073709551616 + p0 = p := by rw [hp2, hp1, val_words, hp0, Nat.mul_comm]; exact Nat.div_add_mod _ _
  have eq : val q2 q1 * 18446744073709551616 + q0 = q := by rw [hq2, hq1, val_words, hq0, Nat.mul_comm]; exact Nat.div_add_mod _ _
  rw [ep, eq] at F
  have HT1 := Lib.hid T1
  have HT2 := Lib.hid T2
  have HF := Lib.hid F
  clear T1 T2 F hp hq hp2 hp1 hp0 hq2 hq1 hq0 ep eq h1 h2 h3 h4 h5 h6
  go_enter Try.func53, Try.ntmps53
  go_wp2_with fail
  go_at_call 61
  refine (HT1.out _).mono ?_
  rintro e w1 ⟨rfl, hg1⟩
  obtain ⟨hc1, hf1⟩ := bcell hg1
  have hz1 : w.heap.size + 1 < w1.heap.size := by have := hg1.size; simp at this; omega
  go_wp2_with fail
  go_at_call 61
  refine (HT2.out _).mono ?_
  rintro e w2 ⟨rfl, hg2⟩
  obtain ⟨hc2, hf2⟩ := bcell hg2
  have hz2 : w1.heap.size < w2.heap.size := by have := hg2.size; simp at this; omega
  have hz3 : w.heap.size + 1 < w2.heap.size := by omega
  go_wp2_with fail
  go_at_call 62
  refine (HF.out _).mono ?_
  rintro e w3 ⟨rfl, hg3⟩
  go_wp2_with fail
  go_ret
  refine ⟨rfl, ?_⟩
  have g1 : Gr w w1 := Gr.trans (by go_grown) hg1
  have g2 : Gr w w2 := Gr.trans (g1.alloc (by omega) _) hg2
  exact Gr.trans (g2.alloc (by omega) _) hg3

end Go.Proofs.Ytldlpbfncgcimaa
