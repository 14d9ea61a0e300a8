/- enc's reader -/
import Derived.Test.YtkldgfpkjaokaaaFi
import Derived.Test.YtkldgfpkjaokaaaOe
namespace Go.Proofs.Ytkldgfpkjaokaaa.Ec
theorem uv_len (f : Nat → Nat) (n : Nat) : ∀ k i acc, (uv f n k i acc).2 ≤ n := by
  intro k
  induction k with
  | zero => intro i acc; exact Nat.zero_le _
  | succ k ih =>
    intro i acc
    by_cases hi : i < n
    · by_cases hb : (i = 9 ∧ 1 < f i) ∨ (0 < i ∧ f i = 0)
      · rw [uv_bad f n _ i acc hb]; exact Nat.zero_le _
      · by_cases hc : f i < 128
        · rw [uv_last f n k i acc hi hb hc]
          show i + 1 ≤ n
          omega
        · rw [uv_more f n k i acc hi hb hc]
          exact ih _ _
    · rw [uv_end f n _ i acc hi]; exact Nat.zero_le _
end Go.Proofs.Ytkldgfpkjaokaaa.Ec
namespace Go.Proofs.Ytkldgfpkjaokaaa
set_option linter.unusedVariables false
set_option linter.unusedSimpArgs false
open Go.ChangeShapes Go.WideShapes Go.ChangeAt Go.RowKit

/-- The number that a row has at a place, and its bytes. -/
def rd (L : List UInt8) (a : Nat) : Nat × Nat := uL (L.drop a)
theorem rd_wd (L : List UInt8) (a : Nat) : Wd (rd L a).1 ∧ (rd L a).2 ≤ 10 ∧ ((rd L a).2 = 0 → (rd L a).1 = 0) := uL_wd _
theorem rd_len {L : List UInt8} {a : Nat} (h : a ≤ L.length) : a + (rd L a).2 ≤ L.length := by
  have := Ec.uv_len (rb (L.drop a)) (L.drop a).length 10 0 0
  have e : (rd L a).2 ≤ (L.drop a).length := this
  rw [List.length_drop] at e
  omega
/-- A reader: its bytes, where it is, and whether it is spoilt. -/
def Rdr (w : World) (B : Nat) (v : Value) (a : Nat) (s : Bool) : Prop := w.cell? ⟨B, 0, none⟩ = some v ∧ w.cell? ⟨B, 1, none⟩ = some (.int .i64 a) ∧ w.cell? ⟨B, 2, none⟩ = some (.bool s) ∧ w.frozen? ⟨B, 1, none⟩ = false ∧ w.frozen? ⟨B, 2, none⟩ = false
theorem rdr_gr {a b : World} {B : Nat} {v : Value} {n : Nat} {s : Bool} (h : Rdr a B v n s) (g : Gr a b) : Rdr b B v n s :=
  ⟨cell_gr g h.1, cell_gr g h.2.1, cell_gr g h.2.2.1, frozen_gr g h.2.1 h.2.2.2.1, frozen_gr g h.2.2.1 h.2.2.2.2⟩
abbrev onB (B : Nat) : Nat → Prop := fun k => k = B
def RdTo (W : World) (B : Nat) (v : Value) (a : Nat) (s : Bool) (r : Value) (e : Ending) (w' : World) : Prop := e = .returned r ∧ Rdr w' B v a s ∧ Kx (onB B) W w'
set_option maxHeartbeats 1000000 in
set_option maxRecDepth 100000 in
theorem c_skip {B a n : Nat} {v : Value} {s : Bool} (W : World) (h : Rdr W B v a s) (ha : a ≤ 1000000) (hn : n ≤ 10) :
    Calls Try.prog 17 #[.pointer (some ⟨B, 0, none⟩), .int .i64 n] W (RdTo W B v (a + n) (s || decide (n = 0)) (.tuple #[])) := by
  obtain ⟨h0, h1, h2, h3, h4⟩ := h
  have hB := World.block_lt_of_cell? _ _ h0
  have hai : (a : Int) ≤ 1000000 := by omega
  have hni : (n : Int) ≤ 10 := by omega
  cases s
  · by_cases c : n = 0
    · rw [decide_eq_true c]
      have t1 : ((n : Int) == 0) = true := by simp; omega
      have t2 : (n == 0) = true := by simp; omega
      clear c
      go_enter Try.func17, Try.ntmps17
      go_wp2_with fail
      go_end0
      exact ⟨rfl, ⟨by go_simp, by rw [Int.natCast_add]; go_simp, by go_simp, by go_simp, by go_simp⟩, (((Kx.refl W : Kx (onB B) W W).setCell (p := ⟨B, 1, none⟩) rfl _).setCell (p := ⟨B, 2, none⟩) rfl _)⟩
    · rw [decide_eq_false c]
      have t1 : ((n : Int) == 0) = false := by simp; omega
      have t2 : (n == 0) = false := by simp; omega
      clear c
      go_enter Try.func17, Try.ntmps17
      go_wp2_with fail
      go_end0
      exact ⟨rfl, ⟨by go_simp, by rw [Int.natCast_add]; go_simp, by go_simp, by go_simp, by go_simp⟩, (((Kx.refl W : Kx (onB B) W W).setCell (p := ⟨B, 1, none⟩) rfl _).setCell (p := ⟨B, 2, none⟩) rfl _)⟩
  · rw [Bool.true_or]
    go_enter Try.func17, Try.ntmps17
    go_wp2_with fail
    go_end0
    exact ⟨rfl, ⟨by go_simp, by rw [Int.natCast_add]; go_simp, by go_simp, by go_simp, by go_simp⟩, (((Kx.refl W : Kx (onB B) W W).setCell (p := ⟨B, 1, none⟩) rfl _).setCell (p := ⟨B, 2, none⟩) rfl _)⟩
/-- What num makes of the reader, and what it answers. -/
def nmS (L : List UInt8) (a : Nat) (s : Bool) (lim : Nat) : Bool := s || decide ((rd L a).2 = 0) || decide (lim < (rd L a).1)
def nmV (L : List UInt8) (a : Nat) (s : Bool) (lim : Nat) : Nat := if nmS L a s lim then 0 else (rd L a).1
set_option maxHeartbeats 2000000 in
set_option maxRecDepth 100000 in
theorem c_num {L : List UInt8} {B a lim : Nat} {v : Value} {s : Bool} (W : World) (h : Rdr W B v a s) (hR : Row W v L) (hl : L.length ≤ 100000) (ha : a ≤ L.length) (hm : lim ≤ 1099511627776) :
    Calls Try.prog 15 #[.pointer (some ⟨B, 0, none⟩), .int .i64 lim] W (RdTo W B v (a + (rd L a).2) (nmS L a s lim) (.int .i64 (nmV L a s lim : Nat))) := by
  obtain ⟨v1, ks, R1⟩ := row_from a ha hR
  have A1 := fun w (g : Gr W w) => c_UnvarintL w (row_gr R1 g) (by simp; omega)
  obtain ⟨w1, w2, w3⟩ := rd_wd L a
  have hS : nmS L a s lim = (s || decide ((rd L a).2 = 0) || decide (lim < (rd L a).1)) := rfl
  have hV : nmV L a s lim = if nmS L a s lim then 0 else (rd L a).1 := rfl
  generalize nmS L a s lim = s2 at hS hV ⊢
  generalize nmV L a s lim = nv at hV ⊢
  replace A1 : ∀ w, Gr W w → Calls Try.prog 23 #[v1] w fun e w' => e = .returned (.tuple #[.int .u64 (rd L a).1, .int .i64 (rd L a).2]) ∧ Gr w w' := A1
  obtain ⟨x, ex⟩ : ∃ x, x = (rd L a).1 := ⟨_, rfl⟩
  obtain ⟨n, en⟩ : ∃ x, x = (rd L a).2 := ⟨_, rfl⟩
  rw [← ex, ← en] at A1 hS
  rw [← ex] at w1 hV
  rw [← en] at w2
  rw [← en]
  have hw : (x : Int) < 18446744073709551616 := by unfold Wd at w1; omega
  have hn9 : (n : Int) ≤ 10 := by omega
  have hai : (a : Int) ≤ 100000 := by omega
  have hlim : (lim : Int) ≤ 1099511627776 := by omega
  have cl : IntKind.u64.wrap (lim : Int) = lim := by rw [IntKind.wrap_u64]; omega
  have A2 : ∀ w, Gr W w → Calls Try.prog 17 #[.pointer (some ⟨B, 0, none⟩), .int .i64 n] w (RdTo w B v (a + n) (s || decide (n = 0)) (.tuple #[])) := fun w g => c_skip w (rdr_gr h g) (by omega) w2
  generalize (s || decide (n = 0)) = q at A2 hS
  have h0 := h.1
  have h1 := h.2.1
  have h2 := h.2.2.1
  have ci : x ≤ lim → IntKind.i64.wrap (x : Int) = x := fun hx => by rw [IntKind.wrap_i64]; omega
  obtain ⟨ad, cap, _, _, rfl, _⟩ := hR
  obtain ⟨ad1, cap1, _, _, rfl, _⟩ := R1
  generalize (L.drop a).length = ln at ks A1
  have hB := World.block_lt_of_cell? _ _ h0
  have H1 := Lib.hid A1
  have H2 := Lib.hid A2
  clear A1 A2
  have HS := Lib.hid hS
  clear ex en w1 w2 w3 hl ha hm hS h
  by_cases c1 : lim < x
  · have t1 : decide ((lim : Int) < (x : Int)) = true := decide_eq_true (by omega)
    have t2 : decide (lim < x) = true := decide_eq_true c1
    have t3 : (lim : Int) < (x : Int) := by omega
    obtain rfl : s2 = true := by rw [HS.out, decide_eq_true c1, Bool.or_true]
    obtain rfl : nv = 0 := by rw [hV]; rfl
    clear ci hV
    go_enter Try.func15, Try.ntmps15
    go_wp2_with fail
    try simp only [List.append]
    refine Od.wp_region_ord [(0, false), (1, false), (2, false), (3, false), (4, false), (5, false), (6, false), (7, false), (8, false), (9, true), (10, false), (11, false), (12, false), (13, false), (14, false)] (by kernel_rfl) (by kernel_rfl) ?_
    intro w0 hw0 KQ hKQ
    have cw0_0_0 : w0.cell? ⟨B, 0, none⟩ = some (.slice ad L.length cap) := cell_gr hw0 (by go_simp)
    have cw0_0_1 : w0.cell? ⟨B, 1, none⟩ = some (.int .i64 a) := cell_gr hw0 (by go_simp)
    have cw0_0_2 : w0.cell? ⟨B, 2, none⟩ = some (.bool s) := cell_gr hw0 (by go_simp)
    have zw0_0 : B < w0.heap.size := World.block_lt_of_cell? _ _ cw0_0_0
    have gw0 : Gr W w0 := Gr.trans (by go_grown) hw0
    skip
    clear hw0
    repeat (first | (refine Od.wpO_skip (by simp only [List.getElem?_toArray, List.getElem?_cons_succ, List.getElem?_cons_zero] <;> rfl) rfl ?_; simp only [Act.put, List.setIfInBounds_toArray, List.set_cons_zero, List.set_cons_succ]) | (refine Od.wpO_pure (by simp only [List.getElem?_toArray, List.getElem?_cons_succ, List.getElem?_cons_zero] <;> rfl) rfl ?_; apply Exists.intro; refine ⟨?_, ?_⟩; (· intro wx gx; obtain ⟨mx, rfl⟩ := spread_of_gr gx; clear gx; all_goals (apply Od.pAt_of_quiet; intro K hK; go_big_quiet_op; first | exact hK _ rfl | (apply Exists.intro; refine ⟨fun _ => ?_, ?_⟩; (· fail); exact hK _ rfl))); try simp only [Act.put, List.setIfInBounds_toArray, List.set_cons_zero, List.set_cons_succ]))
    refine Od.wpO_call (by simp only [List.getElem?_toArray, List.getElem?_cons_succ, List.getElem?_cons_zero] <;> rfl) rfl ?_
    intro QS hQS
    go_wp2_with fail
    go_at_call 23
    (with_reducible refine ((H1.out _ gw0)).mono ?_)
    rintro e w1 ⟨rfl, hw1⟩
    go_wp2_with fail
    apply Exists.intro
    refine ⟨?_, hw1, ?_⟩
    · simp only [Act.put, List.setIfInBounds_toArray, List.set_cons_zero, List.set_cons_succ]; rfl
    have cw1_0_0 : w1.cell? ⟨B, 0, none⟩ = some (.slice ad L.length cap) := cell_gr hw1 (by go_simp)
    have cw1_0_1 : w1.cell? ⟨B, 1, none⟩ = some (.int .i64 a) := cell_gr hw1 (by go_simp)
    have cw1_0_2 : w1.cell? ⟨B, 2, none⟩ = some (.bool s) := cell_gr hw1 (by go_simp)
    have zw1_0 : B < w1.heap.size := World.block_lt_of_cell? _ _ cw1_0_0
    have gw1 : Gr W w1 := Gr.trans (by have gg := gw0; have gs := gg.size; go_grown) hw1
    clear gw0 zw0_0 cw0_0_0 cw0_0_1 cw0_0_2
    clear hw1
    try simp only [Act.put, List.setIfInBounds_toArray, List.set_cons_zero, List.set_cons_succ]
    repeat (first | (refine Od.wpO_skip (by simp only [List.getElem?_toArray, List.getElem?_cons_succ, List.getElem?_cons_zero] <;> rfl) rfl ?_; simp only [Act.put, List.setIfInBounds_toArray, List.set_cons_zero, List.set_cons_succ]) | (refine Od.wpO_pure (by simp only [List.getElem?_toArray, List.getElem?_cons_succ, List.getElem?_cons_zero] <;> rfl) rfl ?_; apply Exists.intro; refine ⟨?_, ?_⟩; (· intro wx gx; obtain ⟨mx, rfl⟩ := spread_of_gr gx; clear gx; all_goals (apply Od.pAt_of_quiet; intro K hK; go_big_quiet_op; first | exact hK _ rfl | (apply Exists.intro; refine ⟨fun _ => ?_, ?_⟩; (· fail); exact hK _ rfl))); try simp only [Act.put, List.setIfInBounds_toArray, List.set_cons_zero, List.set_cons_succ]))
    refine Od.wpO_nil (hKQ _ _ ?_)
    clear hKQ KQ
    go_wp2_with fail
    go_at_call 17
    (with_reducible refine (H2.out _ gw1).mono ?_)
    rintro e w2 ⟨rfl, R2, k2⟩
    obtain ⟨r0, r1, r2, r3, r4⟩ := R2
    have K2 := Lib.hid (Kx.trans (Kx.of_gr (S := onB B) gw1) k2)
    have hB2 := World.block_lt_of_cell? _ _ r0
    clear k2 cw1_0_0 cw1_0_1 cw1_0_2
    go_wp2_with fail
    go_ret
    exact ⟨rfl, ⟨by go_simp, by go_simp, by go_simp, by go_simp, by go_simp⟩, K2.out.setCell (p := ⟨B, 2, none⟩) rfl _⟩
  · have t1 : decide ((lim : Int) < (x : Int)) = false := decide_eq_false (by omega)
    have t2 : decide (lim < x) = false := decide_eq_false c1
    have t3 : ¬ (lim : Int) < (x : Int) := by omega
    have cx := ci (by omega)
    have cxb : (x : Int) ≤ 1099511627776 := by omega
    cases q
    · obtain rfl : s2 = false := by rw [HS.out, decide_eq_false c1]; rfl
      obtain rfl : nv = x := by rw [hV]; rfl
      clear ci hV
      go_enter Try.func15, Try.ntmps15
      go_wp2_with fail
      try simp only [List.append]
      refine Od.wp_region_ord [(0, false), (1, false), (2, false), (3, false), (4, false), (5, false), (6, false), (7, false), (8, false), (9, true), (10, false), (11, false), (12, false), (13, false), (14, false)] (by kernel_rfl) (by kernel_rfl) ?_
      intro w0 hw0 KQ hKQ
      have cw0_0_0 : w0.cell? ⟨B, 0, none⟩ = some (.slice ad L.length cap) := cell_gr hw0 (by go_simp)
      have cw0_0_1 : w0.cell? ⟨B, 1, none⟩ = some (.int .i64 a) := cell_gr hw0 (by go_simp)
      have cw0_0_2 : w0.cell? ⟨B, 2, none⟩ = some (.bool s) := cell_gr hw0 (by go_simp)
      have zw0_0 : B < w0.heap.size := World.block_lt_of_cell? _ _ cw0_0_0
      have gw0 : Gr W w0 := Gr.trans (by go_grown) hw0
      skip
      clear hw0
      repeat (first | (refine Od.wpO_skip (by simp only [List.getElem?_toArray, List.getElem?_cons_succ, List.getElem?_cons_zero] <;> rfl) rfl ?_; simp only [Act.put, List.setIfInBounds_toArray, List.set_cons_zero, List.set_cons_succ]) | (refine Od.wpO_pure (by simp only [List.getElem?_toArray, List.getElem?_cons_succ, List.getElem?_cons_zero] <;> rfl) rfl ?_; apply Exists.intro; refine ⟨?_, ?_⟩; (· intro wx gx; obtain ⟨mx, rfl⟩ := spread_of_gr gx; clear gx; all_goals (apply Od.pAt_of_quiet; intro K hK; go_big_quiet_op; first | exact hK _ rfl | (apply Exists.intro; refine ⟨fun _ => ?_, ?_⟩; (· fail); exact hK _ rfl))); try simp only [Act.put, List.setIfInBounds_toArray, List.set_cons_zero, List.set_cons_succ]))
      refine Od.wpO_call (by simp only [List.getElem?_toArray, List.getElem?_cons_succ, List.getElem?_cons_zero] <;> rfl) rfl ?_
      intro QS hQS
      go_wp2_with fail
      go_at_call 23
      (with_reducible refine ((H1.out _ gw0)).mono ?_)
      rintro e w1 ⟨rfl, hw1⟩
      go_wp2_with fail
      apply Exists.intro
      refine ⟨?_, hw1, ?_⟩
      · simp only [Act.put, List.setIfInBounds_toArray, List.set_cons_zero, List.set_cons_succ]; rfl
      have cw1_0_0 : w1.cell? ⟨B, 0, none⟩ = some (.slice ad L.length cap) := cell_gr hw1 (by go_simp)
      have cw1_0_1 : w1.cell? ⟨B, 1, none⟩ = some (.int .i64 a) := cell_gr hw1 (by go_simp)
      have cw1_0_2 : w1.cell? ⟨B, 2, none⟩ = some (.bool s) := cell_gr hw1 (by go_simp)
      have zw1_0 : B < w1.heap.size := World.block_lt_of_cell? _ _ cw1_0_0
      have gw1 : Gr W w1 := Gr.trans (by have gg := gw0; have gs := gg.size; go_grown) hw1
      clear gw0 zw0_0 cw0_0_0 cw0_0_1 cw0_0_2
      clear hw1
      try simp only [Act.put, List.setIfInBounds_toArray, List.set_cons_zero, List.set_cons_succ]
      repeat (first | (refine Od.wpO_skip (by simp only [List.getElem?_toArray, List.getElem?_cons_succ, List.getElem?_cons_zero] <;> rfl) rfl ?_; simp only [Act.put, List.setIfInBounds_toArray, List.set_cons_zero, List.set_cons_succ]) | (refine Od.wpO_pure (by simp only [List.getElem?_toArray, List.getElem?_cons_succ, List.getElem?_cons_zero] <;> rfl) rfl ?_; apply Exists.intro; refine ⟨?_, ?_⟩; (· intro wx gx; obtain ⟨mx, rfl⟩ := spread_of_gr gx; clear gx; all_goals (apply Od.pAt_of_quiet; intro K hK; go_big_quiet_op; first | exact hK _ rfl | (apply Exists.intro; refine ⟨fun _ => ?_, ?_⟩; (· fail); exact hK _ rfl))); try simp only [Act.put, List.setIfInBounds_toArray, List.set_cons_zero, List.set_cons_succ]))
      refine Od.wpO_nil (hKQ _ _ ?_)
      clear hKQ KQ
      go_wp2_with fail
      go_at_call 17
      (with_reducible refine (H2.out _ gw1).mono ?_)
      rintro e w2 ⟨rfl, R2, k2⟩
      have R2h := Lib.hid R2
      obtain ⟨r0, r1, r2, r3, r4⟩ := R2
      have K2 := Lib.hid (Kx.trans (Kx.of_gr (S := onB B) gw1) k2)
      have hB2 := World.block_lt_of_cell? _ _ r0
      clear k2 cw1_0_0 cw1_0_1 cw1_0_2
      go_wp2_with fail
      go_ret
      exact ⟨rfl, R2h.out, K2.out⟩
    · obtain rfl : s2 = true := by rw [HS.out]; rfl
      obtain rfl : nv = 0 := by rw [hV]; rfl
      clear ci hV
      go_enter Try.func15, Try.ntmps15
      go_wp2_with fail
      try simp only [List.append]
      refine Od.wp_region_ord [(0, false), (1, false), (2, false), (3, false), (4, false), (5, false), (6, false), (7, false), (8, false), (9, true), (10, false), (11, false), (12, false), (13, false), (14, false)] (by kernel_rfl) (by kernel_rfl) ?_
      intro w0 hw0 KQ hKQ
      have cw0_0_0 : w0.cell? ⟨B, 0, none⟩ = some (.slice ad L.length cap) := cell_gr hw0 (by go_simp)
      have cw0_0_1 : w0.cell? ⟨B, 1, none⟩ = some (.int .i64 a) := cell_gr hw0 (by go_simp)
      have cw0_0_2 : w0.cell? ⟨B, 2, none⟩ = some (.bool s) := cell_gr hw0 (by go_simp)
      have zw0_0 : B < w0.heap.size := World.block_lt_of_cell? _ _ cw0_0_0
      have gw0 : Gr W w0 := Gr.trans (by go_grown) hw0
      skip
      clear hw0
      repeat (first | (refine Od.wpO_skip (by simp only [List.getElem?_toArray, List.getElem?_cons_succ, List.getElem?_cons_zero] <;> rfl) rfl ?_; simp only [Act.put, List.setIfInBounds_toArray, List.set_cons_zero, List.set_cons_succ]) | (refine Od.wpO_pure (by simp only [List.getElem?_toArray, List.getElem?_cons_succ, List.getElem?_cons_zero] <;> rfl) rfl ?_; apply Exists.intro; refine ⟨?_, ?_⟩; (· intro wx gx; obtain ⟨mx, rfl⟩ := spread_of_gr gx; clear gx; all_goals (apply Od.pAt_of_quiet; intro K hK; go_big_quiet_op; first | exact hK _ rfl | (apply Exists.intro; refine ⟨fun _ => ?_, ?_⟩; (· fail); exact hK _ rfl))); try simp only [Act.put, List.setIfInBounds_toArray, List.set_cons_zero, List.set_cons_succ]))
      refine Od.wpO_call (by simp only [List.getElem?_toArray, List.getElem?_cons_succ, List.getElem?_cons_zero] <;> rfl) rfl ?_
      intro QS hQS
      go_wp2_with fail
      go_at_call 23
      (with_reducible refine ((H1.out _ gw0)).mono ?_)
      rintro e w1 ⟨rfl, hw1⟩
      go_wp2_with fail
      apply Exists.intro
      refine ⟨?_, hw1, ?_⟩
      · simp only [Act.put, List.setIfInBounds_toArray, List.set_cons_zero, List.set_cons_succ]; rfl
      have cw1_0_0 : w1.cell? ⟨B, 0, none⟩ = some (.slice ad L.length cap) := cell_gr hw1 (by go_simp)
      have cw1_0_1 : w1.cell? ⟨B, 1, none⟩ = some (.int .i64 a) := cell_gr hw1 (by go_simp)
      have cw1_0_2 : w1.cell? ⟨B, 2, none⟩ = some (.bool s) := cell_gr hw1 (by go_simp)
      have zw1_0 : B < w1.heap.size := World.block_lt_of_cell? _ _ cw1_0_0
      have gw1 : Gr W w1 := Gr.trans (by have gg := gw0; have gs := gg.size; go_grown) hw1
      clear gw0 zw0_0 cw0_0_0 cw0_0_1 cw0_0_2
      clear hw1
      try simp only [Act.put, List.setIfInBounds_toArray, List.set_cons_zero, List.set_cons_succ]
      repeat (first | (refine Od.wpO_skip (by simp only [List.getElem?_toArray, List.getElem?_cons_succ, List.getElem?_cons_zero] <;> rfl) rfl ?_; simp only [Act.put, List.setIfInBounds_toArray, List.set_cons_zero, List.set_cons_succ]) | (refine Od.wpO_pure (by simp only [List.getElem?_toArray, List.getElem?_cons_succ, List.getElem?_cons_zero] <;> rfl) rfl ?_; apply Exists.intro; refine ⟨?_, ?_⟩; (· intro wx gx; obtain ⟨mx, rfl⟩ := spread_of_gr gx; clear gx; all_goals (apply Od.pAt_of_quiet; intro K hK; go_big_quiet_op; first | exact hK _ rfl | (apply Exists.intro; refine ⟨fun _ => ?_, ?_⟩; (· fail); exact hK _ rfl))); try simp only [Act.put, List.setIfInBounds_toArray, List.set_cons_zero, List.set_cons_succ]))
      refine Od.wpO_nil (hKQ _ _ ?_)
      clear hKQ KQ
      go_wp2_with fail
      go_at_call 17
      (with_reducible refine (H2.out _ gw1).mono ?_)
      rintro e w2 ⟨rfl, R2, k2⟩
      have R2h := Lib.hid R2
      obtain ⟨r0, r1, r2, r3, r4⟩ := R2
      have K2 := Lib.hid (Kx.trans (Kx.of_gr (S := onB B) gw1) k2)
      have hB2 := World.block_lt_of_cell? _ _ r0
      clear k2 cw1_0_0 cw1_0_1 cw1_0_2
      go_wp2_with fail
      go_ret
      exact ⟨rfl, R2h.out, K2.out⟩
set_option maxHeartbeats 2000000 in
set_option maxRecDepth 100000 in
theorem c_rsigned {L : List UInt8} {B a : Nat} {v : Value} {s : Bool} (W : World) (h : Rdr W B v a s) (hR : Row W v L) (hl : L.length ≤ 100000) (ha : a ≤ L.length) :
    Calls Try.prog 24 #[.pointer (some ⟨B, 0, none⟩)] W (RdTo W B v (a + (rd L a).2) (s || decide ((rd L a).2 = 0)) (.int .i64 (si (rd L a).1))) := by
  obtain ⟨v1, ks, R1⟩ := row_from a ha hR
  have A1 := fun w (g : Gr W w) => c_UnsignedL w (row_gr R1 g) (by simp; omega)
  obtain ⟨w1, w2, w3⟩ := rd_wd L a
  replace A1 : ∀ w, Gr W w → Calls Try.prog 29 #[v1] w fun e w' => e = .returned (.tuple #[.int .i64 (si (rd L a).1), .int .i64 (rd L a).2, .bool (decide (0 < (rd L a).2))]) ∧ Gr w w' := A1
  generalize si (rd L a).1 = x at A1 ⊢
  generalize decide (0 < (rd L a).2) = y at A1
  obtain ⟨n, en⟩ : ∃ x, x = (rd L a).2 := ⟨_, rfl⟩
  rw [← en] at A1 w2
  rw [← en]
  have A2 : ∀ w, Gr W w → Calls Try.prog 17 #[.pointer (some ⟨B, 0, none⟩), .int .i64 n] w (RdTo w B v (a + n) (s || decide (n = 0)) (.tuple #[])) := fun w g => c_skip w (rdr_gr h g) (by omega) w2
  generalize (s || decide (n = 0)) = q at A2 ⊢
  have hai : (a : Int) ≤ 100000 := by omega
  have h0 := h.1
  have h1 := h.2.1
  have h2 := h.2.2.1
  obtain ⟨ad, cap, _, _, rfl, _⟩ := hR
  obtain ⟨ad1, cap1, _, _, rfl, _⟩ := R1
  generalize (L.drop a).length = ln at ks A1
  have hB := World.block_lt_of_cell? _ _ h0
  have H1 := Lib.hid A1
  have H2 := Lib.hid A2
  clear A1 A2
  clear en w1 w2 w3 hl ha h
  go_enter Try.func24, Try.ntmps24
  go_wp2_with fail
  try simp only [List.append]
  refine Od.wp_region_ord [(0, false), (1, false), (2, false), (3, false), (4, false), (5, false), (6, false), (7, false), (8, false), (9, true), (10, false), (11, false), (12, false), (13, false), (14, false), (15, false), (16, false)] (by kernel_rfl) (by kernel_rfl) ?_
  intro w0 hw0 KQ hKQ
  have cw0_0_0 : w0.cell? ⟨B, 0, none⟩ = some (.slice ad L.length cap) := cell_gr hw0 (by go_simp)
  have cw0_0_1 : w0.cell? ⟨B, 1, none⟩ = some (.int .i64 a) := cell_gr hw0 (by go_simp)
  have cw0_0_2 : w0.cell? ⟨B, 2, none⟩ = some (.bool s) := cell_gr hw0 (by go_simp)
  have zw0_0 : B < w0.heap.size := World.block_lt_of_cell? _ _ cw0_0_0
  have gw0 : Gr W w0 := Gr.trans (by go_grown) hw0
  skip
  clear hw0
  repeat (first | (refine Od.wpO_skip (by simp only [List.getElem?_toArray, List.getElem?_cons_succ, List.getElem?_cons_zero] <;> rfl) rfl ?_; simp only [Act.put, List.setIfInBounds_toArray, List.set_cons_zero, List.set_cons_succ]) | (refine Od.wpO_pure (by simp only [List.getElem?_toArray, List.getElem?_cons_succ, List.getElem?_cons_zero] <;> rfl) rfl ?_; apply Exists.intro; refine ⟨?_, ?_⟩; (· intro wx gx; obtain ⟨mx, rfl⟩ := spread_of_gr gx; clear gx; all_goals (apply Od.pAt_of_quiet; intro K hK; go_big_quiet_op; first | exact hK _ rfl | (apply Exists.intro; refine ⟨fun _ => ?_, ?_⟩; (· fail); exact hK _ rfl))); try simp only [Act.put, List.setIfInBounds_toArray, List.set_cons_zero, List.set_cons_succ]))
  refine Od.wpO_call (by simp only [List.getElem?_toArray, List.getElem?_cons_succ, List.getElem?_cons_zero] <;> rfl) rfl ?_
  intro QS hQS
  go_wp2_with fail
  go_at_call 29
  (with_reducible refine ((H1.out _ gw0)).mono ?_)
  rintro e w1 ⟨rfl, hw1⟩
  go_wp2_with fail
  apply Exists.intro
  refine ⟨?_, hw1, ?_⟩
  · simp only [Act.put, List.setIfInBounds_toArray, List.set_cons_zero, List.set_cons_succ]; rfl
  have cw1_0_0 : w1.cell? ⟨B, 0, none⟩ = some (.slice ad L.length cap) := cell_gr hw1 (by go_simp)
  have cw1_0_1 : w1.cell? ⟨B, 1, none⟩ = some (.int .i64 a) := cell_gr hw1 (by go_simp)
  have cw1_0_2 : w1.cell? ⟨B, 2, none⟩ = some (.bool s) := cell_gr hw1 (by go_simp)
  have zw1_0 : B < w1.heap.size := World.block_lt_of_cell? _ _ cw1_0_0
  have gw1 : Gr W w1 := Gr.trans (by have gg := gw0; have gs := gg.size; go_grown) hw1
  clear gw0 zw0_0 cw0_0_0 cw0_0_1 cw0_0_2
  clear hw1
  try simp only [Act.put, List.setIfInBounds_toArray, List.set_cons_zero, List.set_cons_succ]
  repeat (first | (refine Od.wpO_skip (by simp only [List.getElem?_toArray, List.getElem?_cons_succ, List.getElem?_cons_zero] <;> rfl) rfl ?_; simp only [Act.put, List.setIfInBounds_toArray, List.set_cons_zero, List.set_cons_succ]) | (refine Od.wpO_pure (by simp only [List.getElem?_toArray, List.getElem?_cons_succ, List.getElem?_cons_zero] <;> rfl) rfl ?_; apply Exists.intro; refine ⟨?_, ?_⟩; (· intro wx gx; obtain ⟨mx, rfl⟩ := spread_of_gr gx; clear gx; all_goals (apply Od.pAt_of_quiet; intro K hK; go_big_quiet_op; first | exact hK _ rfl | (apply Exists.intro; refine ⟨fun _ => ?_, ?_⟩; (· fail); exact hK _ rfl))); try simp only [Act.put, List.setIfInBounds_toArray, List.set_cons_zero, List.set_cons_succ]))
  refine Od.wpO_nil (hKQ _ _ ?_)
  clear hKQ KQ
  go_wp2_with fail
  go_at_call 17
  (with_reducible refine (H2.out _ gw1).mono ?_)
  rintro e w2 ⟨rfl, R2, k2⟩
  have R2h := Lib.hid R2
  have K2 := Lib.hid (Kx.trans (Kx.of_gr (S := onB B) gw1) k2)
  clear k2 cw1_0_0 cw1_0_1 cw1_0_2 R2
  go_wp2_with fail
  go_ret
  exact ⟨rfl, R2h.out, K2.out⟩
end Go.Proofs.Ytkldgfpkjaokaaa
