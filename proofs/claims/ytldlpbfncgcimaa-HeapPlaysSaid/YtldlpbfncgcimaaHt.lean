/- HeapPlays: the document's heap in memory -/
import Derived.Test.YtldlpbfncgcimaaHs
import Derived.Test.YtldlpbfncgcimaaHq
namespace Go.Proofs.Ytldlpbfncgcimaa
set_option linter.unusedVariables false
open Go.ChangeShapes Go.WideShapes Go.ChangeAt Go.RowKit

theorem flat6_get (L : List En) : ∀ k, (L.flatMap En.cs)[k]? = (L[k / 6]?).bind fun x => x.cs[k % 6]? := by
  induction L with
  | nil => intro k; simp
  | cons x L ih =>
    intro k
    rw [List.flatMap_cons]
    have hl : x.cs.length = 6 := rfl
    by_cases h : k < 6
    · rw [List.getElem?_append_left (by omega), Nat.div_eq_of_lt h, Nat.mod_eq_of_lt h]
      rfl
    · rw [List.getElem?_append_right (by omega), hl, ih, show k / 6 = (k - 6) / 6 + 1 by omega, show k % 6 = (k - 6) % 6 by omega]
      rfl
theorem flat6_len (L : List En) : (L.flatMap En.cs).length = L.length * 6 := by
  induction L with
  | nil => rfl
  | cons x L ih => rw [List.flatMap_cons, List.length_append, ih, List.length_cons]; have : x.cs.length = 6 := rfl; omega
theorem flat6_at (L : List En) (i c : Nat) (hi : i < L.length) (hc : c < 6) : (L.flatMap En.cs)[i * 6 + c]? = L[i].cs[c]? := by
  rw [flat6_get, show (i * 6 + c) / 6 = i by omega, show (i * 6 + c) % 6 = c by omega, List.getElem?_eq_getElem hi]
  rfl
theorem en_one (L : List En) : ∀ u ∈ L.flatMap En.cs, u.oneCell' = true := by
  intro u hu
  obtain ⟨x, -, hx⟩ := List.mem_flatMap.1 hu
  simp only [En.cs, List.mem_cons, List.mem_nil_iff, or_false] at hx
  rcases hx with rfl | rfl | rfl | rfl | rfl | rfl <;> rfl
/-- The document's heap that the call owns: its block is p, its slice v. -/
def RefAt (w : World) (base p : Nat) (v : Value) (R : List En) : Prop :=
  base ≤ p ∧ w.heap[p]? = some (.cells #[v] 40 (0, 0)) ∧ w.ownsRow base 46 6 v R.length (R.flatMap En.cs) ∧ v.ownBlock ≠ some p
theorem refAt_gr {a b : World} {base p : Nat} {v : Value} {R : List En} (h : RefAt a base p v R) (g : Gr a b) : RefAt b base p v R := by
  obtain ⟨h1, h2, h3, h4⟩ := h
  refine ⟨h1, ?_, h3.kept (row := none) ⟨g.os, g.tape, g.output, g.size, fun k hk _ => g.block k hk⟩ (by cases hv : v.ownBlock <;> simp), h4⟩
  rw [g.block p (by have := Array.getElem?_eq_some_iff.1 h2; exact this.1)]
  exact h2
theorem one_cell {w : World} {p : Nat} {T : TypeId} {a : Value} (h : w.heap[p]? = some (.cells #[a] T (0, 0))) : w.cell? ⟨p, 0, none⟩ = some a ∧ w.frozen? ⟨p, 0, none⟩ = false :=
  ⟨by rw [cell_of_row w p 0 _ _ _ h]; rfl, frozen_of_row w p 0 _ _ h⟩
theorem refAt_form {w : World} {base p : Nat} {v : Value} {R : List En} (h : RefAt w base p v R) : ∃ (ad : Option Addr) (g cap : Nat), v = .slice ad R.length cap ∧ R.length ≤ cap ∧ (cap : Int) ≤ 9223372036854775807 ∧ (0 < R.length → ad = some ⟨g, 0, none⟩ ∧ p ≠ g) ∧ ∀ i (hi : i < R.length), EntAt w g (i * 6) R[i] := by
  rcases h.2.2.1.2 with ⟨rfl, h0⟩ | ⟨g, cap, cur, rfl, hb, hg, hn, hc, hs, ht⟩
  · exact ⟨none, 0, 0, by rw [h0], by omega, by omega, fun h => by omega, fun i hi => by omega⟩
  · refine ⟨_, g, cap, rfl, hn, by unfold maxLen at hc; omega, fun _ => ⟨rfl, fun e => h.2.2.2 (by simp [Value.ownBlock, e])⟩, fun i hi => ?_⟩
    have cell : ∀ (c : Nat), c < 6 → w.cell? ⟨g, i * 6 + c, none⟩ = R[i].cs[c]? := fun c hc => by
      rw [World.ownsRow.cellAt h.2.2.1 _ (by omega), flat6_at R i c hi hc]
    exact ⟨cell 0 (by omega), cell 1 (by omega), cell 2 (by omega), cell 3 (by omega), cell 4 (by omega), cell 5 (by omega)⟩
set_option maxHeartbeats 4000000 in
set_option maxRecDepth 100000 in
theorem c_rtop (R : List En) (base p : Nat) (v : Value) (hl : R.length ≤ 1000) (W : World) (H : RefAt W base p v R) (hok : ∀ y ∈ R, y.ok) :
    Calls Try.prog 39 #[.pointer (some ⟨p, 0, none⟩)] W fun e w' => e = .returned (.int .i64 (topI R R.length)) ∧ Gr W w' := by
  obtain ⟨ad, g, cap, rfl, h1, h2, h3, h4⟩ := refAt_form H
  obtain ⟨p0, -⟩ := one_cell H.2.1
  obtain ⟨n, en⟩ : ∃ n, n = R.length := ⟨_, rfl⟩
  rw [← en] at p0 h1 hl h3 ⊢
  have HX := Lib.hid (And.intro h3 (And.intro h4 (And.intro hok en)))
  clear h3 h4 hok en H
  go_enter Try.func39, Try.ntmps39
  go_wp2_with fail
  go_loopg [3, 4] n (fun k x y wr => ∃ i : Nat, x = .int .i64 (topI R i) ∧ y = .int .i64 i ∧ i ≤ n ∧ k = n - i ∧ Gr W wr)
  case atStart => exact ⟨0, rfl, rfl, Nat.zero_le _, by omega, Below.refl _ _⟩
  case round =>
    obtain ⟨i, rfl, rfl, hi, hk, hg⟩ := hrel
    have c0 := cell_gr hg p0
    by_cases h : i < n
    · have ti : decide ((i : Int) < (n : Int)) = true := decide_eq_true (by omega)
      have ti2 : decide (i < n) = true := decide_eq_true h
      have ti3 : (i : Int) < (n : Int) := by omega
      obtain ⟨rfl, hpg⟩ := HX.out.1 (by omega)
      have hn := HX.out.2.2.2
      have hiR : i < R.length := by omega
      obtain ⟨k, ek⟩ : ∃ k, k = topI R i := ⟨_, rfl⟩
      have hkn : k < n := by
        rcases Nat.eq_zero_or_pos i with h0 | h0
        · subst h0; rw [ek]; simp [topI]; omega
        · have := topI_lt R i h0; omega
      have hkR : k < R.length := by omega
      obtain ⟨x1, ex1⟩ : ∃ x, x = R[i] := ⟨_, rfl⟩
      obtain ⟨x2, ex2⟩ : ∃ x, x = R[k] := ⟨_, rfl⟩
      have f1 := entAt_gr (HX.out.2.1 i hiR) hg
      have f2 := entAt_gr (HX.out.2.1 k hkR) hg
      rw [← ex1] at f1
      rw [← ex2] at f2
      obtain ⟨a0, a1, a2, a3, a4, a5⟩ := f1
      obtain ⟨b0, b1, b2, b3, b4, b5⟩ := f2
      have A1 := Lib.hid (fun w => c_rLessEntry x1 x2 (HX.out.2.2.1 x1 (by rw [ex1]; exact List.getElem_mem _)) (HX.out.2.2.1 x2 (by rw [ex2]; exact List.getElem_mem _)) w)
      have hstep : topI R (i + 1) = if ltE x1 x2 then i else k := by
        show (if ltE (R.getD i zeroEn) (R.getD (topI R i) zeroEn) then i else topI R i) = _
        rw [← ek, List.getD_eq_getElem?_getD, List.getD_eq_getElem?_getD, List.getElem?_eq_getElem hiR, List.getElem?_eq_getElem hkR, ex1, ex2]
        rfl
      have HS := Lib.hid hstep
      have s2 : (k : Int) < (n : Int) := by omega
      have s3 : decide ((k : Int) < (n : Int)) = true := decide_eq_true s2
      have hm : n - (i + 1) < gk := by omega
      have hi1 : i + 1 ≤ n := h
      rw [← ek]
      clear hstep ex1 ex2 ek hn hpg
      cases ht : ltE x1 x2 with
      | false =>
        rw [ht] at A1 HS
        clear ht
        go_wp2_with fail
        refine wp_region_spread (by kernel_rfl) (by kernel_rfl) ?_
        try simp only [List.append]
        repeat (first | go_big_quiet_skip | (go_big_quiet_want; go_big_quiet_op; (first | go_big_quiet_on | (apply Exists.intro; refine ⟨fun _ => ?_, ?_⟩; (· (first | (go_at_call 31; first | ((with_reducible refine ((A1.out _)).mono ?_); rintro e w' ⟨rfl, hg⟩; exact ⟨rfl, spread_gr hg⟩)))); go_big_quiet_on))))
        refine wpQuiet_nil ?_
        intro wr hr
        obtain ⟨mr, rfl⟩ := hr
        go_wp2_with fail
        go_roundg (n - (i + 1))
        case measure => exact hm
        case rel => exact ⟨i + 1, by rw [HS.out]; rfl, by go_num, hi1, rfl, Gr.trans hg (gr_spread _ _)⟩
      | true =>
        rw [ht] at A1 HS
        clear ht
        go_wp2_with fail
        refine wp_region_spread (by kernel_rfl) (by kernel_rfl) ?_
        try simp only [List.append]
        repeat (first | go_big_quiet_skip | (go_big_quiet_want; go_big_quiet_op; (first | go_big_quiet_on | (apply Exists.intro; refine ⟨fun _ => ?_, ?_⟩; (· (first | (go_at_call 31; first | ((with_reducible refine ((A1.out _)).mono ?_); rintro e w' ⟨rfl, hg⟩; exact ⟨rfl, spread_gr hg⟩)))); go_big_quiet_on))))
        refine wpQuiet_nil ?_
        intro wr hr
        obtain ⟨mr, rfl⟩ := hr
        go_wp2_with fail
        go_roundg (n - (i + 1))
        case measure => exact hm
        case rel => exact ⟨i + 1, by rw [HS.out]; rfl, by go_num, hi1, rfl, Gr.trans hg (gr_spread _ _)⟩
    · obtain rfl : i = n := by omega
      have ti : decide ((i : Int) < (i : Int)) = false := decide_eq_false (by omega)
      have ti2 : decide (i < i) = false := decide_eq_false (by omega)
      go_wp2_with fail
      go_ret
      exact ⟨rfl, hg⟩
end Go.Proofs.Ytldlpbfncgcimaa
