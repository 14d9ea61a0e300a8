/- slots: a page with whatever slots: refusal, fill, Insert -/
import Derived.Test.YtilijbplfobneaaDoorSc
namespace Go.Proofs.YtilijbplfobneaaDoor
set_option linter.unusedVariables false
set_option linter.unusedSimpArgs false
open Go.ChangeShapes Go.WideShapes Go.ChangeAt Go.RowKit

section
variable {B : Nat} {C : Option Nat} {kd id : Int} {S : List Sl}
theorem pageS_cell2 {w : World} {D : Nat} (h : PageS w B (some D) kd id S) (n : Nat) (hn : n < S.length) : (∃ b : Bool, w.cell? ⟨D, n * 2, none⟩ = some (.bool b)) ∧ (∃ a z c, w.cell? ⟨D, n * 2 + 1, none⟩ = some (.slice a z c)) ∧ w.frozen? ⟨D, n * 2, none⟩ = false ∧ w.frozen? ⟨D, n * 2 + 1, none⟩ = false ∧ D < w.heap.size := by
  obtain ⟨cap5, -, -, -, sD5, -, hcc⟩ := pageS_cellsD h
  obtain ⟨d0, ⟨dv, d1, dS⟩, y0, y1⟩ := hcc n hn
  obtain ⟨da, dc, rfl⟩ := slotC_val dS
  exact ⟨⟨_, d0⟩, ⟨_, _, _, d1⟩, y0, y1, sD5⟩
/-- Why bytes may not be in a slot. -/
def reS (S : List Sl) (n m : Nat) : Nat :=
  if 400 < m then 13 else if 60 ≤ n then 8 else if 512 + szO (S.getD n none) < usS S + m + (if n = S.length then 4 else 0) then 8 else 0
def reV (k : Nat) : Value := if k = 0 then .nilIface else .iface 76 (.int .i64 k)
theorem usS_le {w : World} (h : PageS w B C kd id S) : usS S ≤ 30000 ∧ 16 ≤ usS S := by
  have hZ := pageS_sz h
  obtain ⟨_, _, _, _, _, h4, _⟩ := h
  have := szT_le hZ S.length
  unfold usS
  omega
set_option maxRecDepth 100000 in
set_option maxHeartbeats 2000000 in
theorem p_refusal_core (n m us len z D : Nat) (sa ad : Option Addr) (scap cap : Nat) (hq has_ : Bool) (W : World) (p0 : W.cell? ⟨B, 0, none⟩ = some (.bool true)) (p3 : W.cell? ⟨B, 3, none⟩ = some (.slice sa len scap))
    (hn : n < 60) (hm : m ≤ 400) (hus : us ≤ 30000) (hz : z ≤ 400) (hlen : len ≤ 60) (hsc : len ≤ scap)
    (A1 : ∀ w, Gr W w → Calls Tryd.prog 55 #[.pointer (some ⟨B, 0, none⟩)] w fun e w' => e = .returned (.bool false) ∧ Gr w w')
    (A2 : ∀ w, Gr W w → Calls Tryd.prog 49 #[.pointer (some ⟨B, 0, none⟩), .int .i64 n] w fun e w' => e = .returned (.bool has_) ∧ Gr w w')
    (A3 : ∀ w, Gr W w → Calls Tryd.prog 77 #[.pointer (some ⟨B, 0, none⟩)] w fun e w' => e = .returned (.int .i64 us) ∧ Gr w w')
    (hh : has_ = true → n < len ∧ sa = some ⟨D, 0, none⟩ ∧ (∃ x : Bool, W.cell? ⟨D, n * 2, none⟩ = some (.bool x)) ∧ ∃ a c, W.cell? ⟨D, n * 2 + 1, none⟩ = some (.slice a z c))
    (hz0 : has_ = false → z = 0) (hq2 : hq = decide (512 + z < us + m + (if n = len then 4 else 0))) :
    Calls Tryd.prog 46 #[.pointer (some ⟨B, 0, none⟩), .int .i64 n, .slice ad m cap] W fun e w' => e = .returned ((if hq = true then .iface 76 (.int .i64 8) else .nilIface)) ∧ Gr W w' := by
  have hB := World.block_lt_of_cell? _ _ p0
  have t1 : decide ((400 : Int) < (m : Int)) = false := decide_eq_false (by omega)
  have t2 : decide (400 < m) = false := decide_eq_false (by omega)
  have t3 : decide ((60 : Int) ≤ (n : Int)) = false := decide_eq_false (by omega)
  have t4 : decide (60 ≤ n) = false := decide_eq_false (by omega)
  have t5 : ¬ (60 : Int) ≤ (n : Int) := by omega
  have HH := Lib.hid hh
  have HZ := Lib.hid hz0
  have HQ := Lib.hid hq2
  have H1 := Lib.hid A1
  have H2 := Lib.hid A2
  have H3 := Lib.hid A3
  clear A1 A2 A3
  have HP := Lib.hid (And.intro p0 p3)
  clear hh hz0 hq2 p0 p3
  cases has_ with
  | true =>
    obtain ⟨hl, rfl, ⟨x, k0⟩, a, c, k1⟩ := HH.out rfl
    have u1 : (n : Int) < (len : Int) := by omega
    have u2 : (n : Int) < (scap : Int) := by omega
    have u3 : n ≠ len := by omega
    have e1 : wrap64 ((m : Int) - (z : Int)) = (m : Int) - z := wr_small (by omega)
    have e2 : IntKind.i64.wrap ((m : Int) - (z : Int)) = (m : Int) - z := wk_small (by omega)
    have e3 : wrap64 ((us : Int) + ((m : Int) - (z : Int))) = (us : Int) + (m - z) := wr_small (by omega)
    have e4 : IntKind.i64.wrap ((us : Int) + ((m : Int) - (z : Int))) = (us : Int) + (m - z) := wk_small (by omega)
    have HK := Lib.hid (And.intro k0 k1)
    clear k0 k1
    by_cases hb : 512 + z < us + m
    · obtain rfl : hq = true := by rw [HQ.out, if_neg u3]; exact decide_eq_true (by omega)
      have v1 : decide ((512 : Int) < (us : Int) + ((m : Int) - (z : Int))) = true := decide_eq_true (by omega)
      have v2 : (512 : Int) < (us : Int) + ((m : Int) - (z : Int)) := by omega
      rw [if_pos rfl]
      obtain ⟨p0, p3⟩ := HP.out
      go_enter Tryd.func46, Tryd.ntmps46
      go_wp2_with fail
      go_at_call 55
      refine ((H1.out _ (by go_grown))).mono ?_
      rintro e w1 ⟨rfl, hw1⟩
      have gw1 : Gr W w1 := Gr.trans (by go_grown) hw1
      clear hw1
      go_wp2_with fail
      go_at_call 49
      refine ((H2.out _ (by have gg := gw1; have gs := gg.size; go_grown))).mono ?_
      rintro e w2 ⟨rfl, hw2⟩
      have gw2 : Gr W w2 := Gr.trans (by have gg := gw1; have gs := gg.size; go_grown) hw2
      clear hw2 gw1
      have c3 := cell_gr gw2 HP.out.2
      have k0 := cell_gr gw2 HK.out.1
      have k1 := cell_gr gw2 HK.out.2
      go_wp2_with fail
      go_at_call 77
      refine ((H3.out _ (by have gg := gw2; have gs := gg.size; go_grown))).mono ?_
      rintro e w3 ⟨rfl, hw3⟩
      have gw3 : Gr W w3 := Gr.trans (by have gg := gw2; have gs := gg.size; go_grown) hw3
      clear hw3 gw2
      go_wp2_with fail
      go_ret
      exact ⟨rfl, gw3⟩
    · obtain rfl : hq = false := by rw [HQ.out, if_neg u3]; exact decide_eq_false (by omega)
      have v1 : decide ((512 : Int) < (us : Int) + ((m : Int) - (z : Int))) = false := decide_eq_false (by omega)
      have v2 : ¬ (512 : Int) < (us : Int) + ((m : Int) - (z : Int)) := by omega
      rw [if_neg (by simp)]
      obtain ⟨p0, p3⟩ := HP.out
      go_enter Tryd.func46, Tryd.ntmps46
      go_wp2_with fail
      go_at_call 55
      refine ((H1.out _ (by go_grown))).mono ?_
      rintro e w1 ⟨rfl, hw1⟩
      have gw1 : Gr W w1 := Gr.trans (by go_grown) hw1
      clear hw1
      go_wp2_with fail
      go_at_call 49
      refine ((H2.out _ (by have gg := gw1; have gs := gg.size; go_grown))).mono ?_
      rintro e w2 ⟨rfl, hw2⟩
      have gw2 : Gr W w2 := Gr.trans (by have gg := gw1; have gs := gg.size; go_grown) hw2
      clear hw2 gw1
      have c3 := cell_gr gw2 HP.out.2
      have k0 := cell_gr gw2 HK.out.1
      have k1 := cell_gr gw2 HK.out.2
      go_wp2_with fail
      go_at_call 77
      refine ((H3.out _ (by have gg := gw2; have gs := gg.size; go_grown))).mono ?_
      rintro e w3 ⟨rfl, hw3⟩
      have gw3 : Gr W w3 := Gr.trans (by have gg := gw2; have gs := gg.size; go_grown) hw3
      clear hw3 gw2
      go_wp2_with fail
      go_ret
      exact ⟨rfl, gw3⟩
  | false =>
    obtain rfl := HZ.out rfl
    by_cases u3 : n = len
    · subst u3
      have u4 : ((n : Int) == (n : Int)) = true := by simp
      have e1 : wrap64 ((m : Int) + 4) = (m : Int) + 4 := wr_small (by omega)
      have e2 : IntKind.i64.wrap ((m : Int) + 4) = (m : Int) + 4 := wk_small (by omega)
      have e3 : wrap64 ((us : Int) + ((m : Int) + 4)) = (us : Int) + (m + 4) := wr_small (by omega)
      have e4 : IntKind.i64.wrap ((us : Int) + ((m : Int) + 4)) = (us : Int) + (m + 4) := wk_small (by omega)
      by_cases hb : 512 < us + m + 4
      · obtain rfl : hq = true := by rw [HQ.out, if_pos rfl]; exact decide_eq_true (by omega)
        have v1 : decide ((512 : Int) < (us : Int) + ((m : Int) + 4)) = true := decide_eq_true (by omega)
        have v2 : (512 : Int) < (us : Int) + ((m : Int) + 4) := by omega
        rw [if_pos rfl]
        obtain ⟨p0, p3⟩ := HP.out
        go_enter Tryd.func46, Tryd.ntmps46
        go_wp2_with fail
        go_at_call 55
        refine ((H1.out _ (by go_grown))).mono ?_
        rintro e w1 ⟨rfl, hw1⟩
        have gw1 : Gr W w1 := Gr.trans (by go_grown) hw1
        clear hw1
        go_wp2_with fail
        go_at_call 49
        refine ((H2.out _ (by have gg := gw1; have gs := gg.size; go_grown))).mono ?_
        rintro e w2 ⟨rfl, hw2⟩
        have gw2 : Gr W w2 := Gr.trans (by have gg := gw1; have gs := gg.size; go_grown) hw2
        clear hw2 gw1
        have c3 := cell_gr gw2 HP.out.2
        go_wp2_with fail
        go_at_call 77
        refine ((H3.out _ (by have gg := gw2; have gs := gg.size; go_grown))).mono ?_
        rintro e w3 ⟨rfl, hw3⟩
        have gw3 : Gr W w3 := Gr.trans (by have gg := gw2; have gs := gg.size; go_grown) hw3
        clear hw3 gw2
        go_wp2_with fail
        go_ret
        exact ⟨rfl, gw3⟩
      · obtain rfl : hq = false := by rw [HQ.out, if_pos rfl]; exact decide_eq_false (by omega)
        have v1 : decide ((512 : Int) < (us : Int) + ((m : Int) + 4)) = false := decide_eq_false (by omega)
        have v2 : ¬ (512 : Int) < (us : Int) + ((m : Int) + 4) := by omega
        rw [if_neg (by simp)]
        obtain ⟨p0, p3⟩ := HP.out
        go_enter Tryd.func46, Tryd.ntmps46
        go_wp2_with fail
        go_at_call 55
        refine ((H1.out _ (by go_grown))).mono ?_
        rintro e w1 ⟨rfl, hw1⟩
        have gw1 : Gr W w1 := Gr.trans (by go_grown) hw1
        clear hw1
        go_wp2_with fail
        go_at_call 49
        refine ((H2.out _ (by have gg := gw1; have gs := gg.size; go_grown))).mono ?_
        rintro e w2 ⟨rfl, hw2⟩
        have gw2 : Gr W w2 := Gr.trans (by have gg := gw1; have gs := gg.size; go_grown) hw2
        clear hw2 gw1
        have c3 := cell_gr gw2 HP.out.2
        go_wp2_with fail
        go_at_call 77
        refine ((H3.out _ (by have gg := gw2; have gs := gg.size; go_grown))).mono ?_
        rintro e w3 ⟨rfl, hw3⟩
        have gw3 : Gr W w3 := Gr.trans (by have gg := gw2; have gs := gg.size; go_grown) hw3
        clear hw3 gw2
        go_wp2_with fail
        go_ret
        exact ⟨rfl, gw3⟩
    · have u4 : ((n : Int) == (len : Int)) = false := by simp; omega
      have u5 : (n == len) = false := by simp; omega
      have e3 : wrap64 ((us : Int) + (m : Int)) = (us : Int) + m := wr_small (by omega)
      have e4 : IntKind.i64.wrap ((us : Int) + (m : Int)) = (us : Int) + m := wk_small (by omega)
      by_cases hb : 512 < us + m
      · obtain rfl : hq = true := by rw [HQ.out, if_neg u3]; exact decide_eq_true (by omega)
        have v1 : decide ((512 : Int) < (us : Int) + (m : Int)) = true := decide_eq_true (by omega)
        have v2 : (512 : Int) < (us : Int) + (m : Int) := by omega
        rw [if_pos rfl]
        obtain ⟨p0, p3⟩ := HP.out
        go_enter Tryd.func46, Tryd.ntmps46
        go_wp2_with fail
        go_at_call 55
        refine ((H1.out _ (by go_grown))).mono ?_
        rintro e w1 ⟨rfl, hw1⟩
        have gw1 : Gr W w1 := Gr.trans (by go_grown) hw1
        clear hw1
        go_wp2_with fail
        go_at_call 49
        refine ((H2.out _ (by have gg := gw1; have gs := gg.size; go_grown))).mono ?_
        rintro e w2 ⟨rfl, hw2⟩
        have gw2 : Gr W w2 := Gr.trans (by have gg := gw1; have gs := gg.size; go_grown) hw2
        clear hw2 gw1
        have c3 := cell_gr gw2 HP.out.2
        go_wp2_with fail
        go_at_call 77
        refine ((H3.out _ (by have gg := gw2; have gs := gg.size; go_grown))).mono ?_
        rintro e w3 ⟨rfl, hw3⟩
        have gw3 : Gr W w3 := Gr.trans (by have gg := gw2; have gs := gg.size; go_grown) hw3
        clear hw3 gw2
        go_wp2_with fail
        go_ret
        exact ⟨rfl, gw3⟩
      · obtain rfl : hq = false := by rw [HQ.out, if_neg u3]; exact decide_eq_false (by omega)
        have v1 : decide ((512 : Int) < (us : Int) + (m : Int)) = false := decide_eq_false (by omega)
        have v2 : ¬ (512 : Int) < (us : Int) + (m : Int) := by omega
        rw [if_neg (by simp)]
        obtain ⟨p0, p3⟩ := HP.out
        go_enter Tryd.func46, Tryd.ntmps46
        go_wp2_with fail
        go_at_call 55
        refine ((H1.out _ (by go_grown))).mono ?_
        rintro e w1 ⟨rfl, hw1⟩
        have gw1 : Gr W w1 := Gr.trans (by go_grown) hw1
        clear hw1
        go_wp2_with fail
        go_at_call 49
        refine ((H2.out _ (by have gg := gw1; have gs := gg.size; go_grown))).mono ?_
        rintro e w2 ⟨rfl, hw2⟩
        have gw2 : Gr W w2 := Gr.trans (by have gg := gw1; have gs := gg.size; go_grown) hw2
        clear hw2 gw1
        have c3 := cell_gr gw2 HP.out.2
        go_wp2_with fail
        go_at_call 77
        refine ((H3.out _ (by have gg := gw2; have gs := gg.size; go_grown))).mono ?_
        rintro e w3 ⟨rfl, hw3⟩
        have gw3 : Gr W w3 := Gr.trans (by have gg := gw2; have gs := gg.size; go_grown) hw3
        clear hw3 gw2
        go_wp2_with fail
        go_ret
        exact ⟨rfl, gw3⟩
theorem p_refusalS (n m : Nat) (ad : Option Addr) (cap : Nat) (W : World) (h : PageS W B C kd id S) : Calls Tryd.prog 46 #[.pointer (some ⟨B, 0, none⟩), .int .i64 n, .slice ad m cap] W fun e w' => e = .returned ((reV (reS S n m))) ∧ Gr W w' := by
  have hus := usS_le h
  have hZ := pageS_sz h
  have A2 := fun w (G : Gr W w) => p_hasS (n : Int) w (pageS_gr h G)
  have A3 := fun w (G : Gr W w) => p_usedS w (pageS_gr h G)
  obtain ⟨D, sa, scap, hp, had, hn, hcap, hcap2, hc⟩ := pageS_cells h
  have A1 := fun w (G : Gr W w) => p_none w (pageAt_gr hp G)
  obtain ⟨p0, p1, p2, p3, f3⟩ := hp
  have hB := World.block_lt_of_cell? _ _ p0
  by_cases h4 : 400 < m
  · have e : reS S n m = 13 := by unfold reS; rw [if_pos h4]
    rw [e]
    have t1 : decide ((400 : Int) < (m : Int)) = true := decide_eq_true (by omega)
    have t2 : decide (400 < m) = true := decide_eq_true h4
    clear hc h A1 A2 A3
    go_enter Tryd.func46, Tryd.ntmps46
    go_wp2_with fail
    go_ret
    exact ⟨rfl, by go_grown⟩
  · by_cases h6 : 60 ≤ n
    · have e : reS S n m = 8 := by unfold reS; rw [if_neg h4, if_pos h6]
      rw [e]
      have t1 : decide ((400 : Int) < (m : Int)) = false := decide_eq_false (by omega)
      have t2 : decide (400 < m) = false := decide_eq_false (by omega)
      have t3 : decide ((60 : Int) ≤ (n : Int)) = true := decide_eq_true (by omega)
      have t4 : decide (60 ≤ n) = true := decide_eq_true h6
      have t5 : (60 : Int) ≤ (n : Int) := by omega
      have H1 := Lib.hid A1
      clear A1
      clear hc h A2 A3
      go_enter Tryd.func46, Tryd.ntmps46
      go_wp2_with fail
      go_at_call 55
      refine ((H1.out _ (by go_grown))).mono ?_
      rintro e w1 ⟨rfl, hw1⟩
      have gw1 : Gr W w1 := Gr.trans (by go_grown) hw1
      clear hw1
      go_wp2_with fail
      go_ret
      exact ⟨rfl, gw1⟩
    · rw [hasS_nat] at A2
      have K := p_refusal_core (B := B) n m (usS S) S.length (szO (S.getD n none)) D sa ad scap cap (decide (512 + szO (S.getD n none) < usS S + m + (if n = S.length then 4 else 0))) (S.getD n none).isSome W p0 p3 (by omega) (by omega) hus.1 (hZ n) hn hcap A1 A2 A3
        (fun hs => by
          have hl : n < S.length := by
            rcases Nat.lt_or_ge n S.length with h | h
            · exact h
            · rw [getD_ge S h] at hs; cases hs
          obtain ⟨e1, v, e2, e3⟩ := hc n hl
          obtain ⟨a, c, rfl⟩ := slotC_val e3
          rw [getD_lt S hl]
          exact ⟨hl, had (by omega), ⟨_, e1⟩, a, c, e2⟩)
        (fun hs => by
          cases e : S.getD n none with
          | none => rfl
          | some L => rw [e] at hs; cases hs) rfl
      refine K.mono ?_
      rintro e w' ⟨rfl, g⟩
      refine ⟨?_, g⟩
      unfold reS reV
      rw [if_neg h4, if_neg h6]
      by_cases hb : 512 + szO (S.getD n none) < usS S + m + (if n = S.length then 4 else 0)
      · rw [decide_eq_true hb, if_pos hb]; rfl
      · rw [decide_eq_false hb, if_neg hb]; rfl
end
end Go.Proofs.YtilijbplfobneaaDoor
