/- What RelZero leans on: Ih Ij Ii Uq -/
import Derived.Test.YtfobmlgpjhghdaaGreatDoorCRelZero41
import Derived.Test.YtfobmlgpjhghdaaGreatDoorCRelZero42
namespace Go.Proofs.YtfobmlgpjhghdaaGreatDoor
set_option linter.unusedVariables false
set_option linter.unusedSimpArgs false
open Go.ChangeShapes Go.WideShapes Go.ChangeAt Go.RowKit
def maD (k : Int) (n : Nat) (X Y : Nat → Int) (kq qlx qly qhx qhy : Int) (m : Nat) (P Q : Nat → Int) : Bool :=
  if kq = 1 then mbD k n X Y qlx qly qhx qhy else if kq = 2 then inV (bLx k n X) (bLy k n Y) (bHx k n X Y) (bHy k n Y) qlx qly qhx qhy
  else if kq = 3 then mbD k n X Y qlx qly qlx qly else if k = 4 then rgD n X Y m P Q else rmD m P Q (X 0) (oLy k Y) (oHx k X Y) (oHy k Y)
section
variable {k kq qlx qly qhx qhy : Int} {n m cap bcap : Nat} {ad bd : Option Addr}
section
variable (m1 m2 m3 m4 : Int) (z : Bool) (W : World)
    (A1 : ∀ w, Gr W w → Calls Tryz.prog 11 #[.agg #[.int .i64 k, .slice ad n cap]] w fun e w' => e = .returned (.tuple #[.agg #[.int .i64 m1, .int .i64 m2, .int .i64 m3, .int .i64 m4], .int .i64 0]) ∧ Gr w w')
    (A2 : ∀ w, Gr W w → Calls Tryz.prog 31 #[qryV kq qlx qly qhx qhy (.slice bd m bcap)] w fun e w' => e = .returned (.int .i64 0) ∧ Gr w w')
include A1 A2
end
end
theorem bx_ok {k : Int} {n : Nat} {X Y : Nat → Int} (hc : objC k n X Y = 0) : boxB (bLx k n X) (bLy k n Y) (bHx k n X Y) (bHy k n Y) = true := by
  unfold bLx bLy bHx bHy
  by_cases k4 : k = 4
  · simp only [if_pos k4]
    subst k4
    rw [objC_4] at hc
    exact ring_box hc
  · simp only [if_neg k4]
    exact boxN_0.1 (obj_box hc k4).2.2
theorem pt_box {a b : Int} (h : nearB a b = true) : boxB a b a b = true := by
  rw [boxB_iff]; exact ⟨⟨h, h⟩, Int.le_refl _, Int.le_refl _⟩
theorem ma_doc {k : Int} {n : Nat} {X Y : Nat → Int} {kq qlx qly qhx qhy : Int} {m : Nat} {P Q : Nat → Int} (hc : objC k n X Y = 0) (hd : qC kq qlx qly qhx qhy m P Q = 0) : maA k n X Y kq qlx qly qhx qhy m P Q = maD k n X Y kq qlx qly qhx qhy m P Q := by
  have qc := qC_cases hd
  have bo := bx_ok hc
  unfold maA maD mbD
  by_cases k4 : k = 4
  · simp only [if_pos k4]
    unfold bLx bLy bHx bHy
    simp only [if_pos k4]
    subst k4
    rw [objC_4] at hc
    unfold mpV
    rcases qc with ⟨e, hb⟩ | ⟨e, hb⟩ | ⟨e, hb⟩ | ⟨e, hb⟩
    · subst e; simp only [if_pos]; exact rm_doc hc hb
    · subst e; rfl
    · subst e; exact rm_doc hc (pt_box hb)
    · subst e; exact rg_doc hc hb
  · simp only [if_neg k4]
    unfold bLx bLy bHx bHy at bo ⊢
    simp only [if_neg k4] at bo ⊢
    unfold msV
    rcases qc with ⟨e, hb⟩ | ⟨e, hb⟩ | ⟨e, hb⟩ | ⟨e, hb⟩
    · subst e; rfl
    · subst e; rfl
    · subst e; rfl
    · subst e; exact rm_doc hb bo
end Go.Proofs.YtfobmlgpjhghdaaGreatDoor
namespace Go.Proofs.YtfobmlgpjhghdaaGreatDoor
set_option linter.unusedVariables false
set_option linter.unusedSimpArgs false
open Go.ChangeShapes Go.WideShapes Go.ChangeAt Go.RowKit
theorem c_rcmpP (s d : Nat × Nat) (h : Fit3 s) (k : Fit3 d) (w : World) : Calls Tryz.prog 29 #[dV d, dV s] w fun e w' => e = .returned (.int .i64 (cmpD d.1 d.2 s.1 s.2)) ∧ Gr w w' := by
  have hs := val_split s.1 h.1
  have hd := val_split d.1 k.1
  have C := c_rCompareDist (d.1 / 18446744073709551616) (d.1 % 18446744073709551616) d.2 (s.1 / 18446744073709551616) (s.1 % 18446744073709551616) s.2 hd.2.1 hd.2.2 k.2 hs.2.1 hs.2.2 h.2 w
  rw [hs.1, hd.1] at C
  exact C
theorem faW_fit (n : Nat) (X Y : Nat → Int) (px py : Int) : ∀ k, Fit3 (faW n X Y px py (List.range k)) := by
  intro k
  induction k with
  | zero => exact ⟨by show (0 : Nat) < _; decide, by show (0 : Nat) < _; decide⟩
  | succ k ih =>
    rw [List.range_succ, faW_snoc]
    exact faS_fit ih (sdG_fit _ _ _ _ _ _)
end Go.Proofs.YtfobmlgpjhghdaaGreatDoor
namespace Go.Proofs.YtfobmlgpjhghdaaGreatDoor
set_option linter.unusedVariables false
set_option linter.unusedSimpArgs false
open Go.ChangeShapes Go.WideShapes Go.ChangeAt Go.RowKit
def tcD (k : Int) (n : Nat) (X Y : Nat → Int) (j : Int) (m : Nat) (P Q : Nat → Int) : Bool :=
  if k = 4 then (if j = 4 then rgD n X Y m P Q else rmD n X Y (P 0) (oLy j Q) (oHx j P Q) (oHy j Q))
  else (if j = 4 then rmD m P Q (X 0) (oLy k Y) (oHx k X Y) (oHy k Y) else meV (X 0) (oLy k Y) (oHx k X Y) (oHy k Y) (P 0) (oLy j Q) (oHx j P Q) (oHy j Q))
section
variable {k j : Int} {n m : Nat} {X Y P Q : Nat → Int} {v u : Value}
theorem tc_doc (hc : objC k n X Y = 0) (hd : objC j m P Q = 0) : tcA k n X Y j m P Q = tcD k n X Y j m P Q := by
  have bo := bx_ok hc
  have bp := bx_ok hd
  unfold bLx bLy bHx bHy at bo bp
  unfold tcA tcD
  by_cases k4 : k = 4 <;> by_cases j4 : j = 4
  · subst k4 j4
    rw [objC_4] at hc hd
    simp only [if_pos]
    exact rg_doc hc hd
  · subst k4
    rw [objC_4] at hc
    simp only [if_neg j4] at bp
    simp only [if_pos, if_neg j4]
    exact rm_doc hc bp
  · subst j4
    rw [objC_4] at hd
    simp only [if_neg k4] at bo
    simp only [if_pos, if_neg k4]
    exact rm_doc hd bo
  · simp only [if_neg k4, if_neg j4]
end
section
variable {k j : Int} {n m : Nat} {X Y P Q : Nat → Int} {v u : Value}
set_option maxHeartbeats 4000000 in
set_option maxRecDepth 100000 in
theorem c_slEq (r : Bool) (W : World) (hu : Pts W u n X Y) (hv : Pts W v m P Q) (hn : n ≤ 1000000) (hr : r = true ↔ (n = m ∧ ∀ i, i < n → X i = P i ∧ Y i = Q i)) :
    Calls Tryz.prog 50 #[u, v] W fun e w' => e = .returned (.bool r) ∧ Gr W w' := by
  obtain ⟨ad, cap, B, off, rfl, a1, a2, a3, a4⟩ := hu
  obtain ⟨bd, cbp, C, oc, rfl, b1, b2, b3, b4⟩ := hv
  by_cases h : n = m
  · subst h
    have H3 := Lib.hid (And.intro a3 b3)
    have H4 := Lib.hid (And.intro a4 b4)
    have HR := Lib.hid hr
    have hn9 : (n : Int) ≤ 1000000 := by omega
    clear a3 a4 b3 b4 hr
    go_enter Tryz.func50, Tryz.ntmps50
    go_wp2_with fail
    go_loopg [13] n (fun k u wr => ∃ i : Nat, u = .int .i64 i ∧ i ≤ n ∧ k = n - i ∧ Hid (∀ j, j < i → X j = P j ∧ Y j = Q j) ∧ Gr W wr)
    case atStart => exact ⟨0, rfl, Nat.zero_le _, by omega, Lib.hid (fun j hj => absurd hj (by omega)), by go_grown⟩
    case round =>
      obtain ⟨i, rfl, hi, hk, hE, gwr⟩ := hrel
      by_cases hlt : i < n
      · have ti : decide ((i : Int) < (n : Int)) = true := decide_eq_true (by omega)
        have ti2 : decide (i < n) = true := decide_eq_true hlt
        have ti3 : (i : Int) < (n : Int) := by omega
        have hii : (i : Int) ≤ 1000000 := by omega
        have hmm : n - (i + 1) < gk := by omega
        obtain ⟨k0, k1⟩ := H4.out.1 i hlt
        obtain ⟨m0, m1⟩ := H4.out.2 i hlt
        obtain rfl := H3.out.1 (by omega)
        obtain rfl := H3.out.2 (by omega)
        have s0 := cell_gr gwr k0
        have s1 := cell_gr gwr k1
        have r0 := cell_gr gwr m0
        have r1 := cell_gr gwr m1
        have zB := zb s0
        have zC := zb r0
        have E := nePt (X i) (Y i) (P i) (Q i)
        by_cases c : X i = P i ∧ Y i = Q i
        · have hE2 : Hid (∀ j, j < i + 1 → X j = P j ∧ Y j = Q j) := Lib.hid (fun j hj => by
            rcases Nat.lt_or_ge j i with q | q
            · exact hE.out j q
            · obtain rfl : j = i := by omega
              exact c)
          rw [decide_eq_true c.1, decide_eq_true c.2] at E
          generalize X i = x at *
          generalize Y i = y at *
          generalize P i = p at *
          generalize Q i = q at *
          have HE := Lib.hid c
          clear k0 k1 m0 m1 hk c hE
          go_wp2_with fail
          refine wp_region_spread (by kernel_rfl) (by kernel_rfl) ?_
          try simp only [List.append]
          repeat (first | go_big_quiet_skip | (go_big_quiet_want; go_big_quiet_op; (first | go_big_quiet_on | (apply Exists.intro; refine ⟨fun _ => ?_, ?_⟩; (· fail); go_big_quiet_on))))
          refine wpQuiet_nil ?_
          intro w1 hhw1
          have hw1 := Hd.gr_of_spread hhw1
          have gw1 : Gr W w1 := Gr.trans (by have gg := gwr; have gs := gg.size; go_grown) hw1
          clear hw1 hhw1 gwr
          go_wp2_with fail
          go_roundg (n - (i + 1))
          case measure => exact hmm
          case rel => exact ⟨i + 1, by go_num, hlt, rfl, hE2, gw1⟩
        · obtain rfl : r = false := by
            cases r
            · rfl
            · exact absurd ((HR.out.1 rfl).2 i hlt) c
          have E2 : (!(decide (X i = P i) && decide (Y i = Q i))) = true := by
            rw [← Bool.decide_and, decide_eq_false c]; rfl
          rw [E2] at E
          generalize X i = x at *
          generalize Y i = y at *
          generalize P i = p at *
          generalize Q i = q at *
          clear k0 k1 m0 m1 hk c E2 hE
          go_wp2_with fail
          refine wp_region_spread (by kernel_rfl) (by kernel_rfl) ?_
          try simp only [List.append]
          repeat (first | go_big_quiet_skip | (go_big_quiet_want; go_big_quiet_op; (first | go_big_quiet_on | (apply Exists.intro; refine ⟨fun _ => ?_, ?_⟩; (· fail); go_big_quiet_on))))
          refine wpQuiet_nil ?_
          intro w1 hhw1
          have hw1 := Hd.gr_of_spread hhw1
          have gw1 : Gr W w1 := Gr.trans (by have gg := gwr; have gs := gg.size; go_grown) hw1
          clear hw1 hhw1 gwr
          go_wp2_with fail
          go_ret
          exact ⟨rfl, gw1⟩
      · obtain rfl : i = n := by omega
        obtain rfl : r = true := HR.out.2 ⟨trivial, hE.out⟩
        have ti : decide ((i : Int) < (i : Int)) = false := decide_eq_false (by omega)
        have ti2 : decide (i < i) = false := decide_eq_false (by omega)
        clear hk hE
        go_wp2_with fail
        go_ret
        exact ⟨rfl, gwr⟩
  · obtain rfl : r = false := by
      cases r
      · rfl
      · exact absurd (hr.1 rfl).1 h
    have t1 : ((n : Int) != (m : Int)) = true := by simp; omega
    have t2 : (n != m) = true := by simp; omega
    clear a3 a4 b3 b4 hr h
    go_enter Tryz.func50, Tryz.ntmps50
    go_wp2_with fail
    go_ret
    exact ⟨rfl, by go_grown⟩
set_option maxHeartbeats 4000000 in
set_option maxRecDepth 100000 in
theorem c_Same (r : Bool) (W : World) (hu : Pts W u n X Y) (hv : Pts W v m P Q) (hn : n ≤ 1000000) (hr : r = true ↔ (k = j ∧ n = m ∧ ∀ i, i < n → X i = P i ∧ Y i = Q i)) :
    Calls Tryz.prog 19 #[.agg #[.int .i64 k, u], .agg #[.int .i64 j, v]] W fun e w' => e = .returned (.bool r) ∧ Gr W w' := by
  by_cases h : k = j
  · subst h
    have A1 : ∀ w, Gr W w → _ := fun w g => c_slEq r w (pts_gr hu g) (pts_gr hv g) hn (by rw [hr]; simp)
    have t1 : (k == k) = true := by simp
    obtain ⟨ad, cap, _, _, rfl, _⟩ := hu
    obtain ⟨bd, cbp, _, _, rfl, _⟩ := hv
    have H1 := Lib.hid A1
    clear A1
    clear hr
    go_enter Tryz.func19, Tryz.ntmps19
    go_wp2_with fail
    go_at_call 50
    refine ((H1.out _ (by go_grown))).mono ?_
    rintro e w1 ⟨rfl, hw1⟩
    have gw1 : Gr W w1 := Gr.trans (by go_grown) hw1
    clear hw1
    go_wp2_with fail
    go_ret
    exact ⟨rfl, gw1⟩
  · obtain rfl : r = false := by
      cases r
      · rfl
      · exact absurd (hr.1 rfl).1 h
    have t1 : (k == j) = false := by simp; omega
    obtain ⟨ad, cap, _, _, rfl, _⟩ := hu
    obtain ⟨bd, cbp, _, _, rfl, _⟩ := hv
    clear hr h
    go_enter Tryz.func19, Tryz.ntmps19
    go_wp2_with fail
    go_ret
    exact ⟨rfl, by go_grown⟩
end
end Go.Proofs.YtfobmlgpjhghdaaGreatDoor
namespace Go.Proofs.YtfobmlgpjhghdaaGreatDoor
set_option linter.unusedVariables false
set_option linter.unusedSimpArgs false
open Go.ChangeShapes Go.WideShapes Go.ChangeAt Go.RowKit
theorem objC_near6 {k : Int} {n : Nat} {X Y : Nat → Int} (h : objC k n X Y = 0) : 1 ≤ k ∧ k ≤ 4 ∧ n ≤ 64 ∧ 1 ≤ n ∧ ∀ i, i < n → nearB (X i) (Y i) = true := by
  have hb : ∀ a b c d, boxN a b c d = 0 → nearB a b = true ∧ nearB c d = true := fun a b c d hh => by
    unfold boxN at hh
    split at hh
    · rename_i h1; simpa using h1
    · cases hh
  by_cases h4 : k = 4
  · subst h4
    rw [objC_4] at h
    obtain ⟨q1, q2, _, _⟩ := Rg.ringC_ok h
    exact ⟨by omega, by omega, by omega, by omega, q2⟩
  by_cases h3 : k = 3
  · subst h3
    rw [objC_3] at h
    by_cases hn : n = 2
    · rw [if_pos hn] at h
      obtain ⟨q1, q2⟩ := hb _ _ _ _ h
      refine ⟨by omega, by omega, by omega, by omega, fun i hi => ?_⟩
      rcases (by omega : i = 0 ∨ i = 1) with rfl | rfl
      · exact q1
      · exact q2
    · rw [if_neg hn] at h; cases h
  by_cases h1 : k = 1
  · subst h1
    rw [objC_1] at h
    by_cases hn : n = 1
    · rw [if_pos hn] at h
      refine ⟨by omega, by omega, by omega, by omega, fun i hi => ?_⟩
      obtain rfl : i = 0 := by omega
      exact (hb _ _ _ _ h).1
    · rw [if_neg hn] at h; cases h
  by_cases h2 : k = 2
  · subst h2
    rw [objC_2] at h
    by_cases hn : n = 1
    · rw [if_pos hn] at h
      refine ⟨by omega, by omega, by omega, by omega, fun i hi => ?_⟩
      obtain rfl : i = 0 := by omega
      have := hb _ _ _ _ h
      rw [nearB_iff, nearB_iff] at this
      rw [nearB_iff]
      omega
    · rw [if_neg hn] at h; cases h
  rw [objC_x h4 h3 h1 h2] at h
  cases h
set_option maxRecDepth 100000 in
theorem c_May6 (k : Int) {n : Nat} {X Y : Nat → Int} {v : Value} (W : World) (h : Pts W v n X Y) : Calls Tryz.prog 23 #[.agg #[.int .i64 k, v]] W fun e w' => e = .returned (.bool (decide (objC k n X Y = 0))) ∧ Gr W w' := by
  have A1 : ∀ w, Gr W w → Calls Tryz.prog 33 #[.agg #[.int .i64 k, v]] w fun e w' => e = .returned (.int .i64 (objC k n X Y : Nat)) ∧ Gr w w' := fun w g => c_rCheck k w (pts_gr h g)
  have hn : objC k n X Y = 0 → n ≤ 64 := fun e => (objC_near6 e).2.2.1
  generalize objC k n X Y = c at A1 hn ⊢
  obtain ⟨ad, cap, _, _, rfl, -⟩ := h
  by_cases h64 : n ≤ 64
  · have t1 : decide ((n : Int) ≤ (64 : Int)) = true := decide_eq_true (by omega)
    have t2 : decide (n ≤ 64) = true := decide_eq_true h64
    have H1 := Lib.hid A1
    clear A1
    by_cases hc : c = 0
    · subst hc
      rw [decide_eq_true rfl]
      clear hn h64
      go_enter Tryz.func23, Tryz.ntmps23
      go_wp2_with fail
      go_at_call 33
      refine ((H1.out _ (by go_grown))).mono ?_
      rintro e w1 ⟨rfl, hw1⟩
      have gw1 : Gr W w1 := Gr.trans (by go_grown) hw1
      clear hw1
      go_wp2_with fail
      go_ret
      exact ⟨rfl, gw1⟩
    · rw [decide_eq_false hc]
      have e1 : ((c : Int) == 0) = false := by simp; omega
      have e2 : (c == 0) = false := by simp; omega
      clear hn h64
      go_enter Tryz.func23, Tryz.ntmps23
      go_wp2_with fail
      go_at_call 33
      refine ((H1.out _ (by go_grown))).mono ?_
      rintro e w1 ⟨rfl, hw1⟩
      have gw1 : Gr W w1 := Gr.trans (by go_grown) hw1
      clear hw1
      go_wp2_with fail
      go_ret
      exact ⟨rfl, gw1⟩
  · have t1 : decide ((n : Int) ≤ (64 : Int)) = false := decide_eq_false (by omega)
    have t2 : decide (n ≤ 64) = false := decide_eq_false h64
    rw [decide_eq_false (fun e => h64 (hn e))]
    clear A1 hn h64
    go_enter Tryz.func23, Tryz.ntmps23
    go_wp2_with fail
    go_ret
    exact ⟨rfl, by go_grown⟩
end Go.Proofs.YtfobmlgpjhghdaaGreatDoor
