/- changes: what may be; as bytes: the program's; what bytes begin with -/
import Derived.Test.YtpomllpplpalkaaGreatDoorEw
import Derived.WalkSmall
import Derived.Test.YtpomllpplpalkaaGreatDoorEa
import Derived.Test.YtpomllpplpalkaaGreatDoorPa
import Derived.Test.YtpomllpplpalkaaGreatDoorH
namespace Go.Proofs.YtpomllpplpalkaaGreatDoor
set_option linter.unusedVariables false
set_option linter.unusedSimpArgs false
open Go.ChangeShapes Go.WideShapes Go.ChangeAt Go.RowKit

def chgC (kd id k : Int) (n : Nat) (X Y : Nat → Int) : Nat :=
  if (kd ≠ 1 ∧ kd ≠ 2) ∨ id < 0 ∨ 1099511627776 < id then 1
  else if kd = 2 then (if k ≠ 0 ∨ 0 < n then 1 else 0)
  else objC k n X Y
abbrev changeS : ByteArray := ⟨#[99, 104, 97, 110, 103, 101]⟩
theorem chgC_no {kd id k : Int} {n : Nat} {X Y : Nat → Int} (h : (kd ≠ 1 ∧ kd ≠ 2) ∨ id < 0 ∨ 1099511627776 < id) : chgC kd id k n X Y = 1 := if_pos h
theorem chgC_2 {id k : Int} {n : Nat} {X Y : Nat → Int} (h1 : 0 ≤ id) (h2 : id ≤ 1099511627776) : chgC 2 id k n X Y = if k ≠ 0 ∨ 0 < n then 1 else 0 := by
  unfold chgC; rw [if_neg (by omega), if_pos rfl]
theorem chgC_1 {id k : Int} {n : Nat} {X Y : Nat → Int} (h1 : 0 ≤ id) (h2 : id ≤ 1099511627776) : chgC 1 id k n X Y = objC k n X Y := by
  unfold chgC; rw [if_neg (by omega), if_neg (by omega)]
theorem chgC_ok {kd id k : Int} {n : Nat} {X Y : Nat → Int} (h : chgC kd id k n X Y = 0) : 0 ≤ id ∧ id ≤ 1099511627776 ∧ ((kd = 1 ∧ objC k n X Y = 0) ∨ (kd = 2 ∧ k = 0 ∧ n = 0)) := by
  unfold chgC at h
  by_cases a : (kd ≠ 1 ∧ kd ≠ 2) ∨ id < 0 ∨ 1099511627776 < id
  · rw [if_pos a] at h; cases h
  · rw [if_neg a] at h
    by_cases b : kd = 2
    · rw [if_pos b] at h
      by_cases c : k ≠ 0 ∨ 0 < n
      · rw [if_pos c] at h; cases h
      · exact ⟨by omega, by omega, Or.inr ⟨b, by omega, by omega⟩⟩
    · rw [if_neg b] at h
      exact ⟨by omega, by omega, Or.inl ⟨by omega, h⟩⟩
set_option maxHeartbeats 4000000 in
set_option maxRecDepth 100000 in
theorem c_erefusal {n : Nat} {X Y : Nat → Int} {v : Value} (kd id k : Int) (W : World) (h : Pts W v n X Y) :
    Calls Tryz.prog 146 #[.agg #[.int .i64 kd, .int .i64 id, .int .i64 k, v]] W (ObjTo W (chgC kd id k n X Y)) := by
  have HE := Lib.hid (fun w => errno_one w 1 (by omega))
  by_cases c1 : kd = 1 ∨ kd = 2
  · by_cases c2 : id < 0
    · rw [chgC_no (Or.inr (Or.inl c2))]
      obtain ⟨ad, cap, _, _, rfl, _⟩ := h
      have t1 : decide (id < 0) = true := decide_eq_true c2
      rcases c1 with rfl | rfl
      all_goals
        go_enter Tryz.func146, Tryz.ntmps146
        go_wp2_with fail
        go_ret
        exact ⟨_, rfl, HE.out _, by go_grown⟩
    · by_cases c3 : 1099511627776 < id
      · rw [chgC_no (Or.inr (Or.inr c3))]
        obtain ⟨ad, cap, _, _, rfl, _⟩ := h
        have t1 : decide (id < 0) = false := decide_eq_false c2
        have t2 : decide (1099511627776 < id) = true := decide_eq_true c3
        rcases c1 with rfl | rfl
        all_goals
          go_enter Tryz.func146, Tryz.ntmps146
          go_wp2_with fail
          go_ret
          exact ⟨_, rfl, HE.out _, by go_grown⟩
      · have t1 : decide (id < 0) = false := decide_eq_false c2
        have t2 : decide (1099511627776 < id) = false := decide_eq_false c3
        rcases c1 with rfl | rfl
        · rw [chgC_1 (by omega) (by omega)]
          have A1 : ∀ w, Gr W w → Calls Tryz.prog 195 #[.agg #[.int .i64 k, v]] w fun e w' => ∃ u, e = .returned u ∧ WErr objectS w' u k (objC k n X Y) ∧ Gr w w' := fun w g => c_relCheck k w (pts_gr h g)
          generalize objC k n X Y = c at A1 ⊢
          obtain ⟨ad, cap, _, _, rfl, _⟩ := h
          have H1 := Lib.hid A1
          clear A1
          go_enter Tryz.func146, Tryz.ntmps146
          go_wp2_with fail
          go_at_call 195
          refine (H1.out _ (by go_grown)).mono ?_
          rintro e w1 ⟨u, rfl, hu, g1⟩
          have HU := Lib.hid hu
          clear hu
          go_wp2_with fail
          go_ret
          exact ⟨_, rfl, oerr_werr HU.out, Gr.trans (by go_grown) g1⟩
        · rw [chgC_2 (by omega) (by omega)]
          obtain ⟨ad, cap, _, _, rfl, _⟩ := h
          by_cases c4 : k = 0
          · subst c4
            by_cases c5 : 0 < n
            · rw [if_pos (Or.inr c5)]
              have t3 : decide ((0 : Int) < (n : Int)) = true := decide_eq_true (by omega)
              have t4 : decide (0 < n) = true := decide_eq_true c5
              clear c5
              go_enter Tryz.func146, Tryz.ntmps146
              go_wp2_with fail
              go_ret
              exact ⟨_, rfl, HE.out _, by go_grown⟩
            · obtain rfl : n = 0 := by omega
              rw [if_neg (by omega)]
              clear c5
              go_enter Tryz.func146, Tryz.ntmps146
              go_wp2_with fail
              go_ret
              exact ⟨_, rfl, Or.inl ⟨rfl, rfl⟩, by go_grown⟩
          · rw [if_pos (Or.inl c4)]
            have t3 : (k != 0) = true := by simp [c4]
            clear c4
            go_enter Tryz.func146, Tryz.ntmps146
            go_wp2_with fail
            go_ret
            exact ⟨_, rfl, HE.out _, by go_grown⟩
  · rw [chgC_no (Or.inl (by omega))]
    obtain ⟨ad, cap, _, _, rfl, _⟩ := h
    have t1 : (kd != 1) = true := by simp; omega
    have t2 : (kd != 2) = true := by simp; omega
    clear c1
    go_enter Tryz.func146, Tryz.ntmps146
    go_wp2_with fail
    go_ret
    exact ⟨_, rfl, HE.out _, by go_grown⟩
set_option maxHeartbeats 4000000 in
set_option maxRecDepth 100000 in
theorem c_CheckChange {n : Nat} {X Y : Nat → Int} {v : Value} (kd id k : Int) (W : World) (h : Pts W v n X Y) :
    Calls Tryz.prog 78 #[.agg #[.int .i64 kd, .int .i64 id, .int .i64 k, v]] W (RChTo W (chgC kd id k n X Y)) := by
  by_cases c1 : kd = 1 ∨ kd = 2
  · by_cases c2 : id < 0
    · rw [chgC_no (Or.inr (Or.inl c2))]
      obtain ⟨ad, cap, _, _, rfl, _⟩ := h
      have t1 : decide (id < 0) = true := decide_eq_true c2
      rcases c1 with rfl | rfl
      all_goals
        go_enter Tryz.func78, Tryz.ntmps78
        go_wp2_with fail
        go_ret
        exact ⟨rfl, by go_grown⟩
    · by_cases c3 : 1099511627776 < id
      · rw [chgC_no (Or.inr (Or.inr c3))]
        obtain ⟨ad, cap, _, _, rfl, _⟩ := h
        have t1 : decide (id < 0) = false := decide_eq_false c2
        have t2 : decide (1099511627776 < id) = true := decide_eq_true c3
        rcases c1 with rfl | rfl
        all_goals
          go_enter Tryz.func78, Tryz.ntmps78
          go_wp2_with fail
          go_ret
          exact ⟨rfl, by go_grown⟩
      · have t1 : decide (id < 0) = false := decide_eq_false c2
        have t2 : decide (1099511627776 < id) = false := decide_eq_false c3
        rcases c1 with rfl | rfl
        · rw [chgC_1 (by omega) (by omega)]
          have A1 : ∀ w, Gr W w → Calls Tryz.prog 113 #[.agg #[.int .i64 k, v]] w fun e w' => e = .returned (.int .i64 (objC k n X Y : Nat)) ∧ Gr w w' := fun w g => c_rCheck k w (pts_gr h g)
          generalize objC k n X Y = c at A1 ⊢
          obtain ⟨ad, cap, _, _, rfl, _⟩ := h
          have H1 := Lib.hid A1
          clear A1
          go_enter Tryz.func78, Tryz.ntmps78
          go_wp2_with fail
          go_at_call 113
          refine ((H1.out _ (by go_grown))).mono ?_
          rintro e w1 ⟨rfl, hw1⟩
          have gw1 : Gr W w1 := Gr.trans (by go_grown) hw1
          clear hw1
          go_wp2_with fail
          go_ret
          exact ⟨rfl, gw1⟩
        · rw [chgC_2 (by omega) (by omega)]
          obtain ⟨ad, cap, _, _, rfl, _⟩ := h
          by_cases c4 : k = 0
          · subst c4
            by_cases c5 : 0 < n
            · rw [if_pos (Or.inr c5)]
              have t3 : decide ((0 : Int) < (n : Int)) = true := decide_eq_true (by omega)
              have t4 : decide (0 < n) = true := decide_eq_true c5
              clear c5
              go_enter Tryz.func78, Tryz.ntmps78
              go_wp2_with fail
              go_ret
              exact ⟨rfl, by go_grown⟩
            · obtain rfl : n = 0 := by omega
              rw [if_neg (by omega)]
              clear c5
              go_enter Tryz.func78, Tryz.ntmps78
              go_wp2_with fail
              go_ret
              exact ⟨rfl, by go_grown⟩
          · rw [if_pos (Or.inl c4)]
            have t3 : (k != 0) = true := by simp [c4]
            clear c4
            go_enter Tryz.func78, Tryz.ntmps78
            go_wp2_with fail
            go_ret
            exact ⟨rfl, by go_grown⟩
  · rw [chgC_no (Or.inl (by omega))]
    obtain ⟨ad, cap, _, _, rfl, _⟩ := h
    have t1 : (kd != 1) = true := by simp; omega
    have t2 : (kd != 2) = true := by simp; omega
    clear c1
    go_enter Tryz.func78, Tryz.ntmps78
    go_wp2_with fail
    go_ret
    exact ⟨rfl, by go_grown⟩
set_option maxHeartbeats 2000000 in
set_option maxRecDepth 100000 in
theorem c_faultWrap (op : ByteArray) (k : Int) (u : Value) (c : Nat) (W : World) (h : OErr W u c) :
    Calls Tryz.prog 57 #[.string op, .int .i64 k, u] W (WrTo op W k c) := by
  rcases h with ⟨rfl, rfl⟩ | ⟨h1, h2, d, h⟩
  · go_enter Tryz.func57, Tryz.ntmps57
    go_wp2_with fail
    go_ret
    exact ⟨_, rfl, Or.inl ⟨rfl, rfl⟩, by go_grown⟩
  · have H := Lib.hid (And.intro h1 (And.intro h2 h))
    rcases eAt_form h with ⟨x, rfl⟩ | ⟨x, rfl⟩
    all_goals
      clear h h1 h2
      go_enter Tryz.func57, Tryz.ntmps57
      go_wp2_with fail
      go_ret
      exact ⟨_, rfl, Or.inr ⟨_, _, d, rfl, H.out.1, H.out.2.1, by go_simp, by go_simp, by go_simp, eAt_gr H.out.2.2 (by go_grown)⟩, by go_grown⟩
end Go.Proofs.YtpomllpplpalkaaGreatDoor
namespace Go.Proofs.YtpomllpplpalkaaGreatDoor
set_option linter.unusedVariables false
set_option linter.unusedSimpArgs false
open Go.ChangeShapes Go.WideShapes Go.ChangeAt Go.RowKit

def chgB (kd id k : Int) (n : Nat) (X Y : Nat → Int) : List UInt8 := Ec.vr kd.toNat ++ Ec.vr id.toNat ++ (if kd = 1 then objB k n X Y else [])
def chgR (kd id k : Int) (n : Nat) (X Y : Nat → Int) : List UInt8 := if chgC kd id k n X Y = 0 then chgB kd id k n X Y else []
def ChTo (W : World) (kd id k : Int) (n : Nat) (X Y : Nat → Int) (e : Ending) (w' : World) : Prop := ∃ b u, e = .returned (.tuple #[b, u]) ∧ WErr changeS w' u id (chgC kd id k n X Y) ∧ Row w' b (chgR kd id k n X Y) ∧ Gr W w'
set_option maxHeartbeats 4000000 in
set_option maxRecDepth 100000 in
theorem append_2 {v : Value} (i : Nat) (k : Int) (n : Nat) {X Y : Nat → Int} (W : World) (h : Pts W v n X Y) (hi : i ≤ 1099511627776) :
    Calls Tryz.prog 147 #[.slice none 0 0, .agg #[.int .i64 2, .int .i64 i, .int .i64 k, v]] W fun e w' => ∃ b, e = .returned b ∧ (Row w' b (Ec.vr 2 ++ Ec.vr i) ∧ New W b) ∧ Gr W w' := by
  obtain ⟨ad, cap, B, off, rfl, _⟩ := h
  have e1 : (i : Int) % 18446744073709551616 = i := by omega
  have e2 : IntKind.u64.wrap (i : Int) = i := by rw [IntKind.wrap_u64]; omega
  have hi9 : (i : Int) ≤ 1099511627776 := by omega
  have A1 : ∀ w base, base ≤ w.heap.size → Calls Tryz.prog 196 #[.slice none 0 0, .int .u64 2] w fun e w' => ∃ b', e = .returned b' ∧ Own w' base b' ([] ++ Ec.vr 2) ∧ Grown w w' (.slice none 0 0) b' := fun w base hb => c_appendVarint [] (.slice none 0 0) 2 base (by unfold Wd; omega) w (by simp) hb (own_nil _ _)
  have A2 : ∀ w base b, base ≤ w.heap.size → Own w base b ([] ++ Ec.vr 2) → Calls Tryz.prog 196 #[b, .int .u64 i] w fun e w' => ∃ b', e = .returned b' ∧ Own w' base b' (([] ++ Ec.vr 2) ++ Ec.vr i) ∧ Grown w w' b b' := fun w base b hb ho => c_appendVarint _ b i base (by unfold Wd; omega) w (by have := (Ec.vr_len10 (v := 2) (by omega)).2; simp; omega) hb ho
  rw [List.nil_append] at A1 A2
  generalize Ec.vr i = Li at A2 ⊢
  generalize Ec.vr 2 = L2 at A1 A2 ⊢
  have H1 := Lib.hid A1
  have H2 := Lib.hid A2
  clear A1 A2
  go_enter Tryz.func147, Tryz.ntmps147
  go_wp2_with fail
  try simp only [List.append]
  refine Oe.wp_region_ord (R := Kx (fun k => W.heap.size + 1 ≤ k)) [(0, false), (1, false), (2, false), (3, false), (5, false), (6, false), (7, false), (8, false), (4, true), (9, true), (10, false)] (by kernel_rfl) (by kernel_rfl) ?_
  intro w1 hw1 KQ hKQ
  have hhw1 := Kx.of_gr (S := (fun k => W.heap.size + 1 ≤ k)) hw1
  have cw1_0_0 : w1.cell? ⟨W.heap.size, 0, none⟩ = some (.int .i64 2) := cell_kx hhw1 (by show ¬ (W.heap.size + 1 ≤ W.heap.size); omega) (by go_simp)
  have cw1_0_1 : w1.cell? ⟨W.heap.size, 1, none⟩ = some (.int .i64 i) := cell_kx hhw1 (by show ¬ (W.heap.size + 1 ≤ W.heap.size); omega) (by go_simp)
  have cw1_0_2 : w1.cell? ⟨W.heap.size, 2, none⟩ = some (.int .i64 k) := cell_kx hhw1 (by show ¬ (W.heap.size + 1 ≤ W.heap.size); omega) (by go_simp)
  have cw1_0_3 : w1.cell? ⟨W.heap.size, 3, none⟩ = some (.slice ad n cap) := cell_kx hhw1 (by show ¬ (W.heap.size + 1 ≤ W.heap.size); omega) (by go_simp)
  have zw1_0 : W.heap.size < w1.heap.size := World.block_lt_of_cell? _ _ cw1_0_0
  have gw1 : Gr W w1 := Kx.gr hhw1 (by go_grown) (fun k hk => by have hk2 : W.heap.size + 1 ≤ k := hk; omega)
  have sw1 := hhw1.size
  skip
  clear hhw1
  repeat (first | (refine Oe.wpO_skip (by simp only [List.getElem?_toArray, List.getElem?_cons_succ, List.getElem?_cons_zero] <;> rfl) rfl ?_; simp only [Act.put, List.setIfInBounds_toArray, List.set_cons_zero, List.set_cons_succ]) | (refine Oe.wpO_pure (by simp only [List.getElem?_toArray, List.getElem?_cons_succ, List.getElem?_cons_zero] <;> rfl) rfl ?_; apply Exists.intro; refine ⟨?_, ?_⟩; (· intro wx gx; have cx_0_0 : wx.cell? ⟨W.heap.size, 0, none⟩ = some (.int .i64 2) := cell_kx gx (by show ¬ (W.heap.size + 1 ≤ W.heap.size); omega) cw1_0_0; have cx_0_1 : wx.cell? ⟨W.heap.size, 1, none⟩ = some (.int .i64 i) := cell_kx gx (by show ¬ (W.heap.size + 1 ≤ W.heap.size); omega) cw1_0_1; have cx_0_2 : wx.cell? ⟨W.heap.size, 2, none⟩ = some (.int .i64 k) := cell_kx gx (by show ¬ (W.heap.size + 1 ≤ W.heap.size); omega) cw1_0_2; have cx_0_3 : wx.cell? ⟨W.heap.size, 3, none⟩ = some (.slice ad n cap) := cell_kx gx (by show ¬ (W.heap.size + 1 ≤ W.heap.size); omega) cw1_0_3; have zx_0 : W.heap.size < wx.heap.size := World.block_lt_of_cell? _ _ cx_0_0; clear gx; all_goals (apply Oe.pAt_of_quiet; intro K hK; go_big_quiet_op; first | exact hK _ rfl | (apply Exists.intro; refine ⟨fun _ => ?_, ?_⟩; (· fail); exact hK _ rfl))); try simp only [Act.put, List.setIfInBounds_toArray, List.set_cons_zero, List.set_cons_succ]))
  have Z1 : W.heap.size < w1.heap.size := zw1_0
  refine Oe.wpO_call (by simp only [List.getElem?_toArray, List.getElem?_cons_succ, List.getElem?_cons_zero] <;> rfl) rfl ?_
  intro QS hQS
  go_wp2_with fail
  go_at_call 196
  (with_reducible refine ((H1.out _ (W.heap.size + 1) (by omega))).mono ?_)
  rintro e w2 ⟨b2, rfl, o2, g2⟩
  have hhw2 : Kx (fun k => W.heap.size + 1 ≤ k) w1 w2 := kx_of_grown g2 (fun k hk => by cases hk)
  go_wp2_with fail
  first | (apply Exists.intro; refine ⟨?_, hhw2, ?_⟩; (· simp only [Act.put, List.setIfInBounds_toArray, List.set_cons_zero, List.set_cons_succ]; rfl)) | (refine ⟨hhw2, ?_⟩)
  have cw2_0_0 : w2.cell? ⟨W.heap.size, 0, none⟩ = some (.int .i64 2) := cell_kx hhw2 (by show ¬ (W.heap.size + 1 ≤ W.heap.size); omega) (by go_simp)
  have cw2_0_1 : w2.cell? ⟨W.heap.size, 1, none⟩ = some (.int .i64 i) := cell_kx hhw2 (by show ¬ (W.heap.size + 1 ≤ W.heap.size); omega) (by go_simp)
  have cw2_0_2 : w2.cell? ⟨W.heap.size, 2, none⟩ = some (.int .i64 k) := cell_kx hhw2 (by show ¬ (W.heap.size + 1 ≤ W.heap.size); omega) (by go_simp)
  have cw2_0_3 : w2.cell? ⟨W.heap.size, 3, none⟩ = some (.slice ad n cap) := cell_kx hhw2 (by show ¬ (W.heap.size + 1 ≤ W.heap.size); omega) (by go_simp)
  have zw2_0 : W.heap.size < w2.heap.size := World.block_lt_of_cell? _ _ cw2_0_0
  have gw2 : Gr W w2 := Kx.gr hhw2 gw1 (fun k hk => by have hk2 : W.heap.size + 1 ≤ k := hk; omega)
  have sw2 := hhw2.size
  clear gw1 zw1_0 cw1_0_0 cw1_0_1 cw1_0_2 cw1_0_3
  clear hhw2
  try simp only [Act.put, List.setIfInBounds_toArray, List.set_cons_zero, List.set_cons_succ]
  repeat (first | (refine Oe.wpO_skip (by simp only [List.getElem?_toArray, List.getElem?_cons_succ, List.getElem?_cons_zero] <;> rfl) rfl ?_; simp only [Act.put, List.setIfInBounds_toArray, List.set_cons_zero, List.set_cons_succ]) | (refine Oe.wpO_pure (by simp only [List.getElem?_toArray, List.getElem?_cons_succ, List.getElem?_cons_zero] <;> rfl) rfl ?_; apply Exists.intro; refine ⟨?_, ?_⟩; (· intro wx gx; have cx_0_0 : wx.cell? ⟨W.heap.size, 0, none⟩ = some (.int .i64 2) := cell_kx gx (by show ¬ (W.heap.size + 1 ≤ W.heap.size); omega) cw2_0_0; have cx_0_1 : wx.cell? ⟨W.heap.size, 1, none⟩ = some (.int .i64 i) := cell_kx gx (by show ¬ (W.heap.size + 1 ≤ W.heap.size); omega) cw2_0_1; have cx_0_2 : wx.cell? ⟨W.heap.size, 2, none⟩ = some (.int .i64 k) := cell_kx gx (by show ¬ (W.heap.size + 1 ≤ W.heap.size); omega) cw2_0_2; have cx_0_3 : wx.cell? ⟨W.heap.size, 3, none⟩ = some (.slice ad n cap) := cell_kx gx (by show ¬ (W.heap.size + 1 ≤ W.heap.size); omega) cw2_0_3; have zx_0 : W.heap.size < wx.heap.size := World.block_lt_of_cell? _ _ cx_0_0; clear gx; all_goals (apply Oe.pAt_of_quiet; intro K hK; go_big_quiet_op; first | exact hK _ rfl | (apply Exists.intro; refine ⟨fun _ => ?_, ?_⟩; (· fail); exact hK _ rfl))); try simp only [Act.put, List.setIfInBounds_toArray, List.set_cons_zero, List.set_cons_succ]))
  have O2 := Lib.hid o2
  clear o2 g2
  refine Oe.wpO_call (by simp only [List.getElem?_toArray, List.getElem?_cons_succ, List.getElem?_cons_zero] <;> rfl) rfl ?_
  intro QS hQS
  go_wp2_with fail
  go_at_call 196
  (with_reducible refine ((H2.out _ (W.heap.size + 1) _ (by omega) O2.out)).mono ?_)
  rintro e w3 ⟨b3, rfl, o3, g3⟩
  have hhw3 : Kx (fun k => W.heap.size + 1 ≤ k) w2 w3 := kx_of_grown g3 (fun k hk => (own_at O2.out hk).1)
  go_wp2_with fail
  first | (apply Exists.intro; refine ⟨?_, hhw3, ?_⟩; (· simp only [Act.put, List.setIfInBounds_toArray, List.set_cons_zero, List.set_cons_succ]; rfl)) | (refine ⟨hhw3, ?_⟩)
  have cw3_0_0 : w3.cell? ⟨W.heap.size, 0, none⟩ = some (.int .i64 2) := cell_kx hhw3 (by show ¬ (W.heap.size + 1 ≤ W.heap.size); omega) (by go_simp)
  have cw3_0_1 : w3.cell? ⟨W.heap.size, 1, none⟩ = some (.int .i64 i) := cell_kx hhw3 (by show ¬ (W.heap.size + 1 ≤ W.heap.size); omega) (by go_simp)
  have cw3_0_2 : w3.cell? ⟨W.heap.size, 2, none⟩ = some (.int .i64 k) := cell_kx hhw3 (by show ¬ (W.heap.size + 1 ≤ W.heap.size); omega) (by go_simp)
  have cw3_0_3 : w3.cell? ⟨W.heap.size, 3, none⟩ = some (.slice ad n cap) := cell_kx hhw3 (by show ¬ (W.heap.size + 1 ≤ W.heap.size); omega) (by go_simp)
  have zw3_0 : W.heap.size < w3.heap.size := World.block_lt_of_cell? _ _ cw3_0_0
  have gw3 : Gr W w3 := Kx.gr hhw3 gw2 (fun k hk => by have hk2 : W.heap.size + 1 ≤ k := hk; omega)
  have sw3 := hhw3.size
  clear gw2 zw2_0 cw2_0_0 cw2_0_1 cw2_0_2 cw2_0_3
  clear hhw3
  try simp only [Act.put, List.setIfInBounds_toArray, List.set_cons_zero, List.set_cons_succ]
  repeat (first | (refine Oe.wpO_skip (by simp only [List.getElem?_toArray, List.getElem?_cons_succ, List.getElem?_cons_zero] <;> rfl) rfl ?_; simp only [Act.put, List.setIfInBounds_toArray, List.set_cons_zero, List.set_cons_succ]) | (refine Oe.wpO_pure (by simp only [List.getElem?_toArray, List.getElem?_cons_succ, List.getElem?_cons_zero] <;> rfl) rfl ?_; apply Exists.intro; refine ⟨?_, ?_⟩; (· intro wx gx; have cx_0_0 : wx.cell? ⟨W.heap.size, 0, none⟩ = some (.int .i64 2) := cell_kx gx (by show ¬ (W.heap.size + 1 ≤ W.heap.size); omega) cw3_0_0; have cx_0_1 : wx.cell? ⟨W.heap.size, 1, none⟩ = some (.int .i64 i) := cell_kx gx (by show ¬ (W.heap.size + 1 ≤ W.heap.size); omega) cw3_0_1; have cx_0_2 : wx.cell? ⟨W.heap.size, 2, none⟩ = some (.int .i64 k) := cell_kx gx (by show ¬ (W.heap.size + 1 ≤ W.heap.size); omega) cw3_0_2; have cx_0_3 : wx.cell? ⟨W.heap.size, 3, none⟩ = some (.slice ad n cap) := cell_kx gx (by show ¬ (W.heap.size + 1 ≤ W.heap.size); omega) cw3_0_3; have zx_0 : W.heap.size < wx.heap.size := World.block_lt_of_cell? _ _ cx_0_0; clear gx; all_goals (apply Oe.pAt_of_quiet; intro K hK; go_big_quiet_op; first | exact hK _ rfl | (apply Exists.intro; refine ⟨fun _ => ?_, ?_⟩; (· fail); exact hK _ rfl))); try simp only [Act.put, List.setIfInBounds_toArray, List.set_cons_zero, List.set_cons_succ]))
  have O3 := Lib.hid (And.intro (row_own o3) (show New W b3 from new_of_own o3 (by omega)))
  clear o3 g3 O2
  refine Oe.wpO_nil (hKQ _ _ ?_)
  clear hKQ KQ
  go_wp2_with fail
  go_ret
  exact ⟨_, rfl, O3.out, gw3⟩
set_option maxHeartbeats 4000000 in
set_option maxRecDepth 100000 in
theorem append_1 {v : Value} (i k : Nat) (n : Nat) {X Y : Nat → Int} (W : World) (h : Pts W v n X Y) (hi : i ≤ 1099511627776) (hk : k ≤ 1000) (hn : n ≤ 1000) (hX : ∀ i, Iw (X i) ∧ Iw (Y i)) :
    Calls Tryz.prog 147 #[.slice none 0 0, .agg #[.int .i64 1, .int .i64 i, .int .i64 k, v]] W fun e w' => ∃ b, e = .returned b ∧ (Row w' b (Ec.vr 1 ++ Ec.vr i ++ (Ec.vr k ++ Ec.vr n ++ ptsB X Y n)) ∧ New W b) ∧ Gr W w' := by
  have e1 : (i : Int) % 18446744073709551616 = i := by omega
  have e2 : IntKind.u64.wrap (i : Int) = i := by rw [IntKind.wrap_u64]; omega
  have hi9 : (i : Int) ≤ 1099511627776 := by omega
  have l1 := (Ec.vr_len10 (v := 1) (by omega)).2
  have l2 := (Ec.vr_len10 (v := i) (by omega)).2
  have A1 : ∀ w base, base ≤ w.heap.size → Calls Tryz.prog 196 #[.slice none 0 0, .int .u64 1] w fun e w' => ∃ b', e = .returned b' ∧ Own w' base b' ([] ++ Ec.vr 1) ∧ Grown w w' (.slice none 0 0) b' := fun w base hb => c_appendVarint [] (.slice none 0 0) 1 base (by unfold Wd; omega) w (by simp) hb (own_nil _ _)
  have A2 : ∀ w base b, base ≤ w.heap.size → Own w base b ([] ++ Ec.vr 1) → Calls Tryz.prog 196 #[b, .int .u64 i] w fun e w' => ∃ b', e = .returned b' ∧ Own w' base b' (([] ++ Ec.vr 1) ++ Ec.vr i) ∧ Grown w w' b b' := fun w base b hb ho => c_appendVarint _ b i base (by unfold Wd; omega) w (by simp; omega) hb ho
  rw [List.nil_append] at A1 A2
  have hS := World.block_lt_of_cell? (w := W)
  have A3 : ∀ w b, W.heap.size + 1 ≤ w.heap.size → Own w (W.heap.size + 1) b (Ec.vr 1 ++ Ec.vr i) → Gr W w → Calls Tryz.prog 197 #[b, .agg #[.int .i64 k, v]] w fun e w' => ∃ b', e = .returned b' ∧ Own w' (W.heap.size + 1) b' ((Ec.vr 1 ++ Ec.vr i) ++ Ec.vr k ++ Ec.vr n ++ ptsB X Y n) ∧ Grown w w' b b' := fun w b hb ho g => by
    have hw := pts_gr h g
    obtain ⟨ad, cap, B, off, rfl, q1, q2, q3, q4⟩ := h
    obtain ⟨ad', cap', B', off', e', q1', q2', q3', q4'⟩ := hw
    have q4w : ∀ k, k < n → w.cell? ⟨B, off + k * 2, none⟩ = some (.int .i64 (X k)) ∧ w.cell? ⟨B, off + k * 2 + 1, none⟩ = some (.int .i64 (Y k)) := fun k hk => ⟨cell_gr g (q4 k hk).1, cell_gr g (q4 k hk).2⟩
    by_cases h0 : 0 < n
    · have hB : B < W.heap.size := World.block_lt_of_cell? _ _ (q4 0 h0).1
      exact c_appendObject _ b (W.heap.size + 1) k n cap B off ad X Y hX hk hn q3 w (by simp; omega) hb ho (fun g' hg => by have := (own_at ho hg).1; omega) q4w
    · obtain rfl : n = 0 := by omega
      exact c_appendObject _ b (W.heap.size + 1) k 0 cap W.heap.size 0 ad X Y hX hk (by omega) (fun h => absurd h (by omega)) w (by simp; omega) hb ho (fun g' hg => by have := (own_at ho hg).1; omega) (fun i hi => absurd hi (by omega))
  rw [show Ec.vr 1 ++ Ec.vr i ++ (Ec.vr k ++ Ec.vr n ++ ptsB X Y n) = (Ec.vr 1 ++ Ec.vr i) ++ Ec.vr k ++ Ec.vr n ++ ptsB X Y n by simp only [List.append_assoc]]
  obtain ⟨ad, cap, B, off, rfl, _⟩ := h
  generalize (Ec.vr 1 ++ Ec.vr i) ++ Ec.vr k ++ Ec.vr n ++ ptsB X Y n = LL at A3 ⊢
  generalize Ec.vr 1 ++ Ec.vr i = Lj at A2 A3
  generalize Ec.vr 1 = L1 at A1 A2
  have H1 := Lib.hid A1
  have H2 := Lib.hid A2
  have H3 := Lib.hid A3
  clear A1 A2 A3
  clear hS l1 l2
  go_enter Tryz.func147, Tryz.ntmps147
  go_wp2_with fail
  try simp only [List.append]
  refine Oe.wp_region_ord (R := Kx (fun k => W.heap.size + 1 ≤ k)) [(0, false), (1, false), (2, false), (3, false), (5, false), (6, false), (7, false), (8, false), (4, true), (9, true), (10, false)] (by kernel_rfl) (by kernel_rfl) ?_
  intro w1 hw1 KQ hKQ
  have hhw1 := Kx.of_gr (S := (fun k => W.heap.size + 1 ≤ k)) hw1
  have cw1_0_0 : w1.cell? ⟨W.heap.size, 0, none⟩ = some (.int .i64 1) := cell_kx hhw1 (by show ¬ (W.heap.size + 1 ≤ W.heap.size); omega) (by go_simp)
  have cw1_0_1 : w1.cell? ⟨W.heap.size, 1, none⟩ = some (.int .i64 i) := cell_kx hhw1 (by show ¬ (W.heap.size + 1 ≤ W.heap.size); omega) (by go_simp)
  have cw1_0_2 : w1.cell? ⟨W.heap.size, 2, none⟩ = some (.int .i64 k) := cell_kx hhw1 (by show ¬ (W.heap.size + 1 ≤ W.heap.size); omega) (by go_simp)
  have cw1_0_3 : w1.cell? ⟨W.heap.size, 3, none⟩ = some (.slice ad n cap) := cell_kx hhw1 (by show ¬ (W.heap.size + 1 ≤ W.heap.size); omega) (by go_simp)
  have zw1_0 : W.heap.size < w1.heap.size := World.block_lt_of_cell? _ _ cw1_0_0
  have gw1 : Gr W w1 := Kx.gr hhw1 (by go_grown) (fun k hk => by have hk2 : W.heap.size + 1 ≤ k := hk; omega)
  have sw1 := hhw1.size
  skip
  clear hhw1
  repeat (first | (refine Oe.wpO_skip (by simp only [List.getElem?_toArray, List.getElem?_cons_succ, List.getElem?_cons_zero] <;> rfl) rfl ?_; simp only [Act.put, List.setIfInBounds_toArray, List.set_cons_zero, List.set_cons_succ]) | (refine Oe.wpO_pure (by simp only [List.getElem?_toArray, List.getElem?_cons_succ, List.getElem?_cons_zero] <;> rfl) rfl ?_; apply Exists.intro; refine ⟨?_, ?_⟩; (· intro wx gx; have cx_0_0 : wx.cell? ⟨W.heap.size, 0, none⟩ = some (.int .i64 1) := cell_kx gx (by show ¬ (W.heap.size + 1 ≤ W.heap.size); omega) cw1_0_0; have cx_0_1 : wx.cell? ⟨W.heap.size, 1, none⟩ = some (.int .i64 i) := cell_kx gx (by show ¬ (W.heap.size + 1 ≤ W.heap.size); omega) cw1_0_1; have cx_0_2 : wx.cell? ⟨W.heap.size, 2, none⟩ = some (.int .i64 k) := cell_kx gx (by show ¬ (W.heap.size + 1 ≤ W.heap.size); omega) cw1_0_2; have cx_0_3 : wx.cell? ⟨W.heap.size, 3, none⟩ = some (.slice ad n cap) := cell_kx gx (by show ¬ (W.heap.size + 1 ≤ W.heap.size); omega) cw1_0_3; have zx_0 : W.heap.size < wx.heap.size := World.block_lt_of_cell? _ _ cx_0_0; clear gx; all_goals (apply Oe.pAt_of_quiet; intro K hK; go_big_quiet_op; first | exact hK _ rfl | (apply Exists.intro; refine ⟨fun _ => ?_, ?_⟩; (· fail); exact hK _ rfl))); try simp only [Act.put, List.setIfInBounds_toArray, List.set_cons_zero, List.set_cons_succ]))
  have Z1 : W.heap.size < w1.heap.size := zw1_0
  refine Oe.wpO_call (by simp only [List.getElem?_toArray, List.getElem?_cons_succ, List.getElem?_cons_zero] <;> rfl) rfl ?_
  intro QS hQS
  go_wp2_with fail
  go_at_call 196
  (with_reducible refine ((H1.out _ (W.heap.size + 1) (by omega))).mono ?_)
  rintro e w2 ⟨b2, rfl, o2, g2⟩
  have hhw2 : Kx (fun k => W.heap.size + 1 ≤ k) w1 w2 := kx_of_grown g2 (fun k hk => by cases hk)
  go_wp2_with fail
  first | (apply Exists.intro; refine ⟨?_, hhw2, ?_⟩; (· simp only [Act.put, List.setIfInBounds_toArray, List.set_cons_zero, List.set_cons_succ]; rfl)) | (refine ⟨hhw2, ?_⟩)
  have cw2_0_0 : w2.cell? ⟨W.heap.size, 0, none⟩ = some (.int .i64 1) := cell_kx hhw2 (by show ¬ (W.heap.size + 1 ≤ W.heap.size); omega) (by go_simp)
  have cw2_0_1 : w2.cell? ⟨W.heap.size, 1, none⟩ = some (.int .i64 i) := cell_kx hhw2 (by show ¬ (W.heap.size + 1 ≤ W.heap.size); omega) (by go_simp)
  have cw2_0_2 : w2.cell? ⟨W.heap.size, 2, none⟩ = some (.int .i64 k) := cell_kx hhw2 (by show ¬ (W.heap.size + 1 ≤ W.heap.size); omega) (by go_simp)
  have cw2_0_3 : w2.cell? ⟨W.heap.size, 3, none⟩ = some (.slice ad n cap) := cell_kx hhw2 (by show ¬ (W.heap.size + 1 ≤ W.heap.size); omega) (by go_simp)
  have zw2_0 : W.heap.size < w2.heap.size := World.block_lt_of_cell? _ _ cw2_0_0
  have gw2 : Gr W w2 := Kx.gr hhw2 gw1 (fun k hk => by have hk2 : W.heap.size + 1 ≤ k := hk; omega)
  have sw2 := hhw2.size
  clear gw1 zw1_0 cw1_0_0 cw1_0_1 cw1_0_2 cw1_0_3
  clear hhw2
  try simp only [Act.put, List.setIfInBounds_toArray, List.set_cons_zero, List.set_cons_succ]
  repeat (first | (refine Oe.wpO_skip (by simp only [List.getElem?_toArray, List.getElem?_cons_succ, List.getElem?_cons_zero] <;> rfl) rfl ?_; simp only [Act.put, List.setIfInBounds_toArray, List.set_cons_zero, List.set_cons_succ]) | (refine Oe.wpO_pure (by simp only [List.getElem?_toArray, List.getElem?_cons_succ, List.getElem?_cons_zero] <;> rfl) rfl ?_; apply Exists.intro; refine ⟨?_, ?_⟩; (· intro wx gx; have cx_0_0 : wx.cell? ⟨W.heap.size, 0, none⟩ = some (.int .i64 1) := cell_kx gx (by show ¬ (W.heap.size + 1 ≤ W.heap.size); omega) cw2_0_0; have cx_0_1 : wx.cell? ⟨W.heap.size, 1, none⟩ = some (.int .i64 i) := cell_kx gx (by show ¬ (W.heap.size + 1 ≤ W.heap.size); omega) cw2_0_1; have cx_0_2 : wx.cell? ⟨W.heap.size, 2, none⟩ = some (.int .i64 k) := cell_kx gx (by show ¬ (W.heap.size + 1 ≤ W.heap.size); omega) cw2_0_2; have cx_0_3 : wx.cell? ⟨W.heap.size, 3, none⟩ = some (.slice ad n cap) := cell_kx gx (by show ¬ (W.heap.size + 1 ≤ W.heap.size); omega) cw2_0_3; have zx_0 : W.heap.size < wx.heap.size := World.block_lt_of_cell? _ _ cx_0_0; clear gx; all_goals (apply Oe.pAt_of_quiet; intro K hK; go_big_quiet_op; first | exact hK _ rfl | (apply Exists.intro; refine ⟨fun _ => ?_, ?_⟩; (· fail); exact hK _ rfl))); try simp only [Act.put, List.setIfInBounds_toArray, List.set_cons_zero, List.set_cons_succ]))
  have O2 := Lib.hid o2
  clear o2 g2
  refine Oe.wpO_call (by simp only [List.getElem?_toArray, List.getElem?_cons_succ, List.getElem?_cons_zero] <;> rfl) rfl ?_
  intro QS hQS
  go_wp2_with fail
  go_at_call 196
  (with_reducible refine ((H2.out _ (W.heap.size + 1) _ (by omega) O2.out)).mono ?_)
  rintro e w3 ⟨b3, rfl, o3, g3⟩
  have hhw3 : Kx (fun k => W.heap.size + 1 ≤ k) w2 w3 := kx_of_grown g3 (fun k hk => (own_at O2.out hk).1)
  go_wp2_with fail
  first | (apply Exists.intro; refine ⟨?_, hhw3, ?_⟩; (· simp only [Act.put, List.setIfInBounds_toArray, List.set_cons_zero, List.set_cons_succ]; rfl)) | (refine ⟨hhw3, ?_⟩)
  have cw3_0_0 : w3.cell? ⟨W.heap.size, 0, none⟩ = some (.int .i64 1) := cell_kx hhw3 (by show ¬ (W.heap.size + 1 ≤ W.heap.size); omega) (by go_simp)
  have cw3_0_1 : w3.cell? ⟨W.heap.size, 1, none⟩ = some (.int .i64 i) := cell_kx hhw3 (by show ¬ (W.heap.size + 1 ≤ W.heap.size); omega) (by go_simp)
  have cw3_0_2 : w3.cell? ⟨W.heap.size, 2, none⟩ = some (.int .i64 k) := cell_kx hhw3 (by show ¬ (W.heap.size + 1 ≤ W.heap.size); omega) (by go_simp)
  have cw3_0_3 : w3.cell? ⟨W.heap.size, 3, none⟩ = some (.slice ad n cap) := cell_kx hhw3 (by show ¬ (W.heap.size + 1 ≤ W.heap.size); omega) (by go_simp)
  have zw3_0 : W.heap.size < w3.heap.size := World.block_lt_of_cell? _ _ cw3_0_0
  have gw3 : Gr W w3 := Kx.gr hhw3 gw2 (fun k hk => by have hk2 : W.heap.size + 1 ≤ k := hk; omega)
  have sw3 := hhw3.size
  clear gw2 zw2_0 cw2_0_0 cw2_0_1 cw2_0_2 cw2_0_3
  clear hhw3
  try simp only [Act.put, List.setIfInBounds_toArray, List.set_cons_zero, List.set_cons_succ]
  repeat (first | (refine Oe.wpO_skip (by simp only [List.getElem?_toArray, List.getElem?_cons_succ, List.getElem?_cons_zero] <;> rfl) rfl ?_; simp only [Act.put, List.setIfInBounds_toArray, List.set_cons_zero, List.set_cons_succ]) | (refine Oe.wpO_pure (by simp only [List.getElem?_toArray, List.getElem?_cons_succ, List.getElem?_cons_zero] <;> rfl) rfl ?_; apply Exists.intro; refine ⟨?_, ?_⟩; (· intro wx gx; have cx_0_0 : wx.cell? ⟨W.heap.size, 0, none⟩ = some (.int .i64 1) := cell_kx gx (by show ¬ (W.heap.size + 1 ≤ W.heap.size); omega) cw3_0_0; have cx_0_1 : wx.cell? ⟨W.heap.size, 1, none⟩ = some (.int .i64 i) := cell_kx gx (by show ¬ (W.heap.size + 1 ≤ W.heap.size); omega) cw3_0_1; have cx_0_2 : wx.cell? ⟨W.heap.size, 2, none⟩ = some (.int .i64 k) := cell_kx gx (by show ¬ (W.heap.size + 1 ≤ W.heap.size); omega) cw3_0_2; have cx_0_3 : wx.cell? ⟨W.heap.size, 3, none⟩ = some (.slice ad n cap) := cell_kx gx (by show ¬ (W.heap.size + 1 ≤ W.heap.size); omega) cw3_0_3; have zx_0 : W.heap.size < wx.heap.size := World.block_lt_of_cell? _ _ cx_0_0; clear gx; all_goals (apply Oe.pAt_of_quiet; intro K hK; go_big_quiet_op; first | exact hK _ rfl | (apply Exists.intro; refine ⟨fun _ => ?_, ?_⟩; (· fail); exact hK _ rfl))); try simp only [Act.put, List.setIfInBounds_toArray, List.set_cons_zero, List.set_cons_succ]))
  have O3 := Lib.hid o3
  clear o3 g3 O2
  refine Oe.wpO_nil (hKQ _ _ ?_)
  clear hKQ KQ
  go_wp2_with fail
  go_at_call 197
  (with_reducible refine (H3.out _ _ (by omega) O3.out gw3).mono ?_)
  rintro e w4 ⟨b4, rfl, o4, g4⟩
  have R4 := Lib.hid (And.intro (row_own o4) (show New W b4 from new_of_own o4 (by omega)))
  have G4 : Gr W w4 := g4.gr gw3 (fun k hk => by have := (own_at O3.out hk).1; omega)
  clear o4 g4
  go_wp2_with fail
  go_ret
  exact ⟨_, rfl, R4.out, G4⟩
theorem new_lower {a b : World} {v : Value} (h : New b v) (hs : a.heap.size ≤ b.heap.size) : New a v := fun ad m c e => Nat.le_trans hs (h ad m c e)
def ChTo0 (W : World) (kd id k : Int) (n : Nat) (X Y : Nat → Int) (e : Ending) (w' : World) : Prop := ∃ b, e = .returned (.tuple #[b, .nilIface]) ∧ Row w' b (chgB kd id k n X Y) ∧ New W b ∧ Gr W w'
set_option maxHeartbeats 4000000 in
set_option maxRecDepth 100000 in
theorem c_Change0 {n : Nat} {X Y : Nat → Int} {v : Value} (kd id k : Int) (W : World) (h : Pts W v n X Y) (hc : chgC kd id k n X Y = 0) :
    Calls Tryz.prog 106 #[.agg #[.int .i64 kd, .int .i64 id, .int .i64 k, v]] W (ChTo0 W kd id k n X Y) := by
  have A1 : ∀ w, Gr W w → Calls Tryz.prog 146 #[.agg #[.int .i64 kd, .int .i64 id, .int .i64 k, v]] w fun e w' => ∃ u, e = .returned u ∧ OErr w' u (chgC kd id k n X Y) ∧ Gr w w' := fun w g => c_erefusal kd id k w (pts_gr h g)
  have A2 : ∀ w, Gr W w → Calls Tryz.prog 147 #[.slice none 0 0, .agg #[.int .i64 kd, .int .i64 id, .int .i64 k, v]] w fun e w' => ∃ b', e = .returned b' ∧ (Row w' b' (chgB kd id k n X Y) ∧ New w b') ∧ Gr w w' := fun w g => by
    obtain ⟨h1, h2, h3⟩ := chgC_ok hc
    obtain ⟨i, rfl⟩ : ∃ i : Nat, id = i := ⟨id.toNat, by omega⟩
    rcases h3 with ⟨rfl, h3⟩ | ⟨rfl, rfl, rfl⟩
    · obtain ⟨k1, k2, k3, k4, k5⟩ := objC_near h3
      obtain ⟨m, rfl⟩ : ∃ m : Nat, k = m := ⟨k.toNat, by omega⟩
      have := append_1 i m n w (pts_trm (pts_gr h g)) (by omega) (by omega) (by omega) (trm_iw k5)
      rw [ptsB_trm] at this
      exact this
    · have := append_2 i 0 0 w (pts_gr h g) (by omega)
      have e : chgB 2 (i : Int) 0 0 X Y = Ec.vr 2 ++ Ec.vr i := by unfold chgB; rw [if_neg (by omega), List.append_nil]; rfl
      rw [e]
      exact this
  have fin : ∀ b w', Row w' b (chgB kd id k n X Y) → New W b → Gr W w' → ChTo0 W kd id k n X Y (.returned (.tuple #[b, .nilIface])) w' := fun b w' r m g => ⟨b, rfl, r, m, g⟩
  have HF := Lib.hid fin
  rw [hc] at A1
  generalize ChTo0 W kd id k n X Y = Post at HF ⊢
  generalize chgB kd id k n X Y = L at A2 HF
  obtain ⟨ad, cap, B, off, rfl, _⟩ := h
  have H1 := Lib.hid A1
  have H2 := Lib.hid A2
  clear A1 A2
  clear fin hc
  go_enter Tryz.func106, Tryz.ntmps106
  go_wp2_with fail
  go_at_call 146
  refine (H1.out _ (by go_grown)).mono ?_
  rintro e w1 ⟨u, rfl, hu, g1⟩
  rcases hu with ⟨rfl, _⟩ | ⟨bad, _⟩
  · have c0 : w1.cell? ⟨W.heap.size, 0, none⟩ = some (.int .i64 kd) := cell_gr g1 (by go_simp)
    have c1 : w1.cell? ⟨W.heap.size, 1, none⟩ = some (.int .i64 id) := cell_gr g1 (by go_simp)
    have c2 : w1.cell? ⟨W.heap.size, 2, none⟩ = some (.int .i64 k) := cell_gr g1 (by go_simp)
    have c3 : w1.cell? ⟨W.heap.size, 3, none⟩ = some (.slice ad n cap) := cell_gr g1 (by go_simp)
    have G1 : Gr W w1 := Gr.trans (by go_grown) g1
    clear g1 H1
    go_wp2_with fail
    go_at_call 147
    (with_reducible refine (H2.out _ G1).mono ?_)
    rintro e w2 ⟨b', rfl, ⟨r2, m2⟩, g2⟩
    have HR2 := Lib.hid r2
    have HM2 := Lib.hid (new_lower m2 G1.size)
    clear r2 m2 H2
    go_wp2_with fail
    exact HF.out _ _ HR2.out HM2.out (Gr.trans G1 g2)
  · omega
set_option maxHeartbeats 4000000 in
set_option maxRecDepth 100000 in
theorem c_Change {n : Nat} {X Y : Nat → Int} {v : Value} (kd id k : Int) (W : World) (h : Pts W v n X Y) :
    Calls Tryz.prog 106 #[.agg #[.int .i64 kd, .int .i64 id, .int .i64 k, v]] W (ChTo W kd id k n X Y) := by
  have A1 : ∀ w, Gr W w → Calls Tryz.prog 146 #[.agg #[.int .i64 kd, .int .i64 id, .int .i64 k, v]] w fun e w' => ∃ u, e = .returned u ∧ OErr w' u (chgC kd id k n X Y) ∧ Gr w w' := fun w g => c_erefusal kd id k w (pts_gr h g)
  by_cases hc : chgC kd id k n X Y = 0
  · have hR : chgR kd id k n X Y = chgB kd id k n X Y := if_pos hc
    refine (c_Change0 kd id k W h hc).mono ?_
    rintro e w' ⟨b, rfl, r, _, g⟩
    exact ⟨b, _, rfl, Or.inl ⟨rfl, hc⟩, by rw [hR]; exact r, g⟩
  · have hR : chgR kd id k n X Y = [] := if_neg hc
    have fin : ∀ u w', WErr changeS w' u id (chgC kd id k n X Y) → Gr W w' → ChTo W kd id k n X Y (.returned (.tuple #[.slice none 0 0, u])) w' := fun u w' r g => ⟨_, u, rfl, r, by rw [hR]; exact row_none _, g⟩
    have HF := Lib.hid fin
    generalize ChTo W kd id k n X Y = Post at HF ⊢
    generalize chgC kd id k n X Y = c at A1 HF hc
    have A2 : ∀ (w : World) (u : Value), OErr w u c → Calls Tryz.prog 57 #[.string changeS, .int .i64 id, u] w fun e w' => ∃ x, e = .returned x ∧ WErr changeS w' x id c ∧ Gr w w' := fun w u hu => c_faultWrap changeS id u c w hu
    obtain ⟨ad, cap, B, off, rfl, _⟩ := h
    have H1 := Lib.hid A1
    have H2 := Lib.hid A2
    clear A1 A2
    have HC := Lib.hid hc
    clear fin hR hc
    go_enter Tryz.func106, Tryz.ntmps106
    go_wp2_with fail
    go_at_call 146
    refine (H1.out _ (by go_grown)).mono ?_
    rintro e w1 ⟨u, rfl, hu, g1⟩
    have HU := Lib.hid hu
    rcases hu with ⟨rfl, bad⟩ | ⟨_, _, d1, hd⟩
    · exact absurd bad HC.out
    · have c0 : w1.cell? ⟨W.heap.size, 0, none⟩ = some (.int .i64 kd) := cell_gr g1 (by go_simp)
      have c1 : w1.cell? ⟨W.heap.size, 1, none⟩ = some (.int .i64 id) := cell_gr g1 (by go_simp)
      have G1 : Gr W w1 := Gr.trans (by go_grown) g1
      clear g1 H1
      rcases eAt_form hd with ⟨x, rfl⟩ | ⟨x, rfl⟩
      all_goals
        clear hd
        go_wp2_with fail
        go_at_call 57
        (with_reducible refine (H2.out _ _ HU.out).mono ?_)
        rintro e w2 ⟨y, rfl, hy, g2⟩
        have HY := Lib.hid hy
        clear hy H2
        go_wp2_with fail
        exact HF.out _ _ HY.out (Gr.trans G1 g2)
end Go.Proofs.YtpomllpplpalkaaGreatDoor
namespace Go.Proofs.YtpomllpplpalkaaGreatDoor
set_option linter.unusedVariables false
set_option linter.unusedSimpArgs false
open Go.ChangeShapes Go.WideShapes Go.ChangeAt Go.RowKit

/-! ### the change that bytes begin with -/
end Go.Proofs.YtpomllpplpalkaaGreatDoor
