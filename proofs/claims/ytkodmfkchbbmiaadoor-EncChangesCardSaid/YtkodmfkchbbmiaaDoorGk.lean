/- ring: Left, Has, Twice; what the document fixes -/
import Derived.Test.YtkodmfkchbbmiaaDoorGi
namespace Go.Proofs.YtkodmfkchbbmiaaDoor
set_option linter.unusedVariables false
open Go.ChangeShapes Go.WideShapes Go.ChangeAt Go.RowKit Go.Shelf

/-- Check, told apart. -/
theorem chk_ok {n : Nat} {X Y : Nat → Int} {v : Value} (W : World) (h : Pts W v n X Y) (h0 : (Rg.ringC n X Y).1 = 0) : ∀ w, Gr W w → Calls Tryd.prog 17 #[v] w fun e w' => e = .returned .nilIface ∧ Gr w w' := fun w g =>
  (c_ringCheck w (pts_gr h g)).mono fun e w' hh => by
    obtain ⟨x, rfl, hx, g2⟩ := hh
    rw [h0] at hx
    rcases hx with ⟨rfl, _⟩ | ⟨B, _, h1, _⟩
    · exact ⟨rfl, g2⟩
    · omega
theorem chk_no {n : Nat} {X Y : Nat → Int} {v : Value} (W : World) (h : Pts W v n X Y) (h0 : (Rg.ringC n X Y).1 ≠ 0) : ∀ w, Gr W w → Calls Tryd.prog 17 #[v] w fun e w' => (∃ B, e = .returned (.iface 65 (.pointer (some ⟨B, 0, none⟩)))) ∧ Gr w w' := fun w g =>
  (c_ringCheck w (pts_gr h g)).mono fun e w' hh => by
    obtain ⟨x, rfl, hx, g2⟩ := hh
    rcases hx with ⟨rfl, h1⟩ | ⟨B, rfl, h1, _⟩
    · exact absurd h1 h0
    · exact ⟨⟨B, rfl⟩, g2⟩
/-- Twice the area, as it is added up. -/
def sgZ (n : Nat) (X Y : Nat → Int) : Int := IntKind.i64.wrap (Rg.crS n X Y n)
def lfV (n : Nat) (X Y : Nat → Int) : Bool := decide ((Rg.ringC n X Y).1 = 0) && decide (0 < sgZ n X Y)
def hsV (n : Nat) (X Y : Nat → Int) (px py : Int) : Bool := decide ((Rg.ringC n X Y).1 = 0) && (nearB px py && Rg.hasN n X Y px py)
theorem c_sg {n : Nat} {X Y : Nat → Int} {v : Value} (W : World) (h : Pts W v n X Y) (h0 : (Rg.ringC n X Y).1 = 0) : ∀ w, Gr W w → Calls Tryd.prog 65 #[v] w fun e w' => e = .returned (.int .i64 (sgZ n X Y)) ∧ Gr w w' := fun w g => by
  obtain ⟨h1, h2, _, _⟩ := Rg.ringC_ok h0
  have C := c_signed w (pts_gr h g) (by omega) (by omega)
  rw [csW_all h2 (by omega) n (Nat.le_refl _)] at C
  exact C
theorem c_hs {n : Nat} {X Y : Nat → Int} {v : Value} (W : World) (h : Pts W v n X Y) (h0 : (Rg.ringC n X Y).1 = 0) (px py : Int) : ∀ w, Gr W w → Calls Tryd.prog 68 #[v, .agg #[.int .i64 px, .int .i64 py]] w fun e w' => e = .returned (.bool (nearB px py && Rg.hasN n X Y px py)) ∧ Gr w w' := fun w g => by
  obtain ⟨h1, h2, _, _⟩ := Rg.ringC_ok h0
  by_cases hp : nearB px py = true
  · have C := c_Holds w (pts_gr h g) (by omega) (by omega) hp
    rw [onW_all, odW_all h2 hp n (Nat.le_refl _)] at C
    rw [hp]
    exact C
  · have hp2 : nearB px py = false := by simpa using hp
    obtain ⟨ad, cap, B, off, rfl, _⟩ := h
    rw [hp2]
    exact c_Holds_no _ _ _ px py hp2 w
set_option maxHeartbeats 2000000 in
set_option maxRecDepth 100000 in
theorem c_Left {n : Nat} {X Y : Nat → Int} {v : Value} (W : World) (h : Pts W v n X Y) : Calls Tryd.prog 21 #[v] W fun e w' => e = .returned (.bool (lfV n X Y)) ∧ Gr W w' := by
  by_cases h0 : (Rg.ringC n X Y).1 = 0
  · have A := chk_ok W h h0
    have S := c_sg W h h0
    have e : lfV n X Y = decide (0 < sgZ n X Y) := by unfold lfV; rw [decide_eq_true h0]; rfl
    rw [e]
    generalize sgZ n X Y = z at S ⊢
    have HA := Lib.hid A
    have HS := Lib.hid S
    obtain ⟨ad, cap, B, off, rfl, _⟩ := h
    clear A S e h0
    go_enter Tryd.func21, Tryd.ntmps21
    go_wp2_with (first
      | (go_at_call 17; refine (HA.out _ (by go_grown)).mono ?_; rintro e w1 ⟨rfl, g1⟩)
      | (go_at_call 65; refine (HS.out _ g1).mono ?_; rintro e w2 ⟨rfl, g2⟩))
    go_ret
    exact ⟨rfl, g1.trans g2⟩
  · have A := chk_no W h h0
    have e : lfV n X Y = false := by unfold lfV; rw [decide_eq_false h0]; rfl
    rw [e]
    have HA := Lib.hid A
    obtain ⟨ad, cap, B, off, rfl, _⟩ := h
    clear A e h0
    go_enter Tryd.func21, Tryd.ntmps21
    go_wp2_with (go_at_call 17; refine (HA.out _ (by go_grown)).mono ?_; rintro e w1 ⟨⟨B1, rfl⟩, g1⟩)
    go_ret
    exact ⟨rfl, g1⟩
set_option maxHeartbeats 2000000 in
set_option maxRecDepth 100000 in
theorem c_RHas {n : Nat} {X Y : Nat → Int} {v : Value} (W : World) (h : Pts W v n X Y) (px py : Int) : Calls Tryd.prog 23 #[v, .agg #[.int .i64 px, .int .i64 py]] W fun e w' => e = .returned (.bool (hsV n X Y px py)) ∧ Gr W w' := by
  by_cases h0 : (Rg.ringC n X Y).1 = 0
  · have A := chk_ok W h h0
    have S := c_hs W h h0 px py
    have e : hsV n X Y px py = (nearB px py && Rg.hasN n X Y px py) := by unfold hsV; rw [decide_eq_true h0]; rfl
    rw [e]
    generalize (nearB px py && Rg.hasN n X Y px py) = z at S ⊢
    have HA := Lib.hid A
    have HS := Lib.hid S
    obtain ⟨ad, cap, B, off, rfl, _⟩ := h
    clear A S e h0
    go_enter Tryd.func23, Tryd.ntmps23
    go_wp2_with (first
      | (go_at_call 17; refine (HA.out _ (by go_grown)).mono ?_; rintro e w1 ⟨rfl, g1⟩; have l0 : w1.cell? ⟨W.heap.size, 0, none⟩ = some (.int .i64 px) := cell_gr g1 (by go_simp); have l1 : w1.cell? ⟨W.heap.size, 1, none⟩ = some (.int .i64 py) := cell_gr g1 (by go_simp))
      | (go_at_call 68; refine (HS.out _ (Gr.trans (by go_grown) g1)).mono ?_; rintro e w2 ⟨rfl, g2⟩))
    go_ret
    exact ⟨rfl, (Gr.trans (by go_grown) g1).trans g2⟩
  · have A := chk_no W h h0
    have e : hsV n X Y px py = false := by unfold hsV; rw [decide_eq_false h0]; rfl
    rw [e]
    have HA := Lib.hid A
    obtain ⟨ad, cap, B, off, rfl, _⟩ := h
    clear A e h0
    go_enter Tryd.func23, Tryd.ntmps23
    go_wp2_with (go_at_call 17; refine (HA.out _ (by go_grown)).mono ?_; rintro e w1 ⟨⟨B1, rfl⟩, g1⟩)
    go_ret
    exact ⟨rfl, Gr.trans (by go_grown) g1⟩
def twZ (n : Nat) (X Y : Nat → Int) : Int := if (Rg.ringC n X Y).1 = 0 then IntKind.u64.wrap (max (sgZ n X Y) (IntKind.i64.wrap (-(sgZ n X Y)))) else 0
set_option maxHeartbeats 2000000 in
set_option maxRecDepth 100000 in
theorem c_Twice {n : Nat} {X Y : Nat → Int} {v : Value} (W : World) (h : Pts W v n X Y) : Calls Tryd.prog 19 #[v] W fun e w' => e = .returned (.agg #[.int .u64 0, .int .u64 (twZ n X Y)]) ∧ Gr W w' := by
  by_cases h0 : (Rg.ringC n X Y).1 = 0
  · have A := chk_ok W h h0
    have S := c_sg W h h0
    have e : twZ n X Y = IntKind.u64.wrap (max (sgZ n X Y) (IntKind.i64.wrap (-(sgZ n X Y)))) := by unfold twZ; rw [if_pos h0]
    rw [e]
    generalize sgZ n X Y = z at S ⊢
    have HA := Lib.hid A
    have HS := Lib.hid S
    obtain ⟨ad, cap, B, off, rfl, _⟩ := h
    clear A S e h0
    generalize hy : IntKind.i64.wrap (-z) = y
    generalize hm : max z y = m
    generalize hu : IntKind.u64.wrap m = u
    go_enter Tryd.func19, Tryd.ntmps19
    go_wp2_with (first
      | (go_at_call 17; refine (HA.out _ (by go_grown)).mono ?_; rintro e w1 ⟨rfl, g1⟩; have a0 : w1.cell? ⟨W.heap.size, 0, none⟩ = some (.int .u64 0) := cell_gr g1 (by go_simp); have a1 : w1.cell? ⟨W.heap.size, 1, none⟩ = some (.int .u64 0) := cell_gr g1 (by go_simp); have f0 : w1.frozen? ⟨W.heap.size, 0, none⟩ = false := frozen_gr g1 (v := .int .u64 0) (by go_simp) (by go_simp); have f1 : w1.frozen? ⟨W.heap.size, 1, none⟩ = false := frozen_gr g1 (v := .int .u64 0) (by go_simp) (by go_simp))
      | (go_at_call 65; refine (HS.out _ (Gr.trans (by go_grown) g1)).mono ?_; rintro e w2 ⟨rfl, g2⟩; have b0 := cell_gr g2 a0; have b1 := cell_gr g2 a1; have h0 := frozen_gr g2 a0 f0; have h1 := frozen_gr g2 a1 f1; clear a0 a1 f0 f1))
    refine bodyPost_ret (v := .agg #[.int .u64 0, .int .u64 u]) (by simp [results, Tryd.results19, go_sem, *]) rfl ⟨rfl, ?_⟩
    exact Below.setCell (p := ⟨W.heap.size, 1, none⟩) (Below.setCell (p := ⟨W.heap.size, 0, none⟩) (((Gr.trans (by go_grown) g1).trans g2)) (by simp) _) (by simp) _
  · have A := chk_no W h h0
    have e : twZ n X Y = 0 := by unfold twZ; rw [if_neg h0]
    rw [e]
    have HA := Lib.hid A
    obtain ⟨ad, cap, B, off, rfl, _⟩ := h
    clear A e h0
    go_enter Tryd.func19, Tryd.ntmps19
    go_wp2_with (go_at_call 17; refine (HA.out _ (by go_grown)).mono ?_; rintro e w1 ⟨⟨B1, rfl⟩, g1⟩; have a0 : w1.cell? ⟨W.heap.size, 0, none⟩ = some (.int .u64 0) := cell_gr g1 (by go_simp); have a1 : w1.cell? ⟨W.heap.size, 1, none⟩ = some (.int .u64 0) := cell_gr g1 (by go_simp); have f0 : w1.frozen? ⟨W.heap.size, 0, none⟩ = false := frozen_gr g1 (v := .int .u64 0) (by go_simp) (by go_simp); have f1 : w1.frozen? ⟨W.heap.size, 1, none⟩ = false := frozen_gr g1 (v := .int .u64 0) (by go_simp) (by go_simp))
    refine bodyPost_ret (v := .agg #[.int .u64 0, .int .u64 0]) (by simp [results, Tryd.results19, go_sem, *]) rfl ⟨rfl, ?_⟩
    exact Below.setCell (p := ⟨W.heap.size, 1, none⟩) (Below.setCell (p := ⟨W.heap.size, 0, none⟩) ((Gr.trans (by go_grown) g1)) (by simp) _) (by simp) _
end Go.Proofs.YtkodmfkchbbmiaaDoor
namespace Go.Proofs.YtkodmfkchbbmiaaDoor
set_option linter.unusedVariables false
open Go.ChangeShapes Go.WideShapes Go.ChangeAt Go.RowKit

theorem pts4 {w : World} {B : Nat} {X Y : Nat → Int} (h0 : w.cell? ⟨B, 0, none⟩ = some (.int .i64 (X 0))) (g0 : w.cell? ⟨B, 1, none⟩ = some (.int .i64 (Y 0))) (h1 : w.cell? ⟨B, 2, none⟩ = some (.int .i64 (X 1))) (g1 : w.cell? ⟨B, 3, none⟩ = some (.int .i64 (Y 1)))
    (h2 : w.cell? ⟨B, 4, none⟩ = some (.int .i64 (X 2))) (g2 : w.cell? ⟨B, 5, none⟩ = some (.int .i64 (Y 2))) (h3 : w.cell? ⟨B, 6, none⟩ = some (.int .i64 (X 3))) (g3 : w.cell? ⟨B, 7, none⟩ = some (.int .i64 (Y 3))) : Pts w (.slice (some ⟨B, 0, none⟩) 4 4) 4 X Y :=
  ⟨some ⟨B, 0, none⟩, 4, B, 0, rfl, Nat.le_refl _, by decide, fun _ => rfl, fun k hk => by
    match k, hk with
    | 0, _ => exact ⟨h0, g0⟩
    | 1, _ => exact ⟨h1, g1⟩
    | 2, _ => exact ⟨h2, g2⟩
    | 3, _ => exact ⟨h3, g3⟩
    | k + 4, h => exact absurd h (by omega)⟩
theorem pts3 {w : World} {B : Nat} {X Y : Nat → Int} (h0 : w.cell? ⟨B, 0, none⟩ = some (.int .i64 (X 0))) (g0 : w.cell? ⟨B, 1, none⟩ = some (.int .i64 (Y 0))) (h1 : w.cell? ⟨B, 2, none⟩ = some (.int .i64 (X 1))) (g1 : w.cell? ⟨B, 3, none⟩ = some (.int .i64 (Y 1)))
    (h2 : w.cell? ⟨B, 4, none⟩ = some (.int .i64 (X 2))) (g2 : w.cell? ⟨B, 5, none⟩ = some (.int .i64 (Y 2))) : Pts w (.slice (some ⟨B, 0, none⟩) 3 3) 3 X Y :=
  ⟨some ⟨B, 0, none⟩, 3, B, 0, rfl, Nat.le_refl _, by decide, fun _ => rfl, fun k hk => by
    match k, hk with
    | 0, _ => exact ⟨h0, g0⟩
    | 1, _ => exact ⟨h1, g1⟩
    | 2, _ => exact ⟨h2, g2⟩
    | k + 3, h => exact absurd h (by omega)⟩
/-- Check, where it refuses. -/
theorem chk_at {n k id : Nat} {X Y : Nat → Int} {v : Value} (w : World) (h : Pts w v n X Y) (e : Rg.ringC n X Y = (k, id)) (hk : k ≠ 0) : Calls Tryd.prog 17 #[v] w fun e w' => ∃ B, e = .returned (.iface 65 (.pointer (some ⟨B, 0, none⟩))) ∧ FaultAt w' B ringS id k ∧ Gr w w' :=
  (c_ringCheck w h).mono fun e' w' hh => by
    obtain ⟨x, rfl, hx, g2⟩ := hh
    rw [e] at hx
    rcases hx with ⟨rfl, h1⟩ | ⟨B, rfl, _, _, hF⟩
    · exact absurd h1 hk
    · exact ⟨B, rfl, hF, g2⟩
def bwX : Nat → Int | 0 => 0 | 1 => 2 | 2 => 2 | _ => 0
def bwY : Nat → Int | 0 => 0 | 1 => 2 | 2 => 0 | _ => 2
def trX : Nat → Int | 0 => 0 | 1 => 4 | _ => 0
def trY : Nat → Int | 0 => 0 | 1 => 0 | _ => 4
theorem bw_ring : Rg.ringC 4 bwX bwY = (4, 0) := by decide
theorem tr_ring : Rg.ringC 3 trX trY = (0, 0) := by decide
theorem tr_left : lfV 3 trX trY = true := by decide
theorem tr_has : hsV 3 trX trY 1 1 = true := by decide
theorem tr_twice : twZ 3 trX trY = 16 := by decide
set_option maxHeartbeats 4000000 in
set_option maxRecDepth 100000 in
theorem g5_awake (W : World) (hE : ErrT W) : Calls Tryd.prog 12 #[] W fun e w' => e = .returned (.bool true) ∧ Gr W w' := by
  have A1 := fun (w : World) (v : Value) (h : Pts w v 4 bwX bwY) => chk_at w h bw_ring (by decide)
  have A2 := fun (w : World) (v : Value) (h : Pts w v 3 trX trY) => chk_ok w h (by rw [tr_ring]) w (Below.refl _ w)
  have A3 := fun (w : World) (v : Value) (h : Pts w v 3 trX trY) => c_Left w h
  have A4 := fun (w : World) (v : Value) (h : Pts w v 3 trX trY) => c_RHas w h 1 1
  have A5 := fun (w : World) (v : Value) (h : Pts w v 3 trX trY) => c_Twice w h
  simp only [tr_left, tr_has, tr_twice] at A3 A4 A5
  have HE := Lib.hid hE
  clear hE
  have H1 := Lib.hid A1
  have H2 := Lib.hid A2
  have H3 := Lib.hid A3
  have H4 := Lib.hid A4
  have H5 := Lib.hid A5
  clear A1 A2 A3 A4 A5
  go_enter Tryd.func12, Tryd.ntmps12
  go_wp2_with fail
  have P1 := Lib.hid (pts4 (w := (W.alloc (.cells #[.int .i64 0, .int .i64 0, .int .i64 2, .int .i64 2, .int .i64 2, .int .i64 0, .int .i64 0, .int .i64 2] 24)).alloc (.cells #[.int .i64 0, .int .i64 0, .int .i64 4, .int .i64 0, .int .i64 0, .int .i64 4] 24)) (B := W.heap.size) (X := bwX) (Y := bwY) (by go_simp; rfl) (by go_simp; rfl) (by go_simp; rfl) (by go_simp; rfl) (by go_simp; rfl) (by go_simp; rfl) (by go_simp; rfl) (by go_simp; rfl))
  have P2 := Lib.hid (pts3 (w := (W.alloc (.cells #[.int .i64 0, .int .i64 0, .int .i64 2, .int .i64 2, .int .i64 2, .int .i64 0, .int .i64 0, .int .i64 2] 24)).alloc (.cells #[.int .i64 0, .int .i64 0, .int .i64 4, .int .i64 0, .int .i64 0, .int .i64 4] 24)) (B := W.heap.size + 1) (X := trX) (Y := trY) (by go_simp; rfl) (by go_simp; rfl) (by go_simp; rfl) (by go_simp; rfl) (by go_simp; rfl) (by go_simp; rfl))
  obtain ⟨w0, hw0⟩ : ∃ w0, (W.alloc (.cells #[.int .i64 0, .int .i64 0, .int .i64 2, .int .i64 2, .int .i64 2, .int .i64 0, .int .i64 0, .int .i64 2] 24)).alloc (.cells #[.int .i64 0, .int .i64 0, .int .i64 4, .int .i64 0, .int .i64 0, .int .i64 4] 24) = w0 := ⟨_, rfl⟩
  have g0 : Gr W w0 := by rw [← hw0]; go_grown
  rw [hw0] at P1 P2 ⊢
  clear hw0
  go_at_call 17
  refine (H1.out _ _ P1.out).mono ?_
  rintro e w1 ⟨B, rfl, hF, g1⟩
  have G1 := Gr.trans g0 g1
  have P3 := Lib.hid (pts_gr P2.out g1)
  have A6 : ∀ w, Gr W w → FaultAt w B ringS (0 : Nat) (4 : Nat) → Calls Tryd.prog 16 #[.iface 65 (.pointer (some ⟨B, 0, none⟩)), .int .i64 4, .string ringS, .int .i64 0] w fun e w' => e = .returned (.bool true) ∧ Gr w w' := fun w g hF => c_AlIs_hit B ringS 0 4 (by omega) w (errT_gr HE.out g) hF
  have H6 := Lib.hid A6
  have HF := Lib.hid hF
  clear P1 P2 H1 A6 hF g0 g1
  go_wp2_with fail
  go_at_call 16
  refine (H6.out _ G1 HF.out).mono ?_
  rintro e w2 ⟨rfl, g2⟩
  have G2 := Gr.trans G1 g2
  have P4 := Lib.hid (pts_gr P3.out g2)
  clear H6 HF P3 G1 g2
  go_wp2_with fail
  go_at_call 17
  refine (H2.out _ _ P4.out).mono ?_
  rintro e w3 ⟨rfl, g3⟩
  have G3 := Gr.trans G2 g3
  have P5 := Lib.hid (pts_gr P4.out g3)
  clear P4 G2 g3
  go_wp2_with fail
  go_at_call 21
  refine (H3.out _ _ P5.out).mono ?_
  rintro e w4 ⟨rfl, g4⟩
  have G4 := Gr.trans G3 g4
  have P6 := Lib.hid (pts_gr P5.out g4)
  clear P5 G3 g4
  go_wp2_with fail
  go_at_call 23
  refine (H4.out _ _ P6.out).mono ?_
  rintro e w5 ⟨rfl, g5⟩
  have G5 := Gr.trans G4 g5
  have P7 := Lib.hid (pts_gr P6.out g5)
  clear P6 G4 g5
  go_wp2_with fail
  go_at_call 19
  refine (H5.out _ _ P7.out).mono ?_
  rintro e w6 ⟨rfl, g6⟩
  have G6 := Gr.trans G5 g6
  clear P7 G5 g6
  go_wp2_with fail
  go_ret
  exact ⟨rfl, G6⟩
end Go.Proofs.YtkodmfkchbbmiaaDoor
