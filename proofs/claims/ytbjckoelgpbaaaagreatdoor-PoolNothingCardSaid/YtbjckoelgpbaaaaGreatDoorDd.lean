/- disk: op, Write -/
import Derived.Test.YtbjckoelgpbaaaaGreatDoorDc
namespace Go.Proofs.YtbjckoelgpbaaaaGreatDoor
set_option linter.unusedVariables false
set_option linter.unusedSimpArgs false
open Go.ChangeShapes Go.WideShapes Go.ChangeAt Go.RowKit Go.Maps

/-- What an op does to the counts: done; refused. -/
def Dk.opd (d : Dk) : Dk := { d with ops := d.ops + 1, left := d.left - 1 }
def Dk.opx (d : Dk) : Dk := { d with ops := d.ops + 1, off := true }
def Dk.on (d : Dk) : Prop := d.off = false ∧ (d.cut = true → 1 ≤ d.left)
theorem left_wrap {z : Int} (h1 : -1000000 ≤ z) (h2 : z ≤ 9223372036854775807) : wrap64 (z - 1) = z - 1 ∧ IntKind.i64.wrap (z - 1) = z - 1 := ⟨IntWalk.wrap64_in _ (by omega), IntWalk.i64_in _ (by omega)⟩
theorem left_lo {d : Dk} (h : d.ok) (ho : d.on) : -1000000 ≤ d.left := by
  have h1 := h.ops
  have h2 := h.left
  have h3 := ho.2
  cases hc : d.cut with
  | true => have := h3 hc; omega
  | false => have := h2 hc; omega
theorem opd_ok {d : Dk} (h : d.ok) (ho : d.on) (hn : d.ops < 1000000) : d.opd.ok := by
  refine ⟨h.n1, h.n2, h.len, h.nodup, h.lt, h.sz, ?_, fun hc => ?_, Lib.hid ?_⟩
  · show d.ops + 1 ≤ 1000000; omega
  · have := h.left hc
    show -((d.ops + 1 : Nat) : Int) ≤ d.left - 1 ∧ d.left - 1 ≤ 0
    omega
  · have h1 := left_lo h ho
    have h2 := h.lft.out
    show -9223372036854775808 ≤ d.left - 1 ∧ d.left - 1 ≤ 9223372036854775807
    omega
theorem opx_ok {d : Dk} (h : d.ok) (hn : d.ops < 1000000) : d.opx.ok := by
  refine ⟨h.n1, h.n2, h.len, h.nodup, h.lt, h.sz, ?_, fun hc => ?_, h.lft⟩
  · show d.ops + 1 ≤ 1000000; omega
  · have := h.left hc
    show -((d.ops + 1 : Nat) : Int) ≤ d.left ∧ d.left ≤ 0
    omega
section
variable {p g bm : Nat} {M : Option Nat} {d : Dk}
theorem opd_fin (ho : d.on) (hn : d.ops < 1000000) (W : World) (H : DiskS W p g bm M d) : ∀ w', w' = (W.setCell ⟨p, 3, none⟩ (.int .i64 ((d.ops + 1 : Nat) : Int))).setCell ⟨p, 5, none⟩ (.int .i64 (d.left - 1)) → DiskS w' p g bm M d.opd ∧ Kx (fun k => k = p) W w' := by
  rintro w' rfl
  have K : Kx (fun k => k = p) W ((W.setCell ⟨p, 3, none⟩ (.int .i64 ((d.ops + 1 : Nat) : Int))).setCell ⟨p, 5, none⟩ (.int .i64 (d.left - 1))) := ((Kx.refl (S := fun k => k = p) W).setCell (p := ⟨p, 3, none⟩) rfl _).setCell (p := ⟨p, 5, none⟩) rfl _
  refine ⟨diskS_head_turn H K (fun k hk => Or.inl hk) (opd_ok H.ok ho hn) rfl rfl rfl rfl (fun gv ov h => ?_), K⟩
  obtain ⟨c0, c1, c2, c3, c4, c5, c6, f0, f2, f3, f4, f5, f6⟩ := h
  exact (show DiskAt _ p gv bm ov ((d.ops + 1 : Nat) : Int) d.cut (d.left - 1) d.off from ⟨by go_simp, by go_simp, by go_simp, by go_simp, by go_simp, by go_simp, by go_simp, by go_simp, by go_simp, by go_simp, by go_simp, by go_simp, by go_simp⟩)
theorem opx_fin1 (hn : d.ops < 1000000) (W : World) (H : DiskS W p g bm M d) : ∀ w', w' = (W.setCell ⟨p, 3, none⟩ (.int .i64 ((d.ops + 1 : Nat) : Int))).setCell ⟨p, 6, none⟩ (.bool true) → DiskS w' p g bm M d.opx ∧ Kx (fun k => k = p) W w' := by
  rintro w' rfl
  have K : Kx (fun k => k = p) W ((W.setCell ⟨p, 3, none⟩ (.int .i64 ((d.ops + 1 : Nat) : Int))).setCell ⟨p, 6, none⟩ (.bool true)) := ((Kx.refl (S := fun k => k = p) W).setCell (p := ⟨p, 3, none⟩) rfl _).setCell (p := ⟨p, 6, none⟩) rfl _
  refine ⟨diskS_head_turn H K (fun k hk => Or.inl hk) (opx_ok H.ok hn) rfl rfl rfl rfl (fun gv ov h => ?_), K⟩
  obtain ⟨c0, c1, c2, c3, c4, c5, c6, f0, f2, f3, f4, f5, f6⟩ := h
  exact (show DiskAt _ p gv bm ov ((d.ops + 1 : Nat) : Int) d.cut d.left true from ⟨by go_simp, by go_simp, by go_simp, by go_simp, by go_simp, by go_simp, by go_simp, by go_simp, by go_simp, by go_simp, by go_simp, by go_simp, by go_simp⟩)
theorem opx_fin2 (hof : d.off = true) (hn : d.ops < 1000000) (W : World) (H : DiskS W p g bm M d) : ∀ w', w' = W.setCell ⟨p, 3, none⟩ (.int .i64 ((d.ops + 1 : Nat) : Int)) → DiskS w' p g bm M d.opx ∧ Kx (fun k => k = p) W w' := by
  rintro w' rfl
  have K : Kx (fun k => k = p) W (W.setCell ⟨p, 3, none⟩ (.int .i64 ((d.ops + 1 : Nat) : Int))) := (Kx.refl (S := fun k => k = p) W).setCell (p := ⟨p, 3, none⟩) rfl _
  refine ⟨diskS_head_turn H K (fun k hk => Or.inl hk) (opx_ok H.ok hn) rfl rfl rfl rfl (fun gv ov h => ?_), K⟩
  obtain ⟨c0, c1, c2, c3, c4, c5, c6, f0, f2, f3, f4, f5, f6⟩ := h
  rw [hof] at c6
  exact (show DiskAt _ p gv bm ov ((d.ops + 1 : Nat) : Int) d.cut d.left true from ⟨by go_simp, by go_simp, by go_simp, by go_simp, by go_simp, by go_simp, by go_simp, by go_simp, by go_simp, by go_simp, by go_simp, by go_simp, by go_simp⟩)
set_option maxRecDepth 100000 in
theorem d_op_on (ho : d.on) (hn : d.ops < 1000000) (W : World) (H : DiskS W p g bm M d) :
    Calls Tryz.prog 94 #[.pointer (some ⟨p, 0, none⟩)] W fun e w' => e = .returned .nilIface ∧ DiskS w' p g bm M d.opd ∧ Kx (fun k => k = p) W w' := by
  have fin := opd_fin ho hn W H
  obtain ⟨l1, l2⟩ := left_wrap (left_lo H.ok ho) H.ok.lft.out.2
  obtain ⟨cap, ov, h, -⟩ := H.head
  obtain ⟨c0, c1, c2, c3, c4, c5, c6, f0, f2, f3, f4, f5, f6⟩ := h
  have hB := World.block_lt_of_cell? _ _ c6
  obtain ⟨ho1, ho2⟩ := ho
  rw [ho1] at c6
  obtain ⟨ops, eo⟩ : ∃ x, x = d.ops := ⟨_, rfl⟩
  rw [← eo] at c3 hn
  have o1 : wrap64 ((ops : Int) + 1) = ((ops + 1 : Nat) : Int) := by rw [show ((ops : Int) + 1) = ((ops + 1 : Nat) : Int) by omega]; exact wr_small (by omega)
  have o2 : IntKind.i64.wrap ((ops : Int) + 1) = ((ops + 1 : Nat) : Int) := by rw [show ((ops : Int) + 1) = ((ops + 1 : Nat) : Int) by omega]; exact wk_small (by omega)
  rw [← eo] at fin
  have HF := Lib.hid fin
  clear eo fin H
  cases hc : d.cut with
  | true =>
    have hl := ho2 hc
    rw [hc] at c4
    have t1 : decide (d.left < 1) = false := decide_eq_false (by omega)
    generalize d.left = left at *
    clear ho2 hc
    go_enter Tryz.func94, Tryz.ntmps94
    go_wp2_with fail
    go_ret
    exact ⟨rfl, by first | exact HF.out _ rfl | (have := HF.out _ rfl; simpa using this)⟩
  | false =>
    rw [hc] at c4
    generalize d.left = left at *
    clear ho2 hc
    go_enter Tryz.func94, Tryz.ntmps94
    go_wp2_with fail
    go_ret
    exact ⟨rfl, by first | exact HF.out _ rfl | (have := HF.out _ rfl; simpa using this)⟩
set_option maxRecDepth 100000 in
theorem d_op_off (ho : ¬ d.on) (hn : d.ops < 1000000) (W : World) (H : DiskS W p g bm M d) :
    Calls Tryz.prog 94 #[.pointer (some ⟨p, 0, none⟩)] W fun e w' => e = .returned (.iface 71 (.int .i64 9)) ∧ DiskS w' p g bm M d.opx ∧ Kx (fun k => k = p) W w' := by
  have fin1 := opx_fin1 hn W H
  have fin2 := fun h => opx_fin2 h hn W H
  obtain ⟨cap, ov, h, -⟩ := H.head
  obtain ⟨c0, c1, c2, c3, c4, c5, c6, f0, f2, f3, f4, f5, f6⟩ := h
  have hB := World.block_lt_of_cell? _ _ c6
  obtain ⟨ops, eo⟩ : ∃ x, x = d.ops := ⟨_, rfl⟩
  rw [← eo] at c3 hn
  have o1 : wrap64 ((ops : Int) + 1) = ((ops + 1 : Nat) : Int) := by rw [show ((ops : Int) + 1) = ((ops + 1 : Nat) : Int) by omega]; exact wr_small (by omega)
  have o2 : IntKind.i64.wrap ((ops : Int) + 1) = ((ops + 1 : Nat) : Int) := by rw [show ((ops : Int) + 1) = ((ops + 1 : Nat) : Int) by omega]; exact wk_small (by omega)
  rw [← eo] at fin1 fin2
  have HF1 := Lib.hid fin1
  have HF2 := Lib.hid fin2
  have hq : (d.cut = true ∧ d.left < 1) ∨ (¬ (d.cut = true ∧ d.left < 1) ∧ d.off = true) := by
    by_cases h : d.cut = true ∧ d.left < 1
    · exact Or.inl h
    · refine Or.inr ⟨h, ?_⟩
      cases hof : d.off with
      | true => rfl
      | false => exact absurd ⟨hof, fun hc => by have : ¬ d.left < 1 := fun hl => h ⟨hc, hl⟩; omega⟩ ho
  clear eo fin1 fin2 H ho
  rcases hq with ⟨hc, hl⟩ | ⟨hx, hof⟩
  · rw [hc] at c4
    have t1 : decide (d.left < 1) = true := decide_eq_true hl
    generalize d.left = left at *
    generalize d.off = off at *
    clear hc HF2
    go_enter Tryz.func94, Tryz.ntmps94
    go_wp2_with fail
    go_ret
    exact ⟨rfl, by first | exact HF1.out _ rfl | (have := HF1.out _ rfl; simpa using this)⟩
  · have HF3 := Lib.hid (HF2.out hof)
    rw [hof] at c6
    clear HF2
    cases hc : d.cut with
    | true =>
      have hl : ¬ d.left < 1 := fun h => hx ⟨hc, h⟩
      rw [hc] at c4
      have t1 : decide (d.left < 1) = false := decide_eq_false hl
      generalize d.left = left at *
      clear hc hx hof
      go_enter Tryz.func94, Tryz.ntmps94
      go_wp2_with fail
      go_ret
      exact ⟨rfl, by first | exact HF3.out _ rfl | (have := HF3.out _ rfl; simpa using this)⟩
    | false =>
      rw [hc] at c4
      generalize d.left = left at *
      clear hc hx hof
      go_enter Tryz.func94, Tryz.ntmps94
      go_wp2_with fail
      go_ret
      exact ⟨rfl, by first | exact HF3.out _ rfl | (have := HF3.out _ rfl; simpa using this)⟩
end
end Go.Proofs.YtbjckoelgpbaaaaGreatDoor
