/- disk: Cut -/
import Derived.Test.YtkbdhhmkdjajgaaDoorDb
namespace Go.Proofs.YtkbdhhmkdjajgaaDoor
set_option linter.unusedVariables false
set_option linter.unusedSimpArgs false
open Go.ChangeShapes Go.WideShapes Go.ChangeAt Go.RowKit Go.Maps

section
variable {p g bm : Nat} {M : Option Nat} {d : Dk}
theorem d_cut (z : Int) (hz : -9223372036854775808 ≤ z ∧ z ≤ 9223372036854775807) (W : World) (H : DiskS W p g bm M d) : Calls Tryd.prog 18 #[.pointer (some ⟨p, 0, none⟩), .int .i64 z] W fun e w' => e = .returned (.tuple #[]) ∧ DiskS w' p g bm M { d with cut := true, left := z } ∧ Kx (fun k => k = p) W w' := by
  have HH := Lib.hid (And.intro H hz)
  obtain ⟨cap, ov, h, -⟩ := H.head
  obtain ⟨c0, c1, c2, c3, c4, c5, c6, f0, f2, f3, f4, f5, f6⟩ := h
  have hB := World.block_lt_of_cell? _ _ c6
  clear H hz
  go_enter Tryd.func18, Tryd.ntmps18
  go_wp2_with fail
  go_end0
  have K : Kx (fun k => k = p) W ((W.setCell ⟨p, 4, none⟩ (.bool true)).setCell ⟨p, 5, none⟩ (.int .i64 z)) := ((Kx.refl (S := fun k => k = p) W).setCell (p := ⟨p, 4, none⟩) rfl _).setCell (p := ⟨p, 5, none⟩) rfl _
  obtain ⟨H, hz⟩ := HH.out
  clear c0 c1 c2 c3 c4 c5 c6 f0 f2 f3 f4 f5 f6
  refine ⟨rfl, diskS_head_turn H K (fun k hk => Or.inl hk) ⟨H.ok.n1, H.ok.n2, H.ok.len, H.ok.nodup, H.ok.lt, H.ok.sz, H.ok.ops, (fun h => by cases h), Lib.hid hz⟩ rfl rfl rfl rfl (fun gv ov h => ?_), K⟩
  obtain ⟨c0, c1, c2, c3, c4, c5, c6, f0, f2, f3, f4, f5, f6⟩ := h
  exact (show DiskAt _ p gv bm ov d.ops true z d.off from ⟨by go_simp, by go_simp, by go_simp, by go_simp, by go_simp, by go_simp, by go_simp, by go_simp, by go_simp, by go_simp, by go_simp, by go_simp, by go_simp⟩)
end
end Go.Proofs.YtkbdhhmkdjajgaaDoor
