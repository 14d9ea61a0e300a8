/- numbers laid are read as they were -/
import Derived.Test.YtlkciinhhagjiaaDoorEm
import Derived.Test.YtlkciinhhagjiaaDoorEn
namespace Go.Proofs.YtlkciinhhagjiaaDoor
set_option linter.unusedVariables false
open Go.ChangeShapes Go.WideShapes Go.ChangeAt Go.RowKit

/-- What was laid, whatever stands behind, is read as it was. -/
theorem uL_vr (v : Nat) (hv : Wd v) (M : List UInt8) : uL (Ec.vr v ++ M) = (v, (Ec.vr v).length) := by
  unfold uL
  have hl := Ec.vr_len10 hv
  rw [Ec.uv_vr (rb (Ec.vr v ++ M)) _ 10 v 0 0 (by unfold Wd at hv; simpa using hv) (by simp) (fun h => absurd h (by omega)) (by omega) (fun j hj => ?_) (by simp)]
  · simp
  · unfold rb
    rw [Nat.zero_add, List.getD_eq_getElem?_getD, List.getD_eq_getElem?_getD, List.getElem?_append_left hj]
theorem si_zz {n : Int} (h : Iw n) : si (zz n) = n := by
  unfold Iw at h
  unfold si zz
  split
  · rename_i hp
    rw [if_neg (by omega)]; omega
  · rename_i hp
    rw [if_pos (by omega)]; omega
theorem zz_inj {n m : Int} (hn : Iw n) (hm : Iw m) (h : zz n = zz m) : n = m := by rw [← si_zz hn, ← si_zz hm, h]
theorem iw_wd {n : Int} (h : Iw n) : Wd (zz n) := zz_wd h.1 h.2
theorem c_SignedI {n : Int} (h : Iw n) (W : World) :
    Calls Tryd.prog 71 #[.int .i64 n] W fun e w' => ∃ ad cap, e = .returned (.slice ad (Ec.vr (zz n)).length cap) ∧ Row w' (.slice ad (Ec.vr (zz n)).length cap) (Ec.vr (zz n)) ∧ Gr W w' := by
  refine (c_Signed n h.1 h.2 W).mono ?_
  rintro e w' ⟨b', rfl, o, g⟩
  have r := row_own o
  obtain ⟨ad, cap, B, off, rfl, h2⟩ := id r
  exact ⟨ad, cap, rfl, r, g⟩
end Go.Proofs.YtlkciinhhagjiaaDoor
