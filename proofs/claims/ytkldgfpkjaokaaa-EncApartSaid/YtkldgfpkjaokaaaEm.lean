/- enc: what the document fixes -/
import Derived.Test.YtkldgfpkjaokaaaEl
namespace Go.Proofs.Ytkldgfpkjaokaaa
set_option linter.unusedVariables false
open Go.ChangeShapes Go.WideShapes Go.ChangeAt Go.RowKit

theorem c_Bytes_same {L : List UInt8} {u v : Value} (W : World) (hu : Row W u L) (hv : Row W v L) (hl : L.length ≤ 1000000000) : Calls Try.prog 7 #[u, v] W fun e w' => e = .returned (.bool true) ∧ Gr W w' := by
  have h := c_Bytes W hu hv hl
  rw [decide_eq_true rfl] at h
  exact h
/-- Bytes that are typed. -/
theorem row_lit (w : World) (L : List UInt8) (n : Nat) (hn : L.length = n) (hm : n ≤ maxLen) : Row (w.alloc (.cells (L.map bv).toArray 5)) (.slice (some ⟨w.heap.size, 0, none⟩) n n) L := by
  subst hn
  have h := World.ownsRow_lit (base := w.heap.size) (e := 5) (size := 1) w (L.map bv).toArray L.length (Nat.le_refl _) hm (by simp)
  exact row_own (base := w.heap.size) (by simpa [Own] using h)
set_option maxHeartbeats 2000000 in
set_option maxRecDepth 100000 in
theorem p8_awake (W : World) : Calls Try.prog 4 #[] W fun e w' => e = .returned (.bool true) ∧ Gr W w' := by
  have A1 := fun (B : Nat) (w : World) (h0 : w.cell? ⟨B, 0, none⟩ = some (.int .i64 1)) (h1 : w.cell? ⟨B, 1, none⟩ = some (.int .i64 (-1))) (hB : B < w.heap.size) => c_Object_pt 1 (-1) B 0 1 (by unfold Iw; omega) (by unfold Iw; omega) (by decide) w h0 h1 hB
  rw [vr_bytes] at A1
  have A2 := fun w => c_Signed (-1) (by omega) (by omega) w
  rw [vr_m1] at A2
  have A3 : ∀ w : World, Row (w.alloc (.cells #[.int .u8 1, .int .u8 1, .int .u8 2, .int .u8 1] 5)) (.slice (some ⟨w.heap.size, 0, none⟩) 4 4) [1, 1, 2, 1] := fun w => row_lit w [1, 1, 2, 1] 4 rfl (by decide)
  have A4 : ∀ w : World, Row (w.alloc (.cells #[.int .u8 1] 5)) (.slice (some ⟨w.heap.size, 0, none⟩) 1 1) [1] := fun w => row_lit w [1] 1 rfl (by decide)
  have H1 := Lib.hid A1
  have H2 := Lib.hid A2
  have H3 := Lib.hid A3
  have H4 := Lib.hid A4
  clear A1 A2 A3 A4
  go_enter Try.func4, Try.ntmps4
  go_wp2_with fail
  go_at_call 9
  (with_reducible refine (H1.out _ _ (by go_simp) (by go_simp) (by simp)).mono ?_)
  rintro e w1 ⟨b1, rfl, own1, g1⟩
  have G1 : Gr W w1 := Gr.trans (by go_grown) g1
  have R1 := Lib.hid (row_own own1)
  clear own1 g1
  go_wp2_with fail
  go_at_call 7
  (with_reducible refine (c_Bytes_same (L := [1, 1, 2, 1]) _ (row_gr R1.out (by go_grown)) (H3.out w1) (by decide)).mono ?_)
  rintro e w2 ⟨rfl, g2⟩
  have G2 : Gr W w2 := Gr.trans (Gr.trans G1 (by go_grown)) g2
  clear g2 G1 R1
  go_wp2_with fail
  go_at_call 10
  (with_reducible refine (H2.out _).mono ?_)
  rintro e w3 ⟨b3, rfl, own3, g3⟩
  have G3 : Gr W w3 := Gr.trans G2 g3
  have R3 := Lib.hid (row_own own3)
  clear own3 g3 G2
  go_wp2_with fail
  go_at_call 7
  (with_reducible refine (c_Bytes_same (L := [1]) _ (row_gr R3.out (by go_grown)) (H4.out w3) (by decide)).mono ?_)
  rintro e w4 ⟨rfl, g4⟩
  go_wp2_with fail
  go_ret
  exact ⟨rfl, Gr.trans (Gr.trans G3 (by go_grown)) g4⟩
end Go.Proofs.Ytkldgfpkjaokaaa
