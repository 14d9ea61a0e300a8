/- frame: what the document fixes -/
import Derived.Test.YtmcbanplpgooeaaDoorFd
import Derived.Lib.SlBytesConst
namespace Go.Proofs.YtmcbanplpgooeaaDoor
set_option linter.unusedVariables false
open Go.ChangeShapes Go.WideShapes Go.ChangeAt Go.RowKit

/-- Bytes that are typed: a row with the mark of a string's. -/
theorem row_litM (w : World) (L : List UInt8) (f : Nat × Nat) (hm : L.length ≤ 1000) : Row (w.alloc (.cells (L.map bv).toArray 5 f)) (.slice (some ⟨w.heap.size, 0, none⟩) L.length L.length) L := by
  refine ⟨_, L.length, w.heap.size, 0, rfl, Nat.le_refl _, by omega, fun _ => rfl, fun j hj => ?_⟩
  rw [Nat.zero_add, cell_of_row _ w.heap.size j _ 5 f (heap_alloc_new w _)]
  simp [hj]
theorem frow {w : World} {base : Nat} {v : Value} (h : Own w base v (fr [97])) : ∃ g cap : Nat, v = .slice (some ⟨g, 0, none⟩) 9 cap ∧ 9 ≤ cap ∧ (cap : Int) ≤ 9223372036854775807 ∧ w.cell? ⟨g, 0, none⟩ = some (.int .u8 1) := by
  obtain ⟨g, cap, rfl, -, -, h1, h2⟩ := row_form h (by decide)
  refine ⟨g, cap, rfl, h1, h2, ?_⟩
  have := World.ownsRow.cellAt h 0 (by decide)
  rw [this]
  rfl
theorem sum_digits : Cr.sum [49, 50, 51, 52, 53, 54, 55, 56, 57] = 3421780262 := by decide +kernel
set_option maxHeartbeats 2000000 in
set_option maxRecDepth 100000 in
theorem p9_awake (W : World) (hF : FT W) : Calls Tryd.prog 66 #[] W fun e w' => e = .returned (.bool true) ∧ Gr W w' := by
  have kc := fun (w : World) (C : Array Value) (n c : Nat) => Lib.run_convert_bytes_const (P := Tryd.prog) w 79 5 C n c Tryd.underlying79 Tryd.underlying5
  have A1 : ∀ w : World, Row (w.alloc (.cells #[.int .u8 97] 5 (1, 2))) (.slice (some ⟨w.heap.size, 0, none⟩) 1 1) [97] := fun w => row_litM w [97] (1, 2) (by decide)
  have A2 : ∀ w : World, Row (w.alloc (.cells #[.int .u8 49, .int .u8 50, .int .u8 51, .int .u8 52, .int .u8 53, .int .u8 54, .int .u8 55, .int .u8 56, .int .u8 57] 5 (9, 10))) (.slice (some ⟨w.heap.size, 0, none⟩) 9 9) [49, 50, 51, 52, 53, 54, 55, 56, 57] := fun w => row_litM w [49, 50, 51, 52, 53, 54, 55, 56, 57] (9, 10) (by decide)
  have H1 := Lib.hid A1
  have H2 := Lib.hid A2
  clear A1 A2
  have HF := Lib.hid hF
  clear hF
  go_enter Tryd.func66, Tryd.ntmps66
  go_wp2_with fail
  go_at_call 67
  (with_reducible refine (c_Put _ (ft_gr HF.out (by go_grown)) (H1.out W) (by decide)).mono ?_)
  rintro e w1 ⟨b1, rfl, own1, g1⟩
  obtain ⟨g, cap, rfl, hc, hc2, k0⟩ := frow own1
  have G1 : Gr W w1 := Gr.trans (by go_grown) g1
  clear own1 g1
  have hc3 : (0 : Int) < 9 := by decide
  go_wp2_with fail
  go_at_call 73
  (with_reducible refine (c_Sum (L := [49, 50, 51, 52, 53, 54, 55, 56, 57]) _ (ft_gr HF.out (Gr.trans G1 (by go_grown))) (H2.out w1) (by decide)).mono ?_)
  rintro e w2 ⟨rfl, g2⟩
  rw [sum_digits]
  go_wp2_with fail
  go_ret
  exact ⟨rfl, Gr.trans (Gr.trans G1 (by go_grown)) g2⟩
end Go.Proofs.YtmcbanplpgooeaaDoor
