/- DiskNothing -/
import Derived.Test.YtcalleofndokaaaDn
namespace Go.Proofs.Ytcalleofndokaaa
set_option linter.unusedVariables false
set_option linter.unusedSimpArgs false
open Go.ChangeShapes Go.WideShapes Go.ChangeAt Go.RowKit Go.Maps

theorem d_write_nil (z : Int) (v : Value) (W : World) :
    Calls Try.prog 23 #[.pointer none, .int .i64 z, v] W fun e w' => ∃ F, e = .returned (.iface 77 (.pointer (some ⟨F, 0, none⟩))) ∧ FaultAt w' F writeS z 2 ∧ Gr W w' := by
  by_cases h : z < 0
  · have t1 : decide (z < 0) = true := decide_eq_true h
    go_enter Try.func23, Try.ntmps23
    go_wp2_with fail
    go_at_call 32
    refine (d_faultNew writeS z 2 _).mono ?_
    rintro e w3 ⟨F, rfl, hf, g3⟩
    go_wp2_with fail
    go_ret
    exact ⟨F, rfl, hf, Gr.trans (by go_grown) g3⟩
  · have t1 : decide (z < 0) = false := decide_eq_false h
    have h2 : (0 : Int) ≤ z := by omega
    have t2 : decide ((0 : Int) ≤ z) = true := decide_eq_true h2
    go_enter Try.func23, Try.ntmps23
    go_wp2_with fail
    go_at_call 30
    refine ((d_len_nil _)).mono ?_
    rintro e w1 ⟨rfl, hw1⟩
    have gw1 : Gr W w1 := Gr.trans (by go_grown) hw1
    clear hw1
    go_wp2_with fail
    go_at_call 32
    refine (d_faultNew writeS z 2 _).mono ?_
    rintro e w3 ⟨F, rfl, hf, g3⟩
    go_wp2_with fail
    go_ret
    exact ⟨F, rfl, hf, Gr.trans (by have gg := gw1; have gs := gg.size; go_grown) g3⟩
theorem d_sync_nil (W : World) :
    Calls Try.prog 29 #[.pointer none] W fun e w' => ∃ F, e = .returned (.iface 77 (.pointer (some ⟨F, 0, none⟩))) ∧ FaultAt w' F syncS 0 9 ∧ Gr W w' := by
  go_enter Try.func29, Try.ntmps29
  go_wp2_with fail
  go_at_call 30
  refine ((d_len_nil _)).mono ?_
  rintro e w1 ⟨rfl, hw1⟩
  have gw1 : Gr W w1 := Gr.trans (by go_grown) hw1
  clear hw1
  go_wp2_with fail
  go_at_call 32
  refine (d_faultNew syncS 0 9 _).mono ?_
  rintro e w3 ⟨F, rfl, hf, g3⟩
  go_wp2_with fail
  go_ret
  exact ⟨F, rfl, hf, Gr.trans (by have gg := gw1; have gs := gg.size; go_grown) g3⟩
theorem d_crash_nil (v x : Value) (W : World) : Calls Try.prog 24 #[.pointer none, v, x] W fun e w' => e = .returned (.pointer none) ∧ Gr W w' := by
  go_enter Try.func24, Try.ntmps24
  go_wp2_with fail
  go_at_call 30
  refine ((d_len_nil _)).mono ?_
  rintro e w1 ⟨rfl, hw1⟩
  have gw1 : Gr W w1 := Gr.trans (by go_grown) hw1
  clear hw1
  go_wp2_with fail
  go_ret
  exact ⟨rfl, gw1⟩
theorem d_copy_nil (W : World) : Calls Try.prog 28 #[.pointer none] W fun e w' => e = .returned (.pointer none) ∧ Gr W w' := by
  go_enter Try.func28, Try.ntmps28
  go_wp2_with fail
  go_at_call 30
  refine ((d_len_nil _)).mono ?_
  rintro e w1 ⟨rfl, hw1⟩
  have gw1 : Gr W w1 := Gr.trans (by go_grown) hw1
  clear hw1
  go_wp2_with fail
  go_ret
  exact ⟨rfl, gw1⟩
theorem lawD_copy {W w : World} {p : Nat} {d : Dk} (h : LawD W w p d) :
    Calls Try.prog 28 #[.pointer (some ⟨p, 0, none⟩)] w fun e w' => ∃ p', e = .returned (.pointer (some ⟨p', 0, none⟩)) ∧ LawD w w' p' d ∧ Gr w w' := by
  obtain ⟨q, bm, M, h1, h2⟩ := h
  refine (d_copy w h1).mono ?_
  rintro e w' ⟨p', g', bm', M', rfl, h3, h4, h5⟩
  exact ⟨p', rfl, ⟨g', bm', M', h4, h3⟩, h5⟩
set_option maxHeartbeats 2000000 in
set_option maxRecDepth 100000 in
theorem nothing_core (z : Int) (W : World) : Calls Try.prog 7 #[.int .i64 z] W fun e w' => e = .returned (.bool true) ∧ Gr W w' := by
  have AN : ∀ w, Calls Try.prog 22 #[.int .i64 3] w fun e w' => ∃ p, e = .returned (.tuple #[.pointer (some ⟨p, 0, none⟩), .nilIface]) ∧ LawD w w' p (dk0 3 (List.replicate (3 * 64) 0)) ∧ Gr w w' := fun w => lawD_new 3 (by decide) (by decide) (Below.refl _ _)
  have AB : ∀ w, Calls Try.prog 12 #[.int .i64 64, .int .i64 1] w fun e w' => e = .returned (.slice (some ⟨w.heap.size, 0, none⟩) 64 64) ∧ Own w' w.heap.size (.slice (some ⟨w.heap.size, 0, none⟩) 64 64) (blk (1 : Nat) 64) ∧ Gr w w' := fun w => c_Block 64 (by decide) 1 (by decide) w
  obtain ⟨o64, M1, M2⟩ := make64
  have HN := Lib.hid AN
  have HB := Lib.hid AB
  clear AN AB
  have HM2 := Lib.hid M2
  clear M2
  go_enter Try.func7, Try.ntmps7
  go_wp2_with fail
  go_at_call 25
  refine (d_read_nil z _).mono ?_
  rintro e w1 ⟨F1, rfl, hf1, g1⟩
  have G1 : Gr W w1 := Gr.trans (by go_grown) g1
  have HF1 := Lib.hid hf1
  clear hf1 g1
  go_wp2_with fail
  go_at_call 22
  refine (HN.out _).mono ?_
  rintro e w2 ⟨p, rfl, hd, g12⟩
  have G2 : Gr W w2 := Gr.trans G1 g12
  have HD2 := Lib.hid hd
  clear hd
  go_wp2_with fail
  go_at_call 28
  refine (lawD_copy HD2.out).mono ?_
  rintro e w3 ⟨p3, rfl, hd3, g3⟩
  have HD3 := Lib.hid hd3
  have G3 : Gr W w3 := Gr.trans G2 g3
  clear hd3
  go_wp2_with fail
  go_at_call 12
  refine (HB.out _).mono ?_
  rintro e w4 ⟨rfl, o4, g4⟩
  have G4 : Gr W w4 := Gr.trans G3 g4
  have AW : Calls Try.prog 23 #[.pointer (some ⟨p3, 0, none⟩), .int .i64 1, .slice (some ⟨w3.heap.size, 0, none⟩) 64 64] w4 fun e w' => e = .returned .nilIface ∧ Gr w2 w' := by
    refine (lawD_write (k := 1) HD3.out g4 (Gr.trans g3 g4) (by decide) (dk0_on _ _) (by decide) (blk_len ((1 : Nat) : Int) 64) (rowOff_own o4 (fun k hk => hk))).mono ?_
    rintro e w' ⟨rfl, h, g⟩
    exact ⟨rfl, g⟩
  have HW := Lib.hid AW
  clear AW o4 g4
  go_wp2_with fail
  go_at_call 23
  refine (HW.out).mono ?_
  rintro e w5 ⟨rfl, g25⟩
  have G5 : Gr W w5 := Gr.trans G2 g25
  have AR : Calls Try.prog 25 #[.pointer (some ⟨p, 0, none⟩), .int .i64 1] w5 fun e w' => ∃ ad c, e = .returned (.tuple #[.slice ad 64 c, .nilIface]) ∧ Row w' (.slice ad 64 c) (List.replicate 64 0) ∧ Gr w5 w' := by
    have h := lawD_read (k := 1) (lawD_gr HD2.out g25) (by decide)
    rw [dk0_read, sec_zeros (by decide)] at h
    exact h
  have HR := Lib.hid AR
  clear AR HW HD3
  go_wp2_with fail
  go_at_call 25
  refine (HR.out).mono ?_
  rintro e w6 ⟨rad, rc, rfl, hr6, g6⟩
  have G6 : Gr W w6 := Gr.trans G5 g6
  have HR6 := Lib.hid hr6
  have HF6 := Lib.hid (faultAt_gr HF1.out (Gr.trans g12 (Gr.trans g25 g6)))
  clear hr6 g25 HR g6 g3 g12 G1 G2 G3 G4 G5 HF1 HD2
  go_wp2_with fail
  go_at_call 13
  refine (c_CodeF F1 2 (by decide) _ HF6.out.2.2).mono ?_
  rintro e w7 ⟨rfl, g7⟩
  have G7 : Gr w6 w7 := g7
  go_wp2_with fail
  go_at_call 12
  refine (HB.out _).mono ?_
  rintro e w8 ⟨rfl, -, g8⟩
  have G8 : Gr w6 w8 := Gr.trans G7 g8
  go_wp2_with fail
  go_at_call 23
  refine (d_write_nil z _ _).mono ?_
  rintro e w9 ⟨F9, rfl, f9, g9⟩
  have G9 : Gr w6 w9 := Gr.trans G8 g9
  have HF9 := Lib.hid f9
  clear f9 g7 g8 g9 G7 G8
  go_wp2_with fail
  go_at_call 13
  refine (c_CodeF F9 2 (by decide) _ HF9.out.2.2).mono ?_
  rintro e w10 ⟨rfl, g10⟩
  have G10 : Gr w6 w10 := Gr.trans G9 g10
  clear g10 HF9
  go_wp2_with fail
  go_at_call 29
  refine (d_sync_nil _).mono ?_
  rintro e w11 ⟨F11, rfl, f11, g11⟩
  have G11 : Gr w6 w11 := Gr.trans G10 g11
  have HF11 := Lib.hid f11
  clear f11 g11 G10 G9
  go_wp2_with fail
  go_at_call 13
  refine (c_CodeF F11 9 (by decide) _ HF11.out.2.2).mono ?_
  rintro e w12 ⟨rfl, g12⟩
  have G12 : Gr w6 w12 := Gr.trans G11 g12
  clear g12 G11 HF11
  go_wp2_with fail
  go_at_call 27
  refine (d_off_nil _).mono ?_
  rintro e w13 ⟨rfl, g13⟩
  have G13 : Gr w6 w13 := Gr.trans G12 g13
  clear g13 G12
  go_wp2_with fail
  go_at_call 30
  refine (d_len_nil _).mono ?_
  rintro e w14 ⟨rfl, g14⟩
  have G14 : Gr w6 w14 := Gr.trans G13 g14
  clear g14 G13
  go_wp2_with fail
  go_at_call 26
  refine (d_ops_nil _).mono ?_
  rintro e w15 ⟨rfl, g15⟩
  have G15 : Gr w6 w15 := Gr.trans G14 g15
  clear g15 G14
  go_wp2_with fail
  go_at_call 24
  refine (d_crash_nil _ _ _).mono ?_
  rintro e w16 ⟨rfl, g16⟩
  have G16 : Gr w6 w16 := Gr.trans G15 g16
  clear g16 G15
  go_wp2_with fail
  go_at_call 28
  refine (d_copy_nil _).mono ?_
  rintro e w17 ⟨rfl, g17⟩
  have G17 : Gr w6 w17 := Gr.trans G16 g17
  clear g17 G16
  go_wp2_with fail
  go_at_call 20
  refine (bytes_same _ (row_gr HR6.out (Gr.trans G17 ((Below.refl _ _).alloc (Nat.le_refl _) _))) (row_own (HM2.out w17)) (by rw [List.length_replicate]; decide)).mono ?_
  rintro e w18 ⟨rfl, g18⟩
  have G18 : Gr w6 w18 := Gr.trans G17 (Gr.trans ((Below.refl _ _).alloc (Nat.le_refl _) _) g18)
  go_wp2_with fail
  go_at_call 21
  refine (p10_awake _).mono ?_
  rintro e w19 ⟨rfl, g19⟩
  go_wp2_with fail
  go_ret
  exact ⟨rfl, Gr.trans G6 (Gr.trans G18 g19)⟩
theorem walk_DiskNothing (z : Int) (hz : -9223372036854775808 ≤ z ∧ z ≤ 9223372036854775807) (W : World) : Calls Try.prog 7 #[.int .i64 z] W fun e w' => e = .returned (.bool true) ∧ Gr W w' := nothing_core z W
end Go.Proofs.Ytcalleofndokaaa
