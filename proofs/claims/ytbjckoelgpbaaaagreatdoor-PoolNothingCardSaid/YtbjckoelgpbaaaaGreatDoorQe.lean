/- PoolNothing: the law's world of disks and pools; awake; the walk -/
import Derived.Test.YtbjckoelgpbaaaaGreatDoorQd
namespace Go.Proofs.YtbjckoelgpbaaaaGreatDoor
set_option linter.unusedVariables false
set_option linter.unusedSimpArgs false
open Go.ChangeShapes Go.WideShapes Go.ChangeAt Go.RowKit Go.Maps

theorem np_new {q cap : Nat} {ad : Option Addr} (W : World) (c0 : W.cell? ⟨q, 0, none⟩ = some (.slice ad 64 cap)) :
    Calls Tryz.prog 99 #[.pointer (some ⟨q, 0, none⟩), .int .i64 4, .int .i64 1] W fun e w' => ∃ X, e = .returned (.tuple #[.pointer (some ⟨X, 0, none⟩), .int .i64 0]) ∧ Gr W w' := by
  have z := World.block_lt_of_cell? _ _ c0
  go_enter Tryz.func99, Tryz.ntmps99
  go_wp2_with fail
  go_ret2
  exact ⟨⟨_, rfl⟩, by go_grown⟩
section
variable {p g bm : Nat} {d : Dk}
set_option maxHeartbeats 2000000 in
set_option maxRecDepth 100000 in
theorem op_open {P q cap : Nat} {ad : Option Addr} (hn : d.n = 64) (W : World) (H : DiskS W p g bm none d) (hP : W.heap[P]? = some (.cells #[.pointer (some ⟨p, 0, none⟩), .pointer none, .pointer (some ⟨q, 0, none⟩), .pointer none, .slice none 0 0, .slice none 0 0, .slice none 0 0] 97 (0, 0))) (cq : W.cell? ⟨q, 0, none⟩ = some (.slice ad 64 cap)) :
    Calls Tryz.prog 77 #[.pointer (some ⟨P, 0, none⟩), .int .i64 4, .int .i64 1] W fun e w' => ∃ Q m, e = .returned (.bool true) ∧ w'.cell? ⟨P, 1, none⟩ = some (.pointer (some ⟨Q, 0, none⟩)) ∧ PlAt w' Q p m 0 0 ∧ w'.ownsMap Tryz.prog 3 heldE m 0 (.map []) ∧ Q ≠ m ∧ W.heap.size ≤ Q ∧ W.heap.size ≤ m ∧ Kx (fun k => k = P) W w' := by
  have AN := Lib.hid (pl_new hn W H)
  have c0 : W.cell? ⟨P, 0, none⟩ = some (.pointer (some ⟨p, 0, none⟩)) := Hm.cell_of_heap hP 0
  have zP := World.block_lt_of_cell? _ _ c0
  have HP := Lib.hid hP
  have HC := Lib.hid cq
  clear H hP cq hn
  go_enter Tryz.func77, Tryz.ntmps77
  go_wp2_with fail
  go_at_call 7
  refine (AN.out).mono ?_
  rintro e w1 ⟨Q, m, rfl, hQ, hm, hne, h1, h2, g1⟩
  have HN := Lib.hid (And.intro hne (And.intro h1 (And.intro h2 g1)))
  have c2 : w1.cell? ⟨P, 2, none⟩ = some (.pointer (some ⟨q, 0, none⟩)) := cell_gr g1 (Hm.cell_of_heap HP.out 2)
  have AX := Lib.hid (np_new w1 (cell_gr g1 HC.out))
  have z1 := World.block_lt_of_cell? _ _ c2
  clear hne h1 h2 g1 c0
  go_wp2_with fail
  go_at_call 99
  refine (AX.out).mono ?_
  rintro e w2 ⟨X, rfl, g2⟩
  have GP : Gr W w2 := Gr.trans HN.out.2.2.2 g2
  have hP2 := heap_kx (S := fun _ => False) (Kx.of_gr GP) (fun h => h) HP.out
  have a1 := Hm.cell_of_heap hP2 1
  have a3 := Hm.cell_of_heap hP2 3
  have a4 := Hm.cell_of_heap hP2 4
  have a5 := Hm.cell_of_heap hP2 5
  have a6 := Hm.cell_of_heap hP2 6
  have f1 := Hm.frozen_of_heap hP2 1
  have f3 := Hm.frozen_of_heap hP2 3
  have f4 := Hm.frozen_of_heap hP2 4
  have f5 := Hm.frozen_of_heap hP2 5
  have f6 := Hm.frozen_of_heap hP2 6
  have zP2 := (Array.getElem?_eq_some_iff.1 hP2).1
  have HG := Lib.hid (And.intro GP g2)
  have hPQ : P ≠ Q := by omega
  have hPm : P ≠ m := by omega
  clear GP hP2 g2 c2 z1
  go_wp2_with fail
  go_at_call 10
  refine (c_AlIs_nil poolS 0 _).mono ?_
  rintro e w4 ⟨rfl, g4⟩
  have c41 : w4.cell? ⟨P, 1, none⟩ = some (.pointer (some ⟨Q, 0, none⟩)) := cell_gr g4 (by go_simp)
  have K4 : Kx (fun k => k = P) w2 w4 := Kx.trans ((((((Kx.refl (S := fun k => k = P) w2).setCell (p := ⟨P, 1, none⟩) rfl _).setCell (p := ⟨P, 3, none⟩) rfl _).setCell (p := ⟨P, 4, none⟩) rfl _).setCell (p := ⟨P, 5, none⟩) rfl _).setCell (p := ⟨P, 6, none⟩) rfl _) (Kx.of_gr g4)
  have HK := Lib.hid (And.intro c41 K4)
  clear c41 K4 g4
  go_wp2_with fail
  go_ret
  obtain ⟨hne, h1, h2, g1⟩ := HN.out
  obtain ⟨c41, K4⟩ := HK.out
  have K2 : Kx (fun k => k = P) w1 w4 := (Kx.of_gr HG.out.2).trans K4
  exact ⟨Q, m, rfl, c41, heap_kx K2 (fun e => hPQ e.symm) h1, ownsMap_kx h2 K2 (fun e => hPm e.symm), hne, hQ, hm, (Kx.of_gr g1).trans K2⟩
end
def d64 : Dk := dk0 64 (List.replicate (64 * 64) 0)
theorem d64_read (k : Nat) (hk : k < 8) : d64.read k = List.replicate 64 0 := by
  show (if k ∈ ([] : List Nat) then _ else sec (List.replicate (64 * 64) 0) k) = _
  rw [if_neg List.not_mem_nil]
  exact sec_zeros (n := 64) (by omega)
set_option maxHeartbeats 2000000 in
set_option maxRecDepth 100000 in
theorem op_fresh (W : World) : Calls Tryz.prog 43 #[.int .i64 64, .int .i64 4, .int .i64 1] W fun e w' => ∃ P Q p g bm m, e = .returned (.tuple #[.pointer (some ⟨P, 0, none⟩), .bool true]) ∧ w'.cell? ⟨P, 1, none⟩ = some (.pointer (some ⟨Q, 0, none⟩)) ∧ DiskS w' p g bm none d64 ∧ PlAt w' Q p m 0 0 ∧ w'.ownsMap Tryz.prog 3 heldE m 0 (.map []) ∧ Q ≠ m ∧ P ≠ Q ∧ P ≠ m ∧ ¬ dkZ p g bm none Q ∧ W.heap.size ≤ Q ∧ W.heap.size ≤ m ∧ Gr W w' := by
  have AD := Lib.hid (d_new 64 (by omega) (by omega) W)
  go_enter Tryz.func43, Tryz.ntmps43
  go_wp2_with fail
  go_at_call 75
  refine (AD.out).mono ?_
  rintro e w1 ⟨p, g, bm, rfl, hz, hD, g1⟩
  have AR := Lib.hid (rd_new (base := 0) (Z := fun _ => False) 64 (by omega) (by omega) w1 (fun k h => h.elim) (Nat.zero_le _))
  have HD := Lib.hid (And.intro hD g1)
  clear hz hD g1
  go_wp2_with fail
  go_at_call 76
  refine (AR.out).mono ?_
  rintro e w2 ⟨q, gv, gs, rfl, hR, g2⟩
  obtain ⟨ad, cap, egv⟩ := own_formQ hR.good
  have cq : w2.cell? ⟨q, 0, none⟩ = some (.slice ad 64 cap) := by
    have := (refD_cells hR).2.1
    rw [egv] at this
    exact this
  have HQ := Lib.hid (And.intro cq g2)
  clear hR cq g2 egv AR AD
  have Gal : Gr w2 (w2.alloc (.cells #[.pointer (some ⟨p, 0, none⟩), .pointer none, .pointer (some ⟨q, 0, none⟩), .pointer none, .slice none 0 0, .slice none 0 0, .slice none 0 0] 97)) := (Below.refl _ _).alloc (Nat.le_refl _) _
  have GW := Gr.trans HD.out.2 (Gr.trans HQ.out.2 Gal)
  have D3 := diskS_gr HD.out.1 (Gr.trans HQ.out.2 Gal)
  have AO := Lib.hid (op_open (d := d64) rfl _ D3 (heap_alloc_new w2 (.cells #[.pointer (some ⟨p, 0, none⟩), .pointer none, .pointer (some ⟨q, 0, none⟩), .pointer none, .slice none 0 0, .slice none 0 0, .slice none 0 0] 97)) (cell_gr Gal HQ.out.1))
  have hzl := diskS_zlt (diskS_gr HD.out.1 HQ.out.2)
  have HX := Lib.hid (And.intro GW (And.intro D3 hzl))
  have hs3 : (w2.alloc (.cells #[.pointer (some ⟨p, 0, none⟩), .pointer none, .pointer (some ⟨q, 0, none⟩), .pointer none, .slice none 0 0, .slice none 0 0, .slice none 0 0] 97)).heap.size = w2.heap.size + 1 := by simp
  clear Gal GW D3 hzl
  go_wp2_with fail
  go_at_call 77
  refine (AO.out).mono ?_
  rintro e w4 ⟨Q, m, rfl, c1, hP, hm, hne, hQs, hms, K⟩
  have HR := Lib.hid (And.intro c1 (And.intro hP (And.intro hm K)))
  rw [hs3] at hQs hms
  clear c1 hP hm K
  go_wp2_with fail
  go_ret2
  obtain ⟨c1, hP, hm, K⟩ := HR.out
  obtain ⟨GW, D3, hzl⟩ := HX.out
  have sW := GW.size
  rw [hs3] at sW
  have s12 := HD.out.2.size
  have s22 := HQ.out.2.size
  exact ⟨_, Q, p, g, bm, m, rfl, c1, diskS_kxN D3 rfl K (fun k hk hz => by have h1 := hzl k hz; have h2 : k = w2.heap.size := hk; omega), hP, hm, hne, by omega, by omega, fun hz => by have := hzl Q hz; omega, by omega, by omega, Kx.gr K GW (fun k hk => by have h2 : k = w2.heap.size := hk; omega)⟩
set_option maxHeartbeats 2000000 in
set_option maxRecDepth 100000 in
theorem p12_awake (W : World) (hE : ErrT W) : Calls Tryz.prog 15 #[] W fun e w' => e = .returned (.bool true) ∧ Gr W w' := by
  have HE := Lib.hid hE
  clear hE
  go_enter Tryz.func15, Tryz.ntmps15
  go_wp2_with fail
  go_at_call 43
  refine (op_fresh _).mono ?_
  rintro e w1 ⟨P, Q, p, g, bm, m, rfl, c1, hD, hP, hm, hQm, hPQ, hPm, hQd, hQs, hms, g1⟩
  have zP := World.block_lt_of_cell? _ _ c1
  have AP := Lib.hid (pl_pin0 (d := d64) (by decide) rfl d64_read w1 hD hP hm hQm hQd)
  have HG1 := Lib.hid g1
  clear hD hP hm hQd g1
  go_wp2_with fail
  go_at_call 6
  refine (AP.out).mono ?_
  rintro e w2 ⟨B, h, rfl, hB, q2, h2, m2, K2⟩
  have c2 : w2.cell? ⟨P, 1, none⟩ = some (.pointer (some ⟨Q, 0, none⟩)) := cell_kx K2 (fun e => by rcases e with e | e; exact hPQ e; exact hPm e) c1
  have z2 := World.block_lt_of_cell? _ _ c2
  have G2 : Gr W w2 := Kx.gr K2 HG1.out (fun k hk => by rcases hk with rfl | rfl; exact hQs; exact hms)
  have AN := Lib.hid (pl_pin1 w2 q2 h2 m2)
  have HB := Lib.hid (And.intro hB G2)
  clear hB q2 h2 m2 K2 G2 c1 zP AP
  go_wp2_with fail
  go_at_call 6
  refine (AN.out).mono ?_
  rintro e w3 ⟨F, rfl, hf, g3⟩
  obtain ⟨sl, xs, hpa, -⟩ := HB.out.1
  have AI := Lib.hid (fun w (g : Gr w3 w) => p_id (id := 0) (kd := 0) (s := sl) w (pageAt_kx (S := fun _ => False) hpa (Kx.of_gr (Gr.trans g3 g)) (fun h => h)))
  have G3 : Gr W w3 := Gr.trans HB.out.2 g3
  have HF := Lib.hid (And.intro hf G3)
  clear hf g3 hpa G3 c2 z2 AN
  go_wp2_with fail
  go_at_call 44
  refine (AI.out _ (Below.refl _ _)).mono ?_
  rintro e w4 ⟨rfl, g4⟩
  have AS := Lib.hid (c_AlIs_hit F poolS 1 8 (by decide) w4 (errT_gr HE.out (Gr.trans HF.out.2 g4)) (faultAt_gr HF.out.1 g4))
  have HG4 := Lib.hid (Gr.trans HF.out.2 g4)
  clear g4
  go_wp2_with fail
  go_at_call 10
  refine (AS.out).mono ?_
  rintro e w5 ⟨rfl, g5⟩
  go_wp2_with fail
  go_ret
  exact ⟨rfl, Gr.trans HG4.out g5⟩
set_option maxHeartbeats 2000000 in
set_option maxRecDepth 100000 in
theorem walk_PoolNothing (z : Int) (hz : -9223372036854775808 ≤ z ∧ z ≤ 9223372036854775807) (W : World) (hE : ErrT W) : Calls Tryz.prog 3 #[.int .i64 z] W fun e w' => e = .returned (.bool true) ∧ Gr W w' := by
  have HE := Lib.hid hE
  clear hE hz
  go_enter Tryz.func3, Tryz.ntmps3
  go_wp2_with fail
  go_at_call 6
  refine (pl_pin_nil z _).mono ?_
  rintro e w1 ⟨F, rfl, hf, g1⟩
  have HF := Lib.hid hf
  have G1 := Lib.hid g1
  clear hf g1
  go_wp2_with fail
  go_at_call 7
  refine (pl_new_nil _).mono ?_
  rintro e w2 ⟨F2, rfl, hf, g2⟩
  have HF2 := Lib.hid (And.intro hf g2)
  have G2 := Lib.hid (Gr.trans G1.out g2)
  clear hf g2
  go_wp2_with fail
  go_at_call 8
  refine (pl_stats_nil _).mono ?_
  rintro e w3 ⟨rfl, g3⟩
  have G3 := Lib.hid (And.intro (Gr.trans HF2.out.2 g3) (And.intro g3 (Gr.trans G2.out g3)))
  clear g3
  go_wp2_with fail
  go_at_call 9
  refine (c_CodeF F 2 (by decide) _ (faultAt_gr HF.out G3.out.1).2.2).mono ?_
  rintro e w4 ⟨rfl, g4⟩
  have AS := Lib.hid (c_AlIs_hit F2 poolS 0 1 (by decide) w4 (errT_gr HE.out (Gr.trans G3.out.2.2 g4)) (faultAt_gr HF2.out.1 (Gr.trans G3.out.2.1 g4)))
  have G4 := Lib.hid (Gr.trans G3.out.2.2 g4)
  clear g4
  go_wp2_with fail
  go_at_call 10
  refine (AS.out).mono ?_
  rintro e w5 ⟨rfl, g5⟩
  have G5 := Lib.hid (Gr.trans G4.out g5)
  clear g5
  go_wp2_with fail
  go_at_call 11
  refine (pl_unpin_nil z 1 true _).mono ?_
  rintro e w6 ⟨F6, rfl, hf, g6⟩
  have HF6 := Lib.hid hf
  have G6 := Lib.hid (Gr.trans G5.out g6)
  clear g6 hf
  go_wp2_with fail
  go_at_call 9
  refine (c_CodeF F6 14 (by decide) _ HF6.out.2.2).mono ?_
  rintro e w7 ⟨rfl, g7⟩
  have G7 := Lib.hid (Gr.trans G6.out g7)
  clear g7
  go_wp2_with fail
  go_at_call 12
  refine (pl_flush_nil _).mono ?_
  rintro e w8 ⟨rfl, g8⟩
  have G8 := Lib.hid (Gr.trans G7.out g8)
  clear g8
  go_wp2_with fail
  go_at_call 13
  refine (pl_held_nil _).mono ?_
  rintro e w9 ⟨rfl, g9⟩
  have G9 := Lib.hid (Gr.trans G8.out g9)
  clear g9
  go_wp2_with fail
  go_at_call 14
  refine (pl_dirty_nil _).mono ?_
  rintro e wa ⟨rfl, ga⟩
  have Ga := Lib.hid (Gr.trans G9.out ga)
  clear ga
  go_wp2_with fail
  go_at_call 15
  refine (p12_awake _ (errT_gr HE.out Ga.out)).mono ?_
  rintro e wb ⟨rfl, gb⟩
  go_wp2_with fail
  go_ret
  exact ⟨rfl, Gr.trans Ga.out gb⟩
end Go.Proofs.YtbjckoelgpbaaaaGreatDoor
