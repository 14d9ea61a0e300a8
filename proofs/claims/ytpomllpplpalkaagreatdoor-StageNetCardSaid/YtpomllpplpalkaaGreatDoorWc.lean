/- model: Apply; Same; awake; ModelNothing -/
import Derived.Test.YtpomllpplpalkaaGreatDoorWb
import Derived.Test.YtpomllpplpalkaaGreatDoorJa
namespace Go.Proofs.YtpomllpplpalkaaGreatDoor
set_option linter.unusedVariables false
set_option linter.unusedSimpArgs false
open Go.ChangeShapes Go.WideShapes Go.ChangeAt Go.RowKit Go.Maps

theorem pts_kxW {n c B : Nat} {X Y : Nat → Int} {a b : World} {S : Nat → Prop} (hn : 0 < n) (h : Pts a (.slice (some ⟨B, 0, none⟩) n c) n X Y) (K : Kx S a b) (hB : ¬ S B) : Pts b (.slice (some ⟨B, 0, none⟩) n c) n X Y := by
  obtain ⟨ad, cap, B1, off, e, p1, p2, p3, p4⟩ := h
  simp only [Value.slice.injEq, true_and] at e
  obtain ⟨rfl, rfl⟩ := e
  have e3 := Option.some.inj (p3 hn)
  simp only [Addr.mk.injEq, and_true] at e3
  obtain ⟨rfl, rfl⟩ := e3
  exact ⟨_, _, B, 0, rfl, p1, p2, fun _ => rfl, fun q hq => ⟨cell_kx K (p := ⟨B, 0 + q * 2, none⟩) hB (p4 q hq).1, cell_kx K (p := ⟨B, 0 + q * 2 + 1, none⟩) hB (p4 q hq).2⟩⟩
theorem md_fNew (op : ByteArray) (id k : Int) (W : World) : Calls Tryz.prog 57 #[.string op, .int .i64 id, .iface 107 (.int .i64 k)] W fun e w' => ∃ B, e = .returned (.iface 108 (.pointer (some ⟨B, 0, none⟩))) ∧ FaultAt w' B op id k ∧ Gr W w' := by
  go_enter Tryz.func57, Tryz.ntmps57
  go_wp2_with fail
  go_ret
  exact ⟨_, rfl, ⟨by go_simp, by go_simp, by go_simp⟩, by go_grown⟩
set_option maxHeartbeats 1000000 in
set_option maxRecDepth 100000 in
theorem md_ref_dup {Q : Nat} {id k : Int} {n : Nat} {X Y : Nat → Int} {v : Value} (W : World) (h : Pts W v n X Y) (hc : chgC 1 id k n X Y = 0) : Calls Tryz.prog 72 #[.pointer (some ⟨Q, 0, none⟩), .agg #[.int .i64 1, .int .i64 id, .int .i64 k, v], .bool true] W fun e w' => ∃ F, e = .returned (.iface 108 (.pointer (some ⟨F, 0, none⟩))) ∧ FaultAt w' F modelS id 6 ∧ Gr W w' := by
  have AC := Lib.hid (fun w (g : Gr W w) => c_Change0 1 id k w (pts_gr h g) hc)
  obtain ⟨ad, cap, B, off, rfl, -⟩ := h
  clear hc
  go_enter Tryz.func72, Tryz.ntmps72
  go_wp2_with fail
  go_at_call 106
  (with_reducible refine ((AC.out _ (by go_grown))).mono ?_)
  rintro e w1 ⟨bs, rfl, -, -, hw1⟩
  have cw1_0_0 : w1.cell? ⟨W.heap.size, 0, none⟩ = some (.int .i64 1) := cell_gr hw1 (by go_simp)
  have cw1_0_1 : w1.cell? ⟨W.heap.size, 1, none⟩ = some (.int .i64 id) := cell_gr hw1 (by go_simp)
  have cw1_0_2 : w1.cell? ⟨W.heap.size, 2, none⟩ = some (.int .i64 k) := cell_gr hw1 (by go_simp)
  have cw1_0_3 : w1.cell? ⟨W.heap.size, 3, none⟩ = some (.slice ad n cap) := cell_gr hw1 (by go_simp)
  have zw1_0 : W.heap.size < w1.heap.size := World.block_lt_of_cell? _ _ cw1_0_0
  have gw1 : Gr W w1 := Gr.trans (by go_grown) hw1
  clear hw1
  go_wp2_with fail
  go_at_call 57
  refine (md_fNew modelS id 6 _).mono ?_
  rintro e w2 ⟨F, rfl, hf, g2⟩
  have G2 : Gr W w2 := Gr.trans gw1 g2
  have HF := Lib.hid hf
  clear hf g2
  go_wp2_with fail
  go_ret
  exact ⟨F, rfl, HF.out, G2⟩
set_option maxHeartbeats 1000000 in
set_option maxRecDepth 100000 in
theorem md_ref_ok {Q : Nat} {id k : Int} {n : Nat} {X Y : Nat → Int} {v : Value} (W : World) (h : Pts W v n X Y) (hc : chgC 1 id k n X Y = 0) : Calls Tryz.prog 72 #[.pointer (some ⟨Q, 0, none⟩), .agg #[.int .i64 1, .int .i64 id, .int .i64 k, v], .bool false] W fun e w' => e = .returned .nilIface ∧ Gr W w' := by
  have AC := Lib.hid (fun w (g : Gr W w) => c_Change0 1 id k w (pts_gr h g) hc)
  obtain ⟨ad, cap, B, off, rfl, -⟩ := h
  clear hc
  go_enter Tryz.func72, Tryz.ntmps72
  go_wp2_with fail
  go_at_call 106
  (with_reducible refine ((AC.out _ (by go_grown))).mono ?_)
  rintro e w1 ⟨bs, rfl, -, -, hw1⟩
  have cw1_0_0 : w1.cell? ⟨W.heap.size, 0, none⟩ = some (.int .i64 1) := cell_gr hw1 (by go_simp)
  have cw1_0_1 : w1.cell? ⟨W.heap.size, 1, none⟩ = some (.int .i64 id) := cell_gr hw1 (by go_simp)
  have cw1_0_2 : w1.cell? ⟨W.heap.size, 2, none⟩ = some (.int .i64 k) := cell_gr hw1 (by go_simp)
  have cw1_0_3 : w1.cell? ⟨W.heap.size, 3, none⟩ = some (.slice ad n cap) := cell_gr hw1 (by go_simp)
  have zw1_0 : W.heap.size < w1.heap.size := World.block_lt_of_cell? _ _ cw1_0_0
  have gw1 : Gr W w1 := Gr.trans (by go_grown) hw1
  clear hw1
  go_wp2_with fail
  go_ret
  exact ⟨rfl, gw1⟩
theorem kx_new {S : Nat → Prop} {a b : World} (h : Kx (fun k => S k ∨ a.heap.size ≤ k) a b) : Kx S a b :=
  ⟨h.os, h.tape, h.output, h.size, fun k hk hs => h.block k hk (fun e => e.elim hs (fun h' => by omega))⟩
theorem md_mapGrown {a b : World} {m : Nat} (h : a.grownBy b (some m)) : Kx (fun j => j = m) a b :=
  ⟨h.os, h.tape, h.output, h.size, fun k hk hs => h.block k hk (fun e => hs (Option.some.inj e))⟩
theorem md_eqm (w : World) : (binOp .eql 103 (.map none) (.map none)).run Tryz.prog w = .ok (.bool true) w := by kernel_rfl
end Go.Proofs.YtpomllpplpalkaaGreatDoor
