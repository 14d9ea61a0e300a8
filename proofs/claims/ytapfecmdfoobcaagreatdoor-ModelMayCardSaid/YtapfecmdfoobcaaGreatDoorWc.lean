/- model: Apply; Same; awake; ModelNothing -/
import Derived.Test.YtapfecmdfoobcaaGreatDoorWb
import Derived.Test.YtapfecmdfoobcaaGreatDoorJa
namespace Go.Proofs.YtapfecmdfoobcaaGreatDoor
set_option linter.unusedVariables false
set_option linter.unusedSimpArgs false
open Go.ChangeShapes Go.WideShapes Go.ChangeAt Go.RowKit Go.Maps

theorem pts_kxW {n c B : Nat} {X Y : Nat → Int} {a b : World} {S : Nat → Prop} (hn : 0 < n) (h : Pts a (.slice (some ⟨B, 0, none⟩) n c) n X Y) (K : Kx S a b) (hB : ¬ S B) : Pts b (.slice (some ⟨B, 0, none⟩) n c) n X Y := by
  obtain ⟨ad, cap, B1, off, e, p1, p2, p3, p4⟩ := h
  simp only [Value.slice.injEq, true_and] at e
  obtain ⟨rfl, rfl⟩ := e
  have e3 := Option.some.inj (p3 hn)
  simp only [Addr.mk.injEq, and_true] at e3
  obtain ⟨rfl, rfl⟩ := e3
  exact ⟨_, _, B, 0, rfl, p1, p2, fun _ => rfl, fun q hq => ⟨cell_kx K (p := ⟨B, 0 + q * 2, none⟩) hB (p4 q hq).1, cell_kx K (p := ⟨B, 0 + q * 2 + 1, none⟩) hB (p4 q hq).2⟩⟩
theorem md_fNew (op : ByteArray) (id k : Int) (W : World) : Calls Tryz.prog 26 #[.string op, .int .i64 id, .iface 60 (.int .i64 k)] W fun e w' => ∃ B, e = .returned (.iface 63 (.pointer (some ⟨B, 0, none⟩))) ∧ FaultAt w' B op id k ∧ Gr W w' := by
  go_enter Tryz.func26, Tryz.ntmps26
  go_wp2_with fail
  go_ret
  exact ⟨_, rfl, ⟨by go_simp, by go_simp, by go_simp⟩, by go_grown⟩
theorem md_ref_nil (kd id k : Int) (ad : Option Addr) (n c : Nat) (b : Bool) (W : World) : Calls Tryz.prog 18 #[.pointer none, .agg #[.int .i64 kd, .int .i64 id, .int .i64 k, .slice ad n c], .bool b] W fun e w' => ∃ F, e = .returned (.iface 63 (.pointer (some ⟨F, 0, none⟩))) ∧ FaultAt w' F modelS id 1 ∧ Gr W w' := by
  go_enter Tryz.func18, Tryz.ntmps18
  go_wp2_with fail
  go_at_call 26
  refine (md_fNew modelS id 1 _).mono ?_
  rintro e w1 ⟨F, rfl, hf, g1⟩
  have G1 : Gr W w1 := Gr.trans (by go_grown) g1
  have HF := Lib.hid hf
  clear hf g1
  go_wp2_with fail
  go_ret
  exact ⟨F, rfl, HF.out, G1⟩
set_option maxHeartbeats 1000000 in
set_option maxRecDepth 100000 in
theorem md_ref_dup {Q : Nat} {id k : Int} {n : Nat} {X Y : Nat → Int} {v : Value} (W : World) (h : Pts W v n X Y) (hc : chgC 1 id k n X Y = 0) : Calls Tryz.prog 18 #[.pointer (some ⟨Q, 0, none⟩), .agg #[.int .i64 1, .int .i64 id, .int .i64 k, v], .bool true] W fun e w' => ∃ F, e = .returned (.iface 63 (.pointer (some ⟨F, 0, none⟩))) ∧ FaultAt w' F modelS id 6 ∧ Gr W w' := by
  have AC := Lib.hid (fun w (g : Gr W w) => c_Change0 1 id k w (pts_gr h g) hc)
  obtain ⟨ad, cap, B, off, rfl, -⟩ := h
  clear hc
  go_enter Tryz.func18, Tryz.ntmps18
  go_wp2_with fail
  go_at_call 27
  (with_reducible refine ((AC.out _ (by go_grown))).mono ?_)
  rintro e w1 ⟨bs, rfl, -, -, hw1⟩
  have cw1_0_0 : w1.cell? ⟨W.heap.size, 0, none⟩ = some (.int .i64 1) := cell_gr hw1 (by go_simp)
  have cw1_0_1 : w1.cell? ⟨W.heap.size, 1, none⟩ = some (.int .i64 id) := cell_gr hw1 (by go_simp)
  have cw1_0_2 : w1.cell? ⟨W.heap.size, 2, none⟩ = some (.int .i64 k) := cell_gr hw1 (by go_simp)
  have cw1_0_3 : w1.cell? ⟨W.heap.size, 3, none⟩ = some (.slice ad n cap) := cell_gr hw1 (by go_simp)
  have zw1_0 : W.heap.size < w1.heap.size := World.block_lt_of_cell? _ _ cw1_0_0
  have gw1 : Gr W w1 := Gr.trans (by go_grown) hw1
  clear hw1
  go_wp2_with fail
  go_at_call 26
  refine (md_fNew modelS id 6 _).mono ?_
  rintro e w2 ⟨F, rfl, hf, g2⟩
  have G2 : Gr W w2 := Gr.trans gw1 g2
  have HF := Lib.hid hf
  clear hf g2
  go_wp2_with fail
  go_ret
  exact ⟨F, rfl, HF.out, G2⟩
set_option maxHeartbeats 1000000 in
set_option maxRecDepth 100000 in
theorem md_ref_ok {Q : Nat} {id k : Int} {n : Nat} {X Y : Nat → Int} {v : Value} (W : World) (h : Pts W v n X Y) (hc : chgC 1 id k n X Y = 0) : Calls Tryz.prog 18 #[.pointer (some ⟨Q, 0, none⟩), .agg #[.int .i64 1, .int .i64 id, .int .i64 k, v], .bool false] W fun e w' => e = .returned .nilIface ∧ Gr W w' := by
  have AC := Lib.hid (fun w (g : Gr W w) => c_Change0 1 id k w (pts_gr h g) hc)
  obtain ⟨ad, cap, B, off, rfl, -⟩ := h
  clear hc
  go_enter Tryz.func18, Tryz.ntmps18
  go_wp2_with fail
  go_at_call 27
  (with_reducible refine ((AC.out _ (by go_grown))).mono ?_)
  rintro e w1 ⟨bs, rfl, -, -, hw1⟩
  have cw1_0_0 : w1.cell? ⟨W.heap.size, 0, none⟩ = some (.int .i64 1) := cell_gr hw1 (by go_simp)
  have cw1_0_1 : w1.cell? ⟨W.heap.size, 1, none⟩ = some (.int .i64 id) := cell_gr hw1 (by go_simp)
  have cw1_0_2 : w1.cell? ⟨W.heap.size, 2, none⟩ = some (.int .i64 k) := cell_gr hw1 (by go_simp)
  have cw1_0_3 : w1.cell? ⟨W.heap.size, 3, none⟩ = some (.slice ad n cap) := cell_gr hw1 (by go_simp)
  have zw1_0 : W.heap.size < w1.heap.size := World.block_lt_of_cell? _ _ cw1_0_0
  have gw1 : Gr W w1 := Gr.trans (by go_grown) hw1
  clear hw1
  go_wp2_with fail
  go_ret
  exact ⟨rfl, gw1⟩
set_option maxHeartbeats 1000000 in
set_option maxRecDepth 100000 in
theorem md_apply_nil (kd id k : Int) (ad : Option Addr) (n c : Nat) (W : World) : Calls Tryz.prog 9 #[.pointer none, .agg #[.int .i64 kd, .int .i64 id, .int .i64 k, .slice ad n c]] W fun e w' => ∃ F, e = .returned (.iface 63 (.pointer (some ⟨F, 0, none⟩))) ∧ FaultAt w' F modelS id 1 ∧ Gr W w' := by
  go_enter Tryz.func9, Tryz.ntmps9
  go_wp2_with fail
  try simp only [List.append]
  refine Od.wp_region_ord [(0, false), (1, false), (2, false), (3, false), (4, true), (5, true), (6, false)] (by kernel_rfl) (by kernel_rfl) ?_
  intro w1 hw1 KQ hKQ
  have cw1_0_0 : w1.cell? ⟨W.heap.size, 0, none⟩ = some (.int .i64 kd) := cell_gr hw1 (by go_simp)
  have cw1_0_1 : w1.cell? ⟨W.heap.size, 1, none⟩ = some (.int .i64 id) := cell_gr hw1 (by go_simp)
  have cw1_0_2 : w1.cell? ⟨W.heap.size, 2, none⟩ = some (.int .i64 k) := cell_gr hw1 (by go_simp)
  have cw1_0_3 : w1.cell? ⟨W.heap.size, 3, none⟩ = some (.slice ad n c) := cell_gr hw1 (by go_simp)
  have zw1_0 : W.heap.size < w1.heap.size := World.block_lt_of_cell? _ _ cw1_0_0
  have gw1 : Gr W w1 := Gr.trans (by go_grown) hw1
  skip
  clear hw1
  repeat (first | (refine Od.wpO_skip (by simp only [List.getElem?_toArray, List.getElem?_cons_succ, List.getElem?_cons_zero] <;> rfl) rfl ?_; simp only [Act.put, List.setIfInBounds_toArray, List.set_cons_zero, List.set_cons_succ]) | (refine Od.wpO_pure (by simp only [List.getElem?_toArray, List.getElem?_cons_succ, List.getElem?_cons_zero] <;> rfl) rfl ?_; apply Exists.intro; refine ⟨?_, ?_⟩; (· intro wx gx; obtain ⟨mx, rfl⟩ := spread_of_gr gx; clear gx; all_goals (apply Od.pAt_of_quiet; intro K hK; go_big_quiet_op; first | exact hK _ rfl | (apply Exists.intro; refine ⟨fun _ => ?_, ?_⟩; (· fail); exact hK _ rfl))); try simp only [Act.put, List.setIfInBounds_toArray, List.set_cons_zero, List.set_cons_succ]))
  refine Od.wpO_call (by simp only [List.getElem?_toArray, List.getElem?_cons_succ, List.getElem?_cons_zero] <;> rfl) rfl ?_
  intro QS hQS
  go_wp2_with fail
  go_at_call 19
  (with_reducible refine ((md_has_nil id _)).mono ?_)
  rintro e w2 ⟨rfl, hw2⟩
  go_wp2_with fail
  apply Exists.intro
  refine ⟨?_, hw2, ?_⟩
  · simp only [Act.put, List.setIfInBounds_toArray, List.set_cons_zero, List.set_cons_succ]; rfl
  have cw2_0_0 : w2.cell? ⟨W.heap.size, 0, none⟩ = some (.int .i64 kd) := cell_gr hw2 (by go_simp)
  have cw2_0_1 : w2.cell? ⟨W.heap.size, 1, none⟩ = some (.int .i64 id) := cell_gr hw2 (by go_simp)
  have cw2_0_2 : w2.cell? ⟨W.heap.size, 2, none⟩ = some (.int .i64 k) := cell_gr hw2 (by go_simp)
  have cw2_0_3 : w2.cell? ⟨W.heap.size, 3, none⟩ = some (.slice ad n c) := cell_gr hw2 (by go_simp)
  have zw2_0 : W.heap.size < w2.heap.size := World.block_lt_of_cell? _ _ cw2_0_0
  have gw2 : Gr W w2 := Gr.trans (by have gg := gw1; have gs := gg.size; go_grown) hw2
  clear gw1 zw1_0 cw1_0_0 cw1_0_1 cw1_0_2 cw1_0_3
  clear hw2
  try simp only [Act.put, List.setIfInBounds_toArray, List.set_cons_zero, List.set_cons_succ]
  repeat (first | (refine Od.wpO_skip (by simp only [List.getElem?_toArray, List.getElem?_cons_succ, List.getElem?_cons_zero] <;> rfl) rfl ?_; simp only [Act.put, List.setIfInBounds_toArray, List.set_cons_zero, List.set_cons_succ]) | (refine Od.wpO_pure (by simp only [List.getElem?_toArray, List.getElem?_cons_succ, List.getElem?_cons_zero] <;> rfl) rfl ?_; apply Exists.intro; refine ⟨?_, ?_⟩; (· intro wx gx; obtain ⟨mx, rfl⟩ := spread_of_gr gx; clear gx; all_goals (apply Od.pAt_of_quiet; intro K hK; go_big_quiet_op; first | exact hK _ rfl | (apply Exists.intro; refine ⟨fun _ => ?_, ?_⟩; (· fail); exact hK _ rfl))); try simp only [Act.put, List.setIfInBounds_toArray, List.set_cons_zero, List.set_cons_succ]))
  refine Od.wpO_call (by simp only [List.getElem?_toArray, List.getElem?_cons_succ, List.getElem?_cons_zero] <;> rfl) rfl ?_
  intro QS hQS
  go_wp2_with fail
  go_at_call 18
  (with_reducible refine ((md_ref_nil kd id k ad n c false _)).mono ?_)
  rintro e w3 ⟨F, rfl, hf, hw3⟩
  go_wp2_with fail
  apply Exists.intro
  refine ⟨?_, hw3, ?_⟩
  · simp only [Act.put, List.setIfInBounds_toArray, List.set_cons_zero, List.set_cons_succ]; rfl
  have cw3_0_0 : w3.cell? ⟨W.heap.size, 0, none⟩ = some (.int .i64 kd) := cell_gr hw3 (by go_simp)
  have cw3_0_1 : w3.cell? ⟨W.heap.size, 1, none⟩ = some (.int .i64 id) := cell_gr hw3 (by go_simp)
  have cw3_0_2 : w3.cell? ⟨W.heap.size, 2, none⟩ = some (.int .i64 k) := cell_gr hw3 (by go_simp)
  have cw3_0_3 : w3.cell? ⟨W.heap.size, 3, none⟩ = some (.slice ad n c) := cell_gr hw3 (by go_simp)
  have zw3_0 : W.heap.size < w3.heap.size := World.block_lt_of_cell? _ _ cw3_0_0
  have gw3 : Gr W w3 := Gr.trans (by have gg := gw2; have gs := gg.size; go_grown) hw3
  clear gw2 zw2_0 cw2_0_0 cw2_0_1 cw2_0_2 cw2_0_3
  clear hw3
  try simp only [Act.put, List.setIfInBounds_toArray, List.set_cons_zero, List.set_cons_succ]
  repeat (first | (refine Od.wpO_skip (by simp only [List.getElem?_toArray, List.getElem?_cons_succ, List.getElem?_cons_zero] <;> rfl) rfl ?_; simp only [Act.put, List.setIfInBounds_toArray, List.set_cons_zero, List.set_cons_succ]) | (refine Od.wpO_pure (by simp only [List.getElem?_toArray, List.getElem?_cons_succ, List.getElem?_cons_zero] <;> rfl) rfl ?_; apply Exists.intro; refine ⟨?_, ?_⟩; (· intro wx gx; obtain ⟨mx, rfl⟩ := spread_of_gr gx; clear gx; all_goals (apply Od.pAt_of_quiet; intro K hK; go_big_quiet_op; first | exact hK _ rfl | (apply Exists.intro; refine ⟨fun _ => ?_, ?_⟩; (· fail); exact hK _ rfl))); try simp only [Act.put, List.setIfInBounds_toArray, List.set_cons_zero, List.set_cons_succ]))
  have HF := Lib.hid hf
  clear hf
  refine Od.wpO_nil (hKQ _ _ ?_)
  clear hKQ KQ
  go_wp2_with fail
  go_ret
  exact ⟨F, rfl, HF.out, gw3⟩
/-- A map of one object. -/
def DO (id : Nat) (u : Value) : DataW Value := (DataW.map []).put (ik id) (.held u)
theorem dO_has (id : Nat) (u : Value) : Maps.has (DO id u) (ik id) = true := has_put_same (show IsMap (DataW.map ([] : List (Lit × DataW Value))) from ⟨_, rfl⟩) (ik_key id) _
theorem dO_at (id : Nat) (u : Value) (z : DataW Value) : (DO id u).atKey (ik id) z = .held u := atKey_put_same (show IsMap (DataW.map ([] : List (Lit × DataW Value))) from ⟨_, rfl⟩) (ik_key id) _ _
theorem dO_size (id : Nat) (u : Value) : Maps.size (DO id u) = 1 := rfl
theorem kx_new {S : Nat → Prop} {a b : World} (h : Kx (fun k => S k ∨ a.heap.size ≤ k) a b) : Kx S a b :=
  ⟨h.os, h.tape, h.output, h.size, fun k hk hs => h.block k hk (fun e => e.elim hs (fun h' => by omega))⟩
theorem md_mapGrown {a b : World} {m : Nat} (h : a.grownBy b (some m)) : Kx (fun j => j = m) a b :=
  ⟨h.os, h.tape, h.output, h.size, fun k hk hs => h.block k hk (fun e => hs (Option.some.inj e))⟩
theorem md_eqm (w : World) : (binOp .eql 47 (.map none) (.map none)).run Tryz.prog w = .ok (.bool true) w := by kernel_rfl
set_option maxHeartbeats 2000000 in
set_option maxRecDepth 100000 in
theorem md_apply_new {Q id B0 cap : Nat} {k : Int} {n : Nat} {X Y : Nat → Int} (hBQ : B0 ≠ Q) (hid : id < 1000000) (hn : 0 < n) (hn2 : n ≤ 1000) (W : World) (h : Pts W (.slice (some ⟨B0, 0, none⟩) n cap) n X Y) (hc : chgC 1 id k n X Y = 0) (c0 : W.cell? ⟨Q, 0, none⟩ = some (.map none)) (f0 : W.frozen? ⟨Q, 0, none⟩ = false) :
    Calls Tryz.prog 9 #[.pointer (some ⟨Q, 0, none⟩), .agg #[.int .i64 1, .int .i64 (id : Nat), .int .i64 k, .slice (some ⟨B0, 0, none⟩) n cap]] W fun e w' => ∃ m B c, e = .returned .nilIface ∧ w'.cell? ⟨Q, 0, none⟩ = some (.map (some m)) ∧ w'.ownsMap Tryz.prog 3 heldE m 1 (DO id (.agg #[.int .i64 k, .slice (some ⟨B, 0, none⟩) n c])) ∧ Kx (fun j => j = Q) W w' ∧ (Pts w' (.slice (some ⟨B, 0, none⟩) n c) n X Y ∧ Fr2 w' B) ∧ W.heap.size ≤ B ∧ W.heap.size ≤ m ∧ B ≠ m := by
  have hmm := @run_makeMap Tryz.prog
  have heq := md_eqm
  have zQ := World.block_lt_of_cell? _ _ c0
  have AF := Lib.hid (fun w (g : Gr W w) => md_ref_ok (Q := Q) w (pts_gr h g) hc)
  have AH := Lib.hid (fun w (g : Gr W w) => md_has_0 (Q := Q) hid w (cell_gr g c0))
  have HP : Hid (∀ q, q < n → W.cell? ⟨B0, 0 + q * 2, none⟩ = some (.int .i64 (X q)) ∧ W.cell? ⟨B0, 0 + q * 2 + 1, none⟩ = some (.int .i64 (Y q))) := Lib.hid (by
    obtain ⟨ad, cap', B, off, e, -, -, h3, h4⟩ := h
    simp only [Value.slice.injEq, true_and] at e
    obtain ⟨rfl, -⟩ := e
    have := Option.some.inj (h3 hn)
    simp only [Addr.mk.injEq, and_true] at this
    obtain ⟨rfl, rfl⟩ := this
    exact h4)
  have hcap : n ≤ cap ∧ cap ≤ 9223372036854775807 := by
    obtain ⟨ad, cap', B, off, e, h1, h2, -⟩ := h
    simp only [Value.slice.injEq, true_and] at e
    obtain ⟨-, rfl⟩ := e
    exact ⟨h1, h2⟩
  clear hc h
  go_enter Tryz.func9, Tryz.ntmps9
  go_wp2_with fail
  try simp only [List.append]
  refine Od.wp_region_ord [(0, false), (1, false), (2, false), (3, false), (4, true), (5, true), (6, false)] (by kernel_rfl) (by kernel_rfl) ?_
  intro w1 hw1 KQ hKQ
  have cw1_0_0 : w1.cell? ⟨W.heap.size, 0, none⟩ = some (.int .i64 1) := cell_gr hw1 (by go_simp)
  have cw1_0_1 : w1.cell? ⟨W.heap.size, 1, none⟩ = some (.int .i64 (id : Nat)) := cell_gr hw1 (by go_simp)
  have cw1_0_2 : w1.cell? ⟨W.heap.size, 2, none⟩ = some (.int .i64 k) := cell_gr hw1 (by go_simp)
  have cw1_0_3 : w1.cell? ⟨W.heap.size, 3, none⟩ = some (.slice (some ⟨B0, 0, none⟩) n cap) := cell_gr hw1 (by go_simp)
  have zw1_0 : W.heap.size < w1.heap.size := World.block_lt_of_cell? _ _ cw1_0_0
  have cw1_1_0 : w1.cell? ⟨Q, 0, none⟩ = some (.map none) := cell_gr hw1 (by go_simp)
  have fw1_1_0 : w1.frozen? ⟨Q, 0, none⟩ = false := frozen_gr (v := .map none) hw1 (by go_simp) (by go_simp)
  have zw1_1 : Q < w1.heap.size := World.block_lt_of_cell? _ _ cw1_1_0
  have gw1 : Gr W w1 := Gr.trans (by go_grown) hw1
  skip
  clear hw1
  repeat (first | (refine Od.wpO_skip (by simp only [List.getElem?_toArray, List.getElem?_cons_succ, List.getElem?_cons_zero] <;> rfl) rfl ?_; simp only [Act.put, List.setIfInBounds_toArray, List.set_cons_zero, List.set_cons_succ]) | (refine Od.wpO_pure (by simp only [List.getElem?_toArray, List.getElem?_cons_succ, List.getElem?_cons_zero] <;> rfl) rfl ?_; apply Exists.intro; refine ⟨?_, ?_⟩; (· intro wx gx; obtain ⟨mx, rfl⟩ := spread_of_gr gx; clear gx; all_goals (apply Od.pAt_of_quiet; intro K hK; go_big_quiet_op; first | exact hK _ rfl | (apply Exists.intro; refine ⟨fun _ => ?_, ?_⟩; (· fail); exact hK _ rfl))); try simp only [Act.put, List.setIfInBounds_toArray, List.set_cons_zero, List.set_cons_succ]))
  refine Od.wpO_call (by simp only [List.getElem?_toArray, List.getElem?_cons_succ, List.getElem?_cons_zero] <;> rfl) rfl ?_
  intro QS hQS
  go_wp2_with fail
  go_at_call 19
  (with_reducible refine ((AH.out _ gw1)).mono ?_)
  rintro e w2 ⟨rfl, hw2⟩
  go_wp2_with fail
  apply Exists.intro
  refine ⟨?_, hw2, ?_⟩
  · simp only [Act.put, List.setIfInBounds_toArray, List.set_cons_zero, List.set_cons_succ]; rfl
  have cw2_0_0 : w2.cell? ⟨W.heap.size, 0, none⟩ = some (.int .i64 1) := cell_gr hw2 (by go_simp)
  have cw2_0_1 : w2.cell? ⟨W.heap.size, 1, none⟩ = some (.int .i64 (id : Nat)) := cell_gr hw2 (by go_simp)
  have cw2_0_2 : w2.cell? ⟨W.heap.size, 2, none⟩ = some (.int .i64 k) := cell_gr hw2 (by go_simp)
  have cw2_0_3 : w2.cell? ⟨W.heap.size, 3, none⟩ = some (.slice (some ⟨B0, 0, none⟩) n cap) := cell_gr hw2 (by go_simp)
  have zw2_0 : W.heap.size < w2.heap.size := World.block_lt_of_cell? _ _ cw2_0_0
  have cw2_1_0 : w2.cell? ⟨Q, 0, none⟩ = some (.map none) := cell_gr hw2 (by go_simp)
  have fw2_1_0 : w2.frozen? ⟨Q, 0, none⟩ = false := frozen_gr (v := .map none) hw2 (by go_simp) (by go_simp)
  have zw2_1 : Q < w2.heap.size := World.block_lt_of_cell? _ _ cw2_1_0
  have gw2 : Gr W w2 := Gr.trans (by have gg := gw1; have gs := gg.size; go_grown) hw2
  clear gw1 zw1_0 cw1_0_0 cw1_0_1 cw1_0_2 cw1_0_3 zw1_1 cw1_1_0 fw1_1_0
  clear hw2
  try simp only [Act.put, List.setIfInBounds_toArray, List.set_cons_zero, List.set_cons_succ]
  repeat (first | (refine Od.wpO_skip (by simp only [List.getElem?_toArray, List.getElem?_cons_succ, List.getElem?_cons_zero] <;> rfl) rfl ?_; simp only [Act.put, List.setIfInBounds_toArray, List.set_cons_zero, List.set_cons_succ]) | (refine Od.wpO_pure (by simp only [List.getElem?_toArray, List.getElem?_cons_succ, List.getElem?_cons_zero] <;> rfl) rfl ?_; apply Exists.intro; refine ⟨?_, ?_⟩; (· intro wx gx; obtain ⟨mx, rfl⟩ := spread_of_gr gx; clear gx; all_goals (apply Od.pAt_of_quiet; intro K hK; go_big_quiet_op; first | exact hK _ rfl | (apply Exists.intro; refine ⟨fun _ => ?_, ?_⟩; (· fail); exact hK _ rfl))); try simp only [Act.put, List.setIfInBounds_toArray, List.set_cons_zero, List.set_cons_succ]))
  refine Od.wpO_call (by simp only [List.getElem?_toArray, List.getElem?_cons_succ, List.getElem?_cons_zero] <;> rfl) rfl ?_
  intro QS hQS
  go_wp2_with fail
  go_at_call 18
  (with_reducible refine ((AF.out _ gw2)).mono ?_)
  rintro e w3 ⟨rfl, hw3⟩
  go_wp2_with fail
  apply Exists.intro
  refine ⟨?_, hw3, ?_⟩
  · simp only [Act.put, List.setIfInBounds_toArray, List.set_cons_zero, List.set_cons_succ]; rfl
  have cw3_0_0 : w3.cell? ⟨W.heap.size, 0, none⟩ = some (.int .i64 1) := cell_gr hw3 (by go_simp)
  have cw3_0_1 : w3.cell? ⟨W.heap.size, 1, none⟩ = some (.int .i64 (id : Nat)) := cell_gr hw3 (by go_simp)
  have cw3_0_2 : w3.cell? ⟨W.heap.size, 2, none⟩ = some (.int .i64 k) := cell_gr hw3 (by go_simp)
  have cw3_0_3 : w3.cell? ⟨W.heap.size, 3, none⟩ = some (.slice (some ⟨B0, 0, none⟩) n cap) := cell_gr hw3 (by go_simp)
  have zw3_0 : W.heap.size < w3.heap.size := World.block_lt_of_cell? _ _ cw3_0_0
  have cw3_1_0 : w3.cell? ⟨Q, 0, none⟩ = some (.map none) := cell_gr hw3 (by go_simp)
  have fw3_1_0 : w3.frozen? ⟨Q, 0, none⟩ = false := frozen_gr (v := .map none) hw3 (by go_simp) (by go_simp)
  have zw3_1 : Q < w3.heap.size := World.block_lt_of_cell? _ _ cw3_1_0
  have gw3 : Gr W w3 := Gr.trans (by have gg := gw2; have gs := gg.size; go_grown) hw3
  clear gw2 zw2_0 cw2_0_0 cw2_0_1 cw2_0_2 cw2_0_3 zw2_1 cw2_1_0 fw2_1_0
  clear hw3
  try simp only [Act.put, List.setIfInBounds_toArray, List.set_cons_zero, List.set_cons_succ]
  repeat (first | (refine Od.wpO_skip (by simp only [List.getElem?_toArray, List.getElem?_cons_succ, List.getElem?_cons_zero] <;> rfl) rfl ?_; simp only [Act.put, List.setIfInBounds_toArray, List.set_cons_zero, List.set_cons_succ]) | (refine Od.wpO_pure (by simp only [List.getElem?_toArray, List.getElem?_cons_succ, List.getElem?_cons_zero] <;> rfl) rfl ?_; apply Exists.intro; refine ⟨?_, ?_⟩; (· intro wx gx; obtain ⟨mx, rfl⟩ := spread_of_gr gx; clear gx; all_goals (apply Od.pAt_of_quiet; intro K hK; go_big_quiet_op; first | exact hK _ rfl | (apply Exists.intro; refine ⟨fun _ => ?_, ?_⟩; (· fail); exact hK _ rfl))); try simp only [Act.put, List.setIfInBounds_toArray, List.set_cons_zero, List.set_cons_succ]))
  refine Od.wpO_nil (hKQ _ _ ?_)
  clear hKQ KQ
  have sW := gw3.size
  have sW0 := sW
  have hQm : ¬ Q = w3.heap.size := by omega
  have hWm : ¬ W.heap.size = w3.heap.size := by omega
  have hQW : ¬ W.heap.size = Q := by omega
  have hQW2 : ¬ Q = W.heap.size := by omega
  go_upto_region 10 with fail
  have K4 : Kx (fun j => j = Q) W ((w3.setCell ⟨Q, 0, none⟩ (.map (some w3.heap.size))).alloc (.map #[] 0)) := ((Kx.of_gr (S := fun j => j = Q) gw3).setCell (p := ⟨Q, 0, none⟩) rfl _).trans (Kx.of_gr ((Below.refl _ _).alloc (Nat.le_refl _) _))
  have M4 : ((w3.setCell ⟨Q, 0, none⟩ (.map (some w3.heap.size))).alloc (.map #[] 0)).ownsMap Tryz.prog 3 heldE w3.heap.size 0 (.map []) := by
    have h0 := World.ownsMap_made (w3.setCell ⟨Q, 0, none⟩ (.map (some w3.heap.size))) Tryz.prog 3 heldE
    rwa [show (w3.setCell ⟨Q, 0, none⟩ (.map (some w3.heap.size))).heap.size = w3.heap.size by simp] at h0
  have q4 : ((w3.setCell ⟨Q, 0, none⟩ (.map (some w3.heap.size))).alloc (.map #[] 0)).cell? ⟨Q, 0, none⟩ = some (.map (some w3.heap.size)) := by go_simp
  have b0 : ((w3.setCell ⟨Q, 0, none⟩ (.map (some w3.heap.size))).alloc (.map #[] 0)).cell? ⟨W.heap.size, 0, none⟩ = some (.int .i64 1) := by go_simp
  have b1 : ((w3.setCell ⟨Q, 0, none⟩ (.map (some w3.heap.size))).alloc (.map #[] 0)).cell? ⟨W.heap.size, 1, none⟩ = some (.int .i64 (id : Nat)) := by go_simp
  have b2 : ((w3.setCell ⟨Q, 0, none⟩ (.map (some w3.heap.size))).alloc (.map #[] 0)).cell? ⟨W.heap.size, 2, none⟩ = some (.int .i64 k) := by go_simp
  have b3 : ((w3.setCell ⟨Q, 0, none⟩ (.map (some w3.heap.size))).alloc (.map #[] 0)).cell? ⟨W.heap.size, 3, none⟩ = some (.slice (some ⟨B0, 0, none⟩) n cap) := by go_simp
  have f4 : ((w3.setCell ⟨Q, 0, none⟩ (.map (some w3.heap.size))).alloc (.map #[] 0)).frozen? ⟨Q, 0, none⟩ = false := by go_simp
  clear cw3_0_0 cw3_0_1 cw3_0_2 cw3_0_3 cw3_1_0 fw3_1_0 zw3_0 zw3_1 gw3 c0 f0
  generalize (w3.setCell ⟨Q, 0, none⟩ (.map (some w3.heap.size))).alloc (.map #[] 0) = w4 at K4 M4 q4 f4 b0 b1 b2 b3 ⊢
  obtain ⟨m, em⟩ : ∃ m, m = w3.heap.size := ⟨_, rfl⟩
  rw [← em] at M4 q4 hQm ⊢
  have hmW : W.heap.size ≤ m := by omega
  have zQ4 := World.block_lt_of_cell? _ _ q4
  have zb4 := World.block_lt_of_cell? _ _ b0
  have HK4 := Lib.hid (And.intro K4 M4)
  have AC := Lib.hid (fun w (g : Gr w4 w) => c_rClone (k := k) hn hn2 w (show Pts w (.slice (some ⟨B0, 0, none⟩) n cap) n X Y from ⟨_, cap, B0, 0, rfl, hcap.1, hcap.2, fun _ => rfl, fun q hq => ⟨cell_gr g (cell_kx K4 (p := ⟨B0, 0 + q * 2, none⟩) hBQ (HP.out q hq).1), cell_gr g (cell_kx K4 (p := ⟨B0, 0 + q * 2 + 1, none⟩) hBQ (HP.out q hq).2)⟩⟩))
  have zm4 := M4.lt
  have s40 := K4.size
  clear K4 M4 em
  go_wp2_with fail
  try simp only [List.append]
  refine Od.wp_region_ordT 9 [(0, false), (1, false), (2, false), (3, false), (4, false), (5, false), (6, false), (7, false), (8, true)] (by kernel_rfl) (by kernel_rfl) ?_
  intro w5 hw5 KQ hKQ
  have cw5_0_0 : w5.cell? ⟨W.heap.size, 0, none⟩ = some (.int .i64 1) := cell_gr hw5 (by go_simp)
  have cw5_0_1 : w5.cell? ⟨W.heap.size, 1, none⟩ = some (.int .i64 (id : Nat)) := cell_gr hw5 (by go_simp)
  have cw5_0_2 : w5.cell? ⟨W.heap.size, 2, none⟩ = some (.int .i64 k) := cell_gr hw5 (by go_simp)
  have cw5_0_3 : w5.cell? ⟨W.heap.size, 3, none⟩ = some (.slice (some ⟨B0, 0, none⟩) n cap) := cell_gr hw5 (by go_simp)
  have zw5_0 : W.heap.size < w5.heap.size := World.block_lt_of_cell? _ _ cw5_0_0
  have cw5_1_0 : w5.cell? ⟨Q, 0, none⟩ = some (.map (some m)) := cell_gr hw5 (by go_simp)
  have fw5_1_0 : w5.frozen? ⟨Q, 0, none⟩ = false := frozen_gr (v := .map (some m)) hw5 (by go_simp) (by go_simp)
  have zw5_1 : Q < w5.heap.size := World.block_lt_of_cell? _ _ cw5_1_0
  have gw5 : Gr w4 w5 := Gr.trans (by go_grown) hw5
  skip
  clear hw5
  repeat (first | (refine Od.wpO_skip (by simp only [List.getElem?_toArray, List.getElem?_cons_succ, List.getElem?_cons_zero] <;> rfl) rfl ?_; simp only [Act.put, List.setIfInBounds_toArray, List.set_cons_zero, List.set_cons_succ]) | (refine Od.wpO_pure (by simp only [List.getElem?_toArray, List.getElem?_cons_succ, List.getElem?_cons_zero] <;> rfl) rfl ?_; apply Exists.intro; refine ⟨?_, ?_⟩; (· intro wx gx; obtain ⟨mx, rfl⟩ := spread_of_gr gx; clear gx; all_goals (apply Od.pAt_of_quiet; intro K hK; go_big_quiet_op; first | exact hK _ rfl | (apply Exists.intro; refine ⟨fun _ => ?_, ?_⟩; (· fail); exact hK _ rfl))); try simp only [Act.put, List.setIfInBounds_toArray, List.set_cons_zero, List.set_cons_succ]))
  have s45 := gw5.size
  refine Od.wpO_call (by simp only [List.getElem?_toArray, List.getElem?_cons_succ, List.getElem?_cons_zero] <;> rfl) rfl ?_
  intro QS hQS
  go_wp2_with fail
  go_at_call 20
  (with_reducible refine ((AC.out _ gw5)).mono ?_)
  rintro e w6 ⟨B, c, rfl, hp, hB, hw6⟩
  go_wp2_with fail
  apply Exists.intro
  refine ⟨?_, hw6, ?_⟩
  · simp only [Act.put, List.setIfInBounds_toArray, List.set_cons_zero, List.set_cons_succ]; rfl
  have cw6_0_0 : w6.cell? ⟨W.heap.size, 0, none⟩ = some (.int .i64 1) := cell_gr hw6 (by go_simp)
  have cw6_0_1 : w6.cell? ⟨W.heap.size, 1, none⟩ = some (.int .i64 (id : Nat)) := cell_gr hw6 (by go_simp)
  have cw6_0_2 : w6.cell? ⟨W.heap.size, 2, none⟩ = some (.int .i64 k) := cell_gr hw6 (by go_simp)
  have cw6_0_3 : w6.cell? ⟨W.heap.size, 3, none⟩ = some (.slice (some ⟨B0, 0, none⟩) n cap) := cell_gr hw6 (by go_simp)
  have zw6_0 : W.heap.size < w6.heap.size := World.block_lt_of_cell? _ _ cw6_0_0
  have cw6_1_0 : w6.cell? ⟨Q, 0, none⟩ = some (.map (some m)) := cell_gr hw6 (by go_simp)
  have fw6_1_0 : w6.frozen? ⟨Q, 0, none⟩ = false := frozen_gr (v := .map (some m)) hw6 (by go_simp) (by go_simp)
  have zw6_1 : Q < w6.heap.size := World.block_lt_of_cell? _ _ cw6_1_0
  have gw6 : Gr w4 w6 := Gr.trans (by have gg := gw5; have gs := gg.size; go_grown) hw6
  clear gw5 zw5_0 cw5_0_0 cw5_0_1 cw5_0_2 cw5_0_3 zw5_1 cw5_1_0 fw5_1_0
  clear hw6
  try simp only [Act.put, List.setIfInBounds_toArray, List.set_cons_zero, List.set_cons_succ]
  repeat (first | (refine Od.wpO_skip (by simp only [List.getElem?_toArray, List.getElem?_cons_succ, List.getElem?_cons_zero] <;> rfl) rfl ?_; simp only [Act.put, List.setIfInBounds_toArray, List.set_cons_zero, List.set_cons_succ]) | (refine Od.wpO_pure (by simp only [List.getElem?_toArray, List.getElem?_cons_succ, List.getElem?_cons_zero] <;> rfl) rfl ?_; apply Exists.intro; refine ⟨?_, ?_⟩; (· intro wx gx; obtain ⟨mx, rfl⟩ := spread_of_gr gx; clear gx; all_goals (apply Od.pAt_of_quiet; intro K hK; go_big_quiet_op; first | exact hK _ rfl | (apply Exists.intro; refine ⟨fun _ => ?_, ?_⟩; (· fail); exact hK _ rfl))); try simp only [Act.put, List.setIfInBounds_toArray, List.set_cons_zero, List.set_cons_succ]))
  have HPB := Lib.hid (And.intro hp hB)
  clear hp
  refine Od.wpO_nil (hKQ _ _ ?_)
  clear hKQ KQ
  simp only [List.drop_succ_cons, List.drop_zero]
  have M6 := Lib.hid (ownsMap_kx HK4.out.2 (Kx.of_gr (S := fun _ => False) gw6) (fun h => h))
  go_wp2_with (at_mapUpdate; go_loud ((refine wpList_mapUpdate_own _ rfl _ _ _ 47 rfl 3 33 KI Tryz.underlying47 heldE m 0 (.map []) rfl M6.out (by unfold maxLen; omega) _ _ (ik id) rfl rfl (ik_of hid) (.held (.agg #[.int .i64 k, .slice (some ⟨B, 0, none⟩) n c])) [] rfl ?_); intro w7 m7 g7; (have KM := md_mapGrown g7); (have HM := Lib.hid (And.intro m7 KM)); (have y7 := cell_kx KM (p := ⟨Q, 0, none⟩) hQm cw6_1_0); clear m7 g7 KM))
  go_ret
  obtain ⟨hp, hB⟩ := HPB.out
  have hBm : ¬ B = m := by omega
  refine ⟨m, B, c, rfl, y7, HM.out.1, ?_, ⟨pts_kxW hn hp.1 HM.out.2 hBm, fr2_kx hp.2 HM.out.2 hBm⟩, by omega, hmW, hBm⟩
  exact kx_new (((HK4.out.1.trans (Kx.of_gr gw6)).mono (fun j h => Or.inl h)).trans (HM.out.2.mono (fun j h => Or.inr (by have : j = m := h; omega))))
set_option maxHeartbeats 1000000 in
set_option maxRecDepth 100000 in
theorem md_apply_dup {Q m id : Nat} {k o : Int} {n N : Nat} {X Y : Nat → Int} {v : Value} {ad : Option Addr} {l c : Nat} {D : DataW Value} (hid : id < 1000000) (W : World) (h : Pts W v n X Y) (hc : chgC 1 id k n X Y = 0) (c0 : W.cell? ⟨Q, 0, none⟩ = some (.map (some m))) (hm : W.ownsMap Tryz.prog 3 heldE m N D) (hh : Maps.has D (ik id) = true) (hv : ∀ z, D.atKey (ik id) z = .held (.agg #[.int .i64 o, .slice ad l c])) :
    Calls Tryz.prog 9 #[.pointer (some ⟨Q, 0, none⟩), .agg #[.int .i64 1, .int .i64 (id : Nat), .int .i64 k, v]] W fun e w' => ∃ F, e = .returned (.iface 63 (.pointer (some ⟨F, 0, none⟩))) ∧ FaultAt w' F modelS (id : Nat) 6 ∧ Gr W w' := by
  have zQ := World.block_lt_of_cell? _ _ c0
  have AF := Lib.hid (fun w (g : Gr W w) => md_ref_dup (Q := Q) w (pts_gr h g) hc)
  have AH := Lib.hid (fun w (g : Gr W w) => md_has_hit hid w (cell_gr g c0) (ownsMap_kx hm (Kx.of_gr (S := fun _ => False) g) (fun h => h)) hh hv)
  obtain ⟨ad, cap, B0, off0, rfl, -⟩ := h
  clear hc hm hh hv
  go_enter Tryz.func9, Tryz.ntmps9
  go_wp2_with fail
  try simp only [List.append]
  refine Od.wp_region_ord [(0, false), (1, false), (2, false), (3, false), (4, true), (5, true), (6, false)] (by kernel_rfl) (by kernel_rfl) ?_
  intro w1 hw1 KQ hKQ
  have cw1_0_0 : w1.cell? ⟨W.heap.size, 0, none⟩ = some (.int .i64 1) := cell_gr hw1 (by go_simp)
  have cw1_0_1 : w1.cell? ⟨W.heap.size, 1, none⟩ = some (.int .i64 (id : Nat)) := cell_gr hw1 (by go_simp)
  have cw1_0_2 : w1.cell? ⟨W.heap.size, 2, none⟩ = some (.int .i64 k) := cell_gr hw1 (by go_simp)
  have cw1_0_3 : w1.cell? ⟨W.heap.size, 3, none⟩ = some (.slice ad n cap) := cell_gr hw1 (by go_simp)
  have zw1_0 : W.heap.size < w1.heap.size := World.block_lt_of_cell? _ _ cw1_0_0
  have gw1 : Gr W w1 := Gr.trans (by go_grown) hw1
  skip
  clear hw1
  repeat (first | (refine Od.wpO_skip (by simp only [List.getElem?_toArray, List.getElem?_cons_succ, List.getElem?_cons_zero] <;> rfl) rfl ?_; simp only [Act.put, List.setIfInBounds_toArray, List.set_cons_zero, List.set_cons_succ]) | (refine Od.wpO_pure (by simp only [List.getElem?_toArray, List.getElem?_cons_succ, List.getElem?_cons_zero] <;> rfl) rfl ?_; apply Exists.intro; refine ⟨?_, ?_⟩; (· intro wx gx; obtain ⟨mx, rfl⟩ := spread_of_gr gx; clear gx; all_goals (apply Od.pAt_of_quiet; intro K hK; go_big_quiet_op; first | exact hK _ rfl | (apply Exists.intro; refine ⟨fun _ => ?_, ?_⟩; (· fail); exact hK _ rfl))); try simp only [Act.put, List.setIfInBounds_toArray, List.set_cons_zero, List.set_cons_succ]))
  refine Od.wpO_call (by simp only [List.getElem?_toArray, List.getElem?_cons_succ, List.getElem?_cons_zero] <;> rfl) rfl ?_
  intro QS hQS
  go_wp2_with fail
  go_at_call 19
  (with_reducible refine ((AH.out _ gw1)).mono ?_)
  rintro e w2 ⟨rfl, hw2⟩
  go_wp2_with fail
  apply Exists.intro
  refine ⟨?_, hw2, ?_⟩
  · simp only [Act.put, List.setIfInBounds_toArray, List.set_cons_zero, List.set_cons_succ]; rfl
  have cw2_0_0 : w2.cell? ⟨W.heap.size, 0, none⟩ = some (.int .i64 1) := cell_gr hw2 (by go_simp)
  have cw2_0_1 : w2.cell? ⟨W.heap.size, 1, none⟩ = some (.int .i64 (id : Nat)) := cell_gr hw2 (by go_simp)
  have cw2_0_2 : w2.cell? ⟨W.heap.size, 2, none⟩ = some (.int .i64 k) := cell_gr hw2 (by go_simp)
  have cw2_0_3 : w2.cell? ⟨W.heap.size, 3, none⟩ = some (.slice ad n cap) := cell_gr hw2 (by go_simp)
  have zw2_0 : W.heap.size < w2.heap.size := World.block_lt_of_cell? _ _ cw2_0_0
  have gw2 : Gr W w2 := Gr.trans (by have gg := gw1; have gs := gg.size; go_grown) hw2
  clear gw1 zw1_0 cw1_0_0 cw1_0_1 cw1_0_2 cw1_0_3
  clear hw2
  try simp only [Act.put, List.setIfInBounds_toArray, List.set_cons_zero, List.set_cons_succ]
  repeat (first | (refine Od.wpO_skip (by simp only [List.getElem?_toArray, List.getElem?_cons_succ, List.getElem?_cons_zero] <;> rfl) rfl ?_; simp only [Act.put, List.setIfInBounds_toArray, List.set_cons_zero, List.set_cons_succ]) | (refine Od.wpO_pure (by simp only [List.getElem?_toArray, List.getElem?_cons_succ, List.getElem?_cons_zero] <;> rfl) rfl ?_; apply Exists.intro; refine ⟨?_, ?_⟩; (· intro wx gx; obtain ⟨mx, rfl⟩ := spread_of_gr gx; clear gx; all_goals (apply Od.pAt_of_quiet; intro K hK; go_big_quiet_op; first | exact hK _ rfl | (apply Exists.intro; refine ⟨fun _ => ?_, ?_⟩; (· fail); exact hK _ rfl))); try simp only [Act.put, List.setIfInBounds_toArray, List.set_cons_zero, List.set_cons_succ]))
  refine Od.wpO_call (by simp only [List.getElem?_toArray, List.getElem?_cons_succ, List.getElem?_cons_zero] <;> rfl) rfl ?_
  intro QS hQS
  go_wp2_with fail
  go_at_call 18
  (with_reducible refine ((AF.out _ gw2)).mono ?_)
  rintro e w3 ⟨F, rfl, hf, hw3⟩
  go_wp2_with fail
  apply Exists.intro
  refine ⟨?_, hw3, ?_⟩
  · simp only [Act.put, List.setIfInBounds_toArray, List.set_cons_zero, List.set_cons_succ]; rfl
  have cw3_0_0 : w3.cell? ⟨W.heap.size, 0, none⟩ = some (.int .i64 1) := cell_gr hw3 (by go_simp)
  have cw3_0_1 : w3.cell? ⟨W.heap.size, 1, none⟩ = some (.int .i64 (id : Nat)) := cell_gr hw3 (by go_simp)
  have cw3_0_2 : w3.cell? ⟨W.heap.size, 2, none⟩ = some (.int .i64 k) := cell_gr hw3 (by go_simp)
  have cw3_0_3 : w3.cell? ⟨W.heap.size, 3, none⟩ = some (.slice ad n cap) := cell_gr hw3 (by go_simp)
  have zw3_0 : W.heap.size < w3.heap.size := World.block_lt_of_cell? _ _ cw3_0_0
  have gw3 : Gr W w3 := Gr.trans (by have gg := gw2; have gs := gg.size; go_grown) hw3
  clear gw2 zw2_0 cw2_0_0 cw2_0_1 cw2_0_2 cw2_0_3
  clear hw3
  try simp only [Act.put, List.setIfInBounds_toArray, List.set_cons_zero, List.set_cons_succ]
  repeat (first | (refine Od.wpO_skip (by simp only [List.getElem?_toArray, List.getElem?_cons_succ, List.getElem?_cons_zero] <;> rfl) rfl ?_; simp only [Act.put, List.setIfInBounds_toArray, List.set_cons_zero, List.set_cons_succ]) | (refine Od.wpO_pure (by simp only [List.getElem?_toArray, List.getElem?_cons_succ, List.getElem?_cons_zero] <;> rfl) rfl ?_; apply Exists.intro; refine ⟨?_, ?_⟩; (· intro wx gx; obtain ⟨mx, rfl⟩ := spread_of_gr gx; clear gx; all_goals (apply Od.pAt_of_quiet; intro K hK; go_big_quiet_op; first | exact hK _ rfl | (apply Exists.intro; refine ⟨fun _ => ?_, ?_⟩; (· fail); exact hK _ rfl))); try simp only [Act.put, List.setIfInBounds_toArray, List.set_cons_zero, List.set_cons_succ]))
  have HF := Lib.hid hf
  clear hf
  refine Od.wpO_nil (hKQ _ _ ?_)
  clear hKQ KQ
  go_wp2_with fail
  go_ret
  exact ⟨F, rfl, HF.out, gw3⟩
end Go.Proofs.YtapfecmdfoobcaaGreatDoor
