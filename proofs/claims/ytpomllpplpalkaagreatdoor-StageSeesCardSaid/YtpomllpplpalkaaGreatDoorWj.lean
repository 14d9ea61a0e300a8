/- model: Apply where it is done -/
import Derived.Test.YtpomllpplpalkaaGreatDoorWi
namespace Go.Proofs.YtpomllpplpalkaaGreatDoor
set_option linter.unusedVariables false
set_option linter.unusedSimpArgs false
open Go.ChangeShapes Go.WideShapes Go.ChangeAt Go.RowKit Go.Maps

def updS (σ : Int → Option MO) (id : Int) (o : Option MO) : Int → Option MO := fun z => if z = id then o else σ z
theorem mAt_put {w : World} {D : DataW Value} {σ : Int → Option MO} {id : Int} {o : MO} {B c : Nat} (h : MAt w D σ) (hI : IsMap D) (hn : 0 < o.n) (hn2 : o.n ≤ 1000) (hp : Pts w (.slice (some ⟨B, 0, none⟩) o.n c) o.n o.X o.Y) (hf : Fr2 w B) : MAt w (D.put (zk id) (.held (.agg #[.int .i64 o.k, .slice (some ⟨B, 0, none⟩) o.n c]))) (updS σ id (some o)) := fun z hz => by
  by_cases e : z = id
  · subst e
    have hu : updS σ z (some o) z = some o := if_pos rfl
    rw [hu]
    refine ⟨fun h => (by cases h), fun o' ho => ?_⟩
    obtain rfl := Option.some.inj ho
    exact ⟨has_put_same hI (zk_key z) _, hn, hn2, B, c, fun y => atKey_put_same hI (zk_key z) _ _, hp, hf⟩
  · have hu : updS σ id (some o) z = σ z := if_neg e
    rw [hu]
    refine ⟨fun h0 => by rw [has_put_other (zk_ne e)]; exact (h z hz).1 h0, fun o' ho => ?_⟩
    obtain ⟨h1, h2, h3, B', c', h4, h5⟩ := (h z hz).2 o' ho
    exact ⟨by rw [has_put_other (zk_ne e)]; exact h1, h2, h3, B', c', fun y => by rw [atKey_put_other (zk_ne e)]; exact h4 y, h5⟩
theorem mAt_del {w : World} {D : DataW Value} {σ : Int → Option MO} {id : Int} (h : MAt w D σ) : MAt w (D.del (zk id)) (updS σ id none) := fun z hz => by
  by_cases e : z = id
  · subst e
    have hu : updS σ z none z = none := if_pos rfl
    rw [hu]
    exact ⟨fun _ => has_del_same, fun o' ho => by cases ho⟩
  · have hu : updS σ id none z = σ z := if_neg e
    rw [hu]
    refine ⟨fun h0 => by rw [has_del_other (zk_ne e)]; exact (h z hz).1 h0, fun o' ho => ?_⟩
    obtain ⟨h1, h2, h3, B', c', h4, h5⟩ := (h z hz).2 o' ho
    exact ⟨by rw [has_del_other (zk_ne e)]; exact h1, h2, h3, B', c', fun y => by rw [atKey_del_other (zk_ne e)]; exact h4 y, h5⟩
theorem mAt_nil {w : World} {σ : Int → Option MO} (h : ∀ z, σ z = none) : MAt w (.map []) σ := fun z _ => ⟨fun _ => rfl, fun o ho => by rw [h z] at ho; cases ho⟩
theorem pts_kxA {n : Nat} {X Y : Nat → Int} {v : Value} {a b : World} {S : Nat → Prop} (h : Pts a v n X Y) (K : Kx S a b) (hS : ∀ B i x, a.cell? ⟨B, i, none⟩ = some (.int .i64 x) → ¬ S B) : Pts b v n X Y := by
  obtain ⟨ad, cap, B1, off, e, p1, p2, p3, p4⟩ := h
  exact ⟨ad, cap, B1, off, e, p1, p2, p3, fun q hq => ⟨cell_kx K (p := ⟨B1, off + q * 2, none⟩) (hS _ _ _ (p4 q hq).1) (p4 q hq).1, cell_kx K (p := ⟨B1, off + q * 2 + 1, none⟩) (hS _ _ _ (p4 q hq).2) (p4 q hq).2⟩⟩
theorem md_eqs (m : Nat) (w : World) : (binOp .eql 103 (.map (some m)) (.map none)).run Tryz.prog w = .ok (.bool false) w := by kernel_rfl
theorem md_turned {a b : World} {m : Nat} (h : a.mapTurned b m) : Kx (fun j => j = m) a b := md_mapGrown h.grown
theorem ownsMap_le {w : World} {P : Program} {k : TypeId} {m n n' : Nat} {D : DataW Value} (h : w.ownsMap P k heldE m n D) (hn : n ≤ n') : w.ownsMap P k heldE m n' D := by
  obtain ⟨es, clock, hb, F, hs, hD⟩ := h
  exact ⟨es, clock, hb, F, Nat.le_trans hs hn, hD⟩
set_option maxHeartbeats 4000000 in
set_option maxRecDepth 100000 in
theorem md_ap_del {Q N m : Nat} {σ : Int → Option MO} {id k : Int} {n : Nat} {X Y : Nat → Int} {v : Value} (hi : i64R id) (W : World) (hM : MdAt W Q (some m) σ N) (h : Pts W v n X Y) (hc : chgC 2 id k n X Y = 0) (hs : (σ id).isSome = true) :
    Calls Tryz.prog 27 #[.pointer (some ⟨Q, 0, none⟩), .agg #[.int .i64 2, .int .i64 id, .int .i64 k, v]] W fun e w' => e = .returned .nilIface ∧ MdAt w' Q (some m) (updS σ id none) N ∧ Kx (fun j => j = m) W w' := by
  have c0 : W.cell? ⟨Q, 0, none⟩ = some (.map (some m)) := Hm.cell_of_heap hM.1 0
  have zQ := World.block_lt_of_cell? _ _ c0
  have AH := Lib.hid (fun w (g : Gr W w) => show Calls Tryz.prog 71 #[.pointer (some ⟨Q, 0, none⟩), .int .i64 id] w (fun e w' => e = .returned (.bool true) ∧ Gr w w') from by
    have := md_has hi w (mdAt_gr hM g)
    rwa [hs] at this)
  have AF := Lib.hid (fun w (g : Gr W w) => md_ref_del (Q := Q) w (pts_gr h g) hc)
  have HM := Lib.hid hM
  have HI := Lib.hid hi
  obtain ⟨ad, cap, B0, off0, rfl, -⟩ := h
  clear hc hM hi hs
  obtain ⟨D, hD, hA⟩ := HM.out.2.2 m rfl
  have hQm : ¬ Q = m := fun e => by
    obtain ⟨es, cl, hh⟩ := ownsMap_heap hD
    rw [← e, HM.out.1] at hh
    cases hh
  have HD := Lib.hid (And.intro hD hA)
  clear hD hA
  go_enter Tryz.func27, Tryz.ntmps27
  go_wp2_with fail
  try simp only [List.append]
  refine Od.wp_region_ord [(0, false), (1, false), (2, false), (3, false), (4, true), (5, true), (6, false)] (by kernel_rfl) (by kernel_rfl) ?_
  intro w1 hw1 KQ hKQ
  have cw1_0_0 : w1.cell? ⟨W.heap.size, 0, none⟩ = some (.int .i64 2) := cell_gr hw1 (by go_simp)
  have cw1_0_1 : w1.cell? ⟨W.heap.size, 1, none⟩ = some (.int .i64 id) := cell_gr hw1 (by go_simp)
  have cw1_0_2 : w1.cell? ⟨W.heap.size, 2, none⟩ = some (.int .i64 k) := cell_gr hw1 (by go_simp)
  have cw1_0_3 : w1.cell? ⟨W.heap.size, 3, none⟩ = some (.slice ad n cap) := cell_gr hw1 (by go_simp)
  have zw1_0 : W.heap.size < w1.heap.size := World.block_lt_of_cell? _ _ cw1_0_0
  have cw1_1_0 : w1.cell? ⟨Q, 0, none⟩ = some (.map (some m)) := cell_gr hw1 (by go_simp)
  have zw1_1 : Q < w1.heap.size := World.block_lt_of_cell? _ _ cw1_1_0
  have gw1 : Gr W w1 := Gr.trans (by go_grown) hw1
  skip
  clear hw1
  repeat (first | (refine Od.wpO_skip (by simp only [List.getElem?_toArray, List.getElem?_cons_succ, List.getElem?_cons_zero] <;> rfl) rfl ?_; simp only [Act.put, List.setIfInBounds_toArray, List.set_cons_zero, List.set_cons_succ]) | (refine Od.wpO_pure (by simp only [List.getElem?_toArray, List.getElem?_cons_succ, List.getElem?_cons_zero] <;> rfl) rfl ?_; apply Exists.intro; refine ⟨?_, ?_⟩; (· intro wx gx; obtain ⟨mx, rfl⟩ := spread_of_gr gx; clear gx; all_goals (apply Od.pAt_of_quiet; intro K hK; go_big_quiet_op; first | exact hK _ rfl | (apply Exists.intro; refine ⟨fun _ => ?_, ?_⟩; (· fail); exact hK _ rfl))); try simp only [Act.put, List.setIfInBounds_toArray, List.set_cons_zero, List.set_cons_succ]))
  refine Od.wpO_call (by simp only [List.getElem?_toArray, List.getElem?_cons_succ, List.getElem?_cons_zero] <;> rfl) rfl ?_
  intro QS hQS
  go_wp2_with fail
  go_at_call 71
  (with_reducible refine ((AH.out _ gw1)).mono ?_)
  rintro e w2 ⟨rfl, hw2⟩
  go_wp2_with fail
  apply Exists.intro
  refine ⟨?_, hw2, ?_⟩
  · simp only [Act.put, List.setIfInBounds_toArray, List.set_cons_zero, List.set_cons_succ]; rfl
  have cw2_0_0 : w2.cell? ⟨W.heap.size, 0, none⟩ = some (.int .i64 2) := cell_gr hw2 (by go_simp)
  have cw2_0_1 : w2.cell? ⟨W.heap.size, 1, none⟩ = some (.int .i64 id) := cell_gr hw2 (by go_simp)
  have cw2_0_2 : w2.cell? ⟨W.heap.size, 2, none⟩ = some (.int .i64 k) := cell_gr hw2 (by go_simp)
  have cw2_0_3 : w2.cell? ⟨W.heap.size, 3, none⟩ = some (.slice ad n cap) := cell_gr hw2 (by go_simp)
  have zw2_0 : W.heap.size < w2.heap.size := World.block_lt_of_cell? _ _ cw2_0_0
  have cw2_1_0 : w2.cell? ⟨Q, 0, none⟩ = some (.map (some m)) := cell_gr hw2 (by go_simp)
  have zw2_1 : Q < w2.heap.size := World.block_lt_of_cell? _ _ cw2_1_0
  have gw2 : Gr W w2 := Gr.trans (by have gg := gw1; have gs := gg.size; go_grown) hw2
  clear gw1 zw1_0 cw1_0_0 cw1_0_1 cw1_0_2 cw1_0_3 zw1_1 cw1_1_0
  clear hw2
  try simp only [Act.put, List.setIfInBounds_toArray, List.set_cons_zero, List.set_cons_succ]
  repeat (first | (refine Od.wpO_skip (by simp only [List.getElem?_toArray, List.getElem?_cons_succ, List.getElem?_cons_zero] <;> rfl) rfl ?_; simp only [Act.put, List.setIfInBounds_toArray, List.set_cons_zero, List.set_cons_succ]) | (refine Od.wpO_pure (by simp only [List.getElem?_toArray, List.getElem?_cons_succ, List.getElem?_cons_zero] <;> rfl) rfl ?_; apply Exists.intro; refine ⟨?_, ?_⟩; (· intro wx gx; obtain ⟨mx, rfl⟩ := spread_of_gr gx; clear gx; all_goals (apply Od.pAt_of_quiet; intro K hK; go_big_quiet_op; first | exact hK _ rfl | (apply Exists.intro; refine ⟨fun _ => ?_, ?_⟩; (· fail); exact hK _ rfl))); try simp only [Act.put, List.setIfInBounds_toArray, List.set_cons_zero, List.set_cons_succ]))
  refine Od.wpO_call (by simp only [List.getElem?_toArray, List.getElem?_cons_succ, List.getElem?_cons_zero] <;> rfl) rfl ?_
  intro QS hQS
  go_wp2_with fail
  go_at_call 72
  (with_reducible refine ((AF.out _ gw2)).mono ?_)
  rintro e w3 ⟨rfl, hw3⟩
  go_wp2_with fail
  apply Exists.intro
  refine ⟨?_, hw3, ?_⟩
  · simp only [Act.put, List.setIfInBounds_toArray, List.set_cons_zero, List.set_cons_succ]; rfl
  have cw3_0_0 : w3.cell? ⟨W.heap.size, 0, none⟩ = some (.int .i64 2) := cell_gr hw3 (by go_simp)
  have cw3_0_1 : w3.cell? ⟨W.heap.size, 1, none⟩ = some (.int .i64 id) := cell_gr hw3 (by go_simp)
  have cw3_0_2 : w3.cell? ⟨W.heap.size, 2, none⟩ = some (.int .i64 k) := cell_gr hw3 (by go_simp)
  have cw3_0_3 : w3.cell? ⟨W.heap.size, 3, none⟩ = some (.slice ad n cap) := cell_gr hw3 (by go_simp)
  have zw3_0 : W.heap.size < w3.heap.size := World.block_lt_of_cell? _ _ cw3_0_0
  have cw3_1_0 : w3.cell? ⟨Q, 0, none⟩ = some (.map (some m)) := cell_gr hw3 (by go_simp)
  have zw3_1 : Q < w3.heap.size := World.block_lt_of_cell? _ _ cw3_1_0
  have gw3 : Gr W w3 := Gr.trans (by have gg := gw2; have gs := gg.size; go_grown) hw3
  clear gw2 zw2_0 cw2_0_0 cw2_0_1 cw2_0_2 cw2_0_3 zw2_1 cw2_1_0
  clear hw3
  try simp only [Act.put, List.setIfInBounds_toArray, List.set_cons_zero, List.set_cons_succ]
  repeat (first | (refine Od.wpO_skip (by simp only [List.getElem?_toArray, List.getElem?_cons_succ, List.getElem?_cons_zero] <;> rfl) rfl ?_; simp only [Act.put, List.setIfInBounds_toArray, List.set_cons_zero, List.set_cons_succ]) | (refine Od.wpO_pure (by simp only [List.getElem?_toArray, List.getElem?_cons_succ, List.getElem?_cons_zero] <;> rfl) rfl ?_; apply Exists.intro; refine ⟨?_, ?_⟩; (· intro wx gx; obtain ⟨mx, rfl⟩ := spread_of_gr gx; clear gx; all_goals (apply Od.pAt_of_quiet; intro K hK; go_big_quiet_op; first | exact hK _ rfl | (apply Exists.intro; refine ⟨fun _ => ?_, ?_⟩; (· fail); exact hK _ rfl))); try simp only [Act.put, List.setIfInBounds_toArray, List.set_cons_zero, List.set_cons_succ]))
  refine Od.wpO_nil (hKQ _ _ ?_)
  clear hKQ KQ
  have M3 := Lib.hid (ownsMap_kx HD.out.1 (Kx.of_gr (S := fun _ => False) gw3) (fun h => h))
  go_wp2_with ((refine wpList_delete_own _ rfl (.tmp 25) (.tmp 26) 103 3 rfl 34 KI Tryz.underlying103 heldE m N D rfl M3.out _ (zk id) rfl (zk_of HI.out) ?_); intro w5 m5 g5; (have HM5 := Lib.hid (And.intro m5 (md_turned g5))); clear m5 g5)
  go_ret
  obtain ⟨m5, K5⟩ := HM5.out
  have KT : Kx (fun j => j = m) W w5 := (Kx.of_gr gw3).trans K5
  refine ⟨rfl, ⟨heap_kx KT hQm HM.out.1, fun h => (by cases h), fun m' hm' => ?_⟩, KT⟩
  obtain rfl := Option.some.inj hm'
  exact ⟨_, m5, mAt_del (mAt_kx HD.out.2 KT (fun B x hx e => by
    obtain ⟨es, cl, hh⟩ := ownsMap_heap HD.out.1
    exact cell_neM hx hh e))⟩
set_option maxHeartbeats 4000000 in
set_option maxRecDepth 100000 in
theorem md_ap_new {Q N : Nat} {σ : Int → Option MO} {id k : Int} {n : Nat} {X Y : Nat → Int} {v : Value} (hi : i64R id) (hn : 0 < n) (hn2 : n ≤ 1000) (hN : N < 1000000) (W : World) (hM : MdAt W Q none σ N) (h : Pts W v n X Y) (hc : chgC 1 id k n X Y = 0) (hs : (σ id).isSome = false) :
    Calls Tryz.prog 27 #[.pointer (some ⟨Q, 0, none⟩), .agg #[.int .i64 1, .int .i64 id, .int .i64 k, v]] W fun e w' => ∃ m, e = .returned .nilIface ∧ MdAt w' Q (some m) (updS σ id (some ⟨k, n, X, Y⟩)) (N + 1) ∧ W.heap.size ≤ m ∧ Kx (fun j => j = Q) W w' := by
  have hmm := @run_makeMap Tryz.prog
  have heq := md_eqm
  have c0 : W.cell? ⟨Q, 0, none⟩ = some (.map none) := Hm.cell_of_heap hM.1 0
  have f0 := Hm.frozen_of_heap hM.1 0
  have zQ := World.block_lt_of_cell? _ _ c0
  have AH := Lib.hid (fun w (g : Gr W w) => show Calls Tryz.prog 71 #[.pointer (some ⟨Q, 0, none⟩), .int .i64 id] w (fun e w' => e = .returned (.bool false) ∧ Gr w w') from by
    have := md_has hi w (mdAt_gr hM g)
    rwa [hs] at this)
  have AF := Lib.hid (fun w (g : Gr W w) => md_ref_ok (Q := Q) w (pts_gr h g) hc)
  have HP := Lib.hid h
  have HM := Lib.hid hM
  have HI := Lib.hid hi
  obtain ⟨ad, cap, B0, off0, rfl, -⟩ := h
  clear hc hM hi hs
  go_enter Tryz.func27, Tryz.ntmps27
  go_wp2_with fail
  try simp only [List.append]
  refine Od.wp_region_ord [(0, false), (1, false), (2, false), (3, false), (4, true), (5, true), (6, false)] (by kernel_rfl) (by kernel_rfl) ?_
  intro w1 hw1 KQ hKQ
  have cw1_0_0 : w1.cell? ⟨W.heap.size, 0, none⟩ = some (.int .i64 1) := cell_gr hw1 (by go_simp)
  have cw1_0_1 : w1.cell? ⟨W.heap.size, 1, none⟩ = some (.int .i64 id) := cell_gr hw1 (by go_simp)
  have cw1_0_2 : w1.cell? ⟨W.heap.size, 2, none⟩ = some (.int .i64 k) := cell_gr hw1 (by go_simp)
  have cw1_0_3 : w1.cell? ⟨W.heap.size, 3, none⟩ = some (.slice ad n cap) := cell_gr hw1 (by go_simp)
  have zw1_0 : W.heap.size < w1.heap.size := World.block_lt_of_cell? _ _ cw1_0_0
  have cw1_1_0 : w1.cell? ⟨Q, 0, none⟩ = some (.map none) := cell_gr hw1 (by go_simp)
  have fw1_1_0 : w1.frozen? ⟨Q, 0, none⟩ = false := frozen_gr (v := .map none) hw1 (by go_simp) (by go_simp)
  have zw1_1 : Q < w1.heap.size := World.block_lt_of_cell? _ _ cw1_1_0
  have gw1 : Gr W w1 := Gr.trans (by go_grown) hw1
  skip
  clear hw1
  repeat (first | (refine Od.wpO_skip (by simp only [List.getElem?_toArray, List.getElem?_cons_succ, List.getElem?_cons_zero] <;> rfl) rfl ?_; simp only [Act.put, List.setIfInBounds_toArray, List.set_cons_zero, List.set_cons_succ]) | (refine Od.wpO_pure (by simp only [List.getElem?_toArray, List.getElem?_cons_succ, List.getElem?_cons_zero] <;> rfl) rfl ?_; apply Exists.intro; refine ⟨?_, ?_⟩; (· intro wx gx; obtain ⟨mx, rfl⟩ := spread_of_gr gx; clear gx; all_goals (apply Od.pAt_of_quiet; intro K hK; go_big_quiet_op; first | exact hK _ rfl | (apply Exists.intro; refine ⟨fun _ => ?_, ?_⟩; (· fail); exact hK _ rfl))); try simp only [Act.put, List.setIfInBounds_toArray, List.set_cons_zero, List.set_cons_succ]))
  refine Od.wpO_call (by simp only [List.getElem?_toArray, List.getElem?_cons_succ, List.getElem?_cons_zero] <;> rfl) rfl ?_
  intro QS hQS
  go_wp2_with fail
  go_at_call 71
  (with_reducible refine ((AH.out _ gw1)).mono ?_)
  rintro e w2 ⟨rfl, hw2⟩
  go_wp2_with fail
  apply Exists.intro
  refine ⟨?_, hw2, ?_⟩
  · simp only [Act.put, List.setIfInBounds_toArray, List.set_cons_zero, List.set_cons_succ]; rfl
  have cw2_0_0 : w2.cell? ⟨W.heap.size, 0, none⟩ = some (.int .i64 1) := cell_gr hw2 (by go_simp)
  have cw2_0_1 : w2.cell? ⟨W.heap.size, 1, none⟩ = some (.int .i64 id) := cell_gr hw2 (by go_simp)
  have cw2_0_2 : w2.cell? ⟨W.heap.size, 2, none⟩ = some (.int .i64 k) := cell_gr hw2 (by go_simp)
  have cw2_0_3 : w2.cell? ⟨W.heap.size, 3, none⟩ = some (.slice ad n cap) := cell_gr hw2 (by go_simp)
  have zw2_0 : W.heap.size < w2.heap.size := World.block_lt_of_cell? _ _ cw2_0_0
  have cw2_1_0 : w2.cell? ⟨Q, 0, none⟩ = some (.map none) := cell_gr hw2 (by go_simp)
  have fw2_1_0 : w2.frozen? ⟨Q, 0, none⟩ = false := frozen_gr (v := .map none) hw2 (by go_simp) (by go_simp)
  have zw2_1 : Q < w2.heap.size := World.block_lt_of_cell? _ _ cw2_1_0
  have gw2 : Gr W w2 := Gr.trans (by have gg := gw1; have gs := gg.size; go_grown) hw2
  clear gw1 zw1_0 cw1_0_0 cw1_0_1 cw1_0_2 cw1_0_3 zw1_1 cw1_1_0 fw1_1_0
  clear hw2
  try simp only [Act.put, List.setIfInBounds_toArray, List.set_cons_zero, List.set_cons_succ]
  repeat (first | (refine Od.wpO_skip (by simp only [List.getElem?_toArray, List.getElem?_cons_succ, List.getElem?_cons_zero] <;> rfl) rfl ?_; simp only [Act.put, List.setIfInBounds_toArray, List.set_cons_zero, List.set_cons_succ]) | (refine Od.wpO_pure (by simp only [List.getElem?_toArray, List.getElem?_cons_succ, List.getElem?_cons_zero] <;> rfl) rfl ?_; apply Exists.intro; refine ⟨?_, ?_⟩; (· intro wx gx; obtain ⟨mx, rfl⟩ := spread_of_gr gx; clear gx; all_goals (apply Od.pAt_of_quiet; intro K hK; go_big_quiet_op; first | exact hK _ rfl | (apply Exists.intro; refine ⟨fun _ => ?_, ?_⟩; (· fail); exact hK _ rfl))); try simp only [Act.put, List.setIfInBounds_toArray, List.set_cons_zero, List.set_cons_succ]))
  refine Od.wpO_call (by simp only [List.getElem?_toArray, List.getElem?_cons_succ, List.getElem?_cons_zero] <;> rfl) rfl ?_
  intro QS hQS
  go_wp2_with fail
  go_at_call 72
  (with_reducible refine ((AF.out _ gw2)).mono ?_)
  rintro e w3 ⟨rfl, hw3⟩
  go_wp2_with fail
  apply Exists.intro
  refine ⟨?_, hw3, ?_⟩
  · simp only [Act.put, List.setIfInBounds_toArray, List.set_cons_zero, List.set_cons_succ]; rfl
  have cw3_0_0 : w3.cell? ⟨W.heap.size, 0, none⟩ = some (.int .i64 1) := cell_gr hw3 (by go_simp)
  have cw3_0_1 : w3.cell? ⟨W.heap.size, 1, none⟩ = some (.int .i64 id) := cell_gr hw3 (by go_simp)
  have cw3_0_2 : w3.cell? ⟨W.heap.size, 2, none⟩ = some (.int .i64 k) := cell_gr hw3 (by go_simp)
  have cw3_0_3 : w3.cell? ⟨W.heap.size, 3, none⟩ = some (.slice ad n cap) := cell_gr hw3 (by go_simp)
  have zw3_0 : W.heap.size < w3.heap.size := World.block_lt_of_cell? _ _ cw3_0_0
  have cw3_1_0 : w3.cell? ⟨Q, 0, none⟩ = some (.map none) := cell_gr hw3 (by go_simp)
  have fw3_1_0 : w3.frozen? ⟨Q, 0, none⟩ = false := frozen_gr (v := .map none) hw3 (by go_simp) (by go_simp)
  have zw3_1 : Q < w3.heap.size := World.block_lt_of_cell? _ _ cw3_1_0
  have gw3 : Gr W w3 := Gr.trans (by have gg := gw2; have gs := gg.size; go_grown) hw3
  clear gw2 zw2_0 cw2_0_0 cw2_0_1 cw2_0_2 cw2_0_3 zw2_1 cw2_1_0 fw2_1_0
  clear hw3
  try simp only [Act.put, List.setIfInBounds_toArray, List.set_cons_zero, List.set_cons_succ]
  repeat (first | (refine Od.wpO_skip (by simp only [List.getElem?_toArray, List.getElem?_cons_succ, List.getElem?_cons_zero] <;> rfl) rfl ?_; simp only [Act.put, List.setIfInBounds_toArray, List.set_cons_zero, List.set_cons_succ]) | (refine Od.wpO_pure (by simp only [List.getElem?_toArray, List.getElem?_cons_succ, List.getElem?_cons_zero] <;> rfl) rfl ?_; apply Exists.intro; refine ⟨?_, ?_⟩; (· intro wx gx; obtain ⟨mx, rfl⟩ := spread_of_gr gx; clear gx; all_goals (apply Od.pAt_of_quiet; intro K hK; go_big_quiet_op; first | exact hK _ rfl | (apply Exists.intro; refine ⟨fun _ => ?_, ?_⟩; (· fail); exact hK _ rfl))); try simp only [Act.put, List.setIfInBounds_toArray, List.set_cons_zero, List.set_cons_succ]))
  refine Od.wpO_nil (hKQ _ _ ?_)
  clear hKQ KQ
  have sW := gw3.size
  have hQm : ¬ Q = w3.heap.size := by omega
  have hWm : ¬ W.heap.size = w3.heap.size := by omega
  have hQW : ¬ W.heap.size = Q := by omega
  have hQW2 : ¬ Q = W.heap.size := by omega
  go_upto_region 10 with fail
  have K4 : Kx (fun j => j = Q) W ((w3.setCell ⟨Q, 0, none⟩ (.map (some w3.heap.size))).alloc (.map #[] 0)) := ((Kx.of_gr (S := fun j => j = Q) gw3).setCell (p := ⟨Q, 0, none⟩) rfl _).trans (Kx.of_gr ((Below.refl _ _).alloc (Nat.le_refl _) _))
  have M4 : ((w3.setCell ⟨Q, 0, none⟩ (.map (some w3.heap.size))).alloc (.map #[] 0)).ownsMap Tryz.prog 3 heldE w3.heap.size 0 (.map []) := by
    have h0 := World.ownsMap_made (w3.setCell ⟨Q, 0, none⟩ (.map (some w3.heap.size))) Tryz.prog 3 heldE
    rwa [show (w3.setCell ⟨Q, 0, none⟩ (.map (some w3.heap.size))).heap.size = w3.heap.size by simp] at h0
  have hq4 : ((w3.setCell ⟨Q, 0, none⟩ (.map (some w3.heap.size))).alloc (.map #[] 0)).heap[Q]? = some (.cells #[.map (some w3.heap.size)] 105 (0, 0)) := heap_kx (S := fun _ => False) (Kx.of_gr ((Below.refl _ _).alloc (Nat.le_refl _) _)) (fun h => h) (Hm.heap_set_same (i := 0) (v := .map (some w3.heap.size)) (heap_kx (S := fun _ => False) (Kx.of_gr gw3) (fun h => h) HM.out.1))
  have q4 : ((w3.setCell ⟨Q, 0, none⟩ (.map (some w3.heap.size))).alloc (.map #[] 0)).cell? ⟨Q, 0, none⟩ = some (.map (some w3.heap.size)) := by go_simp
  have b0 : ((w3.setCell ⟨Q, 0, none⟩ (.map (some w3.heap.size))).alloc (.map #[] 0)).cell? ⟨W.heap.size, 0, none⟩ = some (.int .i64 1) := by go_simp
  have b1 : ((w3.setCell ⟨Q, 0, none⟩ (.map (some w3.heap.size))).alloc (.map #[] 0)).cell? ⟨W.heap.size, 1, none⟩ = some (.int .i64 id) := by go_simp
  have b2 : ((w3.setCell ⟨Q, 0, none⟩ (.map (some w3.heap.size))).alloc (.map #[] 0)).cell? ⟨W.heap.size, 2, none⟩ = some (.int .i64 k) := by go_simp
  have b3 : ((w3.setCell ⟨Q, 0, none⟩ (.map (some w3.heap.size))).alloc (.map #[] 0)).cell? ⟨W.heap.size, 3, none⟩ = some (.slice ad n cap) := by go_simp
  have f4 : ((w3.setCell ⟨Q, 0, none⟩ (.map (some w3.heap.size))).alloc (.map #[] 0)).frozen? ⟨Q, 0, none⟩ = false := by go_simp
  clear cw3_0_0 cw3_0_1 cw3_0_2 cw3_0_3 cw3_1_0 fw3_1_0 zw3_0 zw3_1 gw3 c0 f0
  generalize (w3.setCell ⟨Q, 0, none⟩ (.map (some w3.heap.size))).alloc (.map #[] 0) = w4 at K4 M4 hq4 q4 f4 b0 b1 b2 b3 ⊢
  obtain ⟨m, em⟩ : ∃ m, m = w3.heap.size := ⟨_, rfl⟩
  rw [← em] at M4 hq4 q4 hQm ⊢
  have hmW : W.heap.size ≤ m := by omega
  have zQ4 := World.block_lt_of_cell? _ _ q4
  have zb4 := World.block_lt_of_cell? _ _ b0
  have zm4 := M4.lt
  have HK4 := Lib.hid (And.intro K4 (And.intro M4 hq4))
  have AC := Lib.hid (fun w (g : Gr w4 w) => c_rClone (k := k) hn hn2 w (pts_gr (pts_kxA HP.out K4 (fun B i x hx e => cell_neQ hx HM.out.1 e)) g))
  clear K4 M4 hq4 em
  go_wp2_with fail
  try simp only [List.append]
  refine Od.wp_region_ordT 9 [(0, false), (1, false), (2, false), (3, false), (4, false), (5, false), (6, false), (7, false), (8, true)] (by kernel_rfl) (by kernel_rfl) ?_
  intro w5 hw5 KQ hKQ
  have cw5_0_0 : w5.cell? ⟨W.heap.size, 0, none⟩ = some (.int .i64 1) := cell_gr hw5 (by go_simp)
  have cw5_0_1 : w5.cell? ⟨W.heap.size, 1, none⟩ = some (.int .i64 id) := cell_gr hw5 (by go_simp)
  have cw5_0_2 : w5.cell? ⟨W.heap.size, 2, none⟩ = some (.int .i64 k) := cell_gr hw5 (by go_simp)
  have cw5_0_3 : w5.cell? ⟨W.heap.size, 3, none⟩ = some (.slice ad n cap) := cell_gr hw5 (by go_simp)
  have zw5_0 : W.heap.size < w5.heap.size := World.block_lt_of_cell? _ _ cw5_0_0
  have cw5_1_0 : w5.cell? ⟨Q, 0, none⟩ = some (.map (some m)) := cell_gr hw5 (by go_simp)
  have fw5_1_0 : w5.frozen? ⟨Q, 0, none⟩ = false := frozen_gr (v := .map (some m)) hw5 (by go_simp) (by go_simp)
  have zw5_1 : Q < w5.heap.size := World.block_lt_of_cell? _ _ cw5_1_0
  have gw5 : Gr w4 w5 := Gr.trans (by go_grown) hw5
  skip
  clear hw5
  repeat (first | (refine Od.wpO_skip (by simp only [List.getElem?_toArray, List.getElem?_cons_succ, List.getElem?_cons_zero] <;> rfl) rfl ?_; simp only [Act.put, List.setIfInBounds_toArray, List.set_cons_zero, List.set_cons_succ]) | (refine Od.wpO_pure (by simp only [List.getElem?_toArray, List.getElem?_cons_succ, List.getElem?_cons_zero] <;> rfl) rfl ?_; apply Exists.intro; refine ⟨?_, ?_⟩; (· intro wx gx; obtain ⟨mx, rfl⟩ := spread_of_gr gx; clear gx; all_goals (apply Od.pAt_of_quiet; intro K hK; go_big_quiet_op; first | exact hK _ rfl | (apply Exists.intro; refine ⟨fun _ => ?_, ?_⟩; (· fail); exact hK _ rfl))); try simp only [Act.put, List.setIfInBounds_toArray, List.set_cons_zero, List.set_cons_succ]))
  have s45 := gw5.size
  refine Od.wpO_call (by simp only [List.getElem?_toArray, List.getElem?_cons_succ, List.getElem?_cons_zero] <;> rfl) rfl ?_
  intro QS hQS
  go_wp2_with fail
  go_at_call 61
  (with_reducible refine ((AC.out _ gw5)).mono ?_)
  rintro e w6 ⟨B, c, rfl, hp, hB, hw6⟩
  go_wp2_with fail
  apply Exists.intro
  refine ⟨?_, hw6, ?_⟩
  · simp only [Act.put, List.setIfInBounds_toArray, List.set_cons_zero, List.set_cons_succ]; rfl
  have cw6_0_0 : w6.cell? ⟨W.heap.size, 0, none⟩ = some (.int .i64 1) := cell_gr hw6 (by go_simp)
  have cw6_0_1 : w6.cell? ⟨W.heap.size, 1, none⟩ = some (.int .i64 id) := cell_gr hw6 (by go_simp)
  have cw6_0_2 : w6.cell? ⟨W.heap.size, 2, none⟩ = some (.int .i64 k) := cell_gr hw6 (by go_simp)
  have cw6_0_3 : w6.cell? ⟨W.heap.size, 3, none⟩ = some (.slice ad n cap) := cell_gr hw6 (by go_simp)
  have zw6_0 : W.heap.size < w6.heap.size := World.block_lt_of_cell? _ _ cw6_0_0
  have cw6_1_0 : w6.cell? ⟨Q, 0, none⟩ = some (.map (some m)) := cell_gr hw6 (by go_simp)
  have fw6_1_0 : w6.frozen? ⟨Q, 0, none⟩ = false := frozen_gr (v := .map (some m)) hw6 (by go_simp) (by go_simp)
  have zw6_1 : Q < w6.heap.size := World.block_lt_of_cell? _ _ cw6_1_0
  have gw6 : Gr w4 w6 := Gr.trans (by have gg := gw5; have gs := gg.size; go_grown) hw6
  clear gw5 zw5_0 cw5_0_0 cw5_0_1 cw5_0_2 cw5_0_3 zw5_1 cw5_1_0 fw5_1_0
  clear hw6
  try simp only [Act.put, List.setIfInBounds_toArray, List.set_cons_zero, List.set_cons_succ]
  repeat (first | (refine Od.wpO_skip (by simp only [List.getElem?_toArray, List.getElem?_cons_succ, List.getElem?_cons_zero] <;> rfl) rfl ?_; simp only [Act.put, List.setIfInBounds_toArray, List.set_cons_zero, List.set_cons_succ]) | (refine Od.wpO_pure (by simp only [List.getElem?_toArray, List.getElem?_cons_succ, List.getElem?_cons_zero] <;> rfl) rfl ?_; apply Exists.intro; refine ⟨?_, ?_⟩; (· intro wx gx; obtain ⟨mx, rfl⟩ := spread_of_gr gx; clear gx; all_goals (apply Od.pAt_of_quiet; intro K hK; go_big_quiet_op; first | exact hK _ rfl | (apply Exists.intro; refine ⟨fun _ => ?_, ?_⟩; (· fail); exact hK _ rfl))); try simp only [Act.put, List.setIfInBounds_toArray, List.set_cons_zero, List.set_cons_succ]))
  have HPB := Lib.hid (And.intro hp hB)
  clear hp
  refine Od.wpO_nil (hKQ _ _ ?_)
  clear hKQ KQ
  simp only [List.drop_succ_cons, List.drop_zero]
  have M6 := Lib.hid (ownsMap_kx HK4.out.2.1 (Kx.of_gr (S := fun _ => False) gw6) (fun h => h))
  go_wp2_with (at_mapUpdate; go_loud ((refine wpList_mapUpdate_own _ rfl _ _ _ 103 rfl 3 34 KI Tryz.underlying103 heldE m 0 (.map []) rfl M6.out (by unfold maxLen; omega) _ _ (zk id) rfl rfl (zk_of HI.out) (.held (.agg #[.int .i64 k, .slice (some ⟨B, 0, none⟩) n c])) [] rfl ?_); intro w7 m7 g7; (have HM7 := Lib.hid (And.intro m7 (md_mapGrown g7))); clear m7 g7))
  go_ret
  obtain ⟨m7, K7⟩ := HM7.out
  obtain ⟨hp, hB⟩ := HPB.out
  have hBm : ¬ B = m := by omega
  have KT : Kx (fun j => j = Q) W w7 := kx_new (((HK4.out.1.trans (Kx.of_gr gw6)).mono (fun j h => Or.inl h)).trans (K7.mono (fun j h => Or.inr (by have : j = m := h; omega))))
  refine ⟨m, rfl, ⟨heap_kx K7 hQm (heap_kx (S := fun _ => False) (Kx.of_gr gw6) (fun h => h) HK4.out.2.2), fun h => (by cases h), fun m' hm' => ?_⟩, hmW, KT⟩
  obtain rfl := Option.some.inj hm'
  exact ⟨_, ownsMap_le m7 (by omega), mAt_put (o := ⟨k, n, X, Y⟩) (mAt_nil (HM.out.2.1 rfl)) ⟨_, rfl⟩ hn hn2 (pts_kxW hn hp.1 K7 hBm) (fr2_kx hp.2 K7 hBm)⟩
set_option maxHeartbeats 4000000 in
set_option maxRecDepth 100000 in
theorem md_ap_put {Q N m : Nat} {σ : Int → Option MO} {id k : Int} {n : Nat} {X Y : Nat → Int} {v : Value} (hi : i64R id) (hn : 0 < n) (hn2 : n ≤ 1000) (hN : N < 1000000) (W : World) (hM : MdAt W Q (some m) σ N) (h : Pts W v n X Y) (hc : chgC 1 id k n X Y = 0) (hs : (σ id).isSome = false) :
    Calls Tryz.prog 27 #[.pointer (some ⟨Q, 0, none⟩), .agg #[.int .i64 1, .int .i64 id, .int .i64 k, v]] W fun e w' => e = .returned .nilIface ∧ MdAt w' Q (some m) (updS σ id (some ⟨k, n, X, Y⟩)) (N + 1) ∧ Kx (fun j => j = m) W w' := by
  have heq := md_eqs m
  have c0 : W.cell? ⟨Q, 0, none⟩ = some (.map (some m)) := Hm.cell_of_heap hM.1 0
  have f0 := Hm.frozen_of_heap hM.1 0
  have zQ := World.block_lt_of_cell? _ _ c0
  have AH := Lib.hid (fun w (g : Gr W w) => show Calls Tryz.prog 71 #[.pointer (some ⟨Q, 0, none⟩), .int .i64 id] w (fun e w' => e = .returned (.bool false) ∧ Gr w w') from by
    have := md_has hi w (mdAt_gr hM g)
    rwa [hs] at this)
  have AF := Lib.hid (fun w (g : Gr W w) => md_ref_ok (Q := Q) w (pts_gr h g) hc)
  have HP := Lib.hid h
  have HM := Lib.hid hM
  have HI := Lib.hid hi
  obtain ⟨ad, cap, B0, off0, rfl, -⟩ := h
  clear hc hM hi hs
  go_enter Tryz.func27, Tryz.ntmps27
  go_wp2_with fail
  try simp only [List.append]
  refine Od.wp_region_ord [(0, false), (1, false), (2, false), (3, false), (4, true), (5, true), (6, false)] (by kernel_rfl) (by kernel_rfl) ?_
  intro w1 hw1 KQ hKQ
  have cw1_0_0 : w1.cell? ⟨W.heap.size, 0, none⟩ = some (.int .i64 1) := cell_gr hw1 (by go_simp)
  have cw1_0_1 : w1.cell? ⟨W.heap.size, 1, none⟩ = some (.int .i64 id) := cell_gr hw1 (by go_simp)
  have cw1_0_2 : w1.cell? ⟨W.heap.size, 2, none⟩ = some (.int .i64 k) := cell_gr hw1 (by go_simp)
  have cw1_0_3 : w1.cell? ⟨W.heap.size, 3, none⟩ = some (.slice ad n cap) := cell_gr hw1 (by go_simp)
  have zw1_0 : W.heap.size < w1.heap.size := World.block_lt_of_cell? _ _ cw1_0_0
  have cw1_1_0 : w1.cell? ⟨Q, 0, none⟩ = some (.map (some m)) := cell_gr hw1 (by go_simp)
  have fw1_1_0 : w1.frozen? ⟨Q, 0, none⟩ = false := frozen_gr (v := .map (some m)) hw1 (by go_simp) (by go_simp)
  have zw1_1 : Q < w1.heap.size := World.block_lt_of_cell? _ _ cw1_1_0
  have gw1 : Gr W w1 := Gr.trans (by go_grown) hw1
  skip
  clear hw1
  repeat (first | (refine Od.wpO_skip (by simp only [List.getElem?_toArray, List.getElem?_cons_succ, List.getElem?_cons_zero] <;> rfl) rfl ?_; simp only [Act.put, List.setIfInBounds_toArray, List.set_cons_zero, List.set_cons_succ]) | (refine Od.wpO_pure (by simp only [List.getElem?_toArray, List.getElem?_cons_succ, List.getElem?_cons_zero] <;> rfl) rfl ?_; apply Exists.intro; refine ⟨?_, ?_⟩; (· intro wx gx; obtain ⟨mx, rfl⟩ := spread_of_gr gx; clear gx; all_goals (apply Od.pAt_of_quiet; intro K hK; go_big_quiet_op; first | exact hK _ rfl | (apply Exists.intro; refine ⟨fun _ => ?_, ?_⟩; (· fail); exact hK _ rfl))); try simp only [Act.put, List.setIfInBounds_toArray, List.set_cons_zero, List.set_cons_succ]))
  refine Od.wpO_call (by simp only [List.getElem?_toArray, List.getElem?_cons_succ, List.getElem?_cons_zero] <;> rfl) rfl ?_
  intro QS hQS
  go_wp2_with fail
  go_at_call 71
  (with_reducible refine ((AH.out _ gw1)).mono ?_)
  rintro e w2 ⟨rfl, hw2⟩
  go_wp2_with fail
  apply Exists.intro
  refine ⟨?_, hw2, ?_⟩
  · simp only [Act.put, List.setIfInBounds_toArray, List.set_cons_zero, List.set_cons_succ]; rfl
  have cw2_0_0 : w2.cell? ⟨W.heap.size, 0, none⟩ = some (.int .i64 1) := cell_gr hw2 (by go_simp)
  have cw2_0_1 : w2.cell? ⟨W.heap.size, 1, none⟩ = some (.int .i64 id) := cell_gr hw2 (by go_simp)
  have cw2_0_2 : w2.cell? ⟨W.heap.size, 2, none⟩ = some (.int .i64 k) := cell_gr hw2 (by go_simp)
  have cw2_0_3 : w2.cell? ⟨W.heap.size, 3, none⟩ = some (.slice ad n cap) := cell_gr hw2 (by go_simp)
  have zw2_0 : W.heap.size < w2.heap.size := World.block_lt_of_cell? _ _ cw2_0_0
  have cw2_1_0 : w2.cell? ⟨Q, 0, none⟩ = some (.map (some m)) := cell_gr hw2 (by go_simp)
  have fw2_1_0 : w2.frozen? ⟨Q, 0, none⟩ = false := frozen_gr (v := .map (some m)) hw2 (by go_simp) (by go_simp)
  have zw2_1 : Q < w2.heap.size := World.block_lt_of_cell? _ _ cw2_1_0
  have gw2 : Gr W w2 := Gr.trans (by have gg := gw1; have gs := gg.size; go_grown) hw2
  clear gw1 zw1_0 cw1_0_0 cw1_0_1 cw1_0_2 cw1_0_3 zw1_1 cw1_1_0 fw1_1_0
  clear hw2
  try simp only [Act.put, List.setIfInBounds_toArray, List.set_cons_zero, List.set_cons_succ]
  repeat (first | (refine Od.wpO_skip (by simp only [List.getElem?_toArray, List.getElem?_cons_succ, List.getElem?_cons_zero] <;> rfl) rfl ?_; simp only [Act.put, List.setIfInBounds_toArray, List.set_cons_zero, List.set_cons_succ]) | (refine Od.wpO_pure (by simp only [List.getElem?_toArray, List.getElem?_cons_succ, List.getElem?_cons_zero] <;> rfl) rfl ?_; apply Exists.intro; refine ⟨?_, ?_⟩; (· intro wx gx; obtain ⟨mx, rfl⟩ := spread_of_gr gx; clear gx; all_goals (apply Od.pAt_of_quiet; intro K hK; go_big_quiet_op; first | exact hK _ rfl | (apply Exists.intro; refine ⟨fun _ => ?_, ?_⟩; (· fail); exact hK _ rfl))); try simp only [Act.put, List.setIfInBounds_toArray, List.set_cons_zero, List.set_cons_succ]))
  refine Od.wpO_call (by simp only [List.getElem?_toArray, List.getElem?_cons_succ, List.getElem?_cons_zero] <;> rfl) rfl ?_
  intro QS hQS
  go_wp2_with fail
  go_at_call 72
  (with_reducible refine ((AF.out _ gw2)).mono ?_)
  rintro e w3 ⟨rfl, hw3⟩
  go_wp2_with fail
  apply Exists.intro
  refine ⟨?_, hw3, ?_⟩
  · simp only [Act.put, List.setIfInBounds_toArray, List.set_cons_zero, List.set_cons_succ]; rfl
  have cw3_0_0 : w3.cell? ⟨W.heap.size, 0, none⟩ = some (.int .i64 1) := cell_gr hw3 (by go_simp)
  have cw3_0_1 : w3.cell? ⟨W.heap.size, 1, none⟩ = some (.int .i64 id) := cell_gr hw3 (by go_simp)
  have cw3_0_2 : w3.cell? ⟨W.heap.size, 2, none⟩ = some (.int .i64 k) := cell_gr hw3 (by go_simp)
  have cw3_0_3 : w3.cell? ⟨W.heap.size, 3, none⟩ = some (.slice ad n cap) := cell_gr hw3 (by go_simp)
  have zw3_0 : W.heap.size < w3.heap.size := World.block_lt_of_cell? _ _ cw3_0_0
  have cw3_1_0 : w3.cell? ⟨Q, 0, none⟩ = some (.map (some m)) := cell_gr hw3 (by go_simp)
  have fw3_1_0 : w3.frozen? ⟨Q, 0, none⟩ = false := frozen_gr (v := .map (some m)) hw3 (by go_simp) (by go_simp)
  have zw3_1 : Q < w3.heap.size := World.block_lt_of_cell? _ _ cw3_1_0
  have gw3 : Gr W w3 := Gr.trans (by have gg := gw2; have gs := gg.size; go_grown) hw3
  clear gw2 zw2_0 cw2_0_0 cw2_0_1 cw2_0_2 cw2_0_3 zw2_1 cw2_1_0 fw2_1_0
  clear hw3
  try simp only [Act.put, List.setIfInBounds_toArray, List.set_cons_zero, List.set_cons_succ]
  repeat (first | (refine Od.wpO_skip (by simp only [List.getElem?_toArray, List.getElem?_cons_succ, List.getElem?_cons_zero] <;> rfl) rfl ?_; simp only [Act.put, List.setIfInBounds_toArray, List.set_cons_zero, List.set_cons_succ]) | (refine Od.wpO_pure (by simp only [List.getElem?_toArray, List.getElem?_cons_succ, List.getElem?_cons_zero] <;> rfl) rfl ?_; apply Exists.intro; refine ⟨?_, ?_⟩; (· intro wx gx; obtain ⟨mx, rfl⟩ := spread_of_gr gx; clear gx; all_goals (apply Od.pAt_of_quiet; intro K hK; go_big_quiet_op; first | exact hK _ rfl | (apply Exists.intro; refine ⟨fun _ => ?_, ?_⟩; (· fail); exact hK _ rfl))); try simp only [Act.put, List.setIfInBounds_toArray, List.set_cons_zero, List.set_cons_succ]))
  refine Od.wpO_nil (hKQ _ _ ?_)
  clear hKQ KQ
  have sW := gw3.size
  obtain ⟨D, hD, hA⟩ := HM.out.2.2 m rfl
  have zm := hD.lt
  have hQm : ¬ Q = m := fun e => by
    obtain ⟨es, cl, hh⟩ := ownsMap_heap hD
    rw [← e, HM.out.1] at hh
    cases hh
  have hWm : ¬ W.heap.size = m := by omega
  have AC := Lib.hid (fun w (g : Gr W w) => c_rClone (k := k) hn hn2 w (pts_gr HP.out g))
  have HD := Lib.hid (And.intro hD hA)
  clear hD hA
  go_upto_region 10 with fail
  go_wp2_with fail
  try simp only [List.append]
  refine Od.wp_region_ordT 9 [(0, false), (1, false), (2, false), (3, false), (4, false), (5, false), (6, false), (7, false), (8, true)] (by kernel_rfl) (by kernel_rfl) ?_
  intro w5 hw5 KQ hKQ
  have cw5_0_0 : w5.cell? ⟨W.heap.size, 0, none⟩ = some (.int .i64 1) := cell_gr hw5 (by go_simp)
  have cw5_0_1 : w5.cell? ⟨W.heap.size, 1, none⟩ = some (.int .i64 id) := cell_gr hw5 (by go_simp)
  have cw5_0_2 : w5.cell? ⟨W.heap.size, 2, none⟩ = some (.int .i64 k) := cell_gr hw5 (by go_simp)
  have cw5_0_3 : w5.cell? ⟨W.heap.size, 3, none⟩ = some (.slice ad n cap) := cell_gr hw5 (by go_simp)
  have zw5_0 : W.heap.size < w5.heap.size := World.block_lt_of_cell? _ _ cw5_0_0
  have cw5_1_0 : w5.cell? ⟨Q, 0, none⟩ = some (.map (some m)) := cell_gr hw5 (by go_simp)
  have fw5_1_0 : w5.frozen? ⟨Q, 0, none⟩ = false := frozen_gr (v := .map (some m)) hw5 (by go_simp) (by go_simp)
  have zw5_1 : Q < w5.heap.size := World.block_lt_of_cell? _ _ cw5_1_0
  have gw5 : Gr W w5 := Gr.trans (by have gg := gw3; have gs := gg.size; go_grown) hw5
  clear gw3 zw3_0 cw3_0_0 cw3_0_1 cw3_0_2 cw3_0_3 zw3_1 cw3_1_0 fw3_1_0
  clear hw5
  repeat (first | (refine Od.wpO_skip (by simp only [List.getElem?_toArray, List.getElem?_cons_succ, List.getElem?_cons_zero] <;> rfl) rfl ?_; simp only [Act.put, List.setIfInBounds_toArray, List.set_cons_zero, List.set_cons_succ]) | (refine Od.wpO_pure (by simp only [List.getElem?_toArray, List.getElem?_cons_succ, List.getElem?_cons_zero] <;> rfl) rfl ?_; apply Exists.intro; refine ⟨?_, ?_⟩; (· intro wx gx; obtain ⟨mx, rfl⟩ := spread_of_gr gx; clear gx; all_goals (apply Od.pAt_of_quiet; intro K hK; go_big_quiet_op; first | exact hK _ rfl | (apply Exists.intro; refine ⟨fun _ => ?_, ?_⟩; (· fail); exact hK _ rfl))); try simp only [Act.put, List.setIfInBounds_toArray, List.set_cons_zero, List.set_cons_succ]))
  have s45 := gw5.size
  refine Od.wpO_call (by simp only [List.getElem?_toArray, List.getElem?_cons_succ, List.getElem?_cons_zero] <;> rfl) rfl ?_
  intro QS hQS
  go_wp2_with fail
  go_at_call 61
  (with_reducible refine ((AC.out _ gw5)).mono ?_)
  rintro e w6 ⟨B, c, rfl, hp, hB, hw6⟩
  go_wp2_with fail
  apply Exists.intro
  refine ⟨?_, hw6, ?_⟩
  · simp only [Act.put, List.setIfInBounds_toArray, List.set_cons_zero, List.set_cons_succ]; rfl
  have cw6_0_0 : w6.cell? ⟨W.heap.size, 0, none⟩ = some (.int .i64 1) := cell_gr hw6 (by go_simp)
  have cw6_0_1 : w6.cell? ⟨W.heap.size, 1, none⟩ = some (.int .i64 id) := cell_gr hw6 (by go_simp)
  have cw6_0_2 : w6.cell? ⟨W.heap.size, 2, none⟩ = some (.int .i64 k) := cell_gr hw6 (by go_simp)
  have cw6_0_3 : w6.cell? ⟨W.heap.size, 3, none⟩ = some (.slice ad n cap) := cell_gr hw6 (by go_simp)
  have zw6_0 : W.heap.size < w6.heap.size := World.block_lt_of_cell? _ _ cw6_0_0
  have cw6_1_0 : w6.cell? ⟨Q, 0, none⟩ = some (.map (some m)) := cell_gr hw6 (by go_simp)
  have fw6_1_0 : w6.frozen? ⟨Q, 0, none⟩ = false := frozen_gr (v := .map (some m)) hw6 (by go_simp) (by go_simp)
  have zw6_1 : Q < w6.heap.size := World.block_lt_of_cell? _ _ cw6_1_0
  have gw6 : Gr W w6 := Gr.trans (by have gg := gw5; have gs := gg.size; go_grown) hw6
  clear gw5 zw5_0 cw5_0_0 cw5_0_1 cw5_0_2 cw5_0_3 zw5_1 cw5_1_0 fw5_1_0
  clear hw6
  try simp only [Act.put, List.setIfInBounds_toArray, List.set_cons_zero, List.set_cons_succ]
  repeat (first | (refine Od.wpO_skip (by simp only [List.getElem?_toArray, List.getElem?_cons_succ, List.getElem?_cons_zero] <;> rfl) rfl ?_; simp only [Act.put, List.setIfInBounds_toArray, List.set_cons_zero, List.set_cons_succ]) | (refine Od.wpO_pure (by simp only [List.getElem?_toArray, List.getElem?_cons_succ, List.getElem?_cons_zero] <;> rfl) rfl ?_; apply Exists.intro; refine ⟨?_, ?_⟩; (· intro wx gx; obtain ⟨mx, rfl⟩ := spread_of_gr gx; clear gx; all_goals (apply Od.pAt_of_quiet; intro K hK; go_big_quiet_op; first | exact hK _ rfl | (apply Exists.intro; refine ⟨fun _ => ?_, ?_⟩; (· fail); exact hK _ rfl))); try simp only [Act.put, List.setIfInBounds_toArray, List.set_cons_zero, List.set_cons_succ]))
  have HPB := Lib.hid (And.intro hp hB)
  clear hp
  refine Od.wpO_nil (hKQ _ _ ?_)
  clear hKQ KQ
  simp only [List.drop_succ_cons, List.drop_zero]
  have M6 := Lib.hid (ownsMap_kx HD.out.1 (Kx.of_gr (S := fun _ => False) gw6) (fun h => h))
  go_wp2_with (at_mapUpdate; go_loud ((refine wpList_mapUpdate_own _ rfl _ _ _ 103 rfl 3 34 KI Tryz.underlying103 heldE m N D rfl M6.out (by unfold maxLen; omega) _ _ (zk id) rfl rfl (zk_of HI.out) (.held (.agg #[.int .i64 k, .slice (some ⟨B, 0, none⟩) n c])) [] rfl ?_); intro w7 m7 g7; (have HM7 := Lib.hid (And.intro m7 (md_mapGrown g7))); clear m7 g7))
  go_ret
  obtain ⟨m7, K7⟩ := HM7.out
  obtain ⟨hp, hB⟩ := HPB.out
  have hBm : ¬ B = m := by omega
  have KT : Kx (fun j => j = m) W w7 := (Kx.of_gr gw6).trans K7
  refine ⟨rfl, ⟨heap_kx KT hQm HM.out.1, fun h => (by cases h), fun m' hm' => ?_⟩, KT⟩
  obtain rfl := Option.some.inj hm'
  exact ⟨_, m7, mAt_put (o := ⟨k, n, X, Y⟩) (mAt_kx HD.out.2 KT (fun B x hx e => by
    obtain ⟨es, cl, hh⟩ := ownsMap_heap HD.out.1
    exact cell_neM hx hh e)) HD.out.1.isMap hn hn2 (pts_kxW hn hp.1 K7 hBm) (fr2_kx hp.2 K7 hBm)⟩
end Go.Proofs.YtpomllpplpalkaaGreatDoor
