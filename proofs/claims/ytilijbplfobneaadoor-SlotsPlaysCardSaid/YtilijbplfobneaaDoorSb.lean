/- slots: an empty page takes its first bytes; what the document fixes; SlotsNothing -/
import Derived.Test.YtilijbplfobneaaDoorSa
import Derived.Lib.SlBytesConst
namespace Go.Proofs.YtilijbplfobneaaDoor
set_option linter.unusedVariables false
set_option linter.unusedSimpArgs false
open Go.ChangeShapes Go.WideShapes Go.ChangeAt Go.RowKit

/-- A page: its head, and the slice of its slots. -/
def PageAt (w : World) (B : Nat) (kd id : Int) (s : Value) : Prop := w.cell? ⟨B, 0, none⟩ = some (.bool true) ∧ w.cell? ⟨B, 1, none⟩ = some (.int .i64 kd) ∧ w.cell? ⟨B, 2, none⟩ = some (.int .i64 id) ∧ w.cell? ⟨B, 3, none⟩ = some s ∧ w.frozen? ⟨B, 3, none⟩ = false
theorem pageAt_gr {a b : World} {B : Nat} {kd id : Int} {s : Value} (h : PageAt a B kd id s) (g : Gr a b) : PageAt b B kd id s :=
  ⟨cell_gr g h.1, cell_gr g h.2.1, cell_gr g h.2.2.1, cell_gr g h.2.2.2.1, frozen_gr g h.2.2.2.1 h.2.2.2.2⟩
theorem p_none {B : Nat} {kd id : Int} {s : Value} (W : World) (h : PageAt W B kd id s) : Calls Tryd.prog 55 #[.pointer (some ⟨B, 0, none⟩)] W fun e w' => e = .returned (.bool false) ∧ Gr W w' := by
  obtain ⟨p0, -⟩ := h
  have hB := World.block_lt_of_cell? _ _ p0
  go_enter Tryd.func55, Tryd.ntmps55
  go_wp2_with fail
  go_ret
  exact ⟨rfl, by go_grown⟩
theorem p_has0 {B : Nat} {kd id : Int} (W : World) (h : PageAt W B kd id (.slice none 0 0)) : Calls Tryd.prog 49 #[.pointer (some ⟨B, 0, none⟩), .int .i64 0] W fun e w' => e = .returned (.bool false) ∧ Gr W w' := by
  have A1 := fun w (g : Gr W w) => p_none w (pageAt_gr h g)
  obtain ⟨p0, p1, p2, p3, f3⟩ := h
  have hB := World.block_lt_of_cell? _ _ p0
  have H1 := Lib.hid A1
  clear A1
  go_enter Tryd.func49, Tryd.ntmps49
  go_wp2_with fail
  go_at_call 55
  refine ((H1.out _ (by go_grown))).mono ?_
  rintro e w1 ⟨rfl, hw1⟩
  have cw1_0_0 : w1.cell? ⟨B, 0, none⟩ = some (.bool true) := cell_gr hw1 (by go_simp)
  have cw1_0_1 : w1.cell? ⟨B, 1, none⟩ = some (.int .i64 kd) := cell_gr hw1 (by go_simp)
  have cw1_0_2 : w1.cell? ⟨B, 2, none⟩ = some (.int .i64 id) := cell_gr hw1 (by go_simp)
  have cw1_0_3 : w1.cell? ⟨B, 3, none⟩ = some (.slice none 0 0) := cell_gr hw1 (by go_simp)
  have zw1_0 : B < w1.heap.size := World.block_lt_of_cell? _ _ cw1_0_0
  have gw1 : Gr W w1 := Gr.trans (by go_grown) hw1
  clear hw1
  go_wp2_with fail
  go_ret
  exact ⟨rfl, gw1⟩
theorem p_least0 {B : Nat} {kd id : Int} (W : World) (h : PageAt W B kd id (.slice none 0 0)) : Calls Tryd.prog 45 #[.pointer (some ⟨B, 0, none⟩)] W fun e w' => e = .returned (.int .i64 0) ∧ Gr W w' := by
  have A1 := fun w (g : Gr W w) => p_has0 w (pageAt_gr h g)
  have hB := World.block_lt_of_cell? _ _ h.1
  have H1 := Lib.hid A1
  clear A1
  clear h
  go_enter Tryd.func45, Tryd.ntmps45
  go_wp2_with fail
  go_loopg [3] 0 (fun k x wr => x = .int .i64 0 ∧ Gr W wr)
  case atStart => exact ⟨rfl, by go_grown⟩
  case round =>
    obtain ⟨rfl, hg⟩ := hrel
    go_wp2_with fail
    go_at_call 49
    refine ((H1.out _ (Gr.trans hg (by go_grown)))).mono ?_
    rintro e w1 ⟨rfl, hw1⟩
    have gw1 : Gr wr w1 := Gr.trans (by go_grown) hw1
    clear hw1
    go_wp2_with fail
    go_ret
    exact ⟨rfl, Gr.trans hg gw1⟩
theorem p_used0 {B : Nat} {kd id : Int} (W : World) (h : PageAt W B kd id (.slice none 0 0)) : Calls Tryd.prog 77 #[.pointer (some ⟨B, 0, none⟩)] W fun e w' => e = .returned (.int .i64 16) ∧ Gr W w' := by
  obtain ⟨p0, p1, p2, p3, f3⟩ := h
  have hB := World.block_lt_of_cell? _ _ p0
  go_enter Tryd.func77, Tryd.ntmps77
  go_wp2_with fail
  go_loopg [3, 18] 0 (fun k x y wr => x = .int .i64 16 ∧ y = .int .i64 0 ∧ Gr W wr)
  case atStart => exact ⟨rfl, rfl, by go_grown⟩
  case round =>
    obtain ⟨rfl, rfl, hg⟩ := hrel
    go_wp2_with fail
    go_ret
    exact ⟨rfl, by go_grown⟩
theorem p_refusal1 {B : Nat} {kd id : Int} (ad : Option Addr) (cap : Nat) (W : World) (h : PageAt W B kd id (.slice none 0 0)) : Calls Tryd.prog 46 #[.pointer (some ⟨B, 0, none⟩), .int .i64 0, .slice ad 1 cap] W fun e w' => e = .returned (.nilIface) ∧ Gr W w' := by
  have A1 := fun w (g : Gr W w) => p_none w (pageAt_gr h g)
  have A2 := fun w (g : Gr W w) => p_has0 w (pageAt_gr h g)
  have A3 := fun w (g : Gr W w) => p_used0 w (pageAt_gr h g)
  obtain ⟨p0, p1, p2, p3, f3⟩ := h
  have hB := World.block_lt_of_cell? _ _ p0
  have H1 := Lib.hid A1
  have H2 := Lib.hid A2
  have H3 := Lib.hid A3
  clear A1 A2 A3
  go_enter Tryd.func46, Tryd.ntmps46
  go_wp2_with fail
  go_at_call 55
  refine ((H1.out _ (by go_grown))).mono ?_
  rintro e w1 ⟨rfl, hw1⟩
  have cw1_0_0 : w1.cell? ⟨B, 0, none⟩ = some (.bool true) := cell_gr hw1 (by go_simp)
  have cw1_0_1 : w1.cell? ⟨B, 1, none⟩ = some (.int .i64 kd) := cell_gr hw1 (by go_simp)
  have cw1_0_2 : w1.cell? ⟨B, 2, none⟩ = some (.int .i64 id) := cell_gr hw1 (by go_simp)
  have cw1_0_3 : w1.cell? ⟨B, 3, none⟩ = some (.slice none 0 0) := cell_gr hw1 (by go_simp)
  have zw1_0 : B < w1.heap.size := World.block_lt_of_cell? _ _ cw1_0_0
  have gw1 : Gr W w1 := Gr.trans (by go_grown) hw1
  clear hw1
  go_wp2_with fail
  go_at_call 49
  refine ((H2.out _ (by have gg := gw1; have gs := gg.size; go_grown))).mono ?_
  rintro e w2 ⟨rfl, hw2⟩
  have cw2_0_0 : w2.cell? ⟨B, 0, none⟩ = some (.bool true) := cell_gr hw2 (by go_simp)
  have cw2_0_1 : w2.cell? ⟨B, 1, none⟩ = some (.int .i64 kd) := cell_gr hw2 (by go_simp)
  have cw2_0_2 : w2.cell? ⟨B, 2, none⟩ = some (.int .i64 id) := cell_gr hw2 (by go_simp)
  have cw2_0_3 : w2.cell? ⟨B, 3, none⟩ = some (.slice none 0 0) := cell_gr hw2 (by go_simp)
  have zw2_0 : B < w2.heap.size := World.block_lt_of_cell? _ _ cw2_0_0
  have gw2 : Gr W w2 := Gr.trans (by have gg := gw1; have gs := gg.size; go_grown) hw2
  clear hw2 gw1 zw1_0 cw1_0_0 cw1_0_1 cw1_0_2 cw1_0_3
  go_wp2_with fail
  go_at_call 77
  refine ((H3.out _ (by have gg := gw2; have gs := gg.size; go_grown))).mono ?_
  rintro e w3 ⟨rfl, hw3⟩
  have cw3_0_0 : w3.cell? ⟨B, 0, none⟩ = some (.bool true) := cell_gr hw3 (by go_simp)
  have cw3_0_1 : w3.cell? ⟨B, 1, none⟩ = some (.int .i64 kd) := cell_gr hw3 (by go_simp)
  have cw3_0_2 : w3.cell? ⟨B, 2, none⟩ = some (.int .i64 id) := cell_gr hw3 (by go_simp)
  have cw3_0_3 : w3.cell? ⟨B, 3, none⟩ = some (.slice none 0 0) := cell_gr hw3 (by go_simp)
  have zw3_0 : B < w3.heap.size := World.block_lt_of_cell? _ _ cw3_0_0
  have gw3 : Gr W w3 := Gr.trans (by have gg := gw2; have gs := gg.size; go_grown) hw3
  clear hw3 gw2 zw2_0 cw2_0_0 cw2_0_1 cw2_0_2 cw2_0_3
  go_wp2_with fail
  go_ret
  exact ⟨rfl, gw3⟩
theorem eqNil (ad : Addr) (m cap : Nat) (w : World) : (binOp .eql 35 (.slice (some ad) m cap) (.slice none 0 0)).run Tryd.prog w = .ok (.bool false) w := by kernel_rfl
set_option maxRecDepth 100000 in
/-- A slice that is not nil is copied. -/
theorem c_bClone {L : List UInt8} (ad : Addr) (m cap : Nat) (W : World) (h : Row W (.slice (some ad) m cap) L) (h0 : 0 < m) (hl : L.length ≤ 100000) :
    Calls Tryd.prog 52 #[.slice (some ad) m cap] W fun e w' => ∃ g c, e = .returned (.slice (some ⟨g, 0, none⟩) m c) ∧ Own w' W.heap.size (.slice (some ⟨g, 0, none⟩) m c) L ∧ Gr W w' := by
  have hlm : L.length = m := by obtain ⟨_, _, _, _, e, _⟩ := h; cases e; rfl
  have O1 : ∀ (w : World), Own (w.alloc (.cells #[] 5)) w.heap.size (.slice (some ⟨w.heap.size, 0, none⟩) 0 0) [] := fun w =>
    World.ownsRow_lit (base := w.heap.size) (e := 5) (size := 1) w #[] 0 (Nat.le_refl _) (by decide) (by simp)
  have hE := fun w => eqNil ad m cap w
  have H1 := Lib.hid O1
  clear O1
  go_enter Tryd.func52, Tryd.ntmps52
  go_wp2_with (at_builtin; go_loud ((refine wpList_app rfl (.tmp 5) (.tmp 6) rfl W.heap.size (.slice (some ⟨W.heap.size, 0, none⟩) 0 0) (.slice (some ad) m cap) [] L rfl (H1.out W) rfl (row_gr h (by go_grown)) (by simp; omega) (by simp) ?_); intro x2 w2 o2 g2; (have G2 : Gr W w2 := g2.gr (by go_grown) (fun k hk => (World.ownsRow.lt (H1.out W) k hk).1))))
  have o3 : Own w2 W.heap.size x2 L := by simpa using o2
  obtain ⟨g, c, rfl, -⟩ := row_form o3 (by omega)
  rw [hlm] at o3 ⊢
  go_wp2_with fail
  go_ret
  exact ⟨g, c, rfl, o3, by go_grown⟩
theorem newsS {w : World} {B : Nat} {a b : Value} (h0 : w.cell? ⟨B, 0, none⟩ = some a) (h1 : w.cell? ⟨B, 1, none⟩ = some b) : ∀ j u, [a, b][j]? = some u → w.cell? ((⟨B, 0, none⟩ : Addr).add j) = some u := by
  intro j u hj
  have e : (⟨B, 0, none⟩ : Addr).add j = ⟨B, j, none⟩ := by unfold Addr.add; split <;> simp_all
  rw [e]
  match j, hj with
  | 0, hj => simp at hj; subst hj; exact h0
  | 1, hj => simp at hj; subst hj; exact h1
  | j + 2, hj => simp at hj
/-- What may have turned: a block, and new ones. -/
abbrev onN (B n : Nat) : Nat → Prop := fun k => k = B ∨ n ≤ k
/-- A page with one slot, of one byte. -/
def Page1 (w : World) (B : Nat) (kd id : Int) : Prop := ∃ (C cp : Nat) (ad : Option Addr) (c : Nat), PageAt w B kd id (.slice (some ⟨C, 0, none⟩) 1 cp) ∧ w.cell? ⟨C, 0, none⟩ = some (.bool true) ∧ w.cell? ⟨C, 1, none⟩ = some (.slice ad 1 c)
theorem row_set {w : World} {ad : Addr} {m c : Nat} {L : List UInt8} {p : Addr} (h : Row w (.slice (some ad) m c) L) (hn : ad.block ≠ p.block) (u : Value) : Row (w.setCell p u) (.slice (some ad) m c) L := by
  obtain ⟨ad', cap, B, off, e, h1, h2, h3, h4⟩ := h
  cases e
  refine ⟨some ad, c, B, off, rfl, h1, h2, h3, fun j hj => ?_⟩
  have e2 := Option.some.inj (h3 (by omega))
  exact (World.cell?_of_block (w := w) (Below.heap_setCell w p u B (fun e => hn (by rw [e2]; exact e)))).trans (h4 j hj)
set_option maxHeartbeats 2000000 in
set_option maxRecDepth 100000 in
theorem p_fill1 {B : Nat} {kd id : Int} {L : List UInt8} (ad : Addr) (cap : Nat) (hl : L.length = 1) (W : World) (hab : ad.block ≠ B) (h : PageAt W B kd id (.slice none 0 0)) (hR : Row W (.slice (some ad) 1 cap) L) :
    Calls Tryd.prog 47 #[.pointer (some ⟨B, 0, none⟩), .int .i64 0, .slice (some ad) 1 cap] W fun e w' => e = .returned (.tuple #[]) ∧ Page1 w' B kd id ∧ Kx (onN B W.heap.size) W w' := by
  obtain ⟨i0, hi0, hz0, hz1, hz2⟩ := info_parts (P := Tryd.prog) (e := 92) (z := .agg #[.bool false, .slice none 0 0]) (size := 2) (bytes := 32) (by kernel_rfl)
  have HI := Lib.hid (And.intro hi0 (And.intro hz0 (And.intro hz1 hz2)))
  clear hi0 hz0 hz1 hz2
  obtain ⟨p0, p1, p2, p3, f3⟩ := h
  have hB := World.block_lt_of_cell? _ _ p0
  have CL := Lib.hid (fun w (r : Row w (.slice (some ad) 1 cap) L) => c_bClone ad 1 cap w r (by omega) (by omega))
  have HR := Lib.hid hR
  clear hR
  go_enter Tryd.func47, Tryd.ntmps47
  go_wp2_with (at_builtin; (refine wpList_append_own2 _ rfl (.tmp 17) (.tmp 19) 77 rfl W.heap.size 92 i0 (.agg #[.bool false, .slice none 0 0]) 2 32 Tryd.underlying77 HI.out.1 HI.out.2.1 HI.out.2.2.1 HI.out.2.2.2 rfl (by decide) (.slice none 0 0) 0 [] rfl (World.ownsRow_nil _ _ _ _) ⟨W.heap.size, 0, none⟩ 1 1 [.bool false, .slice none 0 0] rfl rfl (newsS (by go_simp) (by go_simp)) (by intro u hu; simp only [List.mem_cons, List.not_mem_nil, or_false] at hu; rcases hu with rfl | rfl <;> rfl) (by unfold maxLen; omega) (by omega) (by simp) ?_); intro x2 w2 o2 g2; (have G2 : Gr W w2 := g2.gr (by go_grown) (fun k hk => by cases hk)); (have q0 := cell_gr G2 p0); (have q1 := cell_gr G2 p1); (have q2 := cell_gr G2 p2); (have q3 := cell_gr G2 p3); (have j3 := frozen_gr G2 p3 f3); (obtain ⟨C, cp, rfl, hC, hC2, -⟩ := row_form o2 (by omega)); (have k0 := o2.cellAt 0 (by omega)); (have k1 := o2.cellAt 1 (by omega)); (have e0 := o2.frozenAt 0); (have e1 := o2.frozenAt 1); (have HG2 := Lib.hid G2); clear G2 o2 g2)
  have k0' : w2.cell? ⟨C, 0, none⟩ = some (.bool false) := k0
  have k1' : w2.cell? ⟨C, 1, none⟩ = some (.slice none 0 0) := k1
  clear k0 k1
  have hCB : C ≠ B := by omega
  have HK : Kx (onN B W.heap.size) W (w2.setCell ⟨B, 3, none⟩ (.slice (some ⟨C, 0, none⟩) 1 cp)) := (Kx.of_gr HG2.out).setCell (p := ⟨B, 3, none⟩) (Or.inl rfl) _
  have HR2 : Row (w2.setCell ⟨B, 3, none⟩ (.slice (some ⟨C, 0, none⟩) 1 cp)) (.slice (some ad) 1 cap) L := row_set (row_gr HR.out HG2.out) hab _
  generalize hh : w2.setCell ⟨B, 3, none⟩ (.slice (some ⟨C, 0, none⟩) 1 cp) = w3 at HK HR2 ⊢
  have c0 : w3.cell? ⟨B, 0, none⟩ = some (.bool true) := by subst hh; go_simp
  have c1 : w3.cell? ⟨B, 1, none⟩ = some (.int .i64 kd) := by subst hh; go_simp
  have c2 : w3.cell? ⟨B, 2, none⟩ = some (.int .i64 id) := by subst hh; go_simp
  have c3 : w3.cell? ⟨B, 3, none⟩ = some (.slice (some ⟨C, 0, none⟩) 1 cp) := by subst hh; go_simp
  have v3 : w3.frozen? ⟨B, 3, none⟩ = false := by subst hh; go_simp
  have d0 : w3.cell? ⟨C, 0, none⟩ = some (.bool false) := by subst hh; go_simp
  have d1 : w3.cell? ⟨C, 1, none⟩ = some (.slice none 0 0) := by subst hh; go_simp
  have x0 : w3.frozen? ⟨C, 0, none⟩ = false := by subst hh; go_simp
  have x1 : w3.frozen? ⟨C, 1, none⟩ = false := by subst hh; go_simp
  have b3 : B < w3.heap.size := World.block_lt_of_cell? _ _ c0
  have b4 : C < w3.heap.size := World.block_lt_of_cell? _ _ d0
  have HK' := Lib.hid HK
  have HR' := Lib.hid HR2
  clear HK HR2 HG2 HR hh q0 q1 q2 q3 j3 k0' k1' e0 e1 hC2
  go_wp2_with fail
  try simp only [List.append]
  refine Od.wp_region_ordT 8 [(0, false), (1, false), (2, false), (3, false), (4, false), (5, false), (6, true), (7, false)] (by kernel_rfl) (by kernel_rfl) ?_
  intro w4 hw4 KQ hKQ
  have cw4_0_0 : w4.cell? ⟨B, 0, none⟩ = some (.bool true) := cell_gr hw4 (by go_simp)
  have cw4_0_1 : w4.cell? ⟨B, 1, none⟩ = some (.int .i64 kd) := cell_gr hw4 (by go_simp)
  have cw4_0_2 : w4.cell? ⟨B, 2, none⟩ = some (.int .i64 id) := cell_gr hw4 (by go_simp)
  have cw4_0_3 : w4.cell? ⟨B, 3, none⟩ = some (.slice (some ⟨C, 0, none⟩) 1 cp) := cell_gr hw4 (by go_simp)
  have zw4_0 : B < w4.heap.size := World.block_lt_of_cell? _ _ cw4_0_0
  have cw4_1_0 : w4.cell? ⟨C, 0, none⟩ = some (.bool false) := cell_gr hw4 (by go_simp)
  have fw4_1_0 : w4.frozen? ⟨C, 0, none⟩ = false := frozen_gr (v := .bool false) hw4 (by go_simp) (by go_simp)
  have cw4_1_1 : w4.cell? ⟨C, 1, none⟩ = some (.slice none 0 0) := cell_gr hw4 (by go_simp)
  have fw4_1_1 : w4.frozen? ⟨C, 1, none⟩ = false := frozen_gr (v := .slice none 0 0) hw4 (by go_simp) (by go_simp)
  have zw4_1 : C < w4.heap.size := World.block_lt_of_cell? _ _ cw4_1_0
  have gw4 : Gr w3 w4 := Gr.trans (by go_grown) hw4
  skip
  clear hw4
  repeat (first | (refine Od.wpO_skip (by simp only [List.getElem?_toArray, List.getElem?_cons_succ, List.getElem?_cons_zero] <;> rfl) rfl ?_; simp only [Act.put, List.setIfInBounds_toArray, List.set_cons_zero, List.set_cons_succ]) | (refine Od.wpO_pure (by simp only [List.getElem?_toArray, List.getElem?_cons_succ, List.getElem?_cons_zero] <;> rfl) rfl ?_; apply Exists.intro; refine ⟨?_, ?_⟩; (· intro wx gx; obtain ⟨mx, rfl⟩ := spread_of_gr gx; clear gx; all_goals (apply Od.pAt_of_quiet; intro K hK; go_big_quiet_op; first | exact hK _ rfl | (apply Exists.intro; refine ⟨fun _ => ?_, ?_⟩; (· fail); exact hK _ rfl))); try simp only [Act.put, List.setIfInBounds_toArray, List.set_cons_zero, List.set_cons_succ]))
  refine Od.wpO_call (by simp only [List.getElem?_toArray, List.getElem?_cons_succ, List.getElem?_cons_zero] <;> rfl) rfl ?_
  intro QS hQS
  go_wp2_with fail
  go_at_call 52
  (with_reducible refine ((CL.out _ (row_gr HR'.out gw4))).mono ?_)
  rintro e w5 ⟨g5, cp5, rfl, o5, hw5⟩
  go_wp2_with fail
  apply Exists.intro
  refine ⟨?_, hw5, ?_⟩
  · simp only [Act.put, List.setIfInBounds_toArray, List.set_cons_zero, List.set_cons_succ]; rfl
  have cw5_0_0 : w5.cell? ⟨B, 0, none⟩ = some (.bool true) := cell_gr hw5 (by go_simp)
  have cw5_0_1 : w5.cell? ⟨B, 1, none⟩ = some (.int .i64 kd) := cell_gr hw5 (by go_simp)
  have cw5_0_2 : w5.cell? ⟨B, 2, none⟩ = some (.int .i64 id) := cell_gr hw5 (by go_simp)
  have cw5_0_3 : w5.cell? ⟨B, 3, none⟩ = some (.slice (some ⟨C, 0, none⟩) 1 cp) := cell_gr hw5 (by go_simp)
  have zw5_0 : B < w5.heap.size := World.block_lt_of_cell? _ _ cw5_0_0
  have cw5_1_0 : w5.cell? ⟨C, 0, none⟩ = some (.bool false) := cell_gr hw5 (by go_simp)
  have fw5_1_0 : w5.frozen? ⟨C, 0, none⟩ = false := frozen_gr (v := .bool false) hw5 (by go_simp) (by go_simp)
  have cw5_1_1 : w5.cell? ⟨C, 1, none⟩ = some (.slice none 0 0) := cell_gr hw5 (by go_simp)
  have fw5_1_1 : w5.frozen? ⟨C, 1, none⟩ = false := frozen_gr (v := .slice none 0 0) hw5 (by go_simp) (by go_simp)
  have zw5_1 : C < w5.heap.size := World.block_lt_of_cell? _ _ cw5_1_0
  have gw5 : Gr w3 w5 := Gr.trans (by have gg := gw4; have gs := gg.size; go_grown) hw5
  clear gw4 zw4_0 cw4_0_0 cw4_0_1 cw4_0_2 cw4_0_3 zw4_1 cw4_1_0 fw4_1_0 cw4_1_1 fw4_1_1
  clear hw5
  try simp only [Act.put, List.setIfInBounds_toArray, List.set_cons_zero, List.set_cons_succ]
  repeat (first | (refine Od.wpO_skip (by simp only [List.getElem?_toArray, List.getElem?_cons_succ, List.getElem?_cons_zero] <;> rfl) rfl ?_; simp only [Act.put, List.setIfInBounds_toArray, List.set_cons_zero, List.set_cons_succ]) | (refine Od.wpO_pure (by simp only [List.getElem?_toArray, List.getElem?_cons_succ, List.getElem?_cons_zero] <;> rfl) rfl ?_; apply Exists.intro; refine ⟨?_, ?_⟩; (· intro wx gx; obtain ⟨mx, rfl⟩ := spread_of_gr gx; clear gx; all_goals (apply Od.pAt_of_quiet; intro K hK; go_big_quiet_op; first | exact hK _ rfl | (apply Exists.intro; refine ⟨fun _ => ?_, ?_⟩; (· fail); exact hK _ rfl))); try simp only [Act.put, List.setIfInBounds_toArray, List.set_cons_zero, List.set_cons_succ]))
  refine Od.wpO_nil (hKQ _ _ ?_)
  clear hKQ KQ
  go_wp2_with fail
  go_end0
  have K5 : Kx (onN B W.heap.size) W w5 := HK'.out.trans (Kx.of_gr gw5)
  exact ⟨rfl, ⟨C, cp, some ⟨g5, 0, none⟩, cp5, ⟨by go_simp, by go_simp, by go_simp, by go_simp, by go_simp; exact frozen_gr gw5 c3 v3⟩, by go_simp, by go_simp⟩, (K5.setCell (p := ⟨C, 0, none⟩) (Or.inr hC) _).setCell (p := ⟨C, 1, none⟩) (Or.inr hC) _⟩
set_option maxRecDepth 100000 in
theorem p_insert1 {B : Nat} {kd id : Int} {L : List UInt8} (ad : Addr) (cap : Nat) (hl : L.length = 1) (W : World) (hab : ad.block ≠ B) (h : PageAt W B kd id (.slice none 0 0)) (hR : Row W (.slice (some ad) 1 cap) L) :
    Calls Tryd.prog 12 #[.pointer (some ⟨B, 0, none⟩), .slice (some ad) 1 cap] W fun e w' => e = .returned (.tuple #[.int .i64 0, .nilIface]) ∧ Page1 w' B kd id ∧ Kx (onN B W.heap.size) W w' := by
  have A1 := fun w (g : Gr W w) => p_least0 w (pageAt_gr h g)
  have A2 := fun w (g : Gr W w) => p_refusal1 (some ad) cap w (pageAt_gr h g)
  have A3 := fun w (g : Gr W w) => p_fill1 ad cap hl w hab (pageAt_gr h g) (row_gr hR g)
  have H1 := Lib.hid A1
  have H2 := Lib.hid A2
  have H3 := Lib.hid A3
  clear A1 A2 A3
  clear h hR
  go_enter Tryd.func12, Tryd.ntmps12
  go_wp2_with fail
  go_at_call 45
  refine ((H1.out _ (by go_grown))).mono ?_
  rintro e w1 ⟨rfl, hw1⟩
  have gw1 : Gr W w1 := Gr.trans (by go_grown) hw1
  clear hw1
  go_wp2_with fail
  go_at_call 46
  refine ((H2.out _ (by have gg := gw1; have gs := gg.size; go_grown))).mono ?_
  rintro e w2 ⟨rfl, hw2⟩
  have gw2 : Gr W w2 := Gr.trans (by have gg := gw1; have gs := gg.size; go_grown) hw2
  clear hw2 gw1
  go_wp2_with fail
  go_at_call 47
  refine (H3.out _ (by have gg := gw2; have gs := gg.size; go_grown)).mono ?_
  rintro e w3 ⟨rfl, hp, hk⟩
  have hs2 := gw2.size
  have K3 : Kx (onN B W.heap.size) W w3 := (Kx.of_gr gw2).trans (hk.mono (fun k h => by rcases h with h | h; exact Or.inl h; exact Or.inr (by omega)))
  have HP := Lib.hid hp
  clear hk hp
  go_wp2_with fail
  go_ret2
  exact ⟨rfl, HP.out, by first | exact K3 | exact K3.drew⟩
theorem page1_gr {a b : World} {B : Nat} {kd id : Int} (h : Page1 a B kd id) (g : Gr a b) : Page1 b B kd id := by
  obtain ⟨C, cp, ad, c, h1, h2, h3⟩ := h
  exact ⟨C, cp, ad, c, pageAt_gr h1 g, cell_gr g h2, cell_gr g h3⟩
theorem p_used1 {B : Nat} {kd id : Int} (W : World) (h : Page1 W B kd id) : Calls Tryd.prog 77 #[.pointer (some ⟨B, 0, none⟩)] W fun e w' => e = .returned (.int .i64 21) ∧ Gr W w' := by
  obtain ⟨C, cp, ad, c, ⟨p0, p1, p2, p3, f3⟩, q0, q1⟩ := h
  have hB := World.block_lt_of_cell? _ _ p0
  have hC := World.block_lt_of_cell? _ _ q0
  go_enter Tryd.func77, Tryd.ntmps77
  go_wp2_with fail
  go_loopg [3, 18] 1 (fun k x y wr => ((k = 1 ∧ x = .int .i64 20 ∧ y = .int .i64 0) ∨ (k = 0 ∧ x = .int .i64 21 ∧ y = .int .i64 1)) ∧ Gr W wr)
  case atStart => exact ⟨Or.inl ⟨rfl, rfl, rfl⟩, by go_grown⟩
  case round =>
    obtain ⟨hx, hg⟩ := hrel
    have r0 := cell_gr hg q0
    have r1 := cell_gr hg q1
    rcases hx with ⟨rfl, rfl, rfl⟩ | ⟨rfl, rfl, rfl⟩
    · go_wp2_with fail
      go_roundg 0
      case measure => omega
      case rel => exact ⟨Or.inr ⟨rfl, rfl, rfl⟩, by have gs := hg.size; go_grown⟩
    · go_wp2_with fail
      go_ret
      exact ⟨rfl, by have gs := hg.size; go_grown⟩
theorem p_none1 {B : Nat} {kd id : Int} (W : World) (h : Page1 W B kd id) : Calls Tryd.prog 55 #[.pointer (some ⟨B, 0, none⟩)] W fun e w' => e = .returned (.bool false) ∧ Gr W w' := by
  obtain ⟨C, cp, ad, c, h1, -⟩ := h
  exact p_none W h1
set_option maxRecDepth 100000 in
theorem p_free1 {B : Nat} {kd id : Int} (W : World) (h : Page1 W B kd id) : Calls Tryd.prog 40 #[.pointer (some ⟨B, 0, none⟩)] W fun e w' => e = .returned (.int .i64 491) ∧ Gr W w' := by
  have A1 := fun w (g : Gr W w) => p_none1 w (page1_gr h g)
  have A2 := fun w (g : Gr W w) => p_used1 w (page1_gr h g)
  have H1 := Lib.hid A1
  have H2 := Lib.hid A2
  clear A1 A2
  clear h
  go_enter Tryd.func40, Tryd.ntmps40
  go_wp2_with fail
  go_at_call 55
  refine ((H1.out _ (by go_grown))).mono ?_
  rintro e w1 ⟨rfl, hw1⟩
  have gw1 : Gr W w1 := Gr.trans (by go_grown) hw1
  clear hw1
  go_wp2_with fail
  go_at_call 77
  refine ((H2.out _ (by have gg := gw1; have gs := gg.size; go_grown))).mono ?_
  rintro e w2 ⟨rfl, hw2⟩
  have gw2 : Gr W w2 := Gr.trans (by have gg := gw1; have gs := gg.size; go_grown) hw2
  clear hw2 gw1
  go_wp2_with fail
  go_ret
  exact ⟨rfl, gw2⟩
set_option maxRecDepth 100000 in
theorem p_id {B : Nat} {kd id : Int} {s : Value} (W : World) (h : PageAt W B kd id s) : Calls Tryd.prog 41 #[.pointer (some ⟨B, 0, none⟩)] W fun e w' => e = .returned (.int .i64 id) ∧ Gr W w' := by
  have A1 := fun w (g : Gr W w) => p_none w (pageAt_gr h g)
  obtain ⟨p0, p1, p2, p3, f3⟩ := h
  have hB := World.block_lt_of_cell? _ _ p0
  have H1 := Lib.hid A1
  clear A1
  go_enter Tryd.func41, Tryd.ntmps41
  go_wp2_with fail
  go_at_call 55
  refine ((H1.out _ (by go_grown))).mono ?_
  rintro e w1 ⟨rfl, hw1⟩
  have cw1_0_0 : w1.cell? ⟨B, 0, none⟩ = some (.bool true) := cell_gr hw1 (by go_simp)
  have cw1_0_1 : w1.cell? ⟨B, 1, none⟩ = some (.int .i64 kd) := cell_gr hw1 (by go_simp)
  have cw1_0_2 : w1.cell? ⟨B, 2, none⟩ = some (.int .i64 id) := cell_gr hw1 (by go_simp)
  have zw1_0 : B < w1.heap.size := World.block_lt_of_cell? _ _ cw1_0_0
  have gw1 : Gr W w1 := Gr.trans (by go_grown) hw1
  clear hw1
  go_wp2_with fail
  go_ret
  exact ⟨rfl, by have gg := gw1; have gs := gg.size; go_grown⟩
theorem p_new (W : World) : Calls Tryd.prog 7 #[.int .i64 1, .int .i64 7] W fun e w' => ∃ B, e = .returned (.tuple #[.pointer (some ⟨B, 0, none⟩), .nilIface]) ∧ W.heap.size ≤ B ∧ PageAt w' B 1 7 (.slice none 0 0) ∧ Gr W w' := by
  go_enter Tryd.func7, Tryd.ntmps7
  go_wp2_with fail
  go_ret2
  exact ⟨_, rfl, Nat.le_refl _, ⟨by go_simp, by go_simp, by go_simp, by go_simp, by go_simp⟩, by go_grown⟩
theorem row_a (w : World) : Row (w.alloc (.cells #[.int .u8 97] 5 (1, 2))) (.slice (some ⟨w.heap.size, 0, none⟩) 1 1) [97] :=
  ⟨some ⟨w.heap.size, 0, none⟩, 1, w.heap.size, 0, rfl, Nat.le_refl _, by decide, fun _ => rfl, fun j hj => by
    obtain rfl : j = 0 := by simpa using hj
    exact World.cell?_alloc_mark w #[.int .u8 97] 5 (1, 2) 0⟩
theorem make500 : ∃ o : Obj, ∀ w : World, (Instr.makeSlice 35 (.int .i64 500) (.int .i64 500)).run Tryd.prog w = .ok (.slice (some ⟨w.heap.size, 0, none⟩) 500 500) (w.alloc o) :=
  ⟨.cells (Array.replicate 500 (.int .u8 0)) 5, fun w => by kernel_rfl⟩
set_option maxHeartbeats 2000000 in
set_option maxRecDepth 100000 in
theorem p11_awake (W : World) : Calls Tryd.prog 6 #[] W fun e w' => e = .returned (.bool true) ∧ Gr W w' := by
  have A4 := row_a
  have hC := fun (w : World) (C : Array Value) (n c : Nat) => Lib.run_convert_bytes_const (P := Tryd.prog) w 35 5 C n c Tryd.underlying35 Tryd.underlying5
  have H4 := Lib.hid A4
  clear A4
  go_enter Tryd.func6, Tryd.ntmps6
  go_wp2_with fail
  go_at_call 7
  refine (p_new _).mono ?_
  rintro e w1 ⟨B, rfl, hB, hp, g1⟩
  have G1 : Gr W w1 := Gr.trans (by go_grown) g1
  have hB1 : B < w1.heap.size := World.block_lt_of_cell? _ _ hp.1
  have HP := Lib.hid hp
  clear hp g1
  go_wp2_with fail
  go_at_call 12
  refine (p_insert1 (L := [97]) _ _ rfl _ (by show w1.heap.size ≠ B; omega) (pageAt_gr HP.out (by go_grown)) (row_gr (H4.out w1) (by go_grown))).mono ?_
  rintro e w3 ⟨rfl, h1, k3⟩
  have G3 : Gr W w3 := Kx.gr k3 (by have gs := G1.size; go_grown) (fun k hk => by have gs := G1.size; rcases hk with rfl | hk; omega; simp at hk; omega)
  have H1 := Lib.hid h1
  clear k3 h1
  go_wp2_with fail
  go_at_call 40
  refine (p_free1 _ (page1_gr H1.out (by go_grown))).mono ?_
  rintro e w4 ⟨rfl, g4⟩
  have G4 : Gr w3 w4 := Gr.trans (by go_grown) g4
  clear g4
  go_wp2_with fail
  go_at_call 41
  obtain ⟨C, cp, ad, c, hq, -⟩ := H1.out
  refine (p_id _ (pageAt_gr hq (Gr.trans G4 (by go_grown)))).mono ?_
  rintro e w5 ⟨rfl, g5⟩
  have G5 : Gr w4 w5 := Gr.trans (by go_grown) g5
  clear g5
  go_wp2_with fail
  go_ret
  exact ⟨rfl, Gr.trans (Gr.trans G3 G4) (Gr.trans G5 (by go_grown))⟩
end Go.Proofs.YtilijbplfobneaaDoor
