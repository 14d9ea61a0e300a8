/- the document's own products of two words by one: words of two numbers, times -/
import Derived.Test.YtogflfepkddbhaaDoorRj
import Derived.Laws.OwnMore
namespace Go.Proofs.YtogflfepkddbhaaDoor
set_option linter.unusedVariables false
open Go.ChangeShapes Go.WideShapes Go.ChangeAt Go.RowKit

theorem cells2n (w : World) (B : Nat) (x y : Value) (h0 : w.cell? ⟨B, 0, none⟩ = some x) (h1 : w.cell? ⟨B, 1, none⟩ = some y) : ∀ (j : Nat) u, [x, y][j]? = some u → w.cell? ((⟨B, 0, none⟩ : Addr).add j) = some u := by
  intro j u h
  match j with
  | 0 => simp at h; subst h; exact h0
  | 1 => simp at h; subst h; exact h1
  | k + 2 => simp at h
theorem one2 (x y : Int) : ∀ u ∈ [Value.int .u64 x, Value.int .u64 y], u.oneCell' = true := by
  intro u h
  simp at h
  rcases h with rfl | rfl <;> rfl
theorem grown_of_gr {a b : World} (g : Gr a b) (r : Option Nat) : a.grownBy b r := ⟨g.os, g.tape, g.output, g.size, fun k hk _ => g.block k hk⟩
theorem gr_of_grown {w a b : World} {r : Option Nat} (h : Gr w a) (g : a.grownBy b r) (hr : ∀ k, r = some k → w.heap.size ≤ k) : Gr w b :=
  ⟨g.os.trans h.os, g.tape.trans h.tape, g.output.trans h.output, Nat.le_trans h.size g.size, fun k hk => (g.block k (Nat.lt_of_lt_of_le hk h.size) (fun e => by have := hr k e.symm; omega)).trans (h.block k hk)⟩
theorem own_gr {a b : World} {base e size n : Nat} {v : Value} {xs : List Value} (h : a.ownsRow base e size v n xs) (g : Gr a b) : b.ownsRow base e size v n xs :=
  h.kept (grown_of_gr g none) (by
    rcases hh : v.ownBlock with _ | k
    · exact Or.inl rfl
    · exact Or.inr (by simp))
set_option maxHeartbeats 2000000 in
set_option maxRecDepth 100000 in
theorem words2_walk (x y xl xh yl yh b : Nat) (w : World) (q1 : bits BinOp.and IntKind.u64 (x : Int) 4294967295 = (xl : Int)) (q2 : (x : Int) / 4294967296 = (xh : Int)) (p1 : bits BinOp.and IntKind.u64 (y : Int) 4294967295 = (yl : Int)) (p2 : (y : Int) / 4294967296 = (yh : Int))
    (hb : b < w.heap.size) (k0 : w.cell? ⟨b, 0, none⟩ = some (.int .u64 x)) (k1 : w.cell? ⟨b, 1, none⟩ = some (.int .u64 y)) :
    Calls Tryd.prog 87 #[.slice (some ⟨b, 0, none⟩) 2 2] w fun e w' => ∃ B cap, e = .returned (.slice (some ⟨B, 0, none⟩) 4 cap) ∧ w.heap.size ≤ B ∧ w'.cell? ⟨B, 0, none⟩ = some (.int .u64 xl) ∧ w'.cell? ⟨B, 1, none⟩ = some (.int .u64 xh) ∧ w'.cell? ⟨B, 2, none⟩ = some (.int .u64 yl) ∧ w'.cell? ⟨B, 3, none⟩ = some (.int .u64 yh) ∧ Gr w w' := by
  obtain ⟨i0, hi, hz0, hz1, hz2⟩ := info_parts (P := Tryd.prog) (e := 35) (z := .int .u64 0) (size := 1) (bytes := 8) (by kernel_rfl)
  have HI := Lib.hid hi
  have HZ0 := Lib.hid hz0
  have HZ1 := Lib.hid hz1
  have HZ2 := Lib.hid hz2
  clear hi hz0 hz1 hz2
  go_enter Tryd.func87, Tryd.ntmps87
  go_wp2_with fail
  refine wp_loop_rounds 3 ?_
  rw [rounds_succ]
  go_wp2_with fail
  let Rc : World → Prop := fun w' => Gr w w'
  refine Hd.wp_region_head 12 11 Rc Rc (fun v w' => Rc w' ∧ ∃ B, v = .slice (some ⟨B, 0, none⟩) 2 2 ∧ w.heap.size ≤ B ∧ w'.cell? ⟨B, 0, none⟩ = some (.int .u64 xl) ∧ w'.cell? ⟨B, 1, none⟩ = some (.int .u64 xh)) (by kernel_rfl) (by simp only [List.getElem?_toArray, List.getElem?_cons_succ, List.getElem?_cons_zero] <;> rfl) (by kernel_rfl) (by intro cs b h; cases h) ?_ ?_ ?_ ?_ ?_ ?_
  · intro a b h g; exact Gr.trans h g
  · rintro v a b ⟨h, B, e, hB, c0, c1⟩ g
    exact ⟨Gr.trans h g, B, e, hB, cell_gr g c0, cell_gr g c1⟩
  · intro a h; exact h
  · intro v a h; exact h.1
  · show Gr _ _
    go_grown
  · intro KQ hKQ
    repeat (first | (refine Hd.wpG_skip (by decide) rfl ?_; simp only [Act.put, List.setIfInBounds_toArray, List.set_cons_zero, List.set_cons_succ]) | (refine Hd.wpG_want (by decide) rfl ?_; apply Exists.intro; refine ⟨?_, ?_⟩; (· intro wx gx; (have gx0 := cell_gr gx k0; clear gx); all_goals (apply Hd.gAt_of_quiet; intro K hK; go_big_quiet_op; first | exact hK _ rfl | (apply Exists.intro; refine ⟨fun _ => ?_, ?_⟩; (· (fail)); exact hK _ rfl))); try simp only [Act.put, List.setIfInBounds_toArray, List.set_cons_zero, List.set_cons_succ]))
    refine Hd.wpG_k (by decide) ?_ ?_
    · rintro w' gx
      unfold Oper.wp
      go_simp
      change Gr w w' at gx
      have gs := gx.size
      exact ⟨(show Gr w _ by go_grown), gs⟩
    refine Hd.wpG_nil (hKQ _ ?_)
    clear hKQ KQ
    rintro v w1 ⟨gx, B, rfl, hB, b0, b1⟩
    change Gr w w1 at gx
    clear Rc
    refine wpList_append_own _ rfl _ _ 126 rfl w.heap.size 35 i0 (.int .u64 0) 1 8 Tryd.underlying126 HI.out HZ0.out HZ1.out HZ2.out rfl (by decide) (.slice none 0 0) 0 [] rfl (World.ownsRow_nil _ _ _ _) ⟨B, 0, none⟩ 2 2 [.int .u64 xl, .int .u64 xh] rfl rfl (cells2n _ _ _ _ b0 b1) (one2 _ _) (by unfold maxLen; omega) (by omega) gx.size ?_
    intro v1 w2 own1 grow1 nil1
    have gw2 : Gr w w2 := gr_of_grown gx grow1 (fun k h => by cases h)
    have l0 := cell_gr gw2 k1
    have HO := Lib.hid own1
    clear own1 grow1 nil1 gx b0 b1 hB
    go_wp2_with fail
    rw [rounds_succ]
    go_wp2_with fail
    let Rd : World → Prop := fun w' => Gr w2 w'
    refine Hd.wp_region_head 12 11 Rd Rd (fun v w' => Rd w' ∧ ∃ B, v = .slice (some ⟨B, 0, none⟩) 2 2 ∧ w2.heap.size ≤ B ∧ w'.cell? ⟨B, 0, none⟩ = some (.int .u64 yl) ∧ w'.cell? ⟨B, 1, none⟩ = some (.int .u64 yh)) (by kernel_rfl) (by simp only [List.getElem?_toArray, List.getElem?_cons_succ, List.getElem?_cons_zero] <;> rfl) (by kernel_rfl) (by intro cs b h; cases h) ?_ ?_ ?_ ?_ ?_ ?_
    · intro a b h g; exact Gr.trans h g
    · rintro v a b ⟨h, B, e, hB, c0, c1⟩ g
      exact ⟨Gr.trans h g, B, e, hB, cell_gr g c0, cell_gr g c1⟩
    · intro a h; exact h
    · intro v a h; exact h.1
    · show Gr _ _
      go_grown
    · intro KQ hKQ
      repeat (first | (refine Hd.wpG_skip (by decide) rfl ?_; simp only [Act.put, List.setIfInBounds_toArray, List.set_cons_zero, List.set_cons_succ]) | (refine Hd.wpG_want (by decide) rfl ?_; apply Exists.intro; refine ⟨?_, ?_⟩; (· intro wx gx; (have gx0 := cell_gr gx l0; clear gx); all_goals (apply Hd.gAt_of_quiet; intro K hK; go_big_quiet_op; first | exact hK _ rfl | (apply Exists.intro; refine ⟨fun _ => ?_, ?_⟩; (· (fail)); exact hK _ rfl))); try simp only [Act.put, List.setIfInBounds_toArray, List.set_cons_zero, List.set_cons_succ]))
      refine Hd.wpG_k (by decide) ?_ ?_
      · rintro w' gx
        unfold Oper.wp
        go_simp
        change Gr w2 w' at gx
        have gs := gx.size
        exact ⟨(show Gr w2 _ by go_grown), gs⟩
      refine Hd.wpG_nil (hKQ _ ?_)
      clear hKQ KQ
      rintro v w3 ⟨gx, B', rfl, hB', d0, d1⟩
      change Gr w2 w3 at gx
      clear Rd
      have gw3 := Gr.trans gw2 gx
      refine wpList_append_own _ rfl _ _ 126 rfl w.heap.size 35 i0 (.int .u64 0) 1 8 Tryd.underlying126 HI.out HZ0.out HZ1.out HZ2.out rfl (by decide) v1 2 [.int .u64 xl, .int .u64 xh] rfl (own_gr HO.out gx) ⟨B', 0, none⟩ 2 2 [.int .u64 yl, .int .u64 yh] rfl rfl (cells2n _ _ _ _ d0 d1) (one2 _ _) (by unfold maxLen; omega) (by omega) gw3.size ?_
      intro v2 w4 own2 grow2 nil2
      have gw4 : Gr w w4 := gr_of_grown gw3 grow2 (fun k h => (HO.out.lt k h).1)
      have HP := Lib.hid own2
      clear own2 grow2 nil2
      go_wp2_with fail
      rw [rounds_succ]
      go_wp2_with fail
      go_ret
      have own2 := HP.out
      obtain ⟨g, cap, cur, rfl, hg, -⟩ : ∃ g cap cur, v2 = .slice (some ⟨g, 0, none⟩) 4 cap ∧ w.heap.size ≤ g ∧ w4.heap[g]? = some (.cells cur 35 (0, 0)) := by
        rcases own2.2 with ⟨_, h⟩ | ⟨g, cap, cur, e, hg, hh, _⟩
        · omega
        · exact ⟨g, cap, cur, e, hg, hh⟩
      exact ⟨g, cap, rfl, hg, own2.cellAt 0 (by decide), own2.cellAt 1 (by decide), own2.cellAt 2 (by decide), own2.cellAt 3 (by decide), gw4⟩
theorem make6 (w : World) : (Instr.makeSlice 126 (.int .i64 6) (.int .i64 6)).run Tryd.prog w = .ok (.slice (some ⟨w.heap.size, 0, none⟩) 6 6) (w.alloc (.cells #[.int .u64 0, .int .u64 0, .int .u64 0, .int .u64 0, .int .u64 0, .int .u64 0] 35)) := by kernel_rfl
set_option maxHeartbeats 4000000 in
set_option maxRecDepth 100000 in
theorem times42_walk (a0 a1 a2 a3 b0 b1 p00 o00 c00 p01 v01 o01 c01 p10 t10 o10 c10 p11 t11 v11 o11 c11 p20 t20 o20 c20 p21 t21 v21 o21 c21 p30 t30 o30 c30 p31 t31 v31 o31 c31 : Nat) (A B ca cb : Nat) (w : World) (hA : A < w.heap.size) (hB : B < w.heap.size)
    (ka0 : w.cell? ⟨A, 0, none⟩ = some (.int .u64 a0)) (ka1 : w.cell? ⟨A, 1, none⟩ = some (.int .u64 a1)) (ka2 : w.cell? ⟨A, 2, none⟩ = some (.int .u64 a2)) (ka3 : w.cell? ⟨A, 3, none⟩ = some (.int .u64 a3)) (kb0 : w.cell? ⟨B, 0, none⟩ = some (.int .u64 b0)) (kb1 : w.cell? ⟨B, 1, none⟩ = some (.int .u64 b1))
    (m00 : IntKind.u64.wrap ((a0 : Int) * (b0 : Int)) = (p00 : Int))
    (n00 : IntKind.u64.wrap ((p00 : Int)) = (p00 : Int))
    (x00 : bits BinOp.and IntKind.u64 (p00 : Int) 4294967295 = (o00 : Int))
    (y00 : (p00 : Int) / 4294967296 = (c00 : Int))
    (m01 : IntKind.u64.wrap ((a0 : Int) * (b1 : Int)) = (p01 : Int))
    (n01 : IntKind.u64.wrap ((p01 : Int)) = (p01 : Int))
    (r01 : IntKind.u64.wrap ((p01 : Int) + (c00 : Int)) = (v01 : Int))
    (x01 : bits BinOp.and IntKind.u64 (v01 : Int) 4294967295 = (o01 : Int))
    (y01 : (v01 : Int) / 4294967296 = (c01 : Int))
    (m10 : IntKind.u64.wrap ((a1 : Int) * (b0 : Int)) = (p10 : Int))
    (s10 : IntKind.u64.wrap ((p10 : Int) + (o01 : Int)) = (t10 : Int))
    (r10 : IntKind.u64.wrap ((t10 : Int)) = (t10 : Int))
    (x10 : bits BinOp.and IntKind.u64 (t10 : Int) 4294967295 = (o10 : Int))
    (y10 : (t10 : Int) / 4294967296 = (c10 : Int))
    (m11 : IntKind.u64.wrap ((a1 : Int) * (b1 : Int)) = (p11 : Int))
    (s11 : IntKind.u64.wrap ((p11 : Int) + (c01 : Int)) = (t11 : Int))
    (r11 : IntKind.u64.wrap ((t11 : Int) + (c10 : Int)) = (v11 : Int))
    (x11 : bits BinOp.and IntKind.u64 (v11 : Int) 4294967295 = (o11 : Int))
    (y11 : (v11 : Int) / 4294967296 = (c11 : Int))
    (m20 : IntKind.u64.wrap ((a2 : Int) * (b0 : Int)) = (p20 : Int))
    (s20 : IntKind.u64.wrap ((p20 : Int) + (o11 : Int)) = (t20 : Int))
    (r20 : IntKind.u64.wrap ((t20 : Int)) = (t20 : Int))
    (x20 : bits BinOp.and IntKind.u64 (t20 : Int) 4294967295 = (o20 : Int))
    (y20 : (t20 : Int) / 4294967296 = (c20 : Int))
    (m21 : IntKind.u64.wrap ((a2 : Int) * (b1 : Int)) = (p21 : Int))
    (s21 : IntKind.u64.wrap ((p21 : Int) + (c11 : Int)) = (t21 : Int))
    (r21 : IntKind.u64.wrap ((t21 : Int) + (c20 : Int)) = (v21 : Int))
    (x21 : bits BinOp.and IntKind.u64 (v21 : Int) 4294967295 = (o21 : Int))
    (y21 : (v21 : Int) / 4294967296 = (c21 : Int))
    (m30 : IntKind.u64.wrap ((a3 : Int) * (b0 : Int)) = (p30 : Int))
    (s30 : IntKind.u64.wrap ((p30 : Int) + (o21 : Int)) = (t30 : Int))
    (r30 : IntKind.u64.wrap ((t30 : Int)) = (t30 : Int))
    (x30 : bits BinOp.and IntKind.u64 (t30 : Int) 4294967295 = (o30 : Int))
    (y30 : (t30 : Int) / 4294967296 = (c30 : Int))
    (m31 : IntKind.u64.wrap ((a3 : Int) * (b1 : Int)) = (p31 : Int))
    (s31 : IntKind.u64.wrap ((p31 : Int) + (c21 : Int)) = (t31 : Int))
    (r31 : IntKind.u64.wrap ((t31 : Int) + (c30 : Int)) = (v31 : Int))
    (x31 : bits BinOp.and IntKind.u64 (v31 : Int) 4294967295 = (o31 : Int))
    (y31 : (v31 : Int) / 4294967296 = (c31 : Int)) :
    Calls Tryd.prog 86 #[.slice (some ⟨A, 0, none⟩) 4 ca, .slice (some ⟨B, 0, none⟩) 2 cb] w fun e w' => ∃ O, e = .returned (.slice (some ⟨O, 0, none⟩) 6 6) ∧ w'.cell? ⟨O, 0, none⟩ = some (.int .u64 o00) ∧ w'.cell? ⟨O, 1, none⟩ = some (.int .u64 o10) ∧ w'.cell? ⟨O, 2, none⟩ = some (.int .u64 o20) ∧ w'.cell? ⟨O, 3, none⟩ = some (.int .u64 o30) ∧ w'.cell? ⟨O, 4, none⟩ = some (.int .u64 o31) ∧ w'.cell? ⟨O, 5, none⟩ = some (.int .u64 c31) ∧ Gr w w' := by
  have hm := make6
  go_enter Tryd.func86, Tryd.ntmps86
  go_wp2_with fail
  refine wp_loop_rounds 5 ?_
  rw [rounds_succ]
  go_wp2_with fail
  refine wp_loop_rounds 3 ?_
  rw [rounds_succ]
  go_wp2_with fail
  generalize hhw0 : (w.alloc (.cells #[.int .u64 0, .int .u64 0, .int .u64 0, .int .u64 0, .int .u64 0, .int .u64 0] 35)) = w0
  have cw0_0_0 : w0.cell? ⟨A, 0, none⟩ = some (.int .u64 a0) := by subst hhw0; go_simp
  have cw0_0_1 : w0.cell? ⟨A, 1, none⟩ = some (.int .u64 a1) := by subst hhw0; go_simp
  have cw0_0_2 : w0.cell? ⟨A, 2, none⟩ = some (.int .u64 a2) := by subst hhw0; go_simp
  have cw0_0_3 : w0.cell? ⟨A, 3, none⟩ = some (.int .u64 a3) := by subst hhw0; go_simp
  have zw0_0 : A < w0.heap.size := World.block_lt_of_cell? _ _ cw0_0_0
  have cw0_1_0 : w0.cell? ⟨B, 0, none⟩ = some (.int .u64 b0) := by subst hhw0; go_simp
  have cw0_1_1 : w0.cell? ⟨B, 1, none⟩ = some (.int .u64 b1) := by subst hhw0; go_simp
  have zw0_1 : B < w0.heap.size := World.block_lt_of_cell? _ _ cw0_1_0
  have cw0_2_0 : w0.cell? ⟨w.heap.size, 0, none⟩ = some (.int .u64 0) := by subst hhw0; go_simp
  have fw0_2_0 : w0.frozen? ⟨w.heap.size, 0, none⟩ = false := by subst hhw0; go_simp
  have cw0_2_1 : w0.cell? ⟨w.heap.size, 1, none⟩ = some (.int .u64 0) := by subst hhw0; go_simp
  have fw0_2_1 : w0.frozen? ⟨w.heap.size, 1, none⟩ = false := by subst hhw0; go_simp
  have cw0_2_2 : w0.cell? ⟨w.heap.size, 2, none⟩ = some (.int .u64 0) := by subst hhw0; go_simp
  have fw0_2_2 : w0.frozen? ⟨w.heap.size, 2, none⟩ = false := by subst hhw0; go_simp
  have cw0_2_3 : w0.cell? ⟨w.heap.size, 3, none⟩ = some (.int .u64 0) := by subst hhw0; go_simp
  have fw0_2_3 : w0.frozen? ⟨w.heap.size, 3, none⟩ = false := by subst hhw0; go_simp
  have cw0_2_4 : w0.cell? ⟨w.heap.size, 4, none⟩ = some (.int .u64 0) := by subst hhw0; go_simp
  have fw0_2_4 : w0.frozen? ⟨w.heap.size, 4, none⟩ = false := by subst hhw0; go_simp
  have cw0_2_5 : w0.cell? ⟨w.heap.size, 5, none⟩ = some (.int .u64 0) := by subst hhw0; go_simp
  have fw0_2_5 : w0.frozen? ⟨w.heap.size, 5, none⟩ = false := by subst hhw0; go_simp
  have zw0_2 : w.heap.size < w0.heap.size := World.block_lt_of_cell? _ _ cw0_2_0
  have gw0 : Gr w w0 := by subst hhw0; go_grown
  clear hhw0
  go_wp2_with fail
  refine Hd.wp_region_tail 18 (by kernel_rfl) (by kernel_rfl) ?_
  intro KQ hKQ
  repeat (first | (refine Hd.wpG_skip (by decide) rfl ?_; simp only [Act.put, List.setIfInBounds_toArray, List.set_cons_zero, List.set_cons_succ]) | (refine Hd.wpG_want (by decide) rfl ?_; apply Exists.intro; refine ⟨?_, ?_⟩; (· intro wx gx; (obtain ⟨mx, rfl⟩ := gx); all_goals (apply Hd.gAt_of_quiet; intro K hK; go_big_quiet_op; first | exact hK _ rfl | (apply Exists.intro; refine ⟨fun _ => ?_, ?_⟩; (· fail); exact hK _ rfl))); try simp only [Act.put, List.setIfInBounds_toArray, List.set_cons_zero, List.set_cons_succ]))
  refine Hd.wpG_nil (hKQ _ ?_)
  clear hKQ KQ
  intro w1 hhw1
  have hw1 := Hd.gr_of_spread hhw1
  have cw1_0_0 : w1.cell? ⟨A, 0, none⟩ = some (.int .u64 a0) := cell_gr hw1 (by go_simp)
  have cw1_0_1 : w1.cell? ⟨A, 1, none⟩ = some (.int .u64 a1) := cell_gr hw1 (by go_simp)
  have cw1_0_2 : w1.cell? ⟨A, 2, none⟩ = some (.int .u64 a2) := cell_gr hw1 (by go_simp)
  have cw1_0_3 : w1.cell? ⟨A, 3, none⟩ = some (.int .u64 a3) := cell_gr hw1 (by go_simp)
  have zw1_0 : A < w1.heap.size := World.block_lt_of_cell? _ _ cw1_0_0
  have cw1_1_0 : w1.cell? ⟨B, 0, none⟩ = some (.int .u64 b0) := cell_gr hw1 (by go_simp)
  have cw1_1_1 : w1.cell? ⟨B, 1, none⟩ = some (.int .u64 b1) := cell_gr hw1 (by go_simp)
  have zw1_1 : B < w1.heap.size := World.block_lt_of_cell? _ _ cw1_1_0
  have cw1_2_0 : w1.cell? ⟨w.heap.size, 0, none⟩ = some (.int .u64 0) := cell_gr hw1 (by go_simp)
  have fw1_2_0 : w1.frozen? ⟨w.heap.size, 0, none⟩ = false := frozen_gr (v := .int .u64 0) hw1 (by go_simp) (by go_simp)
  have cw1_2_1 : w1.cell? ⟨w.heap.size, 1, none⟩ = some (.int .u64 0) := cell_gr hw1 (by go_simp)
  have fw1_2_1 : w1.frozen? ⟨w.heap.size, 1, none⟩ = false := frozen_gr (v := .int .u64 0) hw1 (by go_simp) (by go_simp)
  have cw1_2_2 : w1.cell? ⟨w.heap.size, 2, none⟩ = some (.int .u64 0) := cell_gr hw1 (by go_simp)
  have fw1_2_2 : w1.frozen? ⟨w.heap.size, 2, none⟩ = false := frozen_gr (v := .int .u64 0) hw1 (by go_simp) (by go_simp)
  have cw1_2_3 : w1.cell? ⟨w.heap.size, 3, none⟩ = some (.int .u64 0) := cell_gr hw1 (by go_simp)
  have fw1_2_3 : w1.frozen? ⟨w.heap.size, 3, none⟩ = false := frozen_gr (v := .int .u64 0) hw1 (by go_simp) (by go_simp)
  have cw1_2_4 : w1.cell? ⟨w.heap.size, 4, none⟩ = some (.int .u64 0) := cell_gr hw1 (by go_simp)
  have fw1_2_4 : w1.frozen? ⟨w.heap.size, 4, none⟩ = false := frozen_gr (v := .int .u64 0) hw1 (by go_simp) (by go_simp)
  have cw1_2_5 : w1.cell? ⟨w.heap.size, 5, none⟩ = some (.int .u64 0) := cell_gr hw1 (by go_simp)
  have fw1_2_5 : w1.frozen? ⟨w.heap.size, 5, none⟩ = false := frozen_gr (v := .int .u64 0) hw1 (by go_simp) (by go_simp)
  have zw1_2 : w.heap.size < w1.heap.size := World.block_lt_of_cell? _ _ cw1_2_0
  have gw1 : Gr w w1 := Gr.trans (by have gg := gw0; have gs := gg.size; go_grown) hw1
  clear hw1 hhw1 gw0 zw0_0 cw0_0_0 cw0_0_1 cw0_0_2 cw0_0_3 zw0_1 cw0_1_0 cw0_1_1 zw0_2 cw0_2_0 fw0_2_0 cw0_2_1 fw0_2_1 cw0_2_2 fw0_2_2 cw0_2_3 fw0_2_3 cw0_2_4 fw0_2_4 cw0_2_5 fw0_2_5
  go_wp2_with fail
  rw [rounds_succ]
  go_wp2_with fail
  generalize hhw2 : (w1.setCell ⟨w.heap.size, 0, none⟩ (.int .u64 o00)) = w2
  have cw2_0_0 : w2.cell? ⟨A, 0, none⟩ = some (.int .u64 a0) := by subst hhw2; go_simp
  have cw2_0_1 : w2.cell? ⟨A, 1, none⟩ = some (.int .u64 a1) := by subst hhw2; go_simp
  have cw2_0_2 : w2.cell? ⟨A, 2, none⟩ = some (.int .u64 a2) := by subst hhw2; go_simp
  have cw2_0_3 : w2.cell? ⟨A, 3, none⟩ = some (.int .u64 a3) := by subst hhw2; go_simp
  have zw2_0 : A < w2.heap.size := World.block_lt_of_cell? _ _ cw2_0_0
  have cw2_1_0 : w2.cell? ⟨B, 0, none⟩ = some (.int .u64 b0) := by subst hhw2; go_simp
  have cw2_1_1 : w2.cell? ⟨B, 1, none⟩ = some (.int .u64 b1) := by subst hhw2; go_simp
  have zw2_1 : B < w2.heap.size := World.block_lt_of_cell? _ _ cw2_1_0
  have cw2_2_0 : w2.cell? ⟨w.heap.size, 0, none⟩ = some (.int .u64 o00) := by subst hhw2; go_simp
  have fw2_2_0 : w2.frozen? ⟨w.heap.size, 0, none⟩ = false := by subst hhw2; go_simp
  have cw2_2_1 : w2.cell? ⟨w.heap.size, 1, none⟩ = some (.int .u64 0) := by subst hhw2; go_simp
  have fw2_2_1 : w2.frozen? ⟨w.heap.size, 1, none⟩ = false := by subst hhw2; go_simp
  have cw2_2_2 : w2.cell? ⟨w.heap.size, 2, none⟩ = some (.int .u64 0) := by subst hhw2; go_simp
  have fw2_2_2 : w2.frozen? ⟨w.heap.size, 2, none⟩ = false := by subst hhw2; go_simp
  have cw2_2_3 : w2.cell? ⟨w.heap.size, 3, none⟩ = some (.int .u64 0) := by subst hhw2; go_simp
  have fw2_2_3 : w2.frozen? ⟨w.heap.size, 3, none⟩ = false := by subst hhw2; go_simp
  have cw2_2_4 : w2.cell? ⟨w.heap.size, 4, none⟩ = some (.int .u64 0) := by subst hhw2; go_simp
  have fw2_2_4 : w2.frozen? ⟨w.heap.size, 4, none⟩ = false := by subst hhw2; go_simp
  have cw2_2_5 : w2.cell? ⟨w.heap.size, 5, none⟩ = some (.int .u64 0) := by subst hhw2; go_simp
  have fw2_2_5 : w2.frozen? ⟨w.heap.size, 5, none⟩ = false := by subst hhw2; go_simp
  have zw2_2 : w.heap.size < w2.heap.size := World.block_lt_of_cell? _ _ cw2_2_0
  have gw2 : Gr w w2 := by subst hhw2; have gg := gw1; have gs := gg.size; go_grown
  clear hhw2 gw1 zw1_0 cw1_0_0 cw1_0_1 cw1_0_2 cw1_0_3 zw1_1 cw1_1_0 cw1_1_1 zw1_2 cw1_2_0 fw1_2_0 cw1_2_1 fw1_2_1 cw1_2_2 fw1_2_2 cw1_2_3 fw1_2_3 cw1_2_4 fw1_2_4 cw1_2_5 fw1_2_5
  go_wp2_with fail
  refine Hd.wp_region_tail 18 (by kernel_rfl) (by kernel_rfl) ?_
  intro KQ hKQ
  repeat (first | (refine Hd.wpG_skip (by decide) rfl ?_; simp only [Act.put, List.setIfInBounds_toArray, List.set_cons_zero, List.set_cons_succ]) | (refine Hd.wpG_want (by decide) rfl ?_; apply Exists.intro; refine ⟨?_, ?_⟩; (· intro wx gx; (obtain ⟨mx, rfl⟩ := gx); all_goals (apply Hd.gAt_of_quiet; intro K hK; go_big_quiet_op; first | exact hK _ rfl | (apply Exists.intro; refine ⟨fun _ => ?_, ?_⟩; (· fail); exact hK _ rfl))); try simp only [Act.put, List.setIfInBounds_toArray, List.set_cons_zero, List.set_cons_succ]))
  refine Hd.wpG_nil (hKQ _ ?_)
  clear hKQ KQ
  intro w3 hhw3
  have hw3 := Hd.gr_of_spread hhw3
  have cw3_0_0 : w3.cell? ⟨A, 0, none⟩ = some (.int .u64 a0) := cell_gr hw3 (by go_simp)
  have cw3_0_1 : w3.cell? ⟨A, 1, none⟩ = some (.int .u64 a1) := cell_gr hw3 (by go_simp)
  have cw3_0_2 : w3.cell? ⟨A, 2, none⟩ = some (.int .u64 a2) := cell_gr hw3 (by go_simp)
  have cw3_0_3 : w3.cell? ⟨A, 3, none⟩ = some (.int .u64 a3) := cell_gr hw3 (by go_simp)
  have zw3_0 : A < w3.heap.size := World.block_lt_of_cell? _ _ cw3_0_0
  have cw3_1_0 : w3.cell? ⟨B, 0, none⟩ = some (.int .u64 b0) := cell_gr hw3 (by go_simp)
  have cw3_1_1 : w3.cell? ⟨B, 1, none⟩ = some (.int .u64 b1) := cell_gr hw3 (by go_simp)
  have zw3_1 : B < w3.heap.size := World.block_lt_of_cell? _ _ cw3_1_0
  have cw3_2_0 : w3.cell? ⟨w.heap.size, 0, none⟩ = some (.int .u64 o00) := cell_gr hw3 (by go_simp)
  have fw3_2_0 : w3.frozen? ⟨w.heap.size, 0, none⟩ = false := frozen_gr (v := .int .u64 o00) hw3 (by go_simp) (by go_simp)
  have cw3_2_1 : w3.cell? ⟨w.heap.size, 1, none⟩ = some (.int .u64 0) := cell_gr hw3 (by go_simp)
  have fw3_2_1 : w3.frozen? ⟨w.heap.size, 1, none⟩ = false := frozen_gr (v := .int .u64 0) hw3 (by go_simp) (by go_simp)
  have cw3_2_2 : w3.cell? ⟨w.heap.size, 2, none⟩ = some (.int .u64 0) := cell_gr hw3 (by go_simp)
  have fw3_2_2 : w3.frozen? ⟨w.heap.size, 2, none⟩ = false := frozen_gr (v := .int .u64 0) hw3 (by go_simp) (by go_simp)
  have cw3_2_3 : w3.cell? ⟨w.heap.size, 3, none⟩ = some (.int .u64 0) := cell_gr hw3 (by go_simp)
  have fw3_2_3 : w3.frozen? ⟨w.heap.size, 3, none⟩ = false := frozen_gr (v := .int .u64 0) hw3 (by go_simp) (by go_simp)
  have cw3_2_4 : w3.cell? ⟨w.heap.size, 4, none⟩ = some (.int .u64 0) := cell_gr hw3 (by go_simp)
  have fw3_2_4 : w3.frozen? ⟨w.heap.size, 4, none⟩ = false := frozen_gr (v := .int .u64 0) hw3 (by go_simp) (by go_simp)
  have cw3_2_5 : w3.cell? ⟨w.heap.size, 5, none⟩ = some (.int .u64 0) := cell_gr hw3 (by go_simp)
  have fw3_2_5 : w3.frozen? ⟨w.heap.size, 5, none⟩ = false := frozen_gr (v := .int .u64 0) hw3 (by go_simp) (by go_simp)
  have zw3_2 : w.heap.size < w3.heap.size := World.block_lt_of_cell? _ _ cw3_2_0
  have gw3 : Gr w w3 := Gr.trans (by have gg := gw2; have gs := gg.size; go_grown) hw3
  clear hw3 hhw3 gw2 zw2_0 cw2_0_0 cw2_0_1 cw2_0_2 cw2_0_3 zw2_1 cw2_1_0 cw2_1_1 zw2_2 cw2_2_0 fw2_2_0 cw2_2_1 fw2_2_1 cw2_2_2 fw2_2_2 cw2_2_3 fw2_2_3 cw2_2_4 fw2_2_4 cw2_2_5 fw2_2_5
  go_wp2_with fail
  rw [rounds_succ]
  go_wp2_with fail
  generalize hhw4 : (w3.setCell ⟨w.heap.size, 1, none⟩ (.int .u64 o01)) = w4
  have cw4_0_0 : w4.cell? ⟨A, 0, none⟩ = some (.int .u64 a0) := by subst hhw4; go_simp
  have cw4_0_1 : w4.cell? ⟨A, 1, none⟩ = some (.int .u64 a1) := by subst hhw4; go_simp
  have cw4_0_2 : w4.cell? ⟨A, 2, none⟩ = some (.int .u64 a2) := by subst hhw4; go_simp
  have cw4_0_3 : w4.cell? ⟨A, 3, none⟩ = some (.int .u64 a3) := by subst hhw4; go_simp
  have zw4_0 : A < w4.heap.size := World.block_lt_of_cell? _ _ cw4_0_0
  have cw4_1_0 : w4.cell? ⟨B, 0, none⟩ = some (.int .u64 b0) := by subst hhw4; go_simp
  have cw4_1_1 : w4.cell? ⟨B, 1, none⟩ = some (.int .u64 b1) := by subst hhw4; go_simp
  have zw4_1 : B < w4.heap.size := World.block_lt_of_cell? _ _ cw4_1_0
  have cw4_2_0 : w4.cell? ⟨w.heap.size, 0, none⟩ = some (.int .u64 o00) := by subst hhw4; go_simp
  have fw4_2_0 : w4.frozen? ⟨w.heap.size, 0, none⟩ = false := by subst hhw4; go_simp
  have cw4_2_1 : w4.cell? ⟨w.heap.size, 1, none⟩ = some (.int .u64 o01) := by subst hhw4; go_simp
  have fw4_2_1 : w4.frozen? ⟨w.heap.size, 1, none⟩ = false := by subst hhw4; go_simp
  have cw4_2_2 : w4.cell? ⟨w.heap.size, 2, none⟩ = some (.int .u64 0) := by subst hhw4; go_simp
  have fw4_2_2 : w4.frozen? ⟨w.heap.size, 2, none⟩ = false := by subst hhw4; go_simp
  have cw4_2_3 : w4.cell? ⟨w.heap.size, 3, none⟩ = some (.int .u64 0) := by subst hhw4; go_simp
  have fw4_2_3 : w4.frozen? ⟨w.heap.size, 3, none⟩ = false := by subst hhw4; go_simp
  have cw4_2_4 : w4.cell? ⟨w.heap.size, 4, none⟩ = some (.int .u64 0) := by subst hhw4; go_simp
  have fw4_2_4 : w4.frozen? ⟨w.heap.size, 4, none⟩ = false := by subst hhw4; go_simp
  have cw4_2_5 : w4.cell? ⟨w.heap.size, 5, none⟩ = some (.int .u64 0) := by subst hhw4; go_simp
  have fw4_2_5 : w4.frozen? ⟨w.heap.size, 5, none⟩ = false := by subst hhw4; go_simp
  have zw4_2 : w.heap.size < w4.heap.size := World.block_lt_of_cell? _ _ cw4_2_0
  have gw4 : Gr w w4 := by subst hhw4; have gg := gw3; have gs := gg.size; go_grown
  clear hhw4 gw3 zw3_0 cw3_0_0 cw3_0_1 cw3_0_2 cw3_0_3 zw3_1 cw3_1_0 cw3_1_1 zw3_2 cw3_2_0 fw3_2_0 cw3_2_1 fw3_2_1 cw3_2_2 fw3_2_2 cw3_2_3 fw3_2_3 cw3_2_4 fw3_2_4 cw3_2_5 fw3_2_5
  go_wp2_with fail
  rw [rounds_succ]
  go_wp2_with fail
  generalize hhw5 : (w4.setCell ⟨w.heap.size, 2, none⟩ (.int .u64 c01)) = w5
  have cw5_0_0 : w5.cell? ⟨A, 0, none⟩ = some (.int .u64 a0) := by subst hhw5; go_simp
  have cw5_0_1 : w5.cell? ⟨A, 1, none⟩ = some (.int .u64 a1) := by subst hhw5; go_simp
  have cw5_0_2 : w5.cell? ⟨A, 2, none⟩ = some (.int .u64 a2) := by subst hhw5; go_simp
  have cw5_0_3 : w5.cell? ⟨A, 3, none⟩ = some (.int .u64 a3) := by subst hhw5; go_simp
  have zw5_0 : A < w5.heap.size := World.block_lt_of_cell? _ _ cw5_0_0
  have cw5_1_0 : w5.cell? ⟨B, 0, none⟩ = some (.int .u64 b0) := by subst hhw5; go_simp
  have cw5_1_1 : w5.cell? ⟨B, 1, none⟩ = some (.int .u64 b1) := by subst hhw5; go_simp
  have zw5_1 : B < w5.heap.size := World.block_lt_of_cell? _ _ cw5_1_0
  have cw5_2_0 : w5.cell? ⟨w.heap.size, 0, none⟩ = some (.int .u64 o00) := by subst hhw5; go_simp
  have fw5_2_0 : w5.frozen? ⟨w.heap.size, 0, none⟩ = false := by subst hhw5; go_simp
  have cw5_2_1 : w5.cell? ⟨w.heap.size, 1, none⟩ = some (.int .u64 o01) := by subst hhw5; go_simp
  have fw5_2_1 : w5.frozen? ⟨w.heap.size, 1, none⟩ = false := by subst hhw5; go_simp
  have cw5_2_2 : w5.cell? ⟨w.heap.size, 2, none⟩ = some (.int .u64 c01) := by subst hhw5; go_simp
  have fw5_2_2 : w5.frozen? ⟨w.heap.size, 2, none⟩ = false := by subst hhw5; go_simp
  have cw5_2_3 : w5.cell? ⟨w.heap.size, 3, none⟩ = some (.int .u64 0) := by subst hhw5; go_simp
  have fw5_2_3 : w5.frozen? ⟨w.heap.size, 3, none⟩ = false := by subst hhw5; go_simp
  have cw5_2_4 : w5.cell? ⟨w.heap.size, 4, none⟩ = some (.int .u64 0) := by subst hhw5; go_simp
  have fw5_2_4 : w5.frozen? ⟨w.heap.size, 4, none⟩ = false := by subst hhw5; go_simp
  have cw5_2_5 : w5.cell? ⟨w.heap.size, 5, none⟩ = some (.int .u64 0) := by subst hhw5; go_simp
  have fw5_2_5 : w5.frozen? ⟨w.heap.size, 5, none⟩ = false := by subst hhw5; go_simp
  have zw5_2 : w.heap.size < w5.heap.size := World.block_lt_of_cell? _ _ cw5_2_0
  have gw5 : Gr w w5 := by subst hhw5; have gg := gw4; have gs := gg.size; go_grown
  clear hhw5 gw4 zw4_0 cw4_0_0 cw4_0_1 cw4_0_2 cw4_0_3 zw4_1 cw4_1_0 cw4_1_1 zw4_2 cw4_2_0 fw4_2_0 cw4_2_1 fw4_2_1 cw4_2_2 fw4_2_2 cw4_2_3 fw4_2_3 cw4_2_4 fw4_2_4 cw4_2_5 fw4_2_5
  refine wp_loop_rounds 3 ?_
  rw [rounds_succ]
  go_wp2_with fail
  refine Hd.wp_region_tail 18 (by kernel_rfl) (by kernel_rfl) ?_
  intro KQ hKQ
  repeat (first | (refine Hd.wpG_skip (by decide) rfl ?_; simp only [Act.put, List.setIfInBounds_toArray, List.set_cons_zero, List.set_cons_succ]) | (refine Hd.wpG_want (by decide) rfl ?_; apply Exists.intro; refine ⟨?_, ?_⟩; (· intro wx gx; (obtain ⟨mx, rfl⟩ := gx); all_goals (apply Hd.gAt_of_quiet; intro K hK; go_big_quiet_op; first | exact hK _ rfl | (apply Exists.intro; refine ⟨fun _ => ?_, ?_⟩; (· fail); exact hK _ rfl))); try simp only [Act.put, List.setIfInBounds_toArray, List.set_cons_zero, List.set_cons_succ]))
  refine Hd.wpG_nil (hKQ _ ?_)
  clear hKQ KQ
  intro w6 hhw6
  have hw6 := Hd.gr_of_spread hhw6
  have cw6_0_0 : w6.cell? ⟨A, 0, none⟩ = some (.int .u64 a0) := cell_gr hw6 (by go_simp)
  have cw6_0_1 : w6.cell? ⟨A, 1, none⟩ = some (.int .u64 a1) := cell_gr hw6 (by go_simp)
  have cw6_0_2 : w6.cell? ⟨A, 2, none⟩ = some (.int .u64 a2) := cell_gr hw6 (by go_simp)
  have cw6_0_3 : w6.cell? ⟨A, 3, none⟩ = some (.int .u64 a3) := cell_gr hw6 (by go_simp)
  have zw6_0 : A < w6.heap.size := World.block_lt_of_cell? _ _ cw6_0_0
  have cw6_1_0 : w6.cell? ⟨B, 0, none⟩ = some (.int .u64 b0) := cell_gr hw6 (by go_simp)
  have cw6_1_1 : w6.cell? ⟨B, 1, none⟩ = some (.int .u64 b1) := cell_gr hw6 (by go_simp)
  have zw6_1 : B < w6.heap.size := World.block_lt_of_cell? _ _ cw6_1_0
  have cw6_2_0 : w6.cell? ⟨w.heap.size, 0, none⟩ = some (.int .u64 o00) := cell_gr hw6 (by go_simp)
  have fw6_2_0 : w6.frozen? ⟨w.heap.size, 0, none⟩ = false := frozen_gr (v := .int .u64 o00) hw6 (by go_simp) (by go_simp)
  have cw6_2_1 : w6.cell? ⟨w.heap.size, 1, none⟩ = some (.int .u64 o01) := cell_gr hw6 (by go_simp)
  have fw6_2_1 : w6.frozen? ⟨w.heap.size, 1, none⟩ = false := frozen_gr (v := .int .u64 o01) hw6 (by go_simp) (by go_simp)
  have cw6_2_2 : w6.cell? ⟨w.heap.size, 2, none⟩ = some (.int .u64 c01) := cell_gr hw6 (by go_simp)
  have fw6_2_2 : w6.frozen? ⟨w.heap.size, 2, none⟩ = false := frozen_gr (v := .int .u64 c01) hw6 (by go_simp) (by go_simp)
  have cw6_2_3 : w6.cell? ⟨w.heap.size, 3, none⟩ = some (.int .u64 0) := cell_gr hw6 (by go_simp)
  have fw6_2_3 : w6.frozen? ⟨w.heap.size, 3, none⟩ = false := frozen_gr (v := .int .u64 0) hw6 (by go_simp) (by go_simp)
  have cw6_2_4 : w6.cell? ⟨w.heap.size, 4, none⟩ = some (.int .u64 0) := cell_gr hw6 (by go_simp)
  have fw6_2_4 : w6.frozen? ⟨w.heap.size, 4, none⟩ = false := frozen_gr (v := .int .u64 0) hw6 (by go_simp) (by go_simp)
  have cw6_2_5 : w6.cell? ⟨w.heap.size, 5, none⟩ = some (.int .u64 0) := cell_gr hw6 (by go_simp)
  have fw6_2_5 : w6.frozen? ⟨w.heap.size, 5, none⟩ = false := frozen_gr (v := .int .u64 0) hw6 (by go_simp) (by go_simp)
  have zw6_2 : w.heap.size < w6.heap.size := World.block_lt_of_cell? _ _ cw6_2_0
  have gw6 : Gr w w6 := Gr.trans (by have gg := gw5; have gs := gg.size; go_grown) hw6
  clear hw6 hhw6 gw5 zw5_0 cw5_0_0 cw5_0_1 cw5_0_2 cw5_0_3 zw5_1 cw5_1_0 cw5_1_1 zw5_2 cw5_2_0 fw5_2_0 cw5_2_1 fw5_2_1 cw5_2_2 fw5_2_2 cw5_2_3 fw5_2_3 cw5_2_4 fw5_2_4 cw5_2_5 fw5_2_5
  go_wp2_with fail
  rw [rounds_succ]
  go_wp2_with fail
  generalize hhw7 : (w6.setCell ⟨w.heap.size, 1, none⟩ (.int .u64 o10)) = w7
  have cw7_0_0 : w7.cell? ⟨A, 0, none⟩ = some (.int .u64 a0) := by subst hhw7; go_simp
  have cw7_0_1 : w7.cell? ⟨A, 1, none⟩ = some (.int .u64 a1) := by subst hhw7; go_simp
  have cw7_0_2 : w7.cell? ⟨A, 2, none⟩ = some (.int .u64 a2) := by subst hhw7; go_simp
  have cw7_0_3 : w7.cell? ⟨A, 3, none⟩ = some (.int .u64 a3) := by subst hhw7; go_simp
  have zw7_0 : A < w7.heap.size := World.block_lt_of_cell? _ _ cw7_0_0
  have cw7_1_0 : w7.cell? ⟨B, 0, none⟩ = some (.int .u64 b0) := by subst hhw7; go_simp
  have cw7_1_1 : w7.cell? ⟨B, 1, none⟩ = some (.int .u64 b1) := by subst hhw7; go_simp
  have zw7_1 : B < w7.heap.size := World.block_lt_of_cell? _ _ cw7_1_0
  have cw7_2_0 : w7.cell? ⟨w.heap.size, 0, none⟩ = some (.int .u64 o00) := by subst hhw7; go_simp
  have fw7_2_0 : w7.frozen? ⟨w.heap.size, 0, none⟩ = false := by subst hhw7; go_simp
  have cw7_2_1 : w7.cell? ⟨w.heap.size, 1, none⟩ = some (.int .u64 o10) := by subst hhw7; go_simp
  have fw7_2_1 : w7.frozen? ⟨w.heap.size, 1, none⟩ = false := by subst hhw7; go_simp
  have cw7_2_2 : w7.cell? ⟨w.heap.size, 2, none⟩ = some (.int .u64 c01) := by subst hhw7; go_simp
  have fw7_2_2 : w7.frozen? ⟨w.heap.size, 2, none⟩ = false := by subst hhw7; go_simp
  have cw7_2_3 : w7.cell? ⟨w.heap.size, 3, none⟩ = some (.int .u64 0) := by subst hhw7; go_simp
  have fw7_2_3 : w7.frozen? ⟨w.heap.size, 3, none⟩ = false := by subst hhw7; go_simp
  have cw7_2_4 : w7.cell? ⟨w.heap.size, 4, none⟩ = some (.int .u64 0) := by subst hhw7; go_simp
  have fw7_2_4 : w7.frozen? ⟨w.heap.size, 4, none⟩ = false := by subst hhw7; go_simp
  have cw7_2_5 : w7.cell? ⟨w.heap.size, 5, none⟩ = some (.int .u64 0) := by subst hhw7; go_simp
  have fw7_2_5 : w7.frozen? ⟨w.heap.size, 5, none⟩ = false := by subst hhw7; go_simp
  have zw7_2 : w.heap.size < w7.heap.size := World.block_lt_of_cell? _ _ cw7_2_0
  have gw7 : Gr w w7 := by subst hhw7; have gg := gw6; have gs := gg.size; go_grown
  clear hhw7 gw6 zw6_0 cw6_0_0 cw6_0_1 cw6_0_2 cw6_0_3 zw6_1 cw6_1_0 cw6_1_1 zw6_2 cw6_2_0 fw6_2_0 cw6_2_1 fw6_2_1 cw6_2_2 fw6_2_2 cw6_2_3 fw6_2_3 cw6_2_4 fw6_2_4 cw6_2_5 fw6_2_5
  go_wp2_with fail
  refine Hd.wp_region_tail 18 (by kernel_rfl) (by kernel_rfl) ?_
  intro KQ hKQ
  repeat (first | (refine Hd.wpG_skip (by decide) rfl ?_; simp only [Act.put, List.setIfInBounds_toArray, List.set_cons_zero, List.set_cons_succ]) | (refine Hd.wpG_want (by decide) rfl ?_; apply Exists.intro; refine ⟨?_, ?_⟩; (· intro wx gx; (obtain ⟨mx, rfl⟩ := gx); all_goals (apply Hd.gAt_of_quiet; intro K hK; go_big_quiet_op; first | exact hK _ rfl | (apply Exists.intro; refine ⟨fun _ => ?_, ?_⟩; (· fail); exact hK _ rfl))); try simp only [Act.put, List.setIfInBounds_toArray, List.set_cons_zero, List.set_cons_succ]))
  refine Hd.wpG_nil (hKQ _ ?_)
  clear hKQ KQ
  intro w8 hhw8
  have hw8 := Hd.gr_of_spread hhw8
  have cw8_0_0 : w8.cell? ⟨A, 0, none⟩ = some (.int .u64 a0) := cell_gr hw8 (by go_simp)
  have cw8_0_1 : w8.cell? ⟨A, 1, none⟩ = some (.int .u64 a1) := cell_gr hw8 (by go_simp)
  have cw8_0_2 : w8.cell? ⟨A, 2, none⟩ = some (.int .u64 a2) := cell_gr hw8 (by go_simp)
  have cw8_0_3 : w8.cell? ⟨A, 3, none⟩ = some (.int .u64 a3) := cell_gr hw8 (by go_simp)
  have zw8_0 : A < w8.heap.size := World.block_lt_of_cell? _ _ cw8_0_0
  have cw8_1_0 : w8.cell? ⟨B, 0, none⟩ = some (.int .u64 b0) := cell_gr hw8 (by go_simp)
  have cw8_1_1 : w8.cell? ⟨B, 1, none⟩ = some (.int .u64 b1) := cell_gr hw8 (by go_simp)
  have zw8_1 : B < w8.heap.size := World.block_lt_of_cell? _ _ cw8_1_0
  have cw8_2_0 : w8.cell? ⟨w.heap.size, 0, none⟩ = some (.int .u64 o00) := cell_gr hw8 (by go_simp)
  have fw8_2_0 : w8.frozen? ⟨w.heap.size, 0, none⟩ = false := frozen_gr (v := .int .u64 o00) hw8 (by go_simp) (by go_simp)
  have cw8_2_1 : w8.cell? ⟨w.heap.size, 1, none⟩ = some (.int .u64 o10) := cell_gr hw8 (by go_simp)
  have fw8_2_1 : w8.frozen? ⟨w.heap.size, 1, none⟩ = false := frozen_gr (v := .int .u64 o10) hw8 (by go_simp) (by go_simp)
  have cw8_2_2 : w8.cell? ⟨w.heap.size, 2, none⟩ = some (.int .u64 c01) := cell_gr hw8 (by go_simp)
  have fw8_2_2 : w8.frozen? ⟨w.heap.size, 2, none⟩ = false := frozen_gr (v := .int .u64 c01) hw8 (by go_simp) (by go_simp)
  have cw8_2_3 : w8.cell? ⟨w.heap.size, 3, none⟩ = some (.int .u64 0) := cell_gr hw8 (by go_simp)
  have fw8_2_3 : w8.frozen? ⟨w.heap.size, 3, none⟩ = false := frozen_gr (v := .int .u64 0) hw8 (by go_simp) (by go_simp)
  have cw8_2_4 : w8.cell? ⟨w.heap.size, 4, none⟩ = some (.int .u64 0) := cell_gr hw8 (by go_simp)
  have fw8_2_4 : w8.frozen? ⟨w.heap.size, 4, none⟩ = false := frozen_gr (v := .int .u64 0) hw8 (by go_simp) (by go_simp)
  have cw8_2_5 : w8.cell? ⟨w.heap.size, 5, none⟩ = some (.int .u64 0) := cell_gr hw8 (by go_simp)
  have fw8_2_5 : w8.frozen? ⟨w.heap.size, 5, none⟩ = false := frozen_gr (v := .int .u64 0) hw8 (by go_simp) (by go_simp)
  have zw8_2 : w.heap.size < w8.heap.size := World.block_lt_of_cell? _ _ cw8_2_0
  have gw8 : Gr w w8 := Gr.trans (by have gg := gw7; have gs := gg.size; go_grown) hw8
  clear hw8 hhw8 gw7 zw7_0 cw7_0_0 cw7_0_1 cw7_0_2 cw7_0_3 zw7_1 cw7_1_0 cw7_1_1 zw7_2 cw7_2_0 fw7_2_0 cw7_2_1 fw7_2_1 cw7_2_2 fw7_2_2 cw7_2_3 fw7_2_3 cw7_2_4 fw7_2_4 cw7_2_5 fw7_2_5
  go_wp2_with fail
  rw [rounds_succ]
  go_wp2_with fail
  generalize hhw9 : (w8.setCell ⟨w.heap.size, 2, none⟩ (.int .u64 o11)) = w9
  have cw9_0_0 : w9.cell? ⟨A, 0, none⟩ = some (.int .u64 a0) := by subst hhw9; go_simp
  have cw9_0_1 : w9.cell? ⟨A, 1, none⟩ = some (.int .u64 a1) := by subst hhw9; go_simp
  have cw9_0_2 : w9.cell? ⟨A, 2, none⟩ = some (.int .u64 a2) := by subst hhw9; go_simp
  have cw9_0_3 : w9.cell? ⟨A, 3, none⟩ = some (.int .u64 a3) := by subst hhw9; go_simp
  have zw9_0 : A < w9.heap.size := World.block_lt_of_cell? _ _ cw9_0_0
  have cw9_1_0 : w9.cell? ⟨B, 0, none⟩ = some (.int .u64 b0) := by subst hhw9; go_simp
  have cw9_1_1 : w9.cell? ⟨B, 1, none⟩ = some (.int .u64 b1) := by subst hhw9; go_simp
  have zw9_1 : B < w9.heap.size := World.block_lt_of_cell? _ _ cw9_1_0
  have cw9_2_0 : w9.cell? ⟨w.heap.size, 0, none⟩ = some (.int .u64 o00) := by subst hhw9; go_simp
  have fw9_2_0 : w9.frozen? ⟨w.heap.size, 0, none⟩ = false := by subst hhw9; go_simp
  have cw9_2_1 : w9.cell? ⟨w.heap.size, 1, none⟩ = some (.int .u64 o10) := by subst hhw9; go_simp
  have fw9_2_1 : w9.frozen? ⟨w.heap.size, 1, none⟩ = false := by subst hhw9; go_simp
  have cw9_2_2 : w9.cell? ⟨w.heap.size, 2, none⟩ = some (.int .u64 o11) := by subst hhw9; go_simp
  have fw9_2_2 : w9.frozen? ⟨w.heap.size, 2, none⟩ = false := by subst hhw9; go_simp
  have cw9_2_3 : w9.cell? ⟨w.heap.size, 3, none⟩ = some (.int .u64 0) := by subst hhw9; go_simp
  have fw9_2_3 : w9.frozen? ⟨w.heap.size, 3, none⟩ = false := by subst hhw9; go_simp
  have cw9_2_4 : w9.cell? ⟨w.heap.size, 4, none⟩ = some (.int .u64 0) := by subst hhw9; go_simp
  have fw9_2_4 : w9.frozen? ⟨w.heap.size, 4, none⟩ = false := by subst hhw9; go_simp
  have cw9_2_5 : w9.cell? ⟨w.heap.size, 5, none⟩ = some (.int .u64 0) := by subst hhw9; go_simp
  have fw9_2_5 : w9.frozen? ⟨w.heap.size, 5, none⟩ = false := by subst hhw9; go_simp
  have zw9_2 : w.heap.size < w9.heap.size := World.block_lt_of_cell? _ _ cw9_2_0
  have gw9 : Gr w w9 := by subst hhw9; have gg := gw8; have gs := gg.size; go_grown
  clear hhw9 gw8 zw8_0 cw8_0_0 cw8_0_1 cw8_0_2 cw8_0_3 zw8_1 cw8_1_0 cw8_1_1 zw8_2 cw8_2_0 fw8_2_0 cw8_2_1 fw8_2_1 cw8_2_2 fw8_2_2 cw8_2_3 fw8_2_3 cw8_2_4 fw8_2_4 cw8_2_5 fw8_2_5
  go_wp2_with fail
  rw [rounds_succ]
  go_wp2_with fail
  generalize hhw10 : (w9.setCell ⟨w.heap.size, 3, none⟩ (.int .u64 c11)) = w10
  have cw10_0_0 : w10.cell? ⟨A, 0, none⟩ = some (.int .u64 a0) := by subst hhw10; go_simp
  have cw10_0_1 : w10.cell? ⟨A, 1, none⟩ = some (.int .u64 a1) := by subst hhw10; go_simp
  have cw10_0_2 : w10.cell? ⟨A, 2, none⟩ = some (.int .u64 a2) := by subst hhw10; go_simp
  have cw10_0_3 : w10.cell? ⟨A, 3, none⟩ = some (.int .u64 a3) := by subst hhw10; go_simp
  have zw10_0 : A < w10.heap.size := World.block_lt_of_cell? _ _ cw10_0_0
  have cw10_1_0 : w10.cell? ⟨B, 0, none⟩ = some (.int .u64 b0) := by subst hhw10; go_simp
  have cw10_1_1 : w10.cell? ⟨B, 1, none⟩ = some (.int .u64 b1) := by subst hhw10; go_simp
  have zw10_1 : B < w10.heap.size := World.block_lt_of_cell? _ _ cw10_1_0
  have cw10_2_0 : w10.cell? ⟨w.heap.size, 0, none⟩ = some (.int .u64 o00) := by subst hhw10; go_simp
  have fw10_2_0 : w10.frozen? ⟨w.heap.size, 0, none⟩ = false := by subst hhw10; go_simp
  have cw10_2_1 : w10.cell? ⟨w.heap.size, 1, none⟩ = some (.int .u64 o10) := by subst hhw10; go_simp
  have fw10_2_1 : w10.frozen? ⟨w.heap.size, 1, none⟩ = false := by subst hhw10; go_simp
  have cw10_2_2 : w10.cell? ⟨w.heap.size, 2, none⟩ = some (.int .u64 o11) := by subst hhw10; go_simp
  have fw10_2_2 : w10.frozen? ⟨w.heap.size, 2, none⟩ = false := by subst hhw10; go_simp
  have cw10_2_3 : w10.cell? ⟨w.heap.size, 3, none⟩ = some (.int .u64 c11) := by subst hhw10; go_simp
  have fw10_2_3 : w10.frozen? ⟨w.heap.size, 3, none⟩ = false := by subst hhw10; go_simp
  have cw10_2_4 : w10.cell? ⟨w.heap.size, 4, none⟩ = some (.int .u64 0) := by subst hhw10; go_simp
  have fw10_2_4 : w10.frozen? ⟨w.heap.size, 4, none⟩ = false := by subst hhw10; go_simp
  have cw10_2_5 : w10.cell? ⟨w.heap.size, 5, none⟩ = some (.int .u64 0) := by subst hhw10; go_simp
  have fw10_2_5 : w10.frozen? ⟨w.heap.size, 5, none⟩ = false := by subst hhw10; go_simp
  have zw10_2 : w.heap.size < w10.heap.size := World.block_lt_of_cell? _ _ cw10_2_0
  have gw10 : Gr w w10 := by subst hhw10; have gg := gw9; have gs := gg.size; go_grown
  clear hhw10 gw9 zw9_0 cw9_0_0 cw9_0_1 cw9_0_2 cw9_0_3 zw9_1 cw9_1_0 cw9_1_1 zw9_2 cw9_2_0 fw9_2_0 cw9_2_1 fw9_2_1 cw9_2_2 fw9_2_2 cw9_2_3 fw9_2_3 cw9_2_4 fw9_2_4 cw9_2_5 fw9_2_5
  refine wp_loop_rounds 3 ?_
  rw [rounds_succ]
  go_wp2_with fail
  refine Hd.wp_region_tail 18 (by kernel_rfl) (by kernel_rfl) ?_
  intro KQ hKQ
  repeat (first | (refine Hd.wpG_skip (by decide) rfl ?_; simp only [Act.put, List.setIfInBounds_toArray, List.set_cons_zero, List.set_cons_succ]) | (refine Hd.wpG_want (by decide) rfl ?_; apply Exists.intro; refine ⟨?_, ?_⟩; (· intro wx gx; (obtain ⟨mx, rfl⟩ := gx); all_goals (apply Hd.gAt_of_quiet; intro K hK; go_big_quiet_op; first | exact hK _ rfl | (apply Exists.intro; refine ⟨fun _ => ?_, ?_⟩; (· fail); exact hK _ rfl))); try simp only [Act.put, List.setIfInBounds_toArray, List.set_cons_zero, List.set_cons_succ]))
  refine Hd.wpG_nil (hKQ _ ?_)
  clear hKQ KQ
  intro w11 hhw11
  have hw11 := Hd.gr_of_spread hhw11
  have cw11_0_0 : w11.cell? ⟨A, 0, none⟩ = some (.int .u64 a0) := cell_gr hw11 (by go_simp)
  have cw11_0_1 : w11.cell? ⟨A, 1, none⟩ = some (.int .u64 a1) := cell_gr hw11 (by go_simp)
  have cw11_0_2 : w11.cell? ⟨A, 2, none⟩ = some (.int .u64 a2) := cell_gr hw11 (by go_simp)
  have cw11_0_3 : w11.cell? ⟨A, 3, none⟩ = some (.int .u64 a3) := cell_gr hw11 (by go_simp)
  have zw11_0 : A < w11.heap.size := World.block_lt_of_cell? _ _ cw11_0_0
  have cw11_1_0 : w11.cell? ⟨B, 0, none⟩ = some (.int .u64 b0) := cell_gr hw11 (by go_simp)
  have cw11_1_1 : w11.cell? ⟨B, 1, none⟩ = some (.int .u64 b1) := cell_gr hw11 (by go_simp)
  have zw11_1 : B < w11.heap.size := World.block_lt_of_cell? _ _ cw11_1_0
  have cw11_2_0 : w11.cell? ⟨w.heap.size, 0, none⟩ = some (.int .u64 o00) := cell_gr hw11 (by go_simp)
  have fw11_2_0 : w11.frozen? ⟨w.heap.size, 0, none⟩ = false := frozen_gr (v := .int .u64 o00) hw11 (by go_simp) (by go_simp)
  have cw11_2_1 : w11.cell? ⟨w.heap.size, 1, none⟩ = some (.int .u64 o10) := cell_gr hw11 (by go_simp)
  have fw11_2_1 : w11.frozen? ⟨w.heap.size, 1, none⟩ = false := frozen_gr (v := .int .u64 o10) hw11 (by go_simp) (by go_simp)
  have cw11_2_2 : w11.cell? ⟨w.heap.size, 2, none⟩ = some (.int .u64 o11) := cell_gr hw11 (by go_simp)
  have fw11_2_2 : w11.frozen? ⟨w.heap.size, 2, none⟩ = false := frozen_gr (v := .int .u64 o11) hw11 (by go_simp) (by go_simp)
  have cw11_2_3 : w11.cell? ⟨w.heap.size, 3, none⟩ = some (.int .u64 c11) := cell_gr hw11 (by go_simp)
  have fw11_2_3 : w11.frozen? ⟨w.heap.size, 3, none⟩ = false := frozen_gr (v := .int .u64 c11) hw11 (by go_simp) (by go_simp)
  have cw11_2_4 : w11.cell? ⟨w.heap.size, 4, none⟩ = some (.int .u64 0) := cell_gr hw11 (by go_simp)
  have fw11_2_4 : w11.frozen? ⟨w.heap.size, 4, none⟩ = false := frozen_gr (v := .int .u64 0) hw11 (by go_simp) (by go_simp)
  have cw11_2_5 : w11.cell? ⟨w.heap.size, 5, none⟩ = some (.int .u64 0) := cell_gr hw11 (by go_simp)
  have fw11_2_5 : w11.frozen? ⟨w.heap.size, 5, none⟩ = false := frozen_gr (v := .int .u64 0) hw11 (by go_simp) (by go_simp)
  have zw11_2 : w.heap.size < w11.heap.size := World.block_lt_of_cell? _ _ cw11_2_0
  have gw11 : Gr w w11 := Gr.trans (by have gg := gw10; have gs := gg.size; go_grown) hw11
  clear hw11 hhw11 gw10 zw10_0 cw10_0_0 cw10_0_1 cw10_0_2 cw10_0_3 zw10_1 cw10_1_0 cw10_1_1 zw10_2 cw10_2_0 fw10_2_0 cw10_2_1 fw10_2_1 cw10_2_2 fw10_2_2 cw10_2_3 fw10_2_3 cw10_2_4 fw10_2_4 cw10_2_5 fw10_2_5
  go_wp2_with fail
  rw [rounds_succ]
  go_wp2_with fail
  generalize hhw12 : (w11.setCell ⟨w.heap.size, 2, none⟩ (.int .u64 o20)) = w12
  have cw12_0_0 : w12.cell? ⟨A, 0, none⟩ = some (.int .u64 a0) := by subst hhw12; go_simp
  have cw12_0_1 : w12.cell? ⟨A, 1, none⟩ = some (.int .u64 a1) := by subst hhw12; go_simp
  have cw12_0_2 : w12.cell? ⟨A, 2, none⟩ = some (.int .u64 a2) := by subst hhw12; go_simp
  have cw12_0_3 : w12.cell? ⟨A, 3, none⟩ = some (.int .u64 a3) := by subst hhw12; go_simp
  have zw12_0 : A < w12.heap.size := World.block_lt_of_cell? _ _ cw12_0_0
  have cw12_1_0 : w12.cell? ⟨B, 0, none⟩ = some (.int .u64 b0) := by subst hhw12; go_simp
  have cw12_1_1 : w12.cell? ⟨B, 1, none⟩ = some (.int .u64 b1) := by subst hhw12; go_simp
  have zw12_1 : B < w12.heap.size := World.block_lt_of_cell? _ _ cw12_1_0
  have cw12_2_0 : w12.cell? ⟨w.heap.size, 0, none⟩ = some (.int .u64 o00) := by subst hhw12; go_simp
  have fw12_2_0 : w12.frozen? ⟨w.heap.size, 0, none⟩ = false := by subst hhw12; go_simp
  have cw12_2_1 : w12.cell? ⟨w.heap.size, 1, none⟩ = some (.int .u64 o10) := by subst hhw12; go_simp
  have fw12_2_1 : w12.frozen? ⟨w.heap.size, 1, none⟩ = false := by subst hhw12; go_simp
  have cw12_2_2 : w12.cell? ⟨w.heap.size, 2, none⟩ = some (.int .u64 o20) := by subst hhw12; go_simp
  have fw12_2_2 : w12.frozen? ⟨w.heap.size, 2, none⟩ = false := by subst hhw12; go_simp
  have cw12_2_3 : w12.cell? ⟨w.heap.size, 3, none⟩ = some (.int .u64 c11) := by subst hhw12; go_simp
  have fw12_2_3 : w12.frozen? ⟨w.heap.size, 3, none⟩ = false := by subst hhw12; go_simp
  have cw12_2_4 : w12.cell? ⟨w.heap.size, 4, none⟩ = some (.int .u64 0) := by subst hhw12; go_simp
  have fw12_2_4 : w12.frozen? ⟨w.heap.size, 4, none⟩ = false := by subst hhw12; go_simp
  have cw12_2_5 : w12.cell? ⟨w.heap.size, 5, none⟩ = some (.int .u64 0) := by subst hhw12; go_simp
  have fw12_2_5 : w12.frozen? ⟨w.heap.size, 5, none⟩ = false := by subst hhw12; go_simp
  have zw12_2 : w.heap.size < w12.heap.size := World.block_lt_of_cell? _ _ cw12_2_0
  have gw12 : Gr w w12 := by subst hhw12; have gg := gw11; have gs := gg.size; go_grown
  clear hhw12 gw11 zw11_0 cw11_0_0 cw11_0_1 cw11_0_2 cw11_0_3 zw11_1 cw11_1_0 cw11_1_1 zw11_2 cw11_2_0 fw11_2_0 cw11_2_1 fw11_2_1 cw11_2_2 fw11_2_2 cw11_2_3 fw11_2_3 cw11_2_4 fw11_2_4 cw11_2_5 fw11_2_5
  go_wp2_with fail
  refine Hd.wp_region_tail 18 (by kernel_rfl) (by kernel_rfl) ?_
  intro KQ hKQ
  repeat (first | (refine Hd.wpG_skip (by decide) rfl ?_; simp only [Act.put, List.setIfInBounds_toArray, List.set_cons_zero, List.set_cons_succ]) | (refine Hd.wpG_want (by decide) rfl ?_; apply Exists.intro; refine ⟨?_, ?_⟩; (· intro wx gx; (obtain ⟨mx, rfl⟩ := gx); all_goals (apply Hd.gAt_of_quiet; intro K hK; go_big_quiet_op; first | exact hK _ rfl | (apply Exists.intro; refine ⟨fun _ => ?_, ?_⟩; (· fail); exact hK _ rfl))); try simp only [Act.put, List.setIfInBounds_toArray, List.set_cons_zero, List.set_cons_succ]))
  refine Hd.wpG_nil (hKQ _ ?_)
  clear hKQ KQ
  intro w13 hhw13
  have hw13 := Hd.gr_of_spread hhw13
  have cw13_0_0 : w13.cell? ⟨A, 0, none⟩ = some (.int .u64 a0) := cell_gr hw13 (by go_simp)
  have cw13_0_1 : w13.cell? ⟨A, 1, none⟩ = some (.int .u64 a1) := cell_gr hw13 (by go_simp)
  have cw13_0_2 : w13.cell? ⟨A, 2, none⟩ = some (.int .u64 a2) := cell_gr hw13 (by go_simp)
  have cw13_0_3 : w13.cell? ⟨A, 3, none⟩ = some (.int .u64 a3) := cell_gr hw13 (by go_simp)
  have zw13_0 : A < w13.heap.size := World.block_lt_of_cell? _ _ cw13_0_0
  have cw13_1_0 : w13.cell? ⟨B, 0, none⟩ = some (.int .u64 b0) := cell_gr hw13 (by go_simp)
  have cw13_1_1 : w13.cell? ⟨B, 1, none⟩ = some (.int .u64 b1) := cell_gr hw13 (by go_simp)
  have zw13_1 : B < w13.heap.size := World.block_lt_of_cell? _ _ cw13_1_0
  have cw13_2_0 : w13.cell? ⟨w.heap.size, 0, none⟩ = some (.int .u64 o00) := cell_gr hw13 (by go_simp)
  have fw13_2_0 : w13.frozen? ⟨w.heap.size, 0, none⟩ = false := frozen_gr (v := .int .u64 o00) hw13 (by go_simp) (by go_simp)
  have cw13_2_1 : w13.cell? ⟨w.heap.size, 1, none⟩ = some (.int .u64 o10) := cell_gr hw13 (by go_simp)
  have fw13_2_1 : w13.frozen? ⟨w.heap.size, 1, none⟩ = false := frozen_gr (v := .int .u64 o10) hw13 (by go_simp) (by go_simp)
  have cw13_2_2 : w13.cell? ⟨w.heap.size, 2, none⟩ = some (.int .u64 o20) := cell_gr hw13 (by go_simp)
  have fw13_2_2 : w13.frozen? ⟨w.heap.size, 2, none⟩ = false := frozen_gr (v := .int .u64 o20) hw13 (by go_simp) (by go_simp)
  have cw13_2_3 : w13.cell? ⟨w.heap.size, 3, none⟩ = some (.int .u64 c11) := cell_gr hw13 (by go_simp)
  have fw13_2_3 : w13.frozen? ⟨w.heap.size, 3, none⟩ = false := frozen_gr (v := .int .u64 c11) hw13 (by go_simp) (by go_simp)
  have cw13_2_4 : w13.cell? ⟨w.heap.size, 4, none⟩ = some (.int .u64 0) := cell_gr hw13 (by go_simp)
  have fw13_2_4 : w13.frozen? ⟨w.heap.size, 4, none⟩ = false := frozen_gr (v := .int .u64 0) hw13 (by go_simp) (by go_simp)
  have cw13_2_5 : w13.cell? ⟨w.heap.size, 5, none⟩ = some (.int .u64 0) := cell_gr hw13 (by go_simp)
  have fw13_2_5 : w13.frozen? ⟨w.heap.size, 5, none⟩ = false := frozen_gr (v := .int .u64 0) hw13 (by go_simp) (by go_simp)
  have zw13_2 : w.heap.size < w13.heap.size := World.block_lt_of_cell? _ _ cw13_2_0
  have gw13 : Gr w w13 := Gr.trans (by have gg := gw12; have gs := gg.size; go_grown) hw13
  clear hw13 hhw13 gw12 zw12_0 cw12_0_0 cw12_0_1 cw12_0_2 cw12_0_3 zw12_1 cw12_1_0 cw12_1_1 zw12_2 cw12_2_0 fw12_2_0 cw12_2_1 fw12_2_1 cw12_2_2 fw12_2_2 cw12_2_3 fw12_2_3 cw12_2_4 fw12_2_4 cw12_2_5 fw12_2_5
  go_wp2_with fail
  rw [rounds_succ]
  go_wp2_with fail
  generalize hhw14 : (w13.setCell ⟨w.heap.size, 3, none⟩ (.int .u64 o21)) = w14
  have cw14_0_0 : w14.cell? ⟨A, 0, none⟩ = some (.int .u64 a0) := by subst hhw14; go_simp
  have cw14_0_1 : w14.cell? ⟨A, 1, none⟩ = some (.int .u64 a1) := by subst hhw14; go_simp
  have cw14_0_2 : w14.cell? ⟨A, 2, none⟩ = some (.int .u64 a2) := by subst hhw14; go_simp
  have cw14_0_3 : w14.cell? ⟨A, 3, none⟩ = some (.int .u64 a3) := by subst hhw14; go_simp
  have zw14_0 : A < w14.heap.size := World.block_lt_of_cell? _ _ cw14_0_0
  have cw14_1_0 : w14.cell? ⟨B, 0, none⟩ = some (.int .u64 b0) := by subst hhw14; go_simp
  have cw14_1_1 : w14.cell? ⟨B, 1, none⟩ = some (.int .u64 b1) := by subst hhw14; go_simp
  have zw14_1 : B < w14.heap.size := World.block_lt_of_cell? _ _ cw14_1_0
  have cw14_2_0 : w14.cell? ⟨w.heap.size, 0, none⟩ = some (.int .u64 o00) := by subst hhw14; go_simp
  have fw14_2_0 : w14.frozen? ⟨w.heap.size, 0, none⟩ = false := by subst hhw14; go_simp
  have cw14_2_1 : w14.cell? ⟨w.heap.size, 1, none⟩ = some (.int .u64 o10) := by subst hhw14; go_simp
  have fw14_2_1 : w14.frozen? ⟨w.heap.size, 1, none⟩ = false := by subst hhw14; go_simp
  have cw14_2_2 : w14.cell? ⟨w.heap.size, 2, none⟩ = some (.int .u64 o20) := by subst hhw14; go_simp
  have fw14_2_2 : w14.frozen? ⟨w.heap.size, 2, none⟩ = false := by subst hhw14; go_simp
  have cw14_2_3 : w14.cell? ⟨w.heap.size, 3, none⟩ = some (.int .u64 o21) := by subst hhw14; go_simp
  have fw14_2_3 : w14.frozen? ⟨w.heap.size, 3, none⟩ = false := by subst hhw14; go_simp
  have cw14_2_4 : w14.cell? ⟨w.heap.size, 4, none⟩ = some (.int .u64 0) := by subst hhw14; go_simp
  have fw14_2_4 : w14.frozen? ⟨w.heap.size, 4, none⟩ = false := by subst hhw14; go_simp
  have cw14_2_5 : w14.cell? ⟨w.heap.size, 5, none⟩ = some (.int .u64 0) := by subst hhw14; go_simp
  have fw14_2_5 : w14.frozen? ⟨w.heap.size, 5, none⟩ = false := by subst hhw14; go_simp
  have zw14_2 : w.heap.size < w14.heap.size := World.block_lt_of_cell? _ _ cw14_2_0
  have gw14 : Gr w w14 := by subst hhw14; have gg := gw13; have gs := gg.size; go_grown
  clear hhw14 gw13 zw13_0 cw13_0_0 cw13_0_1 cw13_0_2 cw13_0_3 zw13_1 cw13_1_0 cw13_1_1 zw13_2 cw13_2_0 fw13_2_0 cw13_2_1 fw13_2_1 cw13_2_2 fw13_2_2 cw13_2_3 fw13_2_3 cw13_2_4 fw13_2_4 cw13_2_5 fw13_2_5
  go_wp2_with fail
  rw [rounds_succ]
  go_wp2_with fail
  generalize hhw15 : (w14.setCell ⟨w.heap.size, 4, none⟩ (.int .u64 c21)) = w15
  have cw15_0_0 : w15.cell? ⟨A, 0, none⟩ = some (.int .u64 a0) := by subst hhw15; go_simp
  have cw15_0_1 : w15.cell? ⟨A, 1, none⟩ = some (.int .u64 a1) := by subst hhw15; go_simp
  have cw15_0_2 : w15.cell? ⟨A, 2, none⟩ = some (.int .u64 a2) := by subst hhw15; go_simp
  have cw15_0_3 : w15.cell? ⟨A, 3, none⟩ = some (.int .u64 a3) := by subst hhw15; go_simp
  have zw15_0 : A < w15.heap.size := World.block_lt_of_cell? _ _ cw15_0_0
  have cw15_1_0 : w15.cell? ⟨B, 0, none⟩ = some (.int .u64 b0) := by subst hhw15; go_simp
  have cw15_1_1 : w15.cell? ⟨B, 1, none⟩ = some (.int .u64 b1) := by subst hhw15; go_simp
  have zw15_1 : B < w15.heap.size := World.block_lt_of_cell? _ _ cw15_1_0
  have cw15_2_0 : w15.cell? ⟨w.heap.size, 0, none⟩ = some (.int .u64 o00) := by subst hhw15; go_simp
  have fw15_2_0 : w15.frozen? ⟨w.heap.size, 0, none⟩ = false := by subst hhw15; go_simp
  have cw15_2_1 : w15.cell? ⟨w.heap.size, 1, none⟩ = some (.int .u64 o10) := by subst hhw15; go_simp
  have fw15_2_1 : w15.frozen? ⟨w.heap.size, 1, none⟩ = false := by subst hhw15; go_simp
  have cw15_2_2 : w15.cell? ⟨w.heap.size, 2, none⟩ = some (.int .u64 o20) := by subst hhw15; go_simp
  have fw15_2_2 : w15.frozen? ⟨w.heap.size, 2, none⟩ = false := by subst hhw15; go_simp
  have cw15_2_3 : w15.cell? ⟨w.heap.size, 3, none⟩ = some (.int .u64 o21) := by subst hhw15; go_simp
  have fw15_2_3 : w15.frozen? ⟨w.heap.size, 3, none⟩ = false := by subst hhw15; go_simp
  have cw15_2_4 : w15.cell? ⟨w.heap.size, 4, none⟩ = some (.int .u64 c21) := by subst hhw15; go_simp
  have fw15_2_4 : w15.frozen? ⟨w.heap.size, 4, none⟩ = false := by subst hhw15; go_simp
  have cw15_2_5 : w15.cell? ⟨w.heap.size, 5, none⟩ = some (.int .u64 0) := by subst hhw15; go_simp
  have fw15_2_5 : w15.frozen? ⟨w.heap.size, 5, none⟩ = false := by subst hhw15; go_simp
  have zw15_2 : w.heap.size < w15.heap.size := World.block_lt_of_cell? _ _ cw15_2_0
  have gw15 : Gr w w15 := by subst hhw15; have gg := gw14; have gs := gg.size; go_grown
  clear hhw15 gw14 zw14_0 cw14_0_0 cw14_0_1 cw14_0_2 cw14_0_3 zw14_1 cw14_1_0 cw14_1_1 zw14_2 cw14_2_0 fw14_2_0 cw14_2_1 fw14_2_1 cw14_2_2 fw14_2_2 cw14_2_3 fw14_2_3 cw14_2_4 fw14_2_4 cw14_2_5 fw14_2_5
  refine wp_loop_rounds 3 ?_
  rw [rounds_succ]
  go_wp2_with fail
  refine Hd.wp_region_tail 18 (by kernel_rfl) (by kernel_rfl) ?_
  intro KQ hKQ
  repeat (first | (refine Hd.wpG_skip (by decide) rfl ?_; simp only [Act.put, List.setIfInBounds_toArray, List.set_cons_zero, List.set_cons_succ]) | (refine Hd.wpG_want (by decide) rfl ?_; apply Exists.intro; refine ⟨?_, ?_⟩; (· intro wx gx; (obtain ⟨mx, rfl⟩ := gx); all_goals (apply Hd.gAt_of_quiet; intro K hK; go_big_quiet_op; first | exact hK _ rfl | (apply Exists.intro; refine ⟨fun _ => ?_, ?_⟩; (· fail); exact hK _ rfl))); try simp only [Act.put, List.setIfInBounds_toArray, List.set_cons_zero, List.set_cons_succ]))
  refine Hd.wpG_nil (hKQ _ ?_)
  clear hKQ KQ
  intro w16 hhw16
  have hw16 := Hd.gr_of_spread hhw16
  have cw16_0_0 : w16.cell? ⟨A, 0, none⟩ = some (.int .u64 a0) := cell_gr hw16 (by go_simp)
  have cw16_0_1 : w16.cell? ⟨A, 1, none⟩ = some (.int .u64 a1) := cell_gr hw16 (by go_simp)
  have cw16_0_2 : w16.cell? ⟨A, 2, none⟩ = some (.int .u64 a2) := cell_gr hw16 (by go_simp)
  have cw16_0_3 : w16.cell? ⟨A, 3, none⟩ = some (.int .u64 a3) := cell_gr hw16 (by go_simp)
  have zw16_0 : A < w16.heap.size := World.block_lt_of_cell? _ _ cw16_0_0
  have cw16_1_0 : w16.cell? ⟨B, 0, none⟩ = some (.int .u64 b0) := cell_gr hw16 (by go_simp)
  have cw16_1_1 : w16.cell? ⟨B, 1, none⟩ = some (.int .u64 b1) := cell_gr hw16 (by go_simp)
  have zw16_1 : B < w16.heap.size := World.block_lt_of_cell? _ _ cw16_1_0
  have cw16_2_0 : w16.cell? ⟨w.heap.size, 0, none⟩ = some (.int .u64 o00) := cell_gr hw16 (by go_simp)
  have fw16_2_0 : w16.frozen? ⟨w.heap.size, 0, none⟩ = false := frozen_gr (v := .int .u64 o00) hw16 (by go_simp) (by go_simp)
  have cw16_2_1 : w16.cell? ⟨w.heap.size, 1, none⟩ = some (.int .u64 o10) := cell_gr hw16 (by go_simp)
  have fw16_2_1 : w16.frozen? ⟨w.heap.size, 1, none⟩ = false := frozen_gr (v := .int .u64 o10) hw16 (by go_simp) (by go_simp)
  have cw16_2_2 : w16.cell? ⟨w.heap.size, 2, none⟩ = some (.int .u64 o20) := cell_gr hw16 (by go_simp)
  have fw16_2_2 : w16.frozen? ⟨w.heap.size, 2, none⟩ = false := frozen_gr (v := .int .u64 o20) hw16 (by go_simp) (by go_simp)
  have cw16_2_3 : w16.cell? ⟨w.heap.size, 3, none⟩ = some (.int .u64 o21) := cell_gr hw16 (by go_simp)
  have fw16_2_3 : w16.frozen? ⟨w.heap.size, 3, none⟩ = false := frozen_gr (v := .int .u64 o21) hw16 (by go_simp) (by go_simp)
  have cw16_2_4 : w16.cell? ⟨w.heap.size, 4, none⟩ = some (.int .u64 c21) := cell_gr hw16 (by go_simp)
  have fw16_2_4 : w16.frozen? ⟨w.heap.size, 4, none⟩ = false := frozen_gr (v := .int .u64 c21) hw16 (by go_simp) (by go_simp)
  have cw16_2_5 : w16.cell? ⟨w.heap.size, 5, none⟩ = some (.int .u64 0) := cell_gr hw16 (by go_simp)
  have fw16_2_5 : w16.frozen? ⟨w.heap.size, 5, none⟩ = false := frozen_gr (v := .int .u64 0) hw16 (by go_simp) (by go_simp)
  have zw16_2 : w.heap.size < w16.heap.size := World.block_lt_of_cell? _ _ cw16_2_0
  have gw16 : Gr w w16 := Gr.trans (by have gg := gw15; have gs := gg.size; go_grown) hw16
  clear hw16 hhw16 gw15 zw15_0 cw15_0_0 cw15_0_1 cw15_0_2 cw15_0_3 zw15_1 cw15_1_0 cw15_1_1 zw15_2 cw15_2_0 fw15_2_0 cw15_2_1 fw15_2_1 cw15_2_2 fw15_2_2 cw15_2_3 fw15_2_3 cw15_2_4 fw15_2_4 cw15_2_5 fw15_2_5
  go_wp2_with fail
  rw [rounds_succ]
  go_wp2_with fail
  generalize hhw17 : (w16.setCell ⟨w.heap.size, 3, none⟩ (.int .u64 o30)) = w17
  have cw17_0_0 : w17.cell? ⟨A, 0, none⟩ = some (.int .u64 a0) := by subst hhw17; go_simp
  have cw17_0_1 : w17.cell? ⟨A, 1, none⟩ = some (.int .u64 a1) := by subst hhw17; go_simp
  have cw17_0_2 : w17.cell? ⟨A, 2, none⟩ = some (.int .u64 a2) := by subst hhw17; go_simp
  have cw17_0_3 : w17.cell? ⟨A, 3, none⟩ = some (.int .u64 a3) := by subst hhw17; go_simp
  have zw17_0 : A < w17.heap.size := World.block_lt_of_cell? _ _ cw17_0_0
  have cw17_1_0 : w17.cell? ⟨B, 0, none⟩ = some (.int .u64 b0) := by subst hhw17; go_simp
  have cw17_1_1 : w17.cell? ⟨B, 1, none⟩ = some (.int .u64 b1) := by subst hhw17; go_simp
  have zw17_1 : B < w17.heap.size := World.block_lt_of_cell? _ _ cw17_1_0
  have cw17_2_0 : w17.cell? ⟨w.heap.size, 0, none⟩ = some (.int .u64 o00) := by subst hhw17; go_simp
  have fw17_2_0 : w17.frozen? ⟨w.heap.size, 0, none⟩ = false := by subst hhw17; go_simp
  have cw17_2_1 : w17.cell? ⟨w.heap.size, 1, none⟩ = some (.int .u64 o10) := by subst hhw17; go_simp
  have fw17_2_1 : w17.frozen? ⟨w.heap.size, 1, none⟩ = false := by subst hhw17; go_simp
  have cw17_2_2 : w17.cell? ⟨w.heap.size, 2, none⟩ = some (.int .u64 o20) := by subst hhw17; go_simp
  have fw17_2_2 : w17.frozen? ⟨w.heap.size, 2, none⟩ = false := by subst hhw17; go_simp
  have cw17_2_3 : w17.cell? ⟨w.heap.size, 3, none⟩ = some (.int .u64 o30) := by subst hhw17; go_simp
  have fw17_2_3 : w17.frozen? ⟨w.heap.size, 3, none⟩ = false := by subst hhw17; go_simp
  have cw17_2_4 : w17.cell? ⟨w.heap.size, 4, none⟩ = some (.int .u64 c21) := by subst hhw17; go_simp
  have fw17_2_4 : w17.frozen? ⟨w.heap.size, 4, none⟩ = false := by subst hhw17; go_simp
  have cw17_2_5 : w17.cell? ⟨w.heap.size, 5, none⟩ = some (.int .u64 0) := by subst hhw17; go_simp
  have fw17_2_5 : w17.frozen? ⟨w.heap.size, 5, none⟩ = false := by subst hhw17; go_simp
  have zw17_2 : w.heap.size < w17.heap.size := World.block_lt_of_cell? _ _ cw17_2_0
  have gw17 : Gr w w17 := by subst hhw17; have gg := gw16; have gs := gg.size; go_grown
  clear hhw17 gw16 zw16_0 cw16_0_0 cw16_0_1 cw16_0_2 cw16_0_3 zw16_1 cw16_1_0 cw16_1_1 zw16_2 cw16_2_0 fw16_2_0 cw16_2_1 fw16_2_1 cw16_2_2 fw16_2_2 cw16_2_3 fw16_2_3 cw16_2_4 fw16_2_4 cw16_2_5 fw16_2_5
  go_wp2_with fail
  refine Hd.wp_region_tail 18 (by kernel_rfl) (by kernel_rfl) ?_
  intro KQ hKQ
  repeat (first | (refine Hd.wpG_skip (by decide) rfl ?_; simp only [Act.put, List.setIfInBounds_toArray, List.set_cons_zero, List.set_cons_succ]) | (refine Hd.wpG_want (by decide) rfl ?_; apply Exists.intro; refine ⟨?_, ?_⟩; (· intro wx gx; (obtain ⟨mx, rfl⟩ := gx); all_goals (apply Hd.gAt_of_quiet; intro K hK; go_big_quiet_op; first | exact hK _ rfl | (apply Exists.intro; refine ⟨fun _ => ?_, ?_⟩; (· fail); exact hK _ rfl))); try simp only [Act.put, List.setIfInBounds_toArray, List.set_cons_zero, List.set_cons_succ]))
  refine Hd.wpG_nil (hKQ _ ?_)
  clear hKQ KQ
  intro w18 hhw18
  have hw18 := Hd.gr_of_spread hhw18
  have cw18_0_0 : w18.cell? ⟨A, 0, none⟩ = some (.int .u64 a0) := cell_gr hw18 (by go_simp)
  have cw18_0_1 : w18.cell? ⟨A, 1, none⟩ = some (.int .u64 a1) := cell_gr hw18 (by go_simp)
  have cw18_0_2 : w18.cell? ⟨A, 2, none⟩ = some (.int .u64 a2) := cell_gr hw18 (by go_simp)
  have cw18_0_3 : w18.cell? ⟨A, 3, none⟩ = some (.int .u64 a3) := cell_gr hw18 (by go_simp)
  have zw18_0 : A < w18.heap.size := World.block_lt_of_cell? _ _ cw18_0_0
  have cw18_1_0 : w18.cell? ⟨B, 0, none⟩ = some (.int .u64 b0) := cell_gr hw18 (by go_simp)
  have cw18_1_1 : w18.cell? ⟨B, 1, none⟩ = some (.int .u64 b1) := cell_gr hw18 (by go_simp)
  have zw18_1 : B < w18.heap.size := World.block_lt_of_cell? _ _ cw18_1_0
  have cw18_2_0 : w18.cell? ⟨w.heap.size, 0, none⟩ = some (.int .u64 o00) := cell_gr hw18 (by go_simp)
  have fw18_2_0 : w18.frozen? ⟨w.heap.size, 0, none⟩ = false := frozen_gr (v := .int .u64 o00) hw18 (by go_simp) (by go_simp)
  have cw18_2_1 : w18.cell? ⟨w.heap.size, 1, none⟩ = some (.int .u64 o10) := cell_gr hw18 (by go_simp)
  have fw18_2_1 : w18.frozen? ⟨w.heap.size, 1, none⟩ = false := frozen_gr (v := .int .u64 o10) hw18 (by go_simp) (by go_simp)
  have cw18_2_2 : w18.cell? ⟨w.heap.size, 2, none⟩ = some (.int .u64 o20) := cell_gr hw18 (by go_simp)
  have fw18_2_2 : w18.frozen? ⟨w.heap.size, 2, none⟩ = false := frozen_gr (v := .int .u64 o20) hw18 (by go_simp) (by go_simp)
  have cw18_2_3 : w18.cell? ⟨w.heap.size, 3, none⟩ = some (.int .u64 o30) := cell_gr hw18 (by go_simp)
  have fw18_2_3 : w18.frozen? ⟨w.heap.size, 3, none⟩ = false := frozen_gr (v := .int .u64 o30) hw18 (by go_simp) (by go_simp)
  have cw18_2_4 : w18.cell? ⟨w.heap.size, 4, none⟩ = some (.int .u64 c21) := cell_gr hw18 (by go_simp)
  have fw18_2_4 : w18.frozen? ⟨w.heap.size, 4, none⟩ = false := frozen_gr (v := .int .u64 c21) hw18 (by go_simp) (by go_simp)
  have cw18_2_5 : w18.cell? ⟨w.heap.size, 5, none⟩ = some (.int .u64 0) := cell_gr hw18 (by go_simp)
  have fw18_2_5 : w18.frozen? ⟨w.heap.size, 5, none⟩ = false := frozen_gr (v := .int .u64 0) hw18 (by go_simp) (by go_simp)
  have zw18_2 : w.heap.size < w18.heap.size := World.block_lt_of_cell? _ _ cw18_2_0
  have gw18 : Gr w w18 := Gr.trans (by have gg := gw17; have gs := gg.size; go_grown) hw18
  clear hw18 hhw18 gw17 zw17_0 cw17_0_0 cw17_0_1 cw17_0_2 cw17_0_3 zw17_1 cw17_1_0 cw17_1_1 zw17_2 cw17_2_0 fw17_2_0 cw17_2_1 fw17_2_1 cw17_2_2 fw17_2_2 cw17_2_3 fw17_2_3 cw17_2_4 fw17_2_4 cw17_2_5 fw17_2_5
  go_wp2_with fail
  rw [rounds_succ]
  go_wp2_with fail
  generalize hhw19 : (w18.setCell ⟨w.heap.size, 4, none⟩ (.int .u64 o31)) = w19
  have cw19_0_0 : w19.cell? ⟨A, 0, none⟩ = some (.int .u64 a0) := by subst hhw19; go_simp
  have cw19_0_1 : w19.cell? ⟨A, 1, none⟩ = some (.int .u64 a1) := by subst hhw19; go_simp
  have cw19_0_2 : w19.cell? ⟨A, 2, none⟩ = some (.int .u64 a2) := by subst hhw19; go_simp
  have cw19_0_3 : w19.cell? ⟨A, 3, none⟩ = some (.int .u64 a3) := by subst hhw19; go_simp
  have zw19_0 : A < w19.heap.size := World.block_lt_of_cell? _ _ cw19_0_0
  have cw19_1_0 : w19.cell? ⟨B, 0, none⟩ = some (.int .u64 b0) := by subst hhw19; go_simp
  have cw19_1_1 : w19.cell? ⟨B, 1, none⟩ = some (.int .u64 b1) := by subst hhw19; go_simp
  have zw19_1 : B < w19.heap.size := World.block_lt_of_cell? _ _ cw19_1_0
  have cw19_2_0 : w19.cell? ⟨w.heap.size, 0, none⟩ = some (.int .u64 o00) := by subst hhw19; go_simp
  have fw19_2_0 : w19.frozen? ⟨w.heap.size, 0, none⟩ = false := by subst hhw19; go_simp
  have cw19_2_1 : w19.cell? ⟨w.heap.size, 1, none⟩ = some (.int .u64 o10) := by subst hhw19; go_simp
  have fw19_2_1 : w19.frozen? ⟨w.heap.size, 1, none⟩ = false := by subst hhw19; go_simp
  have cw19_2_2 : w19.cell? ⟨w.heap.size, 2, none⟩ = some (.int .u64 o20) := by subst hhw19; go_simp
  have fw19_2_2 : w19.frozen? ⟨w.heap.size, 2, none⟩ = false := by subst hhw19; go_simp
  have cw19_2_3 : w19.cell? ⟨w.heap.size, 3, none⟩ = some (.int .u64 o30) := by subst hhw19; go_simp
  have fw19_2_3 : w19.frozen? ⟨w.heap.size, 3, none⟩ = false := by subst hhw19; go_simp
  have cw19_2_4 : w19.cell? ⟨w.heap.size, 4, none⟩ = some (.int .u64 o31) := by subst hhw19; go_simp
  have fw19_2_4 : w19.frozen? ⟨w.heap.size, 4, none⟩ = false := by subst hhw19; go_simp
  have cw19_2_5 : w19.cell? ⟨w.heap.size, 5, none⟩ = some (.int .u64 0) := by subst hhw19; go_simp
  have fw19_2_5 : w19.frozen? ⟨w.heap.size, 5, none⟩ = false := by subst hhw19; go_simp
  have zw19_2 : w.heap.size < w19.heap.size := World.block_lt_of_cell? _ _ cw19_2_0
  have gw19 : Gr w w19 := by subst hhw19; have gg := gw18; have gs := gg.size; go_grown
  clear hhw19 gw18 zw18_0 cw18_0_0 cw18_0_1 cw18_0_2 cw18_0_3 zw18_1 cw18_1_0 cw18_1_1 zw18_2 cw18_2_0 fw18_2_0 cw18_2_1 fw18_2_1 cw18_2_2 fw18_2_2 cw18_2_3 fw18_2_3 cw18_2_4 fw18_2_4 cw18_2_5 fw18_2_5
  go_wp2_with fail
  rw [rounds_succ]
  go_wp2_with fail
  generalize hhw20 : (w19.setCell ⟨w.heap.size, 5, none⟩ (.int .u64 c31)) = w20
  have cw20_0_0 : w20.cell? ⟨A, 0, none⟩ = some (.int .u64 a0) := by subst hhw20; go_simp
  have cw20_0_1 : w20.cell? ⟨A, 1, none⟩ = some (.int .u64 a1) := by subst hhw20; go_simp
  have cw20_0_2 : w20.cell? ⟨A, 2, none⟩ = some (.int .u64 a2) := by subst hhw20; go_simp
  have cw20_0_3 : w20.cell? ⟨A, 3, none⟩ = some (.int .u64 a3) := by subst hhw20; go_simp
  have zw20_0 : A < w20.heap.size := World.block_lt_of_cell? _ _ cw20_0_0
  have cw20_1_0 : w20.cell? ⟨B, 0, none⟩ = some (.int .u64 b0) := by subst hhw20; go_simp
  have cw20_1_1 : w20.cell? ⟨B, 1, none⟩ = some (.int .u64 b1) := by subst hhw20; go_simp
  have zw20_1 : B < w20.heap.size := World.block_lt_of_cell? _ _ cw20_1_0
  have cw20_2_0 : w20.cell? ⟨w.heap.size, 0, none⟩ = some (.int .u64 o00) := by subst hhw20; go_simp
  have fw20_2_0 : w20.frozen? ⟨w.heap.size, 0, none⟩ = false := by subst hhw20; go_simp
  have cw20_2_1 : w20.cell? ⟨w.heap.size, 1, none⟩ = some (.int .u64 o10) := by subst hhw20; go_simp
  have fw20_2_1 : w20.frozen? ⟨w.heap.size, 1, none⟩ = false := by subst hhw20; go_simp
  have cw20_2_2 : w20.cell? ⟨w.heap.size, 2, none⟩ = some (.int .u64 o20) := by subst hhw20; go_simp
  have fw20_2_2 : w20.frozen? ⟨w.heap.size, 2, none⟩ = false := by subst hhw20; go_simp
  have cw20_2_3 : w20.cell? ⟨w.heap.size, 3, none⟩ = some (.int .u64 o30) := by subst hhw20; go_simp
  have fw20_2_3 : w20.frozen? ⟨w.heap.size, 3, none⟩ = false := by subst hhw20; go_simp
  have cw20_2_4 : w20.cell? ⟨w.heap.size, 4, none⟩ = some (.int .u64 o31) := by subst hhw20; go_simp
  have fw20_2_4 : w20.frozen? ⟨w.heap.size, 4, none⟩ = false := by subst hhw20; go_simp
  have cw20_2_5 : w20.cell? ⟨w.heap.size, 5, none⟩ = some (.int .u64 c31) := by subst hhw20; go_simp
  have fw20_2_5 : w20.frozen? ⟨w.heap.size, 5, none⟩ = false := by subst hhw20; go_simp
  have zw20_2 : w.heap.size < w20.heap.size := World.block_lt_of_cell? _ _ cw20_2_0
  have gw20 : Gr w w20 := by subst hhw20; have gg := gw19; have gs := gg.size; go_grown
  clear hhw20 gw19 zw19_0 cw19_0_0 cw19_0_1 cw19_0_2 cw19_0_3 zw19_1 cw19_1_0 cw19_1_1 zw19_2 cw19_2_0 fw19_2_0 cw19_2_1 fw19_2_1 cw19_2_2 fw19_2_2 cw19_2_3 fw19_2_3 cw19_2_4 fw19_2_4 cw19_2_5 fw19_2_5
  go_wp2_with fail
  go_ret
  exact ⟨w.heap.size, rfl, by go_simp, by go_simp, by go_simp, by go_simp, by go_simp, by go_simp, gw20⟩
end Go.Proofs.YtogflfepkddbhaaDoor
