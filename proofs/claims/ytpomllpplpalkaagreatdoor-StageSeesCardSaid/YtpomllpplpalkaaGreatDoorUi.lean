/- rel.edgeMeets: an edge and a ring's edges -/
import Derived.Test.YtpomllpplpalkaaGreatDoorUc
namespace Go.Proofs.YtpomllpplpalkaaGreatDoor
set_option linter.unusedVariables false
open Go.ChangeShapes Go.WideShapes Go.ChangeAt Go.RowKit Go.Shelf
attribute [local go_sem] Oper.semAt_some

def emW (n : Nat) (X Y : Nat → Int) (px py qx qy : Int) (pre : List Nat) : Bool := pre.any fun k => meG px py qx qy (X k) (Y k) (X (Rg.nx1 n k)) (Y (Rg.nx1 n k))
theorem emW_snoc (n : Nat) (X Y : Nat → Int) (px py qx qy : Int) (pre : List Nat) (k : Nat) : emW n X Y px py qx qy (pre ++ [k]) = (emW n X Y px py qx qy pre || meG px py qx qy (X k) (Y k) (X (Rg.nx1 n k)) (Y (Rg.nx1 n k))) := by
  unfold emW; rw [List.any_append]; simp
theorem emW_mono {n : Nat} {X Y : Nat → Int} {px py qx qy : Int} {k : Nat} (hk : k ≤ n) (h : emW n X Y px py qx qy (List.range k) = true) : emW n X Y px py qx qy (List.range n) = true := by
  unfold emW at *
  rw [List.any_eq_true] at *
  obtain ⟨x, h1, h2⟩ := h
  exact ⟨x, List.mem_range.2 (by have := List.mem_range.1 h1; omega), h2⟩
set_option maxHeartbeats 4000000 in
set_option maxRecDepth 100000 in
theorem c_edgeMeets {n : Nat} {X Y : Nat → Int} {v : Value} {px py qx qy : Int} (w : World) (h : Pts w v n X Y) (h1 : 1 ≤ n) (hn : n ≤ 1000) :
    Calls Tryz.prog 202 #[.agg #[.int .i64 px, .int .i64 py], .agg #[.int .i64 qx, .int .i64 qy], v] w fun e w' => e = .returned (.bool (emW n X Y px py qx qy (List.range n))) ∧ Gr w w' := by
  obtain ⟨ad, cap, B, off, rfl, q1, q2, q3, q4⟩ := h
  obtain rfl := q3 (by omega)
  have hB : B < w.heap.size := World.block_lt_of_cell? _ _ (q4 0 (by omega)).1
  have HC := Lib.hid q4
  have hmx : Tryz.prog.follows .mixedOrders = true := by kernel_rfl
  clear q3 q4
  refine (callsIn_wide (n := 10)).1 ?_
  refine callsIn_of_wp_marks Tryz.func202 rfl trivial ?_ rfl
  simp only [Tryz.ntmps202, List.size_toArray, List.length_cons, List.length_nil, Nat.reduceAdd, Nat.reduceSub, Array.replicate_succ, Array.replicate_zero, List.push_toArray, List.append_toArray, List.nil_append, List.cons_append]
  have n0 : 0 < n := by omega
  gi_wp2_with (refine ⟨trivial, ?_⟩; gi_at_call 118; refine (callsIn_wide.2 (c_Edges _ _ _ _)).mono ?_; rintro e w' ⟨rfl, rfl⟩)
  have bP : Box2 (w.alloc (.cells #[.int .i64 px, .int .i64 py] 58)) w.heap.size px py := Box2.new w px py
  have bQ := Box2.new (w.alloc (.cells #[.int .i64 px, .int .i64 py] 58)) qx qy
  have bR := Boxed.new ((w.alloc (.cells #[.int .i64 px, .int .i64 py] 58)).alloc (.cells #[.int .i64 qx, .int .i64 qy] 58)) 4 (.bool false)
  have bE := Boxed.new (((w.alloc (.cells #[.int .i64 px, .int .i64 py] 58)).alloc (.cells #[.int .i64 qx, .int .i64 qy] 58)).alloc (.cells #[.bool false] 4)) 32 (.slice (some ⟨B, off, none⟩) n cap)
  have bP0 := ((bP.alloc (.cells #[.int .i64 qx, .int .i64 qy] 58)).alloc (.cells #[.bool false] 4)).alloc (.cells #[.slice (some ⟨B, off, none⟩) n cap] 32)
  have bQ0 := (bQ.alloc (.cells #[.bool false] 4)).alloc (.cells #[.slice (some ⟨B, off, none⟩) n cap] 32)
  have bR0 := bR.alloc (.cells #[.slice (some ⟨B, off, none⟩) n cap] 32)
  have hG0 : Gr w ((((w.alloc (.cells #[.int .i64 px, .int .i64 py] 58)).alloc (.cells #[.int .i64 qx, .int .i64 qy] 58)).alloc (.cells #[.bool false] 4)).alloc (.cells #[.slice (some ⟨B, off, none⟩) n cap] 32)) := by go_grown
  have hsz : ((((w.alloc (.cells #[.int .i64 px, .int .i64 py] 58)).alloc (.cells #[.int .i64 qx, .int .i64 qy] 58)).alloc (.cells #[.bool false] 4)).alloc (.cells #[.slice (some ⟨B, off, none⟩) n cap] 32)).heap.size = w.heap.size + 4 := by simp
  simp only [World.size_alloc] at bE bR0 bQ0
  obtain ⟨W0, hW0⟩ : ∃ W0, ((((w.alloc (.cells #[.int .i64 px, .int .i64 py] 58)).alloc (.cells #[.int .i64 qx, .int .i64 qy] 58)).alloc (.cells #[.bool false] 4)).alloc (.cells #[.slice (some ⟨B, off, none⟩) n cap] 32)) = W0 := ⟨_, rfl⟩
  rw [hW0] at bE bP0 bQ0 bR0 hG0 hsz ⊢
  clear hW0 bP bQ bR
  refine wpIn_rangeFunc_ownH rfl (by decide) (gf := 162) (lb := #[.pointer (some ⟨w.heap.size + 1 + 1 + 1, 0, none⟩)]) rfl trivial (enters_of Tryz.func162 (by kernel_rfl) rfl)
    (edges_stops (10 - 1) (by decide) (w.heap.size + 1 + 1 + 1) B off n cap X Y hn h1 W0 bE.cell q1 q2 (fun k hk => ⟨cell_gr hG0 (HC.out k hk).1, cell_gr hG0 (HC.out k hk).2⟩)) KK.trans (kk_put (by omega) (by omega)) (Below.refl _ _) (fun _ => rfl)
    (fun pre W => (Boxed W (w.heap.size + 1 + 1) 4 (.bool false)) ∧ (((Box2 W w.heap.size px py ∧ Box2 W (w.heap.size + 1) qx qy) ∧ emW n X Y px py qx qy pre = false) ∧ (w.heap.size + 4 ≤ W.heap.size ∧ Below w.heap.size w W)))
    (fun c pre W => (c = .ret ∧ emW n X Y px py qx qy pre = true) ∧ (Boxed W (w.heap.size + 1 + 1) 4 (.bool true) ∧ Below w.heap.size w W))
    (OwnFrom.and (Own.from (boxed_own _ _ _) _) (OwnFrom.and (OwnFrom.and (OwnFrom.and (Own.from (box2_own _ _ _) _) (Own.from (box2_own _ _ _) _)) (ownFrom_pure _ _)) (OwnFrom.and (fun _ P Q row hs hg hr => Nat.le_trans hs hg.size) (ownFrom_below (Nat.le_refl _) (by omega)))))
    (fun c => OwnFrom.and (ownFrom_pure _ _) (OwnFrom.and (Own.from (boxed_own _ _ _) _) (ownFrom_below (Nat.le_refl _) (by omega))))
    ⟨bR0, ⟨⟨bP0, bQ0⟩, rfl⟩, by omega, hG0⟩
    (fun x a' W => ∃ Ba Bb, w.heap.size + 4 ≤ Ba ∧ w.heap.size + 4 ≤ Bb ∧ Box2 W Ba (X x) (Y x) ∧ Box2 W Bb (X (Rg.nx1 n x)) (Y (Rg.nx1 n x)) ∧ a' = { tmps := #[.agg #[.int .i64 px, .int .i64 py], .agg #[.int .i64 qx, .int .i64 qy], .slice (some ⟨B, off, none⟩) n cap, .pointer (some ⟨w.heap.size, 0, none⟩), .pointer (some ⟨w.heap.size + 1, 0, none⟩), undef, .pointer (some ⟨w.heap.size + 1 + 1, 0, none⟩), .pointer (some ⟨Ba, 0, none⟩), .pointer (some ⟨Bb, 0, none⟩), .slice (some ⟨B, off, none⟩) n cap, .func (.func 162) #[] #[.pointer (some ⟨w.heap.size + 1 + 1 + 1, 0, none⟩)], .agg #[.int .i64 (X x), .int .i64 (Y x)], .agg #[.int .i64 (X (Rg.nx1 n x)), .int .i64 (Y (Rg.nx1 n x))], undef, undef, undef, undef, undef], defers := [] })
    (fun x a' _ P Q row hs hg hr => by obtain ⟨Ba, Bb, i1, i2, i3, i4, i5⟩ := hs; exact ⟨Ba, Bb, i1, i2, box2_notcells i3 hg (fun r e => (hr r e).2), box2_notcells i4 hg (fun r e => (hr r e).2), i5⟩)
    ?assign ?body ?done ?stop
  case assign =>
    rintro l pre x W K ⟨bR1, ⟨⟨bP1, bQ1⟩, hon⟩, hs3, hB1⟩ hK
    gi_wp2
    have gA : Gr W ((W.alloc (.cells #[.int .i64 (X x), .int .i64 (Y x)] 58)).alloc (.cells #[.int .i64 (X (Rg.nx1 n x)), .int .i64 (Y (Rg.nx1 n x))] 58)) := by go_grown
    exact hK _ _ ((gr_keeps gA).from _) ((KK.refl _ _ _).gr gA (by omega) (by omega)) ⟨(bR1.alloc _).alloc _, ⟨⟨(bP1.alloc _).alloc _, (bQ1.alloc _).alloc _⟩, hon⟩, Nat.le_trans hs3 gA.size, Gr.trans hB1 gA⟩
      ⟨W.heap.size, W.heap.size + 1, hs3, by omega, (Box2.new W (X x) (Y x)).alloc _, (by have := Box2.new (W.alloc (.cells #[.int .i64 (X x), .int .i64 (Y x)] 58)) (X (Rg.nx1 n x)) (Y (Rg.nx1 n x)); rwa [World.size_alloc] at this), rfl⟩
  case body =>
    rintro l pre x a' W hl ⟨r, hr⟩ ⟨bR1, ⟨⟨bP1, bQ1⟩, hon⟩, hs3, hB1⟩ ⟨Ba, Bb, hBa, hBb, bA, bB, rfl⟩ hlt
    obtain ⟨a0, a1⟩ := bA.cells
    obtain ⟨b0, b1⟩ := bB.cells
    obtain ⟨p0, p1⟩ := bP1.cells
    obtain ⟨s0, s1⟩ := bQ1.cells
    have cR := bR1.cell
    have fR := bR1.frozen
    have hso := emW_snoc n X Y px py qx qy pre x
    rw [hon, Bool.false_or] at hso
    have CO := c_gMeet px py qx qy (X x) (Y x) (X (Rg.nx1 n x)) (Y (Rg.nx1 n x))
    generalize meG px py qx qy (X x) (Y x) (X (Rg.nx1 n x)) (Y (Rg.nx1 n x)) = og at CO hso
    generalize X x = xa at a0 CO
    generalize Y x = ya at a1 CO
    generalize X (Rg.nx1 n x) = xb at b0 CO
    generalize Y (Rg.nx1 n x) = yb at b1 CO
    have HCO := Lib.hid CO
    have HSO := Lib.hid hso
    have HB := Lib.hid (And.intro bR1 (And.intro bP1 bQ1))
    clear CO hso hon bA bB bR1 bP1 bQ1
    cases og
    · gi_wp2_with (refine ⟨trivial, ?_⟩; gi_at_call 227; (refine (CallsIn.inRound l (callsIn_wide.2 (HCO.out _))).mono ?_); rintro e w2 ⟨rfl, g2⟩)
      obtain ⟨bR1, bP1, bQ1⟩ := HB.out
      have g2s := g2.size
      exact ⟨(gr_keeps g2).from _, (KK.refl B (w.heap.size + 1 + 1 + 1) W).gr g2 (by omega) (by omega), ⟨bR1.kept (gr_grown g2) (by simp), ⟨⟨bP1.kept (gr_grown g2) (by simp), bQ1.kept (gr_grown g2) (by simp)⟩, HSO.out⟩, by omega, Gr.trans hB1 g2⟩⟩
    · gi_wp2_with (refine ⟨trivial, ?_⟩; gi_at_call 227; (refine (CallsIn.inRound l (callsIn_wide.2 (HCO.out _))).mono ?_); rintro e w2 ⟨rfl, g2⟩; have dR := cell_gr g2 cR; have eR := frozen_gr g2 cR fR)
      obtain ⟨bR1, bP1, bQ1⟩ := HB.out
      exact ⟨((gr_keeps g2).trans (KeepsOthers.setCell _ _ _)).from _, ⟨rfl, HSO.out⟩, (bR1.kept (gr_grown g2) (by simp)).set _, (Gr.trans hB1 g2).setCell (p := ⟨w.heap.size + 1 + 1, 0, none⟩) (by show w.heap.size ≤ w.heap.size + 1 + 1; omega) _⟩
  case done =>
    rintro D ys W' hD rfl ⟨bR1, ⟨⟨bP1, bQ1⟩, hon⟩, hs3, hB1⟩ hK
    have cR := bR1.cell
    have fR := bR1.frozen
    gi_wp2
    rw [hon]
    have hK2 : (W'.setCell ⟨w.heap.size + 1 + 1, 0, none⟩ (.bool false)).heap[D]? = some (.deferred (some [])) := (KeepsOthers.setCell _ _ _).same D _ hK rfl
    have hc2 := cell_kept (bR1.set (.bool false)).cell (grownBy_putObj' _ D (.deferred none)) (fun r e => by cases e; exact ⟨_, hK2, rfl⟩)
    refine ⟨by simp, .inl ⟨_, _, rfl, run_takeDeferred hK2, ?_⟩⟩
    exact ⟨_, results_cell1 rfl rfl (Tryz.underlying4) rfl hc2, rfl, (hB1.setCell (p := ⟨w.heap.size + 1 + 1, 0, none⟩) (by show w.heap.size ≤ w.heap.size + 1 + 1; omega) _).trans (belowK_b (w := w) (Nat.le_refl _) _ D _ _ (by omega) hK2 rfl rfl)⟩
  case stop =>
    rintro D c pre W hD ⟨k, hk, rfl⟩ ⟨⟨rfl, hon⟩, bR1, hB1⟩ hK
    have cR := bR1.cell
    gi_wp2
    have hc2 := cell_kept cR (grownBy_putObj' _ D (.deferred none)) (fun r e => by cases e; exact ⟨_, hK, rfl⟩)
    rw [emW_mono hk hon]
    refine ⟨by simp, .inl ⟨_, _, rfl, run_takeDeferred hK, ?_⟩⟩
    exact ⟨_, results_cell1 rfl rfl (Tryz.underlying4) rfl hc2, rfl, hB1.trans (belowK_b (w := w) (Nat.le_refl _) _ D _ _ (by omega) hK rfl rfl)⟩
end Go.Proofs.YtpomllpplpalkaaGreatDoor
