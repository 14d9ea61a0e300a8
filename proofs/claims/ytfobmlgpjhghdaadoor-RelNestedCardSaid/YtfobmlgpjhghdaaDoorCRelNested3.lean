/- What RelNested leans on: Uj Ue Uf Ug Uk Um Un Id Ia Ib Ob Uq Rt -/
import Derived.Test.YtfobmlgpjhghdaaDoorCRelNested2
import Derived.Lib.SmallJoins
namespace Go.Proofs.YtfobmlgpjhghdaaDoor
set_option linter.unusedVariables false
open Go.ChangeShapes Go.WideShapes Go.ChangeAt Go.RowKit Go.Shelf
attribute [local go_sem] Oper.semAt_some
def rmE (n : Nat) (X Y : Nat → Int) (m : Nat) (P Q : Nat → Int) (lx ly hx hy : Int) (k : Nat) : Bool := mbG (X k) (Y k) (X (Rg.nx1 n k)) (Y (Rg.nx1 n k)) lx ly hx hy && emW m P Q (X k) (Y k) (X (Rg.nx1 n k)) (Y (Rg.nx1 n k)) (List.range m)
def rmW (n : Nat) (X Y : Nat → Int) (m : Nat) (P Q : Nat → Int) (lx ly hx hy : Int) (pre : List Nat) : Bool := pre.any fun k => rmE n X Y m P Q lx ly hx hy k
theorem rmW_snoc (n : Nat) (X Y : Nat → Int) (m : Nat) (P Q : Nat → Int) (lx ly hx hy : Int) (pre : List Nat) (k : Nat) : rmW n X Y m P Q lx ly hx hy (pre ++ [k]) = (rmW n X Y m P Q lx ly hx hy pre || rmE n X Y m P Q lx ly hx hy k) := by
  unfold rmW; rw [List.any_append]; simp
theorem rmW_mono {n : Nat} {X Y : Nat → Int} {m : Nat} {P Q : Nat → Int} {lx ly hx hy : Int} {k : Nat} (hk : k ≤ n) (h : rmW n X Y m P Q lx ly hx hy (List.range k) = true) : rmW n X Y m P Q lx ly hx hy (List.range n) = true := by
  unfold rmW at *
  rw [List.any_eq_true] at *
  obtain ⟨x, h1, h2⟩ := h
  exact ⟨x, List.mem_range.2 (by have := List.mem_range.1 h1; omega), h2⟩
set_option maxHeartbeats 8000000 in
set_option maxRecDepth 100000 in
theorem c_rings {n m : Nat} {X Y P Q : Nat → Int} {v u : Value} {lx ly hx hy : Int} (w : World) (h : Pts w v n X Y) (hu : Pts w u m P Q) (h0 : (Rg.ringC n X Y).1 = 0) (h9 : (Rg.ringC m P Q).1 = 0) (e1 : mnN P m = lx) (e2 : mnN Q m = ly) (e3 : mxN P m = hx) (e4 : mxN Q m = hy) (hm : arM n X Y lx ly hx hy = true) :
    Calls Tryd.prog 51 #[v, u] w fun e w' => e = .returned (.bool (rmW n X Y m P Q lx ly hx hy (List.range n) || ((nearB (P 0) (Q 0) && Rg.hasN n X Y (P 0) (Q 0)) || (nearB (X 0) (Y 0) && Rg.hasN m P Q (X 0) (Y 0))))) ∧ Gr w w' := by
  have A1 := fun w' (g : Gr w w') => c_AroundN w' (pts_gr h g) (by have := (Rg.ringC_ok h0).1; omega)
  have A2 := fun w' => c_Meets (mnN X n) (mnN Y n) (mxN X n) (mxN Y n) lx ly hx hy w'
  have A3 := fun w' (g : Gr w w') => c_hs w h h0 (P 0) (Q 0) w' g
  have A4 := fun w' (g : Gr w w') => c_hs w hu h9 (X 0) (Y 0) w' g
  have A5 := fun w' (g : Gr w w') => c_AroundN w' (pts_gr hu g) (by have := (Rg.ringC_ok h9).1; omega)
  have A6 := fun (px py qx qy : Int) w' (g : Gr w w') => c_edgeMeets (px := px) (py := py) (qx := qx) (qy := qy) w' (pts_gr hu g) (by have := (Rg.ringC_ok h9).1; omega) (by have := (Rg.ringC_ok h9).1; omega)
  rw [e1, e2, e3, e4] at A5
  unfold arM at hm
  rw [hm] at A2
  have h1 : 1 ≤ n := by have := (Rg.ringC_ok h0).1; omega
  have hn : n ≤ 1000 := by have := (Rg.ringC_ok h0).1; omega
  have m1 : 1 ≤ m := by have := (Rg.ringC_ok h9).1; omega
  generalize hz : (nearB (P 0) (Q 0) && Rg.hasN n X Y (P 0) (Q 0)) = z1 at A3 ⊢
  generalize hz2 : (nearB (X 0) (Y 0) && Rg.hasN m P Q (X 0) (Y 0)) = z2 at A4 ⊢
  obtain ⟨ad, cap, B, off, rfl, q1, q2, q3, q4⟩ := h
  obtain rfl := q3 (by omega)
  obtain ⟨bd, bcap, C, oc, rfl, r1, r2, r3, r4⟩ := hu
  obtain rfl := r3 (by omega)
  have hB : B < w.heap.size := World.block_lt_of_cell? _ _ (q4 0 (by omega)).1
  have hC9 : C < w.heap.size := World.block_lt_of_cell? _ _ (r4 0 (by omega)).1
  have HC := Lib.hid q4
  have HD := Lib.hid (r4 0 (by omega))
  have hmx : Tryd.prog.follows .mixedOrders = true := by kernel_rfl
  have H1 := Lib.hid A1
  have H2 := Lib.hid A2
  have H3 := Lib.hid A3
  have H4 := Lib.hid A4
  have H5 := Lib.hid A5
  have H6 := Lib.hid A6
  clear A1 A2 A3 A4 A5 A6
  clear q3 q4 r3 r4 hm h0 h9 e1 e2 e3 e4 hz hz2
  refine (callsIn_wide (n := 10)).1 ?_
  refine callsIn_of_wp_marks Tryd.func51 rfl trivial ?_ rfl
  simp only [Tryd.ntmps51, List.size_toArray, List.length_cons, List.length_nil, Nat.reduceAdd, Nat.reduceSub, Array.replicate_succ, Array.replicate_zero, List.push_toArray, List.append_toArray, List.nil_append, List.cons_append]
  have n0 : 0 < n := by omega
  gi_wp2_with (refine ⟨trivial, ?_⟩; gi_at_call 36; refine (callsIn_wide.2 (H5.out _ (by go_grown))).mono ?_; rintro e w1 ⟨rfl, g1⟩)
  have g1s := g1.size
  simp only [World.size_alloc] at g1s
  have bS : Boxed w1 w.heap.size 22 (.slice (some ⟨C, oc, none⟩) m bcap) := ((Boxed.new w 22 (.slice (some ⟨C, oc, none⟩) m bcap)).alloc (.cells #[.bool false] 4)).kept (gr_grown g1) (by simp)
  have bR : Boxed w1 (w.heap.size + 1) 4 (.bool false) := by
    have h := Boxed.new (w.alloc (.cells #[(.slice (some ⟨C, oc, none⟩) m bcap)] 22)) 4 (.bool false)
    rw [World.size_alloc] at h
    exact h.kept (gr_grown g1) (by simp)
  have bP := Box4.new w1 lx ly hx hy
  have bS0 := bS.alloc (.cells #[.int .i64 lx, .int .i64 ly, .int .i64 hx, .int .i64 hy] 28)
  have bR0 := bR.alloc (.cells #[.int .i64 lx, .int .i64 ly, .int .i64 hx, .int .i64 hy] 28)
  have hG0 : Gr w (w1.alloc (.cells #[.int .i64 lx, .int .i64 ly, .int .i64 hx, .int .i64 hy] 28)) := Gr.trans (Gr.trans (by go_grown) g1) (by go_grown)
  have hsz : (w1.alloc (.cells #[.int .i64 lx, .int .i64 ly, .int .i64 hx, .int .i64 hy] 28)).heap.size = w1.heap.size + 1 := by simp
  obtain ⟨W1, hW1⟩ : ∃ W1, w1.alloc (.cells #[.int .i64 lx, .int .i64 ly, .int .i64 hx, .int .i64 hy] 28) = W1 := ⟨_, rfl⟩
  rw [hW1] at bS0 bR0 bP hG0 hsz ⊢
  obtain ⟨s, hs⟩ : ∃ s, w1.heap.size = s := ⟨_, rfl⟩
  rw [hs] at bP hsz g1s ⊢
  clear hW1 bS bR g1 hs
  obtain ⟨b0, b1, b2, b3⟩ := bP.cells
  refine wpIn_mono (Q := Exit.then (fun a' W2 => a' = { tmps := #[.slice (some ⟨B, off, none⟩) n cap, .slice (some ⟨C, oc, none⟩) m bcap, undef, .pointer (some ⟨w.heap.size, 0, none⟩), .pointer (some ⟨w.heap.size + 1, 0, none⟩), .pointer (some ⟨s, 0, none⟩), undef, undef, .slice (some ⟨C, oc, none⟩) m bcap, .agg #[.int .i64 lx, .int .i64 ly, .int .i64 hx, .int .i64 hy], .slice (some ⟨B, off, none⟩) n cap, .agg #[.int .i64 (mnN X n), .int .i64 (mnN Y n), .int .i64 (mxN X n), .int .i64 (mxN Y n)], .agg #[.int .i64 lx, .int .i64 ly, .int .i64 hx, .int .i64 hy], .bool true, .bool false, undef, undef, undef, undef, undef, undef, undef, undef, undef, undef, undef, undef, undef, undef, undef, undef, undef, undef, undef, undef, undef, undef, undef, undef, undef, undef], defers := [] } ∧ Gr W1 W2) (fun _ _ _ => False)) ?_ ?_
  · generalize mnN X n = x1 at H1 H2 ⊢
    generalize mnN Y n = x2 at H1 H2 ⊢
    generalize mxN X n = x3 at H1 H2 ⊢
    generalize mxN Y n = x4 at H1 H2 ⊢
    gi_region_with_o (first
      | (refine ⟨trivial, ?_⟩; gi_at_call 36; (refine (callsIn_wide.2 (H1.out _ (Gr.trans hG0 (by go_grown)))).mono ?_); rintro e w' ⟨rfl, gx⟩; (have gy : Gr W1 w' := Gr.trans (by go_grown) gx); (have d0 := cell_gr gy b0); (have d1 := cell_gr gy b1); (have d2 := cell_gr gy b2); (have d3 := cell_gr gy b3); clear gx)
      | (gi_at_call 36; (refine (callsIn_wide.2 (H1.out _ (Gr.trans hG0 (by go_grown)))).mono ?_); rintro e w' ⟨rfl, gx⟩; (have gy : Gr W1 w' := Gr.trans (by go_grown) gx); (have d0 := cell_gr gy b0); (have d1 := cell_gr gy b1); (have d2 := cell_gr gy b2); (have d3 := cell_gr gy b3); clear gx)
      | (refine ⟨trivial, ?_⟩; gi_at_call 50; (refine (callsIn_wide.2 (H2.out _)).mono ?_); rintro e w'' ⟨rfl, gx⟩; (have gz : Gr W1 w'' := Gr.trans gy (Gr.trans (by go_grown) gx)); clear gx)
      | (gi_at_call 50; (refine (callsIn_wide.2 (H2.out _)).mono ?_); rintro e w'' ⟨rfl, gx⟩; (have gz : Gr W1 w'' := Gr.trans gy (Gr.trans (by go_grown) gx)); clear gx))
    all_goals exact ⟨rfl, Gr.trans gz (by go_grown)⟩
  intro e a' W2 hh
  cases e
  all_goals try exact False.elim hh
  obtain ⟨rfl, g2⟩ := hh
  dsimp only [Exit.then]
  have g2s := g2.size
  have bP2 : Box4 W2 s lx ly hx hy := bP.kept (gr_grown g2) (by simp)
  have bS2 : Boxed W2 w.heap.size 22 (.slice (some ⟨C, oc, none⟩) m bcap) := bS0.kept (gr_grown g2) (by simp)
  have bR2 : Boxed W2 (w.heap.size + 1) 4 (.bool false) := bR0.kept (gr_grown g2) (by simp)
  have hG2 : Gr w W2 := Gr.trans hG0 g2
  clear b0 b1 b2 b3 bP bS0 bR0 hG0 g2
  gi_wp2_with (refine ⟨trivial, ?_⟩; gi_at_call 64; refine (callsIn_wide.2 (c_Edges _ _ _ _)).mono ?_; rintro e w' ⟨rfl, rfl⟩)
  have bE := Boxed.new W2 22 (.slice (some ⟨B, off, none⟩) n cap)
  have bP0 := bP2.alloc (.cells #[.slice (some ⟨B, off, none⟩) n cap] 22)
  have bS0 := bS2.alloc (.cells #[.slice (some ⟨B, off, none⟩) n cap] 22)
  have bR0 := bR2.alloc (.cells #[.slice (some ⟨B, off, none⟩) n cap] 22)
  have hG0 : Gr w (W2.alloc (.cells #[.slice (some ⟨B, off, none⟩) n cap] 22)) := Gr.trans hG2 (by go_grown)
  have hsz0 : (W2.alloc (.cells #[.slice (some ⟨B, off, none⟩) n cap] 22)).heap.size = W2.heap.size + 1 := by simp
  obtain ⟨W0, hW0⟩ : ∃ W0, W2.alloc (.cells #[.slice (some ⟨B, off, none⟩) n cap] 22) = W0 := ⟨_, rfl⟩
  rw [hW0] at bE bP0 bS0 bR0 hG0 hsz0 ⊢
  obtain ⟨q, hq⟩ : ∃ q, W2.heap.size = q := ⟨_, rfl⟩
  rw [hq] at bE hsz0 g2s ⊢
  clear hW0 bP2 bS2 bR2 hG2 hq H1 H2 H5
  have hsw : w.heap.size + 2 ≤ s := by omega
  refine wpIn_rangeFunc_ownH rfl (by decide) (gf := 72) (lb := #[.pointer (some ⟨q, 0, none⟩)]) rfl trivial (enters_of Tryd.func72 (by kernel_rfl) rfl)
    (edges_stops (10 - 1) (by decide) q B off n cap X Y hn h1 W0 bE.cell q1 q2 (fun k hk => ⟨cell_gr hG0 (HC.out k hk).1, cell_gr hG0 (HC.out k hk).2⟩)) KK.trans (kk_put (by omega) (by omega)) (Below.refl _ _) (fun _ => rfl)
    (fun pre W => (Boxed W (w.heap.size + 1) 4 (.bool false) ∧ Boxed W w.heap.size 22 (.slice (some ⟨C, oc, none⟩) m bcap)) ∧ ((Box4 W s lx ly hx hy ∧ rmW n X Y m P Q lx ly hx hy pre = false) ∧ (q + 1 ≤ W.heap.size ∧ Below w.heap.size w W)))
    (fun c pre W => (c = .ret ∧ rmW n X Y m P Q lx ly hx hy pre = true) ∧ (Boxed W (w.heap.size + 1) 4 (.bool true) ∧ Below w.heap.size w W))
    (OwnFrom.and (OwnFrom.and (Own.from (boxed_own _ _ _) _) (Own.from (boxed_own _ _ _) _)) (OwnFrom.and (OwnFrom.and (Own.from (box4_own _ _ _ _ _) _) (ownFrom_pure _ _)) (OwnFrom.and (fun _ P Q row hs hg hr => Nat.le_trans hs hg.size) (ownFrom_below (Nat.le_refl _) (by omega)))))
    (fun c => OwnFrom.and (ownFrom_pure _ _) (OwnFrom.and (Own.from (boxed_own _ _ _) _) (ownFrom_below (Nat.le_refl _) (by omega))))
    ⟨⟨bR0, bS0⟩, ⟨bP0, rfl⟩, by omega, hG0⟩
    (fun x a' W => ∃ Ba Bb, q + 1 ≤ Ba ∧ q + 1 ≤ Bb ∧ Box2 W Ba (X x) (Y x) ∧ Box2 W Bb (X (Rg.nx1 n x)) (Y (Rg.nx1 n x)) ∧ a' = { tmps := #[.slice (some ⟨B, off, none⟩) n cap, .slice (some ⟨C, oc, none⟩) m bcap, undef, .pointer (some ⟨w.heap.size, 0, none⟩), .pointer (some ⟨w.heap.size + 1, 0, none⟩), .pointer (some ⟨s, 0, none⟩), .pointer (some ⟨Ba, 0, none⟩), .pointer (some ⟨Bb, 0, none⟩), .slice (some ⟨C, oc, none⟩) m bcap, .agg #[.int .i64 lx, .int .i64 ly, .int .i64 hx, .int .i64 hy], .slice (some ⟨B, off, none⟩) n cap, .agg #[.int .i64 (mnN X n), .int .i64 (mnN Y n), .int .i64 (mxN X n), .int .i64 (mxN Y n)], .agg #[.int .i64 lx, .int .i64 ly, .int .i64 hx, .int .i64 hy], .bool true, .bool false, .slice (some ⟨B, off, none⟩) n cap, .func (.func 72) #[] #[.pointer (some ⟨q, 0, none⟩)], .agg #[.int .i64 (X x), .int .i64 (Y x)], .agg #[.int .i64 (X (Rg.nx1 n x)), .int .i64 (Y (Rg.nx1 n x))], undef, undef, undef, undef, undef, undef, undef, undef, undef, undef, undef, undef, undef, undef, undef, undef, undef, undef, undef, undef, undef, undef], defers := [] })
    (fun x a' _ P Q row hs hg hr => by obtain ⟨Ba, Bb, i1, i2, i3, i4, i5⟩ := hs; exact ⟨Ba, Bb, i1, i2, box2_notcells i3 hg (fun r e => (hr r e).2), box2_notcells i4 hg (fun r e => (hr r e).2), i5⟩)
    ?assign ?body ?done ?stop
  case assign =>
    rintro l pre x W K ⟨⟨bR1, bS1⟩, ⟨bP1, hon⟩, hs3, hB1⟩ hK
    gi_wp2
    have gA : Gr W ((W.alloc (.cells #[.int .i64 (X x), .int .i64 (Y x)] 26)).alloc (.cells #[.int .i64 (X (Rg.nx1 n x)), .int .i64 (Y (Rg.nx1 n x))] 26)) := by go_grown
    exact hK _ _ ((gr_keeps gA).from _) ((KK.refl _ _ _).gr gA (by omega) (by omega)) ⟨⟨(bR1.alloc _).alloc _, (bS1.alloc _).alloc _⟩, ⟨(bP1.alloc _).alloc _, hon⟩, Nat.le_trans hs3 gA.size, Gr.trans hB1 gA⟩
      ⟨W.heap.size, W.heap.size + 1, hs3, by omega, (Box2.new W (X x) (Y x)).alloc _, (by have := Box2.new (W.alloc (.cells #[.int .i64 (X x), .int .i64 (Y x)] 26)) (X (Rg.nx1 n x)) (Y (Rg.nx1 n x)); rwa [World.size_alloc] at this), rfl⟩
  case body =>
    rintro l pre x a' W hl ⟨r, hr⟩ ⟨⟨bR1, bS1⟩, ⟨bP1, hon⟩, hs3, hB1⟩ ⟨Ba, Bb, hBa, hBb, bA, bB, rfl⟩ hlt
    obtain ⟨a0, a1⟩ := bA.cells
    obtain ⟨b0, b1⟩ := bB.cells
    obtain ⟨p0, p1, p2, p3⟩ := bP1.cells
    have s0 := bS1.cell
    have cR := bR1.cell
    have fR := bR1.frozen
    have hso := rmW_snoc n X Y m P Q lx ly hx hy pre x
    rw [hon, Bool.false_or] at hso
    unfold rmE at hso
    have CO := c_gMeetsBox (X x) (Y x) (X (Rg.nx1 n x)) (Y (Rg.nx1 n x)) lx ly hx hy
    have CE := H6.out (X x) (Y x) (X (Rg.nx1 n x)) (Y (Rg.nx1 n x))
    generalize mbG (X x) (Y x) (X (Rg.nx1 n x)) (Y (Rg.nx1 n x)) lx ly hx hy = og at CO hso
    generalize emW m P Q (X x) (Y x) (X (Rg.nx1 n x)) (Y (Rg.nx1 n x)) (List.range m) = em at CE hso
    generalize X x = xa at a0 CO CE
    generalize Y x = ya at a1 CO CE
    generalize X (Rg.nx1 n x) = xb at b0 CO CE
    generalize Y (Rg.nx1 n x) = yb at b1 CO CE
    have HCO := Lib.hid CO
    have HEM := Lib.hid CE
    have HSO := Lib.hid hso
    have HB := Lib.hid (And.intro bR1 (And.intro bP1 bS1))
    clear CO CE hso hon bA bB bR1 bP1 bS1 H6 H3 H4
    have fin : ∀ w3, Gr W w3 → (og && em) = false → _ := fun w3 (g3 : Gr W w3) (hf : (og && em) = false) => (⟨(gr_keeps g3).from W0.heap.size, (KK.refl B q W).gr g3 (by omega) (by omega), ⟨⟨HB.out.1.kept (gr_grown g3) (by simp), HB.out.2.2.kept (gr_grown g3) (by simp)⟩, ⟨HB.out.2.1.kept (gr_grown g3) (by simp), HSO.out.trans hf⟩, by have := g3.size; omega, Gr.trans hB1 g3⟩⟩ : KeepsFrom W0.heap.size W w3 ∧ KK B q W w3 ∧ ((Boxed w3 (w.heap.size + 1) 4 (.bool false) ∧ Boxed w3 w.heap.size 22 (.slice (some ⟨C, oc, none⟩) m bcap)) ∧ ((Box4 w3 s lx ly hx hy ∧ rmW n X Y m P Q lx ly hx hy (pre ++ [x]) = false) ∧ (q + 1 ≤ w3.heap.size ∧ Below w.heap.size w w3))))
    cases og
    · gi_wp2_with (first | (refine ⟨trivial, ?_⟩; gi_at_call 65; (refine (CallsIn.inRound l (callsIn_wide.2 (HCO.out _))).mono ?_); rintro e w2 ⟨rfl, x2⟩; (have g2 : Gr W w2 := Gr.trans (by go_grown) x2); (have a0' := cell_gr g2 a0); (have a1' := cell_gr g2 a1); (have b0' := cell_gr g2 b0); (have b1' := cell_gr g2 b1); (have s0' := cell_gr g2 s0); clear x2) | (refine ⟨trivial, ?_⟩))
      exact fin w2 g2 rfl
    · cases em
      · gi_wp2_with (first | (refine ⟨trivial, ?_⟩; gi_at_call 65; (refine (CallsIn.inRound l (callsIn_wide.2 (HCO.out _))).mono ?_); rintro e w2 ⟨rfl, x2⟩; (have g2 : Gr W w2 := Gr.trans (by go_grown) x2); (have a0' := cell_gr g2 a0); (have a1' := cell_gr g2 a1); (have b0' := cell_gr g2 b0); (have b1' := cell_gr g2 b1); (have s0' := cell_gr g2 s0); clear x2) | (refine ⟨trivial, ?_⟩; gi_at_call 67; (refine (CallsIn.inRound l (callsIn_wide.2 (HEM.out _ (Gr.trans hB1 (Gr.trans g2 (by go_grown)))))).mono ?_); rintro e w3 ⟨rfl, x3⟩; (have g3 : Gr W w3 := Gr.trans g2 (Gr.trans (by go_grown) x3)); have dR := cell_gr g3 cR; have eR := frozen_gr g3 cR fR; clear x3))
        exact fin w3 g3 rfl
      · gi_wp2_with (first | (refine ⟨trivial, ?_⟩; gi_at_call 65; (refine (CallsIn.inRound l (callsIn_wide.2 (HCO.out _))).mono ?_); rintro e w2 ⟨rfl, x2⟩; (have g2 : Gr W w2 := Gr.trans (by go_grown) x2); (have a0' := cell_gr g2 a0); (have a1' := cell_gr g2 a1); (have b0' := cell_gr g2 b0); (have b1' := cell_gr g2 b1); (have s0' := cell_gr g2 s0); clear x2) | (refine ⟨trivial, ?_⟩; gi_at_call 67; (refine (CallsIn.inRound l (callsIn_wide.2 (HEM.out _ (Gr.trans hB1 (Gr.trans g2 (by go_grown)))))).mono ?_); rintro e w3 ⟨rfl, x3⟩; (have g3 : Gr W w3 := Gr.trans g2 (Gr.trans (by go_grown) x3)); have dR := cell_gr g3 cR; have eR := frozen_gr g3 cR fR; clear x3))
        obtain ⟨bR1, bP1, bS1⟩ := HB.out
        exact ⟨((gr_keeps g3).trans (KeepsOthers.setCell _ _ _)).from _, ⟨rfl, HSO.out⟩, (bR1.kept (gr_grown g3) (by simp)).set _, (Gr.trans hB1 g3).setCell (p := ⟨w.heap.size + 1, 0, none⟩) (by simp) _⟩
  case done =>
    rintro D ys W' hD rfl ⟨⟨bR1, bS1⟩, ⟨bP1, hon⟩, hs3, hB1⟩ hK
    have s0 := bS1.cell
    have cR := bR1.cell
    have fR := bR1.frozen
    have k0 := cell_gr hB1 HD.out.1
    have k1 := cell_gr hB1 HD.out.2
    have j0 := cell_gr hB1 (HC.out 0 n0).1
    have j1 := cell_gr hB1 (HC.out 0 n0).2
    rw [Nat.zero_mul, Nat.add_zero] at k0 k1 j0 j1
    generalize P 0 = pa at k0 H3
    generalize Q 0 = pb at k1 H3
    generalize X 0 = xa at j0 H4
    generalize Y 0 = xb at j1 H4
    have m0 : 0 < m := by omega
    have HBR := Lib.hid bR1
    clear bR1 bS1 bP1
    have zB := World.block_lt_of_cell? _ _ j0
    have zC := World.block_lt_of_cell? _ _ k0
    have zS := World.block_lt_of_cell? _ _ s0
    cases z1
    · gi_wp2
      refine wpIn_wide.2 ?_
      go_wp2_with fail
      try simp only [List.append]
      refine Od.wp_region_ordT 12 [(0, false), (1, false), (2, false), (3, false), (4, true), (5, false), (6, false), (7, false), (8, false), (9, false), (10, true), (11, false)] (by kernel_rfl) (by kernel_rfl) ?_
      intro v3 hv3 KQ hKQ
      have cv3_0_0 : v3.cell? ⟨w.heap.size, 0, none⟩ = some (.slice (some ⟨C, oc, none⟩) m bcap) := cell_gr hv3 (by go_simp)
      have zv3_0 : w.heap.size < v3.heap.size := World.block_lt_of_cell? _ _ cv3_0_0
      have cv3_1_0 : v3.cell? ⟨C, oc, none⟩ = some (.int .i64 pa) := cell_gr hv3 (by go_simp)
      have cv3_1_1 : v3.cell? ⟨C, oc + 1, none⟩ = some (.int .i64 pb) := cell_gr hv3 (by go_simp)
      have zv3_1 : C < v3.heap.size := World.block_lt_of_cell? _ _ cv3_1_0
      have cv3_2_0 : v3.cell? ⟨B, off, none⟩ = some (.int .i64 xa) := cell_gr hv3 (by go_simp)
      have cv3_2_1 : v3.cell? ⟨B, off + 1, none⟩ = some (.int .i64 xb) := cell_gr hv3 (by go_simp)
      have zv3_2 : B < v3.heap.size := World.block_lt_of_cell? _ _ cv3_2_0
      have cv3_3_0 : v3.cell? ⟨w.heap.size + 1, 0, none⟩ = some (.bool false) := cell_gr hv3 (by go_simp)
      have fv3_3_0 : v3.frozen? ⟨w.heap.size + 1, 0, none⟩ = false := frozen_gr (v := .bool false) hv3 (by go_simp) (by go_simp)
      have zv3_3 : w.heap.size + 1 < v3.heap.size := World.block_lt_of_cell? _ _ cv3_3_0
      have gv3 : Gr W' v3 := Gr.trans (by go_grown) hv3
      skip
      clear hv3
      repeat (first | (refine Od.wpO_skip (by simp only [List.getElem?_toArray, List.getElem?_cons_succ, List.getElem?_cons_zero] <;> rfl) rfl ?_; simp only [Act.put, List.setIfInBounds_toArray, List.set_cons_zero, List.set_cons_succ]) | (refine Od.wpO_pure (by simp only [List.getElem?_toArray, List.getElem?_cons_succ, List.getElem?_cons_zero] <;> rfl) rfl ?_; apply Exists.intro; refine ⟨?_, ?_⟩; (· intro wx gx; obtain ⟨mx, rfl⟩ := spread_of_gr gx; clear gx; all_goals (apply Od.pAt_of_quiet; intro K hK; go_big_quiet_op; first | exact hK _ rfl | (apply Exists.intro; refine ⟨fun _ => ?_, ?_⟩; (· fail); exact hK _ rfl))); try simp only [Act.put, List.setIfInBounds_toArray, List.set_cons_zero, List.set_cons_succ]))
      refine Od.wpO_call (by simp only [List.getElem?_toArray, List.getElem?_cons_succ, List.getElem?_cons_zero] <;> rfl) rfl ?_
      intro QS hQS
      go_wp2_with fail
      go_at_call 66
      (with_reducible refine ((H3.out _ (Gr.trans hB1 gv3))).mono ?_)
      rintro e v4 ⟨rfl, hv4⟩
      go_wp2_with fail
      apply Exists.intro
      refine ⟨?_, hv4, ?_⟩
      · simp only [Act.put, List.setIfInBounds_toArray, List.set_cons_zero, List.set_cons_succ]; rfl
      have cv4_0_0 : v4.cell? ⟨w.heap.size, 0, none⟩ = some (.slice (some ⟨C, oc, none⟩) m bcap) := cell_gr hv4 (by go_simp)
      have zv4_0 : w.heap.size < v4.heap.size := World.block_lt_of_cell? _ _ cv4_0_0
      have cv4_1_0 : v4.cell? ⟨C, oc, none⟩ = some (.int .i64 pa) := cell_gr hv4 (by go_simp)
      have cv4_1_1 : v4.cell? ⟨C, oc + 1, none⟩ = some (.int .i64 pb) := cell_gr hv4 (by go_simp)
      have zv4_1 : C < v4.heap.size := World.block_lt_of_cell? _ _ cv4_1_0
      have cv4_2_0 : v4.cell? ⟨B, off, none⟩ = some (.int .i64 xa) := cell_gr hv4 (by go_simp)
      have cv4_2_1 : v4.cell? ⟨B, off + 1, none⟩ = some (.int .i64 xb) := cell_gr hv4 (by go_simp)
      have zv4_2 : B < v4.heap.size := World.block_lt_of_cell? _ _ cv4_2_0
      have cv4_3_0 : v4.cell? ⟨w.heap.size + 1, 0, none⟩ = some (.bool false) := cell_gr hv4 (by go_simp)
      have fv4_3_0 : v4.frozen? ⟨w.heap.size + 1, 0, none⟩ = false := frozen_gr (v := .bool false) hv4 (by go_simp) (by go_simp)
      have zv4_3 : w.heap.size + 1 < v4.heap.size := World.block_lt_of_cell? _ _ cv4_3_0
      have gv4 : Gr W' v4 := Gr.trans (by have gg := gv3; have gs := gg.size; go_grown) hv4
      clear gv3 zv3_0 cv3_0_0 zv3_1 cv3_1_0 cv3_1_1 zv3_2 cv3_2_0 cv3_2_1 zv3_3 cv3_3_0 fv3_3_0
      clear hv4
      try simp only [Act.put, List.setIfInBounds_toArray, List.set_cons_zero, List.set_cons_succ]
      repeat (first | (refine Od.wpO_skip (by simp only [List.getElem?_toArray, List.getElem?_cons_succ, List.getElem?_cons_zero] <;> rfl) rfl ?_; simp only [Act.put, List.setIfInBounds_toArray, List.set_cons_zero, List.set_cons_succ]) | (refine Od.wpO_pure (by simp only [List.getElem?_toArray, List.getElem?_cons_succ, List.getElem?_cons_zero] <;> rfl) rfl ?_; apply Exists.intro; refine ⟨?_, ?_⟩; (· intro wx gx; obtain ⟨mx, rfl⟩ := spread_of_gr gx; clear gx; all_goals (apply Od.pAt_of_quiet; intro K hK; go_big_quiet_op; first | exact hK _ rfl | (apply Exists.intro; refine ⟨fun _ => ?_, ?_⟩; (· fail); exact hK _ rfl))); try simp only [Act.put, List.setIfInBounds_toArray, List.set_cons_zero, List.set_cons_succ]))
      refine Od.wpO_call (by simp only [List.getElem?_toArray, List.getElem?_cons_succ, List.getElem?_cons_zero] <;> rfl) rfl ?_
      intro QS hQS
      go_wp2_with fail
      go_at_call 66
      (with_reducible refine ((H4.out _ (Gr.trans hB1 gv4))).mono ?_)
      rintro e v5 ⟨rfl, hv5⟩
      go_wp2_with fail
      apply Exists.intro
      refine ⟨?_, hv5, ?_⟩
      · simp only [Act.put, List.setIfInBounds_toArray, List.set_cons_zero, List.set_cons_succ]; rfl
      have cv5_0_0 : v5.cell? ⟨w.heap.size, 0, none⟩ = some (.slice (some ⟨C, oc, none⟩) m bcap) := cell_gr hv5 (by go_simp)
      have zv5_0 : w.heap.size < v5.heap.size := World.block_lt_of_cell? _ _ cv5_0_0
      have cv5_1_0 : v5.cell? ⟨C, oc, none⟩ = some (.int .i64 pa) := cell_gr hv5 (by go_simp)
      have cv5_1_1 : v5.cell? ⟨C, oc + 1, none⟩ = some (.int .i64 pb) := cell_gr hv5 (by go_simp)
      have zv5_1 : C < v5.heap.size := World.block_lt_of_cell? _ _ cv5_1_0
      have cv5_2_0 : v5.cell? ⟨B, off, none⟩ = some (.int .i64 xa) := cell_gr hv5 (by go_simp)
      have cv5_2_1 : v5.cell? ⟨B, off + 1, none⟩ = some (.int .i64 xb) := cell_gr hv5 (by go_simp)
      have zv5_2 : B < v5.heap.size := World.block_lt_of_cell? _ _ cv5_2_0
      have cv5_3_0 : v5.cell? ⟨w.heap.size + 1, 0, none⟩ = some (.bool false) := cell_gr hv5 (by go_simp)
      have fv5_3_0 : v5.frozen? ⟨w.heap.size + 1, 0, none⟩ = false := frozen_gr (v := .bool false) hv5 (by go_simp) (by go_simp)
      have zv5_3 : w.heap.size + 1 < v5.heap.size := World.block_lt_of_cell? _ _ cv5_3_0
      have gv5 : Gr W' v5 := Gr.trans (by have gg := gv4; have gs := gg.size; go_grown) hv5
      clear gv4 zv4_0 cv4_0_0 zv4_1 cv4_1_0 cv4_1_1 zv4_2 cv4_2_0 cv4_2_1 zv4_3 cv4_3_0 fv4_3_0
      clear hv5
      try simp only [Act.put, List.setIfInBounds_toArray, List.set_cons_zero, List.set_cons_succ]
      repeat (first | (refine Od.wpO_skip (by simp only [List.getElem?_toArray, List.getElem?_cons_succ, List.getElem?_cons_zero] <;> rfl) rfl ?_; simp only [Act.put, List.setIfInBounds_toArray, List.set_cons_zero, List.set_cons_succ]) | (refine Od.wpO_pure (by simp only [List.getElem?_toArray, List.getElem?_cons_succ, List.getElem?_cons_zero] <;> rfl) rfl ?_; apply Exists.intro; refine ⟨?_, ?_⟩; (· intro wx gx; obtain ⟨mx, rfl⟩ := spread_of_gr gx; clear gx; all_goals (apply Od.pAt_of_quiet; intro K hK; go_big_quiet_op; first | exact hK _ rfl | (apply Exists.intro; refine ⟨fun _ => ?_, ?_⟩; (· fail); exact hK _ rfl))); try simp only [Act.put, List.setIfInBounds_toArray, List.set_cons_zero, List.set_cons_succ]))
      refine Od.wpO_nil (hKQ _ _ ?_)
      clear hKQ KQ
      go_wp2_with fail
      gi_wp2
      rw [hon, Bool.false_or, Bool.false_or]
      have bR2 : Boxed v5 (w.heap.size + 1) 4 (.bool false) := HBR.out.kept (gr_grown gv5) (by simp)
      have hK1 : v5.heap[D]? = some (.deferred (some [])) := (gr_keeps gv5).same D _ hK rfl
      have hK2 : (v5.setCell ⟨w.heap.size + 1, 0, none⟩ (.bool z2)).heap[D]? = some (.deferred (some [])) := (KeepsOthers.setCell _ _ _).same D _ hK1 rfl
      have hc2 := cell_kept (bR2.set (.bool z2)).cell (grownBy_putObj' _ D (.deferred none)) (fun r e => by cases e; exact ⟨_, hK2, rfl⟩)
      refine ⟨by simp, .inl ⟨_, _, rfl, run_takeDeferred hK2, ?_⟩⟩
      exact ⟨_, results_cell1 rfl rfl (Tryd.underlying4) rfl hc2, rfl, ((Gr.trans hB1 gv5).setCell (p := ⟨w.heap.size + 1, 0, none⟩) (by simp) _).trans (belowK_b (w := w) (Nat.le_refl _) _ D _ _ (by omega) hK2 rfl rfl)⟩
    · gi_wp2
      refine wpIn_wide.2 ?_
      go_wp2_with fail
      try simp only [List.append]
      refine Od.wp_region_ordT 12 [(0, false), (1, false), (2, false), (3, false), (4, true), (5, false), (6, false), (7, false), (8, false), (9, false), (10, true), (11, false)] (by kernel_rfl) (by kernel_rfl) ?_
      intro v3 hv3 KQ hKQ
      have cv3_0_0 : v3.cell? ⟨w.heap.size, 0, none⟩ = some (.slice (some ⟨C, oc, none⟩) m bcap) := cell_gr hv3 (by go_simp)
      have zv3_0 : w.heap.size < v3.heap.size := World.block_lt_of_cell? _ _ cv3_0_0
      have cv3_1_0 : v3.cell? ⟨C, oc, none⟩ = some (.int .i64 pa) := cell_gr hv3 (by go_simp)
      have cv3_1_1 : v3.cell? ⟨C, oc + 1, none⟩ = some (.int .i64 pb) := cell_gr hv3 (by go_simp)
      have zv3_1 : C < v3.heap.size := World.block_lt_of_cell? _ _ cv3_1_0
      have cv3_2_0 : v3.cell? ⟨B, off, none⟩ = some (.int .i64 xa) := cell_gr hv3 (by go_simp)
      have cv3_2_1 : v3.cell? ⟨B, off + 1, none⟩ = some (.int .i64 xb) := cell_gr hv3 (by go_simp)
      have zv3_2 : B < v3.heap.size := World.block_lt_of_cell? _ _ cv3_2_0
      have cv3_3_0 : v3.cell? ⟨w.heap.size + 1, 0, none⟩ = some (.bool false) := cell_gr hv3 (by go_simp)
      have fv3_3_0 : v3.frozen? ⟨w.heap.size + 1, 0, none⟩ = false := frozen_gr (v := .bool false) hv3 (by go_simp) (by go_simp)
      have zv3_3 : w.heap.size + 1 < v3.heap.size := World.block_lt_of_cell? _ _ cv3_3_0
      have gv3 : Gr W' v3 := Gr.trans (by go_grown) hv3
      skip
      clear hv3
      repeat (first | (refine Od.wpO_skip (by simp only [List.getElem?_toArray, List.getElem?_cons_succ, List.getElem?_cons_zero] <;> rfl) rfl ?_; simp only [Act.put, List.setIfInBounds_toArray, List.set_cons_zero, List.set_cons_succ]) | (refine Od.wpO_pure (by simp only [List.getElem?_toArray, List.getElem?_cons_succ, List.getElem?_cons_zero] <;> rfl) rfl ?_; apply Exists.intro; refine ⟨?_, ?_⟩; (· intro wx gx; obtain ⟨mx, rfl⟩ := spread_of_gr gx; clear gx; all_goals (apply Od.pAt_of_quiet; intro K hK; go_big_quiet_op; first | exact hK _ rfl | (apply Exists.intro; refine ⟨fun _ => ?_, ?_⟩; (· fail); exact hK _ rfl))); try simp only [Act.put, List.setIfInBounds_toArray, List.set_cons_zero, List.set_cons_succ]))
      refine Od.wpO_call (by simp only [List.getElem?_toArray, List.getElem?_cons_succ, List.getElem?_cons_zero] <;> rfl) rfl ?_
      intro QS hQS
      go_wp2_with fail
      go_at_call 66
      (with_reducible refine ((H3.out _ (Gr.trans hB1 gv3))).mono ?_)
      rintro e v4 ⟨rfl, hv4⟩
      go_wp2_with fail
      apply Exists.intro
      refine ⟨?_, hv4, ?_⟩
      · simp only [Act.put, List.setIfInBounds_toArray, List.set_cons_zero, List.set_cons_succ]; rfl
      have cv4_0_0 : v4.cell? ⟨w.heap.size, 0, none⟩ = some (.slice (some ⟨C, oc, none⟩) m bcap) := cell_gr hv4 (by go_simp)
      have zv4_0 : w.heap.size < v4.heap.size := World.block_lt_of_cell? _ _ cv4_0_0
      have cv4_1_0 : v4.cell? ⟨C, oc, none⟩ = some (.int .i64 pa) := cell_gr hv4 (by go_simp)
      have cv4_1_1 : v4.cell? ⟨C, oc + 1, none⟩ = some (.int .i64 pb) := cell_gr hv4 (by go_simp)
      have zv4_1 : C < v4.heap.size := World.block_lt_of_cell? _ _ cv4_1_0
      have cv4_2_0 : v4.cell? ⟨B, off, none⟩ = some (.int .i64 xa) := cell_gr hv4 (by go_simp)
      have cv4_2_1 : v4.cell? ⟨B, off + 1, none⟩ = some (.int .i64 xb) := cell_gr hv4 (by go_simp)
      have zv4_2 : B < v4.heap.size := World.block_lt_of_cell? _ _ cv4_2_0
      have cv4_3_0 : v4.cell? ⟨w.heap.size + 1, 0, none⟩ = some (.bool false) := cell_gr hv4 (by go_simp)
      have fv4_3_0 : v4.frozen? ⟨w.heap.size + 1, 0, none⟩ = false := frozen_gr (v := .bool false) hv4 (by go_simp) (by go_simp)
      have zv4_3 : w.heap.size + 1 < v4.heap.size := World.block_lt_of_cell? _ _ cv4_3_0
      have gv4 : Gr W' v4 := Gr.trans (by have gg := gv3; have gs := gg.size; go_grown) hv4
      clear gv3 zv3_0 cv3_0_0 zv3_1 cv3_1_0 cv3_1_1 zv3_2 cv3_2_0 cv3_2_1 zv3_3 cv3_3_0 fv3_3_0
      clear hv4
      try simp only [Act.put, List.setIfInBounds_toArray, List.set_cons_zero, List.set_cons_succ]
      repeat (first | (refine Od.wpO_skip (by simp only [List.getElem?_toArray, List.getElem?_cons_succ, List.getElem?_cons_zero] <;> rfl) rfl ?_; simp only [Act.put, List.setIfInBounds_toArray, List.set_cons_zero, List.set_cons_succ]) | (refine Od.wpO_pure (by simp only [List.getElem?_toArray, List.getElem?_cons_succ, List.getElem?_cons_zero] <;> rfl) rfl ?_; apply Exists.intro; refine ⟨?_, ?_⟩; (· intro wx gx; obtain ⟨mx, rfl⟩ := spread_of_gr gx; clear gx; all_goals (apply Od.pAt_of_quiet; intro K hK; go_big_quiet_op; first | exact hK _ rfl | (apply Exists.intro; refine ⟨fun _ => ?_, ?_⟩; (· fail); exact hK _ rfl))); try simp only [Act.put, List.setIfInBounds_toArray, List.set_cons_zero, List.set_cons_succ]))
      refine Od.wpO_nil (hKQ _ _ ?_)
      clear hKQ KQ
      go_wp2_with fail
      gi_wp2
      rw [hon, Bool.false_or, Bool.true_or]
      have bR2 : Boxed v4 (w.heap.size + 1) 4 (.bool false) := HBR.out.kept (gr_grown gv4) (by simp)
      have hK1 : v4.heap[D]? = some (.deferred (some [])) := (gr_keeps gv4).same D _ hK rfl
      have hK2 : (v4.setCell ⟨w.heap.size + 1, 0, none⟩ (.bool true)).heap[D]? = some (.deferred (some [])) := (KeepsOthers.setCell _ _ _).same D _ hK1 rfl
      have hc2 := cell_kept (bR2.set (.bool true)).cell (grownBy_putObj' _ D (.deferred none)) (fun r e => by cases e; exact ⟨_, hK2, rfl⟩)
      refine ⟨by simp, .inl ⟨_, _, rfl, run_takeDeferred hK2, ?_⟩⟩
      exact ⟨_, results_cell1 rfl rfl (Tryd.underlying4) rfl hc2, rfl, ((Gr.trans hB1 gv4).setCell (p := ⟨w.heap.size + 1, 0, none⟩) (by simp) _).trans (belowK_b (w := w) (Nat.le_refl _) _ D _ _ (by omega) hK2 rfl rfl)⟩
  case stop =>
    rintro D c pre W hD ⟨k, hk, rfl⟩ ⟨⟨rfl, hon⟩, bR1, hB1⟩ hK
    have cR := bR1.cell
    gi_wp2
    have hc2 := cell_kept cR (grownBy_putObj' _ D (.deferred none)) (fun r e => by cases e; exact ⟨_, hK, rfl⟩)
    rw [rmW_mono hk hon, Bool.true_or]
    refine ⟨by simp, .inl ⟨_, _, rfl, run_takeDeferred hK, ?_⟩⟩
    exact ⟨_, results_cell1 rfl rfl (Tryd.underlying4) rfl hc2, rfl, hB1.trans (belowK_b (w := w) (Nat.le_refl _) _ D _ _ (by omega) hK rfl rfl)⟩
end Go.Proofs.YtfobmlgpjhghdaaDoor
namespace Go.Proofs.YtfobmlgpjhghdaaDoor
set_option linter.unusedVariables false
set_option linter.unusedSimpArgs false
open Go.ChangeShapes Go.WideShapes Go.ChangeAt Go.RowKit
def NF (v : Value) : Prop := v = .nilIface ∨ ∃ B, v = .iface 60 (.pointer (some ⟨B, 0, none⟩))
theorem nf_nil : NF .nilIface := Or.inl rfl
theorem nf_f (B : Nat) : NF (.iface 60 (.pointer (some ⟨B, 0, none⟩))) := Or.inr ⟨B, rfl⟩
theorem werr_nf {op : ByteArray} {w : World} {v : Value} {id : Int} {k : Nat} (h : WErr op w v id k) : NF v ∧ (v = .nilIface ↔ k = 0) := by
  rcases h with ⟨rfl, rfl⟩ | ⟨B, u, d, rfl, h2, -⟩
  · exact ⟨Or.inl rfl, by simp⟩
  · exact ⟨Or.inr ⟨B, rfl⟩, by constructor; intro h; cases h; intro h; omega⟩
set_option maxHeartbeats 4000000 in
set_option maxRecDepth 100000 in
theorem c_allowed {D n cap : Nat} {e : Nat → Value} (W : World) (hE : ErrT W) (hn : n ≤ 2) (hp : ∀ k, k < n → W.cell? ⟨D, k, none⟩ = some (e k)) (he : ∀ k, k < n → NF (e k)) (hD : D < W.heap.size) (hc : n ≤ cap) (z : Bool) (hz : z = true ↔ ∀ k, k < n → e k = .nilIface) :
    Calls Tryd.prog 21 #[.slice (some ⟨D, 0, none⟩) n cap] W fun e w' => e = .returned (.bool z) ∧ Gr W w' := by
  have hn9 : (n : Int) ≤ 2 := by omega
  have HP := Lib.hid hp
  have HE := Lib.hid he
  have HZ := Lib.hid hz
  have HT := Lib.hid hE
  clear hp he hz hE
  go_enter Tryd.func21, Tryd.ntmps21
  go_wp2_with fail
  go_loopg [8] n (fun k x wr => ∃ i : Nat, x = .int .i64 i ∧ i ≤ n ∧ k = n - i ∧ (∀ j, j < i → e j = .nilIface) ∧ Gr W wr)
  case atStart => exact ⟨0, rfl, Nat.zero_le _, by omega, fun j hj => absurd hj (by omega), by go_grown⟩
  case round =>
    obtain ⟨i, rfl, hi, hk, hN, hg⟩ := hrel
    have hgs := hg.size
    have HN := Lib.hid hN
    clear hN
    by_cases hin : i < n
    · have ti : decide ((i : Int) < (n : Int)) = true := decide_eq_true (by omega)
      have ti2 : decide (i < n) = true := decide_eq_true hin
      have ti3 : (i : Int) < (n : Int) := by omega
      have hmm : n - (i + 1) < gk := by omega
      have r0 := cell_gr hg (HP.out i hin)
      have hnf := HE.out i hin
      obtain ⟨x, hx⟩ : ∃ x, x = e i := ⟨_, rfl⟩
      have HX := Lib.hid hx
      rw [← hx] at r0 hnf
      have hDw : D < wr.heap.size := by omega
      clear hk hx
      rcases hnf with rfl | ⟨C, rfl⟩
      · go_wp2_with fail
        go_at_call 31
        refine (c_As_nil _ _).mono ?_
        rintro e w1 ⟨rfl, g1⟩
        have G1 : Gr W w1 := Gr.trans (by go_grown) g1
        clear g1
        go_wp2_with fail
        go_roundg (n - (i + 1))
        case measure => exact hmm
        case rel => exact ⟨i + 1, by go_num, by omega, rfl, fun j hj => (by rcases Nat.lt_succ_iff_lt_or_eq.1 hj with h | rfl; exact HN.out j h; exact HX.out.symm), by have gs := G1.size; go_grown⟩
      · have A := as_hit ⟨C, 0, none⟩ ⟨wr.heap.size, 0, none⟩ (.pointer none) (wr.alloc (.cells #[.pointer none] 60)) (errT_gr HT.out (by go_grown)) (by go_simp) (by go_simp)
        have H2 := Lib.hid A
        clear A
        go_wp2_with fail
        go_at_call 31
        refine H2.out.mono ?_
        rintro e w2 ⟨rfl, wx, gx, rfl⟩
        have gWx : Gr W wx := Gr.trans (by go_grown) gx
        have hzf : z = false := by
          cases hzz : z
          · rfl
          · have := (HZ.out.1 hzz) i hin
            rw [← HX.out] at this
            cases this
        subst hzf
        go_wp2_with fail
        go_ret
        exact ⟨rfl, by have gg := gWx; have gs := gg.size; go_grown⟩
    · obtain rfl : i = n := by omega
      have ti : decide ((i : Int) < (i : Int)) = false := decide_eq_false (by omega)
      have ti2 : decide (i < i) = false := decide_eq_false (by omega)
      have hzt : z = true := HZ.out.2 HN.out
      subst hzt
      go_wp2_with fail
      go_ret
      exact ⟨rfl, by go_grown⟩
set_option maxHeartbeats 4000000 in
set_option maxRecDepth 100000 in
theorem c_rmb_no {n : Nat} {X Y : Nat → Int} {v : Value} (lx ly hx hy : Int) (W : World) (h : Pts W v n X Y) (hn : n ≤ 64) (hm : arM n X Y lx ly hx hy = false) :
    Calls Tryd.prog 49 #[v, .agg #[.int .i64 lx, .int .i64 ly, .int .i64 hx, .int .i64 hy]] W fun e w' => e = .returned (.bool false) ∧ Gr W w' := by
  have A1 := fun w' (g : Gr W w') => c_AroundN w' (pts_gr h g) (by omega)
  have A2 := fun w' => c_Meets (mnN X n) (mnN Y n) (mxN X n) (mxN Y n) lx ly hx hy w'
  unfold arM at hm
  rw [hm] at A2
  generalize mnN X n = m1 at A1 A2
  generalize mnN Y n = m2 at A1 A2
  generalize mxN X n = m3 at A1 A2
  generalize mxN Y n = m4 at A1 A2
  obtain ⟨ad, cap, B, off, rfl, -⟩ := h
  have H1 := Lib.hid A1
  have H2 := Lib.hid A2
  clear A1 A2
  clear hm
  go_enter Tryd.func49, Tryd.ntmps49
  go_wp2_with fail
  go_wp2_with fail
  refine wp_region_spread (by kernel_rfl) (by kernel_rfl) ?_
  try simp only [List.append]
  repeat (first | go_big_quiet_skip | (go_big_quiet_want; go_big_quiet_op; (first | go_big_quiet_on | (apply Exists.intro; refine ⟨fun _ => ?_, ?_⟩; (· (first | (go_at_call 36; first | ((with_reducible refine ((H1.out _ (Gr.trans (by go_grown) (gr_spread _ _)))).mono ?_); rintro e w' ⟨rfl, hg⟩; exact ⟨rfl, spread_gr hg⟩)) | (go_at_call 50; first | ((with_reducible refine ((H2.out _)).mono ?_); rintro e w' ⟨rfl, hg⟩; exact ⟨rfl, spread_gr hg⟩)))); go_big_quiet_on))))
  refine wpQuiet_nil ?_
  intro w1 hhw1
  have hw1 := Hd.gr_of_spread hhw1
  have cw1_0_0 : w1.cell? ⟨W.heap.size, 0, none⟩ = some (.int .i64 lx) := cell_gr hw1 (by go_simp)
  have cw1_0_1 : w1.cell? ⟨W.heap.size, 1, none⟩ = some (.int .i64 ly) := cell_gr hw1 (by go_simp)
  have cw1_0_2 : w1.cell? ⟨W.heap.size, 2, none⟩ = some (.int .i64 hx) := cell_gr hw1 (by go_simp)
  have cw1_0_3 : w1.cell? ⟨W.heap.size, 3, none⟩ = some (.int .i64 hy) := cell_gr hw1 (by go_simp)
  have zw1_0 : W.heap.size < w1.heap.size := World.block_lt_of_cell? _ _ cw1_0_0
  have cw1_1_0 : w1.cell? ⟨W.heap.size + 1, 0, none⟩ = some (.bool false) := cell_gr hw1 (by go_simp)
  have fw1_1_0 : w1.frozen? ⟨W.heap.size + 1, 0, none⟩ = false := frozen_gr (v := .bool false) hw1 (by go_simp) (by go_simp)
  have zw1_1 : W.heap.size + 1 < w1.heap.size := World.block_lt_of_cell? _ _ cw1_1_0
  have gw1 : Gr W w1 := Gr.trans (by go_grown) hw1
  clear hw1 hhw1
  go_wp2_with fail
  go_wp2_with fail
  refine bodyPost_ret (v := .bool false) (by simp [results, Tryd.results49, go_sem, *]) rfl ⟨rfl, by go_grown⟩
end Go.Proofs.YtfobmlgpjhghdaaDoor
namespace Go.Proofs.YtfobmlgpjhghdaaDoor
set_option linter.unusedVariables false
set_option linter.unusedSimpArgs false
open Go.ChangeShapes Go.WideShapes Go.ChangeAt Go.RowKit
def meV (lx ly hx hy mx my nx ny : Int) : Bool := boxB lx ly hx hy && boxB mx my nx ny && decide (lx ≤ nx) && decide (mx ≤ hx) && decide (ly ≤ ny) && decide (my ≤ hy)
def inV (lx ly hx hy mx my nx ny : Int) : Bool := boxB lx ly hx hy && boxB mx my nx ny && inB mx my nx ny lx ly && inB mx my nx ny hx hy
def rmV (n : Nat) (X Y : Nat → Int) (lx ly hx hy : Int) : Bool := arM n X Y lx ly hx hy && rmbV n X Y lx ly hx hy
theorem c_rmbA {n : Nat} {X Y : Nat → Int} {v : Value} (lx ly hx hy : Int) (W : World) (h : Pts W v n X Y) (h0 : (Rg.ringC n X Y).1 = 0) : Calls Tryd.prog 49 #[v, .agg #[.int .i64 lx, .int .i64 ly, .int .i64 hx, .int .i64 hy]] W fun e w' => e = .returned (.bool (rmV n X Y lx ly hx hy)) ∧ Gr W w' := by
  unfold rmV
  cases hm : arM n X Y lx ly hx hy
  · exact c_rmb_no lx ly hx hy W h (by have := (Rg.ringC_ok h0).1; omega) hm
  · rw [Bool.true_and]; exact c_rmb' W h h0 hm
def FrTo (W : World) (k : Int) (v : Value) (lx ly hx hy : Int) : Prop := (k = 1 ∨ k = 2 ∨ k = 3) ∧ (∃ ad n cap, v = .slice ad n cap) ∧ ∀ w, Gr W w → Calls Tryd.prog 24 #[.agg #[.int .i64 k, v]] w fun e w' => e = .returned (.agg #[.int .i64 lx, .int .i64 ly, .int .i64 hx, .int .i64 hy]) ∧ Gr w w'
theorem frTo_gr {a b : World} {k : Int} {v : Value} {lx ly hx hy : Int} (h : FrTo a k v lx ly hx hy) (g : Gr a b) : FrTo b k v lx ly hx hy := ⟨h.1, h.2.1, fun w g' => h.2.2 w (Gr.trans g g')⟩
section
variable {k : Int} {v : Value} {lx ly hx hy : Int}
set_option maxHeartbeats 2000000 in
set_option maxRecDepth 100000 in
theorem c_meetsBoxB (mx my nx ny : Int) (W : World) (h : FrTo W k v lx ly hx hy) : Calls Tryd.prog 34 #[.agg #[.int .i64 k, v], .agg #[.int .i64 mx, .int .i64 my, .int .i64 nx, .int .i64 ny]] W fun e w' => e = .returned (.bool (meV lx ly hx hy mx my nx ny)) ∧ Gr W w' := by
  have A1 := fun w => c_Meets lx ly hx hy mx my nx ny w
  unfold meV
  generalize (boxB lx ly hx hy && boxB mx my nx ny && decide (lx ≤ nx) && decide (mx ≤ hx) && decide (ly ≤ ny) && decide (my ≤ hy)) = z at A1 ⊢
  obtain ⟨hk, ⟨ad, n, cap, rfl⟩, A2⟩ := h
  have k4 : (k == 4) = false := by simp; omega
  have H1 := Lib.hid A1
  have H2 := Lib.hid A2
  clear A1 A2
  clear hk
  go_enter Tryd.func34, Tryd.ntmps34
  go_wp2_with fail
  go_wp2_with fail
  refine wp_region_spread (by kernel_rfl) (by kernel_rfl) ?_
  try simp only [List.append]
  repeat (first | go_big_quiet_skip | (go_big_quiet_want; go_big_quiet_op; (first | go_big_quiet_on | (apply Exists.intro; refine ⟨fun _ => ?_, ?_⟩; (· (first | (go_at_call 24; first | ((with_reducible refine ((H2.out _ (Gr.trans (by go_grown) (gr_spread _ _)))).mono ?_); rintro e w' ⟨rfl, hg⟩; exact ⟨rfl, spread_gr hg⟩)) | (go_at_call 50; first | ((with_reducible refine ((H1.out _)).mono ?_); rintro e w' ⟨rfl, hg⟩; exact ⟨rfl, spread_gr hg⟩)))); go_big_quiet_on))))
  refine wpQuiet_nil ?_
  intro w1 hhw1
  have hw1 := Hd.gr_of_spread hhw1
  have cw1_0_0 : w1.cell? ⟨W.heap.size, 0, none⟩ = some (.int .i64 k) := cell_gr hw1 (by go_simp)
  have cw1_0_1 : w1.cell? ⟨W.heap.size, 1, none⟩ = some (.slice ad n cap) := cell_gr hw1 (by go_simp)
  have zw1_0 : W.heap.size < w1.heap.size := World.block_lt_of_cell? _ _ cw1_0_0
  have cw1_1_0 : w1.cell? ⟨W.heap.size + 1, 0, none⟩ = some (.int .i64 mx) := cell_gr hw1 (by go_simp)
  have cw1_1_1 : w1.cell? ⟨W.heap.size + 1, 1, none⟩ = some (.int .i64 my) := cell_gr hw1 (by go_simp)
  have cw1_1_2 : w1.cell? ⟨W.heap.size + 1, 2, none⟩ = some (.int .i64 nx) := cell_gr hw1 (by go_simp)
  have cw1_1_3 : w1.cell? ⟨W.heap.size + 1, 3, none⟩ = some (.int .i64 ny) := cell_gr hw1 (by go_simp)
  have zw1_1 : W.heap.size + 1 < w1.heap.size := World.block_lt_of_cell? _ _ cw1_1_0
  have gw1 : Gr W w1 := Gr.trans (by go_grown) hw1
  clear hw1 hhw1
  go_wp2_with fail
  go_ret
  exact ⟨rfl, by have gg := gw1; have gs := gg.size; go_grown⟩
set_option maxHeartbeats 2000000 in
set_option maxRecDepth 100000 in
theorem c_meetsRingB {m : Nat} {P Q : Nat → Int} {u : Value} (W : World) (h : FrTo W k v lx ly hx hy) (hu : Pts W u m P Q) (h0 : (Rg.ringC m P Q).1 = 0) : Calls Tryd.prog 35 #[.agg #[.int .i64 k, v], u] W fun e w' => e = .returned (.bool (rmV m P Q lx ly hx hy)) ∧ Gr W w' := by
  have A1 := fun w (g : Gr W w) => c_rmbA lx ly hx hy w (pts_gr hu g) h0
  generalize rmV m P Q lx ly hx hy = z at A1 ⊢
  obtain ⟨hk, ⟨ad, n, cap, rfl⟩, A2⟩ := h
  obtain ⟨bd, bcap, _, _, rfl, -⟩ := hu
  have k4 : (k == 4) = false := by simp; omega
  have H1 := Lib.hid A1
  have H2 := Lib.hid A2
  clear A1 A2
  clear hk
  go_enter Tryd.func35, Tryd.ntmps35
  go_wp2_with fail
  go_at_call 24
  refine ((H2.out _ (by go_grown))).mono ?_
  rintro e w1 ⟨rfl, hw1⟩
  have cw1_0_0 : w1.cell? ⟨W.heap.size, 0, none⟩ = some (.int .i64 k) := cell_gr hw1 (by go_simp)
  have cw1_0_1 : w1.cell? ⟨W.heap.size, 1, none⟩ = some (.slice ad n cap) := cell_gr hw1 (by go_simp)
  have zw1_0 : W.heap.size < w1.heap.size := World.block_lt_of_cell? _ _ cw1_0_0
  have gw1 : Gr W w1 := Gr.trans (by go_grown) hw1
  clear hw1
  go_wp2_with fail
  go_at_call 49
  refine ((H1.out _ (by have gg := gw1; have gs := gg.size; go_grown))).mono ?_
  rintro e w2 ⟨rfl, hw2⟩
  have cw2_0_0 : w2.cell? ⟨W.heap.size, 0, none⟩ = some (.int .i64 k) := cell_gr hw2 (by go_simp)
  have cw2_0_1 : w2.cell? ⟨W.heap.size, 1, none⟩ = some (.slice ad n cap) := cell_gr hw2 (by go_simp)
  have zw2_0 : W.heap.size < w2.heap.size := World.block_lt_of_cell? _ _ cw2_0_0
  have gw2 : Gr W w2 := Gr.trans (by have gg := gw1; have gs := gg.size; go_grown) hw2
  clear hw2 gw1 zw1_0 cw1_0_0 cw1_0_1
  go_wp2_with fail
  go_ret
  exact ⟨rfl, gw2⟩
def msV (lx ly hx hy kq qlx qly qhx qhy : Int) (m : Nat) (P Q : Nat → Int) : Bool :=
  if kq = 2 then inV lx ly hx hy qlx qly qhx qhy else if kq = 3 then meV lx ly hx hy qlx qly qlx qly else if kq = 4 then rmV m P Q lx ly hx hy else meV lx ly hx hy qlx qly qhx qhy
set_option maxHeartbeats 4000000 in
set_option maxRecDepth 100000 in
theorem c_MatchesB {m : Nat} {P Q : Nat → Int} {u : Value} (kq qlx qly qhx qhy : Int) (W : World) (h : FrTo W k v lx ly hx hy) (hu : Pts W u m P Q) (h0 : kq = 4 → (Rg.ringC m P Q).1 = 0) :
    Calls Tryd.prog 23 #[.agg #[.int .i64 k, v], qryV kq qlx qly qhx qhy u] W fun e w' => e = .returned (.bool (msV lx ly hx hy kq qlx qly qhx qhy m P Q)) ∧ Gr W w' := by
  unfold msV
  by_cases k2 : kq = 2
  · rw [if_pos k2]
    subst k2
    have A1 := fun w => c_Inside lx ly hx hy qlx qly qhx qhy w
    unfold inV
    generalize (boxB lx ly hx hy && boxB qlx qly qhx qhy && inB qlx qly qhx qhy lx ly && inB qlx qly qhx qhy hx hy) = z at A1 ⊢
    obtain ⟨hk, ⟨ad, n, cap, rfl⟩, A2⟩ := h
    obtain ⟨bd, bcap, _, _, rfl, -⟩ := hu
    have H1 := Lib.hid A1
    have H2 := Lib.hid A2
    clear A1 A2
    clear hk h0
    go_enter Tryd.func23, Tryd.ntmps23
    go_wp2_with fail
    go_wp2_with fail
    refine wp_region_spread (by kernel_rfl) (by kernel_rfl) ?_
    try simp only [List.append]
    repeat (first | go_big_quiet_skip | (go_big_quiet_want; go_big_quiet_op; (first | go_big_quiet_on | (apply Exists.intro; refine ⟨fun _ => ?_, ?_⟩; (· (first | (go_at_call 24; first | ((with_reducible refine ((H2.out _ (Gr.trans (by go_grown) (gr_spread _ _)))).mono ?_); rintro e w' ⟨rfl, hg⟩; exact ⟨rfl, spread_gr hg⟩)) | (go_at_call 33; first | ((with_reducible refine ((H1.out _)).mono ?_); rintro e w' ⟨rfl, hg⟩; exact ⟨rfl, spread_gr hg⟩)))); go_big_quiet_on))))
    refine wpQuiet_nil ?_
    intro w1 hhw1
    have hw1 := Hd.gr_of_spread hhw1
    have cw1_0_0 : w1.cell? ⟨W.heap.size, 0, none⟩ = some (.int .i64 k) := cell_gr hw1 (by go_simp)
    have cw1_0_1 : w1.cell? ⟨W.heap.size, 1, none⟩ = some (.slice ad n cap) := cell_gr hw1 (by go_simp)
    have zw1_0 : W.heap.size < w1.heap.size := World.block_lt_of_cell? _ _ cw1_0_0
    have cw1_1_0 : w1.cell? ⟨W.heap.size + 1, 0, none⟩ = some (.int .i64 2) := cell_gr hw1 (by go_simp)
    have cw1_1_1 : w1.cell? ⟨W.heap.size + 1, 1, none⟩ = some (.int .i64 qlx) := cell_gr hw1 (by go_simp)
    have cw1_1_2 : w1.cell? ⟨W.heap.size + 1, 2, none⟩ = some (.int .i64 qly) := cell_gr hw1 (by go_simp)
    have cw1_1_3 : w1.cell? ⟨W.heap.size + 1, 3, none⟩ = some (.int .i64 qhx) := cell_gr hw1 (by go_simp)
    have cw1_1_4 : w1.cell? ⟨W.heap.size + 1, 4, none⟩ = some (.int .i64 qhy) := cell_gr hw1 (by go_simp)
    have cw1_1_5 : w1.cell? ⟨W.heap.size + 1, 5, none⟩ = some (.slice bd m bcap) := cell_gr hw1 (by go_simp)
    have zw1_1 : W.heap.size + 1 < w1.heap.size := World.block_lt_of_cell? _ _ cw1_1_0
    have gw1 : Gr W w1 := Gr.trans (by go_grown) hw1
    clear hw1 hhw1
    go_wp2_with fail
    go_ret
    exact ⟨rfl, by have gg := gw1; have gs := gg.size; go_grown⟩
  rw [if_neg k2]
  have b2 : (kq == 2) = false := by simp; omega
  by_cases k3 : kq = 3
  · rw [if_pos k3]
    subst k3
    have A1 := fun w (g : Gr W w) => c_meetsBoxB qlx qly qlx qly w (frTo_gr h g)
    generalize meV lx ly hx hy qlx qly qlx qly = z at A1 ⊢
    obtain ⟨hk, ⟨ad, n, cap, rfl⟩, A2⟩ := h
    obtain ⟨bd, bcap, _, _, rfl, -⟩ := hu
    have H1 := Lib.hid A1
    have H2 := Lib.hid A2
    clear A1 A2
    clear hk h0
    go_enter Tryd.func23, Tryd.ntmps23
    go_wp2_with fail
    go_at_call 34
    refine ((H1.out _ (by go_grown))).mono ?_
    rintro e w1 ⟨rfl, hw1⟩
    have gw1 : Gr W w1 := Gr.trans (by go_grown) hw1
    clear hw1
    go_wp2_with fail
    go_ret
    exact ⟨rfl, gw1⟩
  rw [if_neg k3]
  have b3 : (kq == 3) = false := by simp; omega
  by_cases k4 : kq = 4
  · rw [if_pos k4]
    have A1 := fun w (g : Gr W w) => c_meetsRingB w (frTo_gr h g) (pts_gr hu g) (h0 k4)
    subst k4
    generalize rmV m P Q lx ly hx hy = z at A1 ⊢
    obtain ⟨hk, ⟨ad, n, cap, rfl⟩, A2⟩ := h
    obtain ⟨bd, bcap, _, _, rfl, -⟩ := hu
    have H1 := Lib.hid A1
    have H2 := Lib.hid A2
    clear A1 A2
    clear hk h0
    go_enter Tryd.func23, Tryd.ntmps23
    go_wp2_with fail
    go_at_call 35
    refine ((H1.out _ (by go_grown))).mono ?_
    rintro e w1 ⟨rfl, hw1⟩
    have gw1 : Gr W w1 := Gr.trans (by go_grown) hw1
    clear hw1
    go_wp2_with fail
    go_ret
    exact ⟨rfl, gw1⟩
  rw [if_neg k4]
  have b4 : (kq == 4) = false := by simp; omega
  have A1 := fun w (g : Gr W w) => c_meetsBoxB qlx qly qhx qhy w (frTo_gr h g)
  generalize meV lx ly hx hy qlx qly qhx qhy = z at A1 ⊢
  obtain ⟨hk, ⟨ad, n, cap, rfl⟩, A2⟩ := h
  obtain ⟨bd, bcap, _, _, rfl, -⟩ := hu
  have H1 := Lib.hid A1
  have H2 := Lib.hid A2
  clear A1 A2
  clear hk h0
  go_enter Tryd.func23, Tryd.ntmps23
  go_wp2_with fail
  go_at_call 34
  refine ((H1.out _ (by go_grown))).mono ?_
  rintro e w1 ⟨rfl, hw1⟩
  have gw1 : Gr W w1 := Gr.trans (by go_grown) hw1
  clear hw1
  go_wp2_with fail
  go_ret
  exact ⟨rfl, gw1⟩
set_option maxHeartbeats 4000000 in
set_option maxRecDepth 100000 in
theorem match_core (kq qlx qly qhx qhy : Int) (ad bd : Option Addr) (n cap m bcap c d : Nat) (z : Bool) (W : World) (hE : ErrT W)
    (A1 : ∀ w, Gr W w → Calls Tryd.prog 19 #[.agg #[.int .i64 k, .slice ad n cap]] w fun e w' => ∃ x, e = .returned x ∧ WErr objectS w' x k c ∧ Gr w w')
    (A2 : ∀ w, Gr W w → Calls Tryd.prog 22 #[qryV kq qlx qly qhx qhy (.slice bd m bcap)] w fun e w' => ∃ x, e = .returned x ∧ WErr queryS w' x kq d ∧ Gr w w')
    (A3 : c = 0 → d = 0 → ∀ w, Gr W w → Calls Tryd.prog 23 #[.agg #[.int .i64 k, .slice ad n cap], qryV kq qlx qly qhx qhy (.slice bd m bcap)] w fun e w' => e = .returned (.bool z) ∧ Gr w w') :
    Calls Tryd.prog 10 #[.agg #[.int .i64 k, .slice ad n cap], qryV kq qlx qly qhx qhy (.slice bd m bcap)] W fun e w' => e = .returned (.bool (decide (c = 0) && decide (d = 0) && z)) ∧ Gr W w' := by
  have B1 : ∀ w, Gr W w → Calls Tryd.prog 19 #[.agg #[.int .i64 k, .slice ad n cap]] w fun e w' => ∃ x, e = .returned x ∧ (NF x ∧ (x = .nilIface ↔ c = 0)) ∧ Gr w w' := fun w g => (A1 w g).mono (by
    rintro e w' ⟨x, rfl, hx, g'⟩
    exact ⟨x, rfl, werr_nf hx, g'⟩)
  have B2 : ∀ w, Gr W w → Calls Tryd.prog 22 #[qryV kq qlx qly qhx qhy (.slice bd m bcap)] w fun e w' => ∃ x, e = .returned x ∧ (NF x ∧ (x = .nilIface ↔ d = 0)) ∧ Gr w w' := fun w g => (A2 w g).mono (by
    rintro e w' ⟨x, rfl, hx, g'⟩
    exact ⟨x, rfl, werr_nf hx, g'⟩)
  have B4 : ∀ (w : World) (D : Nat) (x y : Value) (q : Bool), Gr W w → w.cell? ⟨D, 0, none⟩ = some x → w.cell? ⟨D, 1, none⟩ = some y → NF x → NF y → (q = true ↔ x = .nilIface ∧ y = .nilIface) → Calls Tryd.prog 21 #[.slice (some ⟨D, 0, none⟩) 2 2] w fun e w' => e = .returned (.bool q) ∧ Gr w w' := fun w D x y q g h0 h1 n0 n1 hq =>
    c_allowed (D := D) (n := 2) (cap := 2) (e := fun k => if k = 0 then x else y) w (errT_gr hE g) (by omega) (fun k hk => by match k, hk with | 0, _ => exact h0 | 1, _ => exact h1) (fun k hk => by match k, hk with | 0, _ => exact n0 | 1, _ => exact n1) (World.block_lt_of_cell? _ _ h0) (Nat.le_refl _) q (by
      rw [hq]
      constructor
      · rintro ⟨a, b⟩ k hk
        match k, hk with
        | 0, _ => exact a
        | 1, _ => exact b
      · intro h
        exact ⟨h 0 (by omega), h 1 (by omega)⟩)
  clear A1 A2 hE
  by_cases hc : c = 0
  · rw [decide_eq_true hc, Bool.true_and]
    by_cases hd : d = 0
    · rw [decide_eq_true hd, Bool.true_and]
      have C3 := A3 hc hd
      have C1 : ∀ w, Gr W w → Calls Tryd.prog 19 #[.agg #[.int .i64 k, .slice ad n cap]] w fun e w' => e = .returned .nilIface ∧ Gr w w' := fun w g => (B1 w g).mono (by
        rintro e w' ⟨x, rfl, ⟨-, hx⟩, g'⟩
        obtain rfl := hx.2 hc
        exact ⟨rfl, g'⟩)
      have C2 : ∀ w, Gr W w → Calls Tryd.prog 22 #[qryV kq qlx qly qhx qhy (.slice bd m bcap)] w fun e w' => e = .returned .nilIface ∧ Gr w w' := fun w g => (B2 w g).mono (by
        rintro e w' ⟨x, rfl, ⟨-, hx⟩, g'⟩
        obtain rfl := hx.2 hd
        exact ⟨rfl, g'⟩)
      have H1 := Lib.hid C1
      have H2 := Lib.hid C2
      have H3 := Lib.hid C3
      have H4 := Lib.hid B4
      clear C1 C2 C3 B4
      clear A3 B1 B2
      go_enter Tryd.func10, Tryd.ntmps10
      go_wp2_with fail
      try simp only [List.append]
      refine Od.wp_region_ord [(0, false), (2, false), (1, true), (3, true), (4, true), (5, true), (6, false), (7, false), (8, false), (9, true), (10, false), (11, false)] (by kernel_rfl) (by kernel_rfl) ?_
      intro w0 hw0 KQ hKQ
      have cw0_0_0 : w0.cell? ⟨W.heap.size, 0, none⟩ = some (.int .i64 k) := cell_gr hw0 (by go_simp)
      have cw0_0_1 : w0.cell? ⟨W.heap.size, 1, none⟩ = some (.slice ad n cap) := cell_gr hw0 (by go_simp)
      have zw0_0 : W.heap.size < w0.heap.size := World.block_lt_of_cell? _ _ cw0_0_0
      have cw0_1_0 : w0.cell? ⟨W.heap.size + 1, 0, none⟩ = some (.int .i64 kq) := cell_gr hw0 (by go_simp)
      have cw0_1_1 : w0.cell? ⟨W.heap.size + 1, 1, none⟩ = some (.int .i64 qlx) := cell_gr hw0 (by go_simp)
      have cw0_1_2 : w0.cell? ⟨W.heap.size + 1, 2, none⟩ = some (.int .i64 qly) := cell_gr hw0 (by go_simp)
      have cw0_1_3 : w0.cell? ⟨W.heap.size + 1, 3, none⟩ = some (.int .i64 qhx) := cell_gr hw0 (by go_simp)
      have cw0_1_4 : w0.cell? ⟨W.heap.size + 1, 4, none⟩ = some (.int .i64 qhy) := cell_gr hw0 (by go_simp)
      have cw0_1_5 : w0.cell? ⟨W.heap.size + 1, 5, none⟩ = some (.slice bd m bcap) := cell_gr hw0 (by go_simp)
      have zw0_1 : W.heap.size + 1 < w0.heap.size := World.block_lt_of_cell? _ _ cw0_1_0
      have gw0 : Gr W w0 := Gr.trans (by go_grown) hw0
      skip
      clear hw0
      repeat (first | (refine Od.wpO_skip (by simp only [List.getElem?_toArray, List.getElem?_cons_succ, List.getElem?_cons_zero] <;> rfl) rfl ?_; simp only [Act.put, List.setIfInBounds_toArray, List.set_cons_zero, List.set_cons_succ]) | (refine Od.wpO_pure (by simp only [List.getElem?_toArray, List.getElem?_cons_succ, List.getElem?_cons_zero] <;> rfl) rfl ?_; apply Exists.intro; refine ⟨?_, ?_⟩; (· intro wx gx; obtain ⟨mx, rfl⟩ := spread_of_gr gx; clear gx; all_goals (apply Od.pAt_of_quiet; intro K hK; go_big_quiet_op; first | exact hK _ rfl | (apply Exists.intro; refine ⟨fun _ => ?_, ?_⟩; (· fail); exact hK _ rfl))); try simp only [Act.put, List.setIfInBounds_toArray, List.set_cons_zero, List.set_cons_succ]))
      refine Od.wpO_call (by simp only [List.getElem?_toArray, List.getElem?_cons_succ, List.getElem?_cons_zero] <;> rfl) rfl ?_
      intro QS hQS
      go_wp2_with fail
      go_at_call 19
      (with_reducible refine ((H1.out _ gw0)).mono ?_)
      rintro e w1 ⟨rfl, hw1⟩
      go_wp2_with fail
      apply Exists.intro
      refine ⟨?_, hw1, ?_⟩
      · simp only [Act.put, List.setIfInBounds_toArray, List.set_cons_zero, List.set_cons_succ]; rfl
      have cw1_0_0 : w1.cell? ⟨W.heap.size, 0, none⟩ = some (.int .i64 k) := cell_gr hw1 (by go_simp)
      have cw1_0_1 : w1.cell? ⟨W.heap.size, 1, none⟩ = some (.slice ad n cap) := cell_gr hw1 (by go_simp)
      have zw1_0 : W.heap.size < w1.heap.size := World.block_lt_of_cell? _ _ cw1_0_0
      have cw1_1_0 : w1.cell? ⟨W.heap.size + 1, 0, none⟩ = some (.int .i64 kq) := cell_gr hw1 (by go_simp)
      have cw1_1_1 : w1.cell? ⟨W.heap.size + 1, 1, none⟩ = some (.int .i64 qlx) := cell_gr hw1 (by go_simp)
      have cw1_1_2 : w1.cell? ⟨W.heap.size + 1, 2, none⟩ = some (.int .i64 qly) := cell_gr hw1 (by go_simp)
      have cw1_1_3 : w1.cell? ⟨W.heap.size + 1, 3, none⟩ = some (.int .i64 qhx) := cell_gr hw1 (by go_simp)
      have cw1_1_4 : w1.cell? ⟨W.heap.size + 1, 4, none⟩ = some (.int .i64 qhy) := cell_gr hw1 (by go_simp)
      have cw1_1_5 : w1.cell? ⟨W.heap.size + 1, 5, none⟩ = some (.slice bd m bcap) := cell_gr hw1 (by go_simp)
      have zw1_1 : W.heap.size + 1 < w1.heap.size := World.block_lt_of_cell? _ _ cw1_1_0
      have gw1 : Gr W w1 := Gr.trans (by have gg := gw0; have gs := gg.size; go_grown) hw1
      clear gw0 zw0_0 cw0_0_0 cw0_0_1 zw0_1 cw0_1_0 cw0_1_1 cw0_1_2 cw0_1_3 cw0_1_4 cw0_1_5
      clear hw1
      try simp only [Act.put, List.setIfInBounds_toArray, List.set_cons_zero, List.set_cons_succ]
      repeat (first | (refine Od.wpO_skip (by simp only [List.getElem?_toArray, List.getElem?_cons_succ, List.getElem?_cons_zero] <;> rfl) rfl ?_; simp only [Act.put, List.setIfInBounds_toArray, List.set_cons_zero, List.set_cons_succ]) | (refine Od.wpO_pure (by simp only [List.getElem?_toArray, List.getElem?_cons_succ, List.getElem?_cons_zero] <;> rfl) rfl ?_; apply Exists.intro; refine ⟨?_, ?_⟩; (· intro wx gx; obtain ⟨mx, rfl⟩ := spread_of_gr gx; clear gx; all_goals (apply Od.pAt_of_quiet; intro K hK; go_big_quiet_op; first | exact hK _ rfl | (apply Exists.intro; refine ⟨fun _ => ?_, ?_⟩; (· fail); exact hK _ rfl))); try simp only [Act.put, List.setIfInBounds_toArray, List.set_cons_zero, List.set_cons_succ]))
      refine Od.wpO_call (by simp only [List.getElem?_toArray, List.getElem?_cons_succ, List.getElem?_cons_zero] <;> rfl) rfl ?_
      intro QS hQS
      go_wp2_with fail
      go_at_call 22
      (with_reducible refine ((H2.out _ gw1)).mono ?_)
      rintro e w2 ⟨rfl, hw2⟩
      go_wp2_with fail
      apply Exists.intro
      refine ⟨?_, hw2, ?_⟩
      · simp only [Act.put, List.setIfInBounds_toArray, List.set_cons_zero, List.set_cons_succ]; rfl
      have cw2_0_0 : w2.cell? ⟨W.heap.size, 0, none⟩ = some (.int .i64 k) := cell_gr hw2 (by go_simp)
      have cw2_0_1 : w2.cell? ⟨W.heap.size, 1, none⟩ = some (.slice ad n cap) := cell_gr hw2 (by go_simp)
      have zw2_0 : W.heap.size < w2.heap.size := World.block_lt_of_cell? _ _ cw2_0_0
      have cw2_1_0 : w2.cell? ⟨W.heap.size + 1, 0, none⟩ = some (.int .i64 kq) := cell_gr hw2 (by go_simp)
      have cw2_1_1 : w2.cell? ⟨W.heap.size + 1, 1, none⟩ = some (.int .i64 qlx) := cell_gr hw2 (by go_simp)
      have cw2_1_2 : w2.cell? ⟨W.heap.size + 1, 2, none⟩ = some (.int .i64 qly) := cell_gr hw2 (by go_simp)
      have cw2_1_3 : w2.cell? ⟨W.heap.size + 1, 3, none⟩ = some (.int .i64 qhx) := cell_gr hw2 (by go_simp)
      have cw2_1_4 : w2.cell? ⟨W.heap.size + 1, 4, none⟩ = some (.int .i64 qhy) := cell_gr hw2 (by go_simp)
      have cw2_1_5 : w2.cell? ⟨W.heap.size + 1, 5, none⟩ = some (.slice bd m bcap) := cell_gr hw2 (by go_simp)
      have zw2_1 : W.heap.size + 1 < w2.heap.size := World.block_lt_of_cell? _ _ cw2_1_0
      have gw2 : Gr W w2 := Gr.trans (by have gg := gw1; have gs := gg.size; go_grown) hw2
      clear gw1 zw1_0 cw1_0_0 cw1_0_1 zw1_1 cw1_1_0 cw1_1_1 cw1_1_2 cw1_1_3 cw1_1_4 cw1_1_5
      clear hw2
      try simp only [Act.put, List.setIfInBounds_toArray, List.set_cons_zero, List.set_cons_succ]
      repeat (first | (refine Od.wpO_skip (by simp only [List.getElem?_toArray, List.getElem?_cons_succ, List.getElem?_cons_zero] <;> rfl) rfl ?_; simp only [Act.put, List.setIfInBounds_toArray, List.set_cons_zero, List.set_cons_succ]) | (refine Od.wpO_pure (by simp only [List.getElem?_toArray, List.getElem?_cons_succ, List.getElem?_cons_zero] <;> rfl) rfl ?_; apply Exists.intro; refine ⟨?_, ?_⟩; (· intro wx gx; obtain ⟨mx, rfl⟩ := spread_of_gr gx; clear gx; all_goals (apply Od.pAt_of_quiet; intro K hK; go_big_quiet_op; first | exact hK _ rfl | (apply Exists.intro; refine ⟨fun _ => ?_, ?_⟩; (· fail); exact hK _ rfl))); try simp only [Act.put, List.setIfInBounds_toArray, List.set_cons_zero, List.set_cons_succ]))
      refine Od.wpO_call (by simp only [List.getElem?_toArray, List.getElem?_cons_succ, List.getElem?_cons_zero] <;> rfl) rfl ?_
      intro QS hQS
      go_wp2_with fail
      first | (apply Exists.intro; refine ⟨?_, (by go_grown), ?_⟩; (· simp only [Act.put, List.setIfInBounds_toArray, List.set_cons_zero, List.set_cons_succ]; rfl)) | (refine ⟨(by go_grown), ?_⟩)
      generalize hhw3 : (w2.alloc (.cells #[.nilIface, .nilIface] 41)) = w3
      have hw3 : Gr w2 w3 := by subst hhw3; go_grown
      have cw3_0_0 : w3.cell? ⟨W.heap.size, 0, none⟩ = some (.int .i64 k) := by subst hhw3; go_simp
      have cw3_0_1 : w3.cell? ⟨W.heap.size, 1, none⟩ = some (.slice ad n cap) := by subst hhw3; go_simp
      have zw3_0 : W.heap.size < w3.heap.size := World.block_lt_of_cell? _ _ cw3_0_0
      have cw3_1_0 : w3.cell? ⟨W.heap.size + 1, 0, none⟩ = some (.int .i64 kq) := by subst hhw3; go_simp
      have cw3_1_1 : w3.cell? ⟨W.heap.size + 1, 1, none⟩ = some (.int .i64 qlx) := by subst hhw3; go_simp
      have cw3_1_2 : w3.cell? ⟨W.heap.size + 1, 2, none⟩ = some (.int .i64 qly) := by subst hhw3; go_simp
      have cw3_1_3 : w3.cell? ⟨W.heap.size + 1, 3, none⟩ = some (.int .i64 qhx) := by subst hhw3; go_simp
      have cw3_1_4 : w3.cell? ⟨W.heap.size + 1, 4, none⟩ = some (.int .i64 qhy) := by subst hhw3; go_simp
      have cw3_1_5 : w3.cell? ⟨W.heap.size + 1, 5, none⟩ = some (.slice bd m bcap) := by subst hhw3; go_simp
      have zw3_1 : W.heap.size + 1 < w3.heap.size := World.block_lt_of_cell? _ _ cw3_1_0
      have cw3_2_0 : w3.cell? ⟨w2.heap.size, 0, none⟩ = some (.nilIface) := by subst hhw3; go_simp
      have cw3_2_1 : w3.cell? ⟨w2.heap.size, 1, none⟩ = some (.nilIface) := by subst hhw3; go_simp
      have zw3_2 : w2.heap.size < w3.heap.size := World.block_lt_of_cell? _ _ cw3_2_0
      have gw3 : Gr W w3 := Gr.trans (by have gg := gw2; have gs := gg.size; go_grown) hw3
      clear hhw3 hw3 gw2 zw2_0 cw2_0_0 cw2_0_1 zw2_1 cw2_1_0 cw2_1_1 cw2_1_2 cw2_1_3 cw2_1_4 cw2_1_5
      try simp only [Act.put, List.setIfInBounds_toArray, List.set_cons_zero, List.set_cons_succ]
      repeat (first | (refine Od.wpO_skip (by simp only [List.getElem?_toArray, List.getElem?_cons_succ, List.getElem?_cons_zero] <;> rfl) rfl ?_; simp only [Act.put, List.setIfInBounds_toArray, List.set_cons_zero, List.set_cons_succ]) | (refine Od.wpO_pure (by simp only [List.getElem?_toArray, List.getElem?_cons_succ, List.getElem?_cons_zero] <;> rfl) rfl ?_; apply Exists.intro; refine ⟨?_, ?_⟩; (· intro wx gx; obtain ⟨mx, rfl⟩ := spread_of_gr gx; clear gx; all_goals (apply Od.pAt_of_quiet; intro K hK; go_big_quiet_op; first | exact hK _ rfl | (apply Exists.intro; refine ⟨fun _ => ?_, ?_⟩; (· fail); exact hK _ rfl))); try simp only [Act.put, List.setIfInBounds_toArray, List.set_cons_zero, List.set_cons_succ]))
      refine Od.wpO_call (by simp only [List.getElem?_toArray, List.getElem?_cons_succ, List.getElem?_cons_zero] <;> rfl) rfl ?_
      intro QS hQS
      go_wp2_with fail
      go_at_call 21
      (with_reducible refine ((H4.out _ _ _ _ true gw3 cw3_2_0 cw3_2_1 nf_nil nf_nil (by simp))).mono ?_)
      rintro e w4 ⟨rfl, hw4⟩
      go_wp2_with fail
      apply Exists.intro
      refine ⟨?_, hw4, ?_⟩
      · simp only [Act.put, List.setIfInBounds_toArray, List.set_cons_zero, List.set_cons_succ]; rfl
      have cw4_0_0 : w4.cell? ⟨W.heap.size, 0, none⟩ = some (.int .i64 k) := cell_gr hw4 (by go_simp)
      have cw4_0_1 : w4.cell? ⟨W.heap.size, 1, none⟩ = some (.slice ad n cap) := cell_gr hw4 (by go_simp)
      have zw4_0 : W.heap.size < w4.heap.size := World.block_lt_of_cell? _ _ cw4_0_0
      have cw4_1_0 : w4.cell? ⟨W.heap.size + 1, 0, none⟩ = some (.int .i64 kq) := cell_gr hw4 (by go_simp)
      have cw4_1_1 : w4.cell? ⟨W.heap.size + 1, 1, none⟩ = some (.int .i64 qlx) := cell_gr hw4 (by go_simp)
      have cw4_1_2 : w4.cell? ⟨W.heap.size + 1, 2, none⟩ = some (.int .i64 qly) := cell_gr hw4 (by go_simp)
      have cw4_1_3 : w4.cell? ⟨W.heap.size + 1, 3, none⟩ = some (.int .i64 qhx) := cell_gr hw4 (by go_simp)
      have cw4_1_4 : w4.cell? ⟨W.heap.size + 1, 4, none⟩ = some (.int .i64 qhy) := cell_gr hw4 (by go_simp)
      have cw4_1_5 : w4.cell? ⟨W.heap.size + 1, 5, none⟩ = some (.slice bd m bcap) := cell_gr hw4 (by go_simp)
      have zw4_1 : W.heap.size + 1 < w4.heap.size := World.block_lt_of_cell? _ _ cw4_1_0
      have cw4_2_0 : w4.cell? ⟨w2.heap.size, 0, none⟩ = some (.nilIface) := cell_gr hw4 (by go_simp)
      have cw4_2_1 : w4.cell? ⟨w2.heap.size, 1, none⟩ = some (.nilIface) := cell_gr hw4 (by go_simp)
      have zw4_2 : w2.heap.size < w4.heap.size := World.block_lt_of_cell? _ _ cw4_2_0
      have gw4 : Gr W w4 := Gr.trans (by have gg := gw3; have gs := gg.size; go_grown) hw4
      clear gw3 zw3_0 cw3_0_0 cw3_0_1 zw3_1 cw3_1_0 cw3_1_1 cw3_1_2 cw3_1_3 cw3_1_4 cw3_1_5 zw3_2 cw3_2_0 cw3_2_1
      clear hw4
      try simp only [Act.put, List.setIfInBounds_toArray, List.set_cons_zero, List.set_cons_succ]
      repeat (first | (refine Od.wpO_skip (by simp only [List.getElem?_toArray, List.getElem?_cons_succ, List.getElem?_cons_zero] <;> rfl) rfl ?_; simp only [Act.put, List.setIfInBounds_toArray, List.set_cons_zero, List.set_cons_succ]) | (refine Od.wpO_pure (by simp only [List.getElem?_toArray, List.getElem?_cons_succ, List.getElem?_cons_zero] <;> rfl) rfl ?_; apply Exists.intro; refine ⟨?_, ?_⟩; (· intro wx gx; obtain ⟨mx, rfl⟩ := spread_of_gr gx; clear gx; all_goals (apply Od.pAt_of_quiet; intro K hK; go_big_quiet_op; first | exact hK _ rfl | (apply Exists.intro; refine ⟨fun _ => ?_, ?_⟩; (· fail); exact hK _ rfl))); try simp only [Act.put, List.setIfInBounds_toArray, List.set_cons_zero, List.set_cons_succ]))
      refine Od.wpO_call (by simp only [List.getElem?_toArray, List.getElem?_cons_succ, List.getElem?_cons_zero] <;> rfl) rfl ?_
      intro QS hQS
      go_wp2_with fail
      go_at_call 23
      (with_reducible refine ((H3.out _ gw4)).mono ?_)
      rintro e w5 ⟨rfl, hw5⟩
      go_wp2_with fail
      apply Exists.intro
      refine ⟨?_, hw5, ?_⟩
      · simp only [Act.put, List.setIfInBounds_toArray, List.set_cons_zero, List.set_cons_succ]; rfl
      have cw5_0_0 : w5.cell? ⟨W.heap.size, 0, none⟩ = some (.int .i64 k) := cell_gr hw5 (by go_simp)
      have cw5_0_1 : w5.cell? ⟨W.heap.size, 1, none⟩ = some (.slice ad n cap) := cell_gr hw5 (by go_simp)
      have zw5_0 : W.heap.size < w5.heap.size := World.block_lt_of_cell? _ _ cw5_0_0
      have cw5_1_0 : w5.cell? ⟨W.heap.size + 1, 0, none⟩ = some (.int .i64 kq) := cell_gr hw5 (by go_simp)
      have cw5_1_1 : w5.cell? ⟨W.heap.size + 1, 1, none⟩ = some (.int .i64 qlx) := cell_gr hw5 (by go_simp)
      have cw5_1_2 : w5.cell? ⟨W.heap.size + 1, 2, none⟩ = some (.int .i64 qly) := cell_gr hw5 (by go_simp)
      have cw5_1_3 : w5.cell? ⟨W.heap.size + 1, 3, none⟩ = some (.int .i64 qhx) := cell_gr hw5 (by go_simp)
      have cw5_1_4 : w5.cell? ⟨W.heap.size + 1, 4, none⟩ = some (.int .i64 qhy) := cell_gr hw5 (by go_simp)
      have cw5_1_5 : w5.cell? ⟨W.heap.size + 1, 5, none⟩ = some (.slice bd m bcap) := cell_gr hw5 (by go_simp)
      have zw5_1 : W.heap.size + 1 < w5.heap.size := World.block_lt_of_cell? _ _ cw5_1_0
      have cw5_2_0 : w5.cell? ⟨w2.heap.size, 0, none⟩ = some (.nilIface) := cell_gr hw5 (by go_simp)
      have cw5_2_1 : w5.cell? ⟨w2.heap.size, 1, none⟩ = some (.nilIface) := cell_gr hw5 (by go_simp)
      have zw5_2 : w2.heap.size < w5.heap.size := World.block_lt_of_cell? _ _ cw5_2_0
      have gw5 : Gr W w5 := Gr.trans (by have gg := gw4; have gs := gg.size; go_grown) hw5
      clear gw4 zw4_0 cw4_0_0 cw4_0_1 zw4_1 cw4_1_0 cw4_1_1 cw4_1_2 cw4_1_3 cw4_1_4 cw4_1_5 zw4_2 cw4_2_0 cw4_2_1
      clear hw5
      try simp only [Act.put, List.setIfInBounds_toArray, List.set_cons_zero, List.set_cons_succ]
      repeat (first | (refine Od.wpO_skip (by simp only [List.getElem?_toArray, List.getElem?_cons_succ, List.getElem?_cons_zero] <;> rfl) rfl ?_; simp only [Act.put, List.setIfInBounds_toArray, List.set_cons_zero, List.set_cons_succ]) | (refine Od.wpO_pure (by simp only [List.getElem?_toArray, List.getElem?_cons_succ, List.getElem?_cons_zero] <;> rfl) rfl ?_; apply Exists.intro; refine ⟨?_, ?_⟩; (· intro wx gx; obtain ⟨mx, rfl⟩ := spread_of_gr gx; clear gx; all_goals (apply Od.pAt_of_quiet; intro K hK; go_big_quiet_op; first | exact hK _ rfl | (apply Exists.intro; refine ⟨fun _ => ?_, ?_⟩; (· fail); exact hK _ rfl))); try simp only [Act.put, List.setIfInBounds_toArray, List.set_cons_zero, List.set_cons_succ]))
      refine Od.wpO_nil (hKQ _ _ ?_)
      clear hKQ KQ
      go_wp2_with fail
      go_ret
      exact ⟨rfl, gw5⟩
    · rw [decide_eq_false hd, Bool.false_and]
      have C1 : ∀ w, Gr W w → Calls Tryd.prog 19 #[.agg #[.int .i64 k, .slice ad n cap]] w fun e w' => e = .returned .nilIface ∧ Gr w w' := fun w g => (B1 w g).mono (by
        rintro e w' ⟨x, rfl, ⟨-, hx⟩, g'⟩
        obtain rfl := hx.2 hc
        exact ⟨rfl, g'⟩)
      have C2 : ∀ w, Gr W w → Calls Tryd.prog 22 #[qryV kq qlx qly qhx qhy (.slice bd m bcap)] w fun e w' => ∃ B, e = .returned (.iface 60 (.pointer (some ⟨B, 0, none⟩))) ∧ Gr w w' := fun w g => (B2 w g).mono (by
        rintro e w' ⟨x, rfl, ⟨hn, hx⟩, g'⟩
        rcases hn with rfl | ⟨B, rfl⟩
        · exact absurd (hx.1 rfl) hd
        · exact ⟨B, rfl, g'⟩)
      have H1 := Lib.hid C1
      have H2 := Lib.hid C2
      have H4 := Lib.hid B4
      clear C1 C2 B4
      clear A3 B1 B2
      go_enter Tryd.func10, Tryd.ntmps10
      go_wp2_with fail
      try simp only [List.append]
      refine Od.wp_region_ord [(0, false), (2, false), (1, true), (3, true), (4, true), (5, true), (6, false), (7, false), (8, false), (9, true), (10, false), (11, false)] (by kernel_rfl) (by kernel_rfl) ?_
      intro w0 hw0 KQ hKQ
      have cw0_0_0 : w0.cell? ⟨W.heap.size, 0, none⟩ = some (.int .i64 k) := cell_gr hw0 (by go_simp)
      have cw0_0_1 : w0.cell? ⟨W.heap.size, 1, none⟩ = some (.slice ad n cap) := cell_gr hw0 (by go_simp)
      have zw0_0 : W.heap.size < w0.heap.size := World.block_lt_of_cell? _ _ cw0_0_0
      have cw0_1_0 : w0.cell? ⟨W.heap.size + 1, 0, none⟩ = some (.int .i64 kq) := cell_gr hw0 (by go_simp)
      have cw0_1_1 : w0.cell? ⟨W.heap.size + 1, 1, none⟩ = some (.int .i64 qlx) := cell_gr hw0 (by go_simp)
      have cw0_1_2 : w0.cell? ⟨W.heap.size + 1, 2, none⟩ = some (.int .i64 qly) := cell_gr hw0 (by go_simp)
      have cw0_1_3 : w0.cell? ⟨W.heap.size + 1, 3, none⟩ = some (.int .i64 qhx) := cell_gr hw0 (by go_simp)
      have cw0_1_4 : w0.cell? ⟨W.heap.size + 1, 4, none⟩ = some (.int .i64 qhy) := cell_gr hw0 (by go_simp)
      have cw0_1_5 : w0.cell? ⟨W.heap.size + 1, 5, none⟩ = some (.slice bd m bcap) := cell_gr hw0 (by go_simp)
      have zw0_1 : W.heap.size + 1 < w0.heap.size := World.block_lt_of_cell? _ _ cw0_1_0
      have gw0 : Gr W w0 := Gr.trans (by go_grown) hw0
      skip
      clear hw0
      repeat (first | (refine Od.wpO_skip (by simp only [List.getElem?_toArray, List.getElem?_cons_succ, List.getElem?_cons_zero] <;> rfl) rfl ?_; simp only [Act.put, List.setIfInBounds_toArray, List.set_cons_zero, List.set_cons_succ]) | (refine Od.wpO_pure (by simp only [List.getElem?_toArray, List.getElem?_cons_succ, List.getElem?_cons_zero] <;> rfl) rfl ?_; apply Exists.intro; refine ⟨?_, ?_⟩; (· intro wx gx; obtain ⟨mx, rfl⟩ := spread_of_gr gx; clear gx; all_goals (apply Od.pAt_of_quiet; intro K hK; go_big_quiet_op; first | exact hK _ rfl | (apply Exists.intro; refine ⟨fun _ => ?_, ?_⟩; (· fail); exact hK _ rfl))); try simp only [Act.put, List.setIfInBounds_toArray, List.set_cons_zero, List.set_cons_succ]))
      refine Od.wpO_call (by simp only [List.getElem?_toArray, List.getElem?_cons_succ, List.getElem?_cons_zero] <;> rfl) rfl ?_
      intro QS hQS
      go_wp2_with fail
      go_at_call 19
      (with_reducible refine ((H1.out _ gw0)).mono ?_)
      rintro e w1 ⟨rfl, hw1⟩
      go_wp2_with fail
      apply Exists.intro
      refine ⟨?_, hw1, ?_⟩
      · simp only [Act.put, List.setIfInBounds_toArray, List.set_cons_zero, List.set_cons_succ]; rfl
      have cw1_0_0 : w1.cell? ⟨W.heap.size, 0, none⟩ = some (.int .i64 k) := cell_gr hw1 (by go_simp)
      have cw1_0_1 : w1.cell? ⟨W.heap.size, 1, none⟩ = some (.slice ad n cap) := cell_gr hw1 (by go_simp)
      have zw1_0 : W.heap.size < w1.heap.size := World.block_lt_of_cell? _ _ cw1_0_0
      have cw1_1_0 : w1.cell? ⟨W.heap.size + 1, 0, none⟩ = some (.int .i64 kq) := cell_gr hw1 (by go_simp)
      have cw1_1_1 : w1.cell? ⟨W.heap.size + 1, 1, none⟩ = some (.int .i64 qlx) := cell_gr hw1 (by go_simp)
      have cw1_1_2 : w1.cell? ⟨W.heap.size + 1, 2, none⟩ = some (.int .i64 qly) := cell_gr hw1 (by go_simp)
      have cw1_1_3 : w1.cell? ⟨W.heap.size + 1, 3, none⟩ = some (.int .i64 qhx) := cell_gr hw1 (by go_simp)
      have cw1_1_4 : w1.cell? ⟨W.heap.size + 1, 4, none⟩ = some (.int .i64 qhy) := cell_gr hw1 (by go_simp)
      have cw1_1_5 : w1.cell? ⟨W.heap.size + 1, 5, none⟩ = some (.slice bd m bcap) := cell_gr hw1 (by go_simp)
      have zw1_1 : W.heap.size + 1 < w1.heap.size := World.block_lt_of_cell? _ _ cw1_1_0
      have gw1 : Gr W w1 := Gr.trans (by have gg := gw0; have gs := gg.size; go_grown) hw1
      clear gw0 zw0_0 cw0_0_0 cw0_0_1 zw0_1 cw0_1_0 cw0_1_1 cw0_1_2 cw0_1_3 cw0_1_4 cw0_1_5
      clear hw1
      try simp only [Act.put, List.setIfInBounds_toArray, List.set_cons_zero, List.set_cons_succ]
      repeat (first | (refine Od.wpO_skip (by simp only [List.getElem?_toArray, List.getElem?_cons_succ, List.getElem?_cons_zero] <;> rfl) rfl ?_; simp only [Act.put, List.setIfInBounds_toArray, List.set_cons_zero, List.set_cons_succ]) | (refine Od.wpO_pure (by simp only [List.getElem?_toArray, List.getElem?_cons_succ, List.getElem?_cons_zero] <;> rfl) rfl ?_; apply Exists.intro; refine ⟨?_, ?_⟩; (· intro wx gx; obtain ⟨mx, rfl⟩ := spread_of_gr gx; clear gx; all_goals (apply Od.pAt_of_quiet; intro K hK; go_big_quiet_op; first | exact hK _ rfl | (apply Exists.intro; refine ⟨fun _ => ?_, ?_⟩; (· fail); exact hK _ rfl))); try simp only [Act.put, List.setIfInBounds_toArray, List.set_cons_zero, List.set_cons_succ]))
      refine Od.wpO_call (by simp only [List.getElem?_toArray, List.getElem?_cons_succ, List.getElem?_cons_zero] <;> rfl) rfl ?_
      intro QS hQS
      go_wp2_with fail
      go_at_call 22
      (with_reducible refine ((H2.out _ gw1)).mono ?_)
      rintro e w2 ⟨B2, rfl, hw2⟩
      go_wp2_with fail
      apply Exists.intro
      refine ⟨?_, hw2, ?_⟩
      · simp only [Act.put, List.setIfInBounds_toArray, List.set_cons_zero, List.set_cons_succ]; rfl
      have cw2_0_0 : w2.cell? ⟨W.heap.size, 0, none⟩ = some (.int .i64 k) := cell_gr hw2 (by go_simp)
      have cw2_0_1 : w2.cell? ⟨W.heap.size, 1, none⟩ = some (.slice ad n cap) := cell_gr hw2 (by go_simp)
      have zw2_0 : W.heap.size < w2.heap.size := World.block_lt_of_cell? _ _ cw2_0_0
      have cw2_1_0 : w2.cell? ⟨W.heap.size + 1, 0, none⟩ = some (.int .i64 kq) := cell_gr hw2 (by go_simp)
      have cw2_1_1 : w2.cell? ⟨W.heap.size + 1, 1, none⟩ = some (.int .i64 qlx) := cell_gr hw2 (by go_simp)
      have cw2_1_2 : w2.cell? ⟨W.heap.size + 1, 2, none⟩ = some (.int .i64 qly) := cell_gr hw2 (by go_simp)
      have cw2_1_3 : w2.cell? ⟨W.heap.size + 1, 3, none⟩ = some (.int .i64 qhx) := cell_gr hw2 (by go_simp)
      have cw2_1_4 : w2.cell? ⟨W.heap.size + 1, 4, none⟩ = some (.int .i64 qhy) := cell_gr hw2 (by go_simp)
      have cw2_1_5 : w2.cell? ⟨W.heap.size + 1, 5, none⟩ = some (.slice bd m bcap) := cell_gr hw2 (by go_simp)
      have zw2_1 : W.heap.size + 1 < w2.heap.size := World.block_lt_of_cell? _ _ cw2_1_0
      have gw2 : Gr W w2 := Gr.trans (by have gg := gw1; have gs := gg.size; go_grown) hw2
      clear gw1 zw1_0 cw1_0_0 cw1_0_1 zw1_1 cw1_1_0 cw1_1_1 cw1_1_2 cw1_1_3 cw1_1_4 cw1_1_5
      clear hw2
      try simp only [Act.put, List.setIfInBounds_toArray, List.set_cons_zero, List.set_cons_succ]
      repeat (first | (refine Od.wpO_skip (by simp only [List.getElem?_toArray, List.getElem?_cons_succ, List.getElem?_cons_zero] <;> rfl) rfl ?_; simp only [Act.put, List.setIfInBounds_toArray, List.set_cons_zero, List.set_cons_succ]) | (refine Od.wpO_pure (by simp only [List.getElem?_toArray, List.getElem?_cons_succ, List.getElem?_cons_zero] <;> rfl) rfl ?_; apply Exists.intro; refine ⟨?_, ?_⟩; (· intro wx gx; obtain ⟨mx, rfl⟩ := spread_of_gr gx; clear gx; all_goals (apply Od.pAt_of_quiet; intro K hK; go_big_quiet_op; first | exact hK _ rfl | (apply Exists.intro; refine ⟨fun _ => ?_, ?_⟩; (· fail); exact hK _ rfl))); try simp only [Act.put, List.setIfInBounds_toArray, List.set_cons_zero, List.set_cons_succ]))
      refine Od.wpO_call (by simp only [List.getElem?_toArray, List.getElem?_cons_succ, List.getElem?_cons_zero] <;> rfl) rfl ?_
      intro QS hQS
      go_wp2_with fail
      first | (apply Exists.intro; refine ⟨?_, (by go_grown), ?_⟩; (· simp only [Act.put, List.setIfInBounds_toArray, List.set_cons_zero, List.set_cons_succ]; rfl)) | (refine ⟨(by go_grown), ?_⟩)
      generalize hhw3 : (w2.alloc (.cells #[.nilIface, .iface 60 (.pointer (some ⟨B2, 0, none⟩))] 41)) = w3
      have hw3 : Gr w2 w3 := by subst hhw3; go_grown
      have cw3_0_0 : w3.cell? ⟨W.heap.size, 0, none⟩ = some (.int .i64 k) := by subst hhw3; go_simp
      have cw3_0_1 : w3.cell? ⟨W.heap.size, 1, none⟩ = some (.slice ad n cap) := by subst hhw3; go_simp
      have zw3_0 : W.heap.size < w3.heap.size := World.block_lt_of_cell? _ _ cw3_0_0
      have cw3_1_0 : w3.cell? ⟨W.heap.size + 1, 0, none⟩ = some (.int .i64 kq) := by subst hhw3; go_simp
      have cw3_1_1 : w3.cell? ⟨W.heap.size + 1, 1, none⟩ = some (.int .i64 qlx) := by subst hhw3; go_simp
      have cw3_1_2 : w3.cell? ⟨W.heap.size + 1, 2, none⟩ = some (.int .i64 qly) := by subst hhw3; go_simp
      have cw3_1_3 : w3.cell? ⟨W.heap.size + 1, 3, none⟩ = some (.int .i64 qhx) := by subst hhw3; go_simp
      have cw3_1_4 : w3.cell? ⟨W.heap.size + 1, 4, none⟩ = some (.int .i64 qhy) := by subst hhw3; go_simp
      have cw3_1_5 : w3.cell? ⟨W.heap.size + 1, 5, none⟩ = some (.slice bd m bcap) := by subst hhw3; go_simp
      have zw3_1 : W.heap.size + 1 < w3.heap.size := World.block_lt_of_cell? _ _ cw3_1_0
      have cw3_2_0 : w3.cell? ⟨w2.heap.size, 0, none⟩ = some (.nilIface) := by subst hhw3; go_simp
      have cw3_2_1 : w3.cell? ⟨w2.heap.size, 1, none⟩ = some (.iface 60 (.pointer (some ⟨B2, 0, none⟩))) := by subst hhw3; go_simp
      have zw3_2 : w2.heap.size < w3.heap.size := World.block_lt_of_cell? _ _ cw3_2_0
      have gw3 : Gr W w3 := Gr.trans (by have gg := gw2; have gs := gg.size; go_grown) hw3
      clear hhw3 hw3 gw2 zw2_0 cw2_0_0 cw2_0_1 zw2_1 cw2_1_0 cw2_1_1 cw2_1_2 cw2_1_3 cw2_1_4 cw2_1_5
      try simp only [Act.put, List.setIfInBounds_toArray, List.set_cons_zero, List.set_cons_succ]
      repeat (first | (refine Od.wpO_skip (by simp only [List.getElem?_toArray, List.getElem?_cons_succ, List.getElem?_cons_zero] <;> rfl) rfl ?_; simp only [Act.put, List.setIfInBounds_toArray, List.set_cons_zero, List.set_cons_succ]) | (refine Od.wpO_pure (by simp only [List.getElem?_toArray, List.getElem?_cons_succ, List.getElem?_cons_zero] <;> rfl) rfl ?_; apply Exists.intro; refine ⟨?_, ?_⟩; (· intro wx gx; obtain ⟨mx, rfl⟩ := spread_of_gr gx; clear gx; all_goals (apply Od.pAt_of_quiet; intro K hK; go_big_quiet_op; first | exact hK _ rfl | (apply Exists.intro; refine ⟨fun _ => ?_, ?_⟩; (· fail); exact hK _ rfl))); try simp only [Act.put, List.setIfInBounds_toArray, List.set_cons_zero, List.set_cons_succ]))
      refine Od.wpO_call (by simp only [List.getElem?_toArray, List.getElem?_cons_succ, List.getElem?_cons_zero] <;> rfl) rfl ?_
      intro QS hQS
      go_wp2_with fail
      go_at_call 21
      (with_reducible refine ((H4.out _ _ _ _ false gw3 cw3_2_0 cw3_2_1 nf_nil (nf_f _) (by simp))).mono ?_)
      rintro e w4 ⟨rfl, hw4⟩
      go_wp2_with fail
      apply Exists.intro
      refine ⟨?_, hw4, ?_⟩
      · simp only [Act.put, List.setIfInBounds_toArray, List.set_cons_zero, List.set_cons_succ]; rfl
      have cw4_0_0 : w4.cell? ⟨W.heap.size, 0, none⟩ = some (.int .i64 k) := cell_gr hw4 (by go_simp)
      have cw4_0_1 : w4.cell? ⟨W.heap.size, 1, none⟩ = some (.slice ad n cap) := cell_gr hw4 (by go_simp)
      have zw4_0 : W.heap.size < w4.heap.size := World.block_lt_of_cell? _ _ cw4_0_0
      have cw4_1_0 : w4.cell? ⟨W.heap.size + 1, 0, none⟩ = some (.int .i64 kq) := cell_gr hw4 (by go_simp)
      have cw4_1_1 : w4.cell? ⟨W.heap.size + 1, 1, none⟩ = some (.int .i64 qlx) := cell_gr hw4 (by go_simp)
      have cw4_1_2 : w4.cell? ⟨W.heap.size + 1, 2, none⟩ = some (.int .i64 qly) := cell_gr hw4 (by go_simp)
      have cw4_1_3 : w4.cell? ⟨W.heap.size + 1, 3, none⟩ = some (.int .i64 qhx) := cell_gr hw4 (by go_simp)
      have cw4_1_4 : w4.cell? ⟨W.heap.size + 1, 4, none⟩ = some (.int .i64 qhy) := cell_gr hw4 (by go_simp)
      have cw4_1_5 : w4.cell? ⟨W.heap.size + 1, 5, none⟩ = some (.slice bd m bcap) := cell_gr hw4 (by go_simp)
      have zw4_1 : W.heap.size + 1 < w4.heap.size := World.block_lt_of_cell? _ _ cw4_1_0
      have cw4_2_0 : w4.cell? ⟨w2.heap.size, 0, none⟩ = some (.nilIface) := cell_gr hw4 (by go_simp)
      have cw4_2_1 : w4.cell? ⟨w2.heap.size, 1, none⟩ = some (.iface 60 (.pointer (some ⟨B2, 0, none⟩))) := cell_gr hw4 (by go_simp)
      have zw4_2 : w2.heap.size < w4.heap.size := World.block_lt_of_cell? _ _ cw4_2_0
      have gw4 : Gr W w4 := Gr.trans (by have gg := gw3; have gs := gg.size; go_grown) hw4
      clear gw3 zw3_0 cw3_0_0 cw3_0_1 zw3_1 cw3_1_0 cw3_1_1 cw3_1_2 cw3_1_3 cw3_1_4 cw3_1_5 zw3_2 cw3_2_0 cw3_2_1
      clear hw4
      try simp only [Act.put, List.setIfInBounds_toArray, List.set_cons_zero, List.set_cons_succ]
      repeat (first | (refine Od.wpO_skip (by simp only [List.getElem?_toArray, List.getElem?_cons_succ, List.getElem?_cons_zero] <;> rfl) rfl ?_; simp only [Act.put, List.setIfInBounds_toArray, List.set_cons_zero, List.set_cons_succ]) | (refine Od.wpO_pure (by simp only [List.getElem?_toArray, List.getElem?_cons_succ, List.getElem?_cons_zero] <;> rfl) rfl ?_; apply Exists.intro; refine ⟨?_, ?_⟩; (· intro wx gx; obtain ⟨mx, rfl⟩ := spread_of_gr gx; clear gx; all_goals (apply Od.pAt_of_quiet; intro K hK; go_big_quiet_op; first | exact hK _ rfl | (apply Exists.intro; refine ⟨fun _ => ?_, ?_⟩; (· fail); exact hK _ rfl))); try simp only [Act.put, List.setIfInBounds_toArray, List.set_cons_zero, List.set_cons_succ]))
      refine Od.wpO_nil (hKQ _ _ ?_)
      clear hKQ KQ
      go_wp2_with fail
      go_ret
      exact ⟨rfl, gw4⟩
  · rw [decide_eq_false hc, Bool.false_and, Bool.false_and]
    by_cases hd : d = 0
    · skip
      have C1 : ∀ w, Gr W w → Calls Tryd.prog 19 #[.agg #[.int .i64 k, .slice ad n cap]] w fun e w' => ∃ B, e = .returned (.iface 60 (.pointer (some ⟨B, 0, none⟩))) ∧ Gr w w' := fun w g => (B1 w g).mono (by
        rintro e w' ⟨x, rfl, ⟨hn, hx⟩, g'⟩
        rcases hn with rfl | ⟨B, rfl⟩
        · exact absurd (hx.1 rfl) hc
        · exact ⟨B, rfl, g'⟩)
      have C2 : ∀ w, Gr W w → Calls Tryd.prog 22 #[qryV kq qlx qly qhx qhy (.slice bd m bcap)] w fun e w' => e = .returned .nilIface ∧ Gr w w' := fun w g => (B2 w g).mono (by
        rintro e w' ⟨x, rfl, ⟨-, hx⟩, g'⟩
        obtain rfl := hx.2 hd
        exact ⟨rfl, g'⟩)
      have H1 := Lib.hid C1
      have H2 := Lib.hid C2
      have H4 := Lib.hid B4
      clear C1 C2 B4
      clear A3 B1 B2
      go_enter Tryd.func10, Tryd.ntmps10
      go_wp2_with fail
      try simp only [List.append]
      refine Od.wp_region_ord [(0, false), (2, false), (1, true), (3, true), (4, true), (5, true), (6, false), (7, false), (8, false), (9, true), (10, false), (11, false)] (by kernel_rfl) (by kernel_rfl) ?_
      intro w0 hw0 KQ hKQ
      have cw0_0_0 : w0.cell? ⟨W.heap.size, 0, none⟩ = some (.int .i64 k) := cell_gr hw0 (by go_simp)
      have cw0_0_1 : w0.cell? ⟨W.heap.size, 1, none⟩ = some (.slice ad n cap) := cell_gr hw0 (by go_simp)
      have zw0_0 : W.heap.size < w0.heap.size := World.block_lt_of_cell? _ _ cw0_0_0
      have cw0_1_0 : w0.cell? ⟨W.heap.size + 1, 0, none⟩ = some (.int .i64 kq) := cell_gr hw0 (by go_simp)
      have cw0_1_1 : w0.cell? ⟨W.heap.size + 1, 1, none⟩ = some (.int .i64 qlx) := cell_gr hw0 (by go_simp)
      have cw0_1_2 : w0.cell? ⟨W.heap.size + 1, 2, none⟩ = some (.int .i64 qly) := cell_gr hw0 (by go_simp)
      have cw0_1_3 : w0.cell? ⟨W.heap.size + 1, 3, none⟩ = some (.int .i64 qhx) := cell_gr hw0 (by go_simp)
      have cw0_1_4 : w0.cell? ⟨W.heap.size + 1, 4, none⟩ = some (.int .i64 qhy) := cell_gr hw0 (by go_simp)
      have cw0_1_5 : w0.cell? ⟨W.heap.size + 1, 5, none⟩ = some (.slice bd m bcap) := cell_gr hw0 (by go_simp)
      have zw0_1 : W.heap.size + 1 < w0.heap.size := World.block_lt_of_cell? _ _ cw0_1_0
      have gw0 : Gr W w0 := Gr.trans (by go_grown) hw0
      skip
      clear hw0
      repeat (first | (refine Od.wpO_skip (by simp only [List.getElem?_toArray, List.getElem?_cons_succ, List.getElem?_cons_zero] <;> rfl) rfl ?_; simp only [Act.put, List.setIfInBounds_toArray, List.set_cons_zero, List.set_cons_succ]) | (refine Od.wpO_pure (by simp only [List.getElem?_toArray, List.getElem?_cons_succ, List.getElem?_cons_zero] <;> rfl) rfl ?_; apply Exists.intro; refine ⟨?_, ?_⟩; (· intro wx gx; obtain ⟨mx, rfl⟩ := spread_of_gr gx; clear gx; all_goals (apply Od.pAt_of_quiet; intro K hK; go_big_quiet_op; first | exact hK _ rfl | (apply Exists.intro; refine ⟨fun _ => ?_, ?_⟩; (· fail); exact hK _ rfl))); try simp only [Act.put, List.setIfInBounds_toArray, List.set_cons_zero, List.set_cons_succ]))
      refine Od.wpO_call (by simp only [List.getElem?_toArray, List.getElem?_cons_succ, List.getElem?_cons_zero] <;> rfl) rfl ?_
      intro QS hQS
      go_wp2_with fail
      go_at_call 19
      (with_reducible refine ((H1.out _ gw0)).mono ?_)
      rintro e w1 ⟨B1, rfl, hw1⟩
      go_wp2_with fail
      apply Exists.intro
      refine ⟨?_, hw1, ?_⟩
      · simp only [Act.put, List.setIfInBounds_toArray, List.set_cons_zero, List.set_cons_succ]; rfl
      have cw1_0_0 : w1.cell? ⟨W.heap.size, 0, none⟩ = some (.int .i64 k) := cell_gr hw1 (by go_simp)
      have cw1_0_1 : w1.cell? ⟨W.heap.size, 1, none⟩ = some (.slice ad n cap) := cell_gr hw1 (by go_simp)
      have zw1_0 : W.heap.size < w1.heap.size := World.block_lt_of_cell? _ _ cw1_0_0
      have cw1_1_0 : w1.cell? ⟨W.heap.size + 1, 0, none⟩ = some (.int .i64 kq) := cell_gr hw1 (by go_simp)
      have cw1_1_1 : w1.cell? ⟨W.heap.size + 1, 1, none⟩ = some (.int .i64 qlx) := cell_gr hw1 (by go_simp)
      have cw1_1_2 : w1.cell? ⟨W.heap.size + 1, 2, none⟩ = some (.int .i64 qly) := cell_gr hw1 (by go_simp)
      have cw1_1_3 : w1.cell? ⟨W.heap.size + 1, 3, none⟩ = some (.int .i64 qhx) := cell_gr hw1 (by go_simp)
      have cw1_1_4 : w1.cell? ⟨W.heap.size + 1, 4, none⟩ = some (.int .i64 qhy) := cell_gr hw1 (by go_simp)
      have cw1_1_5 : w1.cell? ⟨W.heap.size + 1, 5, none⟩ = some (.slice bd m bcap) := cell_gr hw1 (by go_simp)
      have zw1_1 : W.heap.size + 1 < w1.heap.size := World.block_lt_of_cell? _ _ cw1_1_0
      have gw1 : Gr W w1 := Gr.trans (by have gg := gw0; have gs := gg.size; go_grown) hw1
      clear gw0 zw0_0 cw0_0_0 cw0_0_1 zw0_1 cw0_1_0 cw0_1_1 cw0_1_2 cw0_1_3 cw0_1_4 cw0_1_5
      clear hw1
      try simp only [Act.put, List.setIfInBounds_toArray, List.set_cons_zero, List.set_cons_succ]
      repeat (first | (refine Od.wpO_skip (by simp only [List.getElem?_toArray, List.getElem?_cons_succ, List.getElem?_cons_zero] <;> rfl) rfl ?_; simp only [Act.put, List.setIfInBounds_toArray, List.set_cons_zero, List.set_cons_succ]) | (refine Od.wpO_pure (by simp only [List.getElem?_toArray, List.getElem?_cons_succ, List.getElem?_cons_zero] <;> rfl) rfl ?_; apply Exists.intro; refine ⟨?_, ?_⟩; (· intro wx gx; obtain ⟨mx, rfl⟩ := spread_of_gr gx; clear gx; all_goals (apply Od.pAt_of_quiet; intro K hK; go_big_quiet_op; first | exact hK _ rfl | (apply Exists.intro; refine ⟨fun _ => ?_, ?_⟩; (· fail); exact hK _ rfl))); try simp only [Act.put, List.setIfInBounds_toArray, List.set_cons_zero, List.set_cons_succ]))
      refine Od.wpO_call (by simp only [List.getElem?_toArray, List.getElem?_cons_succ, List.getElem?_cons_zero] <;> rfl) rfl ?_
      intro QS hQS
      go_wp2_with fail
      go_at_call 22
      (with_reducible refine ((H2.out _ gw1)).mono ?_)
      rintro e w2 ⟨rfl, hw2⟩
      go_wp2_with fail
      apply Exists.intro
      refine ⟨?_, hw2, ?_⟩
      · simp only [Act.put, List.setIfInBounds_toArray, List.set_cons_zero, List.set_cons_succ]; rfl
      have cw2_0_0 : w2.cell? ⟨W.heap.size, 0, none⟩ = some (.int .i64 k) := cell_gr hw2 (by go_simp)
      have cw2_0_1 : w2.cell? ⟨W.heap.size, 1, none⟩ = some (.slice ad n cap) := cell_gr hw2 (by go_simp)
      have zw2_0 : W.heap.size < w2.heap.size := World.block_lt_of_cell? _ _ cw2_0_0
      have cw2_1_0 : w2.cell? ⟨W.heap.size + 1, 0, none⟩ = some (.int .i64 kq) := cell_gr hw2 (by go_simp)
      have cw2_1_1 : w2.cell? ⟨W.heap.size + 1, 1, none⟩ = some (.int .i64 qlx) := cell_gr hw2 (by go_simp)
      have cw2_1_2 : w2.cell? ⟨W.heap.size + 1, 2, none⟩ = some (.int .i64 qly) := cell_gr hw2 (by go_simp)
      have cw2_1_3 : w2.cell? ⟨W.heap.size + 1, 3, none⟩ = some (.int .i64 qhx) := cell_gr hw2 (by go_simp)
      have cw2_1_4 : w2.cell? ⟨W.heap.size + 1, 4, none⟩ = some (.int .i64 qhy) := cell_gr hw2 (by go_simp)
      have cw2_1_5 : w2.cell? ⟨W.heap.size + 1, 5, none⟩ = some (.slice bd m bcap) := cell_gr hw2 (by go_simp)
      have zw2_1 : W.heap.size + 1 < w2.heap.size := World.block_lt_of_cell? _ _ cw2_1_0
      have gw2 : Gr W w2 := Gr.trans (by have gg := gw1; have gs := gg.size; go_grown) hw2
      clear gw1 zw1_0 cw1_0_0 cw1_0_1 zw1_1 cw1_1_0 cw1_1_1 cw1_1_2 cw1_1_3 cw1_1_4 cw1_1_5
      clear hw2
      try simp only [Act.put, List.setIfInBounds_toArray, List.set_cons_zero, List.set_cons_succ]
      repeat (first | (refine Od.wpO_skip (by simp only [List.getElem?_toArray, List.getElem?_cons_succ, List.getElem?_cons_zero] <;> rfl) rfl ?_; simp only [Act.put, List.setIfInBounds_toArray, List.set_cons_zero, List.set_cons_succ]) | (refine Od.wpO_pure (by simp only [List.getElem?_toArray, List.getElem?_cons_succ, List.getElem?_cons_zero] <;> rfl) rfl ?_; apply Exists.intro; refine ⟨?_, ?_⟩; (· intro wx gx; obtain ⟨mx, rfl⟩ := spread_of_gr gx; clear gx; all_goals (apply Od.pAt_of_quiet; intro K hK; go_big_quiet_op; first | exact hK _ rfl | (apply Exists.intro; refine ⟨fun _ => ?_, ?_⟩; (· fail); exact hK _ rfl))); try simp only [Act.put, List.setIfInBounds_toArray, List.set_cons_zero, List.set_cons_succ]))
      refine Od.wpO_call (by simp only [List.getElem?_toArray, List.getElem?_cons_succ, List.getElem?_cons_zero] <;> rfl) rfl ?_
      intro QS hQS
      go_wp2_with fail
      first | (apply Exists.intro; refine ⟨?_, (by go_grown), ?_⟩; (· simp only [Act.put, List.setIfInBounds_toArray, List.set_cons_zero, List.set_cons_succ]; rfl)) | (refine ⟨(by go_grown), ?_⟩)
      generalize hhw3 : (w2.alloc (.cells #[.iface 60 (.pointer (some ⟨B1, 0, none⟩)), .nilIface] 41)) = w3
      have hw3 : Gr w2 w3 := by subst hhw3; go_grown
      have cw3_0_0 : w3.cell? ⟨W.heap.size, 0, none⟩ = some (.int .i64 k) := by subst hhw3; go_simp
      have cw3_0_1 : w3.cell? ⟨W.heap.size, 1, none⟩ = some (.slice ad n cap) := by subst hhw3; go_simp
      have zw3_0 : W.heap.size < w3.heap.size := World.block_lt_of_cell? _ _ cw3_0_0
      have cw3_1_0 : w3.cell? ⟨W.heap.size + 1, 0, none⟩ = some (.int .i64 kq) := by subst hhw3; go_simp
      have cw3_1_1 : w3.cell? ⟨W.heap.size + 1, 1, none⟩ = some (.int .i64 qlx) := by subst hhw3; go_simp
      have cw3_1_2 : w3.cell? ⟨W.heap.size + 1, 2, none⟩ = some (.int .i64 qly) := by subst hhw3; go_simp
      have cw3_1_3 : w3.cell? ⟨W.heap.size + 1, 3, none⟩ = some (.int .i64 qhx) := by subst hhw3; go_simp
      have cw3_1_4 : w3.cell? ⟨W.heap.size + 1, 4, none⟩ = some (.int .i64 qhy) := by subst hhw3; go_simp
      have cw3_1_5 : w3.cell? ⟨W.heap.size + 1, 5, none⟩ = some (.slice bd m bcap) := by subst hhw3; go_simp
      have zw3_1 : W.heap.size + 1 < w3.heap.size := World.block_lt_of_cell? _ _ cw3_1_0
      have cw3_2_0 : w3.cell? ⟨w2.heap.size, 0, none⟩ = some (.iface 60 (.pointer (some ⟨B1, 0, none⟩))) := by subst hhw3; go_simp
      have cw3_2_1 : w3.cell? ⟨w2.heap.size, 1, none⟩ = some (.nilIface) := by subst hhw3; go_simp
      have zw3_2 : w2.heap.size < w3.heap.size := World.block_lt_of_cell? _ _ cw3_2_0
      have gw3 : Gr W w3 := Gr.trans (by have gg := gw2; have gs := gg.size; go_grown) hw3
      clear hhw3 hw3 gw2 zw2_0 cw2_0_0 cw2_0_1 zw2_1 cw2_1_0 cw2_1_1 cw2_1_2 cw2_1_3 cw2_1_4 cw2_1_5
      try simp only [Act.put, List.setIfInBounds_toArray, List.set_cons_zero, List.set_cons_succ]
      repeat (first | (refine Od.wpO_skip (by simp only [List.getElem?_toArray, List.getElem?_cons_succ, List.getElem?_cons_zero] <;> rfl) rfl ?_; simp only [Act.put, List.setIfInBounds_toArray, List.set_cons_zero, List.set_cons_succ]) | (refine Od.wpO_pure (by simp only [List.getElem?_toArray, List.getElem?_cons_succ, List.getElem?_cons_zero] <;> rfl) rfl ?_; apply Exists.intro; refine ⟨?_, ?_⟩; (· intro wx gx; obtain ⟨mx, rfl⟩ := spread_of_gr gx; clear gx; all_goals (apply Od.pAt_of_quiet; intro K hK; go_big_quiet_op; first | exact hK _ rfl | (apply Exists.intro; refine ⟨fun _ => ?_, ?_⟩; (· fail); exact hK _ rfl))); try simp only [Act.put, List.setIfInBounds_toArray, List.set_cons_zero, List.set_cons_succ]))
      refine Od.wpO_call (by simp only [List.getElem?_toArray, List.getElem?_cons_succ, List.getElem?_cons_zero] <;> rfl) rfl ?_
      intro QS hQS
      go_wp2_with fail
      go_at_call 21
      (with_reducible refine ((H4.out _ _ _ _ false gw3 cw3_2_0 cw3_2_1 (nf_f _) nf_nil (by simp))).mono ?_)
      rintro e w4 ⟨rfl, hw4⟩
      go_wp2_with fail
      apply Exists.intro
      refine ⟨?_, hw4, ?_⟩
      · simp only [Act.put, List.setIfInBounds_toArray, List.set_cons_zero, List.set_cons_succ]; rfl
      have cw4_0_0 : w4.cell? ⟨W.heap.size, 0, none⟩ = some (.int .i64 k) := cell_gr hw4 (by go_simp)
      have cw4_0_1 : w4.cell? ⟨W.heap.size, 1, none⟩ = some (.slice ad n cap) := cell_gr hw4 (by go_simp)
      have zw4_0 : W.heap.size < w4.heap.size := World.block_lt_of_cell? _ _ cw4_0_0
      have cw4_1_0 : w4.cell? ⟨W.heap.size + 1, 0, none⟩ = some (.int .i64 kq) := cell_gr hw4 (by go_simp)
      have cw4_1_1 : w4.cell? ⟨W.heap.size + 1, 1, none⟩ = some (.int .i64 qlx) := cell_gr hw4 (by go_simp)
      have cw4_1_2 : w4.cell? ⟨W.heap.size + 1, 2, none⟩ = some (.int .i64 qly) := cell_gr hw4 (by go_simp)
      have cw4_1_3 : w4.cell? ⟨W.heap.size + 1, 3, none⟩ = some (.int .i64 qhx) := cell_gr hw4 (by go_simp)
      have cw4_1_4 : w4.cell? ⟨W.heap.size + 1, 4, none⟩ = some (.int .i64 qhy) := cell_gr hw4 (by go_simp)
      have cw4_1_5 : w4.cell? ⟨W.heap.size + 1, 5, none⟩ = some (.slice bd m bcap) := cell_gr hw4 (by go_simp)
      have zw4_1 : W.heap.size + 1 < w4.heap.size := World.block_lt_of_cell? _ _ cw4_1_0
      have cw4_2_0 : w4.cell? ⟨w2.heap.size, 0, none⟩ = some (.iface 60 (.pointer (some ⟨B1, 0, none⟩))) := cell_gr hw4 (by go_simp)
      have cw4_2_1 : w4.cell? ⟨w2.heap.size, 1, none⟩ = some (.nilIface) := cell_gr hw4 (by go_simp)
      have zw4_2 : w2.heap.size < w4.heap.size := World.block_lt_of_cell? _ _ cw4_2_0
      have gw4 : Gr W w4 := Gr.trans (by have gg := gw3; have gs := gg.size; go_grown) hw4
      clear gw3 zw3_0 cw3_0_0 cw3_0_1 zw3_1 cw3_1_0 cw3_1_1 cw3_1_2 cw3_1_3 cw3_1_4 cw3_1_5 zw3_2 cw3_2_0 cw3_2_1
      clear hw4
      try simp only [Act.put, List.setIfInBounds_toArray, List.set_cons_zero, List.set_cons_succ]
      repeat (first | (refine Od.wpO_skip (by simp only [List.getElem?_toArray, List.getElem?_cons_succ, List.getElem?_cons_zero] <;> rfl) rfl ?_; simp only [Act.put, List.setIfInBounds_toArray, List.set_cons_zero, List.set_cons_succ]) | (refine Od.wpO_pure (by simp only [List.getElem?_toArray, List.getElem?_cons_succ, List.getElem?_cons_zero] <;> rfl) rfl ?_; apply Exists.intro; refine ⟨?_, ?_⟩; (· intro wx gx; obtain ⟨mx, rfl⟩ := spread_of_gr gx; clear gx; all_goals (apply Od.pAt_of_quiet; intro K hK; go_big_quiet_op; first | exact hK _ rfl | (apply Exists.intro; refine ⟨fun _ => ?_, ?_⟩; (· fail); exact hK _ rfl))); try simp only [Act.put, List.setIfInBounds_toArray, List.set_cons_zero, List.set_cons_succ]))
      refine Od.wpO_nil (hKQ _ _ ?_)
      clear hKQ KQ
      go_wp2_with fail
      go_ret
      exact ⟨rfl, gw4⟩
    · skip
      have C1 : ∀ w, Gr W w → Calls Tryd.prog 19 #[.agg #[.int .i64 k, .slice ad n cap]] w fun e w' => ∃ B, e = .returned (.iface 60 (.pointer (some ⟨B, 0, none⟩))) ∧ Gr w w' := fun w g => (B1 w g).mono (by
        rintro e w' ⟨x, rfl, ⟨hn, hx⟩, g'⟩
        rcases hn with rfl | ⟨B, rfl⟩
        · exact absurd (hx.1 rfl) hc
        · exact ⟨B, rfl, g'⟩)
      have C2 : ∀ w, Gr W w → Calls Tryd.prog 22 #[qryV kq qlx qly qhx qhy (.slice bd m bcap)] w fun e w' => ∃ B, e = .returned (.iface 60 (.pointer (some ⟨B, 0, none⟩))) ∧ Gr w w' := fun w g => (B2 w g).mono (by
        rintro e w' ⟨x, rfl, ⟨hn, hx⟩, g'⟩
        rcases hn with rfl | ⟨B, rfl⟩
        · exact absurd (hx.1 rfl) hd
        · exact ⟨B, rfl, g'⟩)
      have H1 := Lib.hid C1
      have H2 := Lib.hid C2
      have H4 := Lib.hid B4
      clear C1 C2 B4
      clear A3 B1 B2
      go_enter Tryd.func10, Tryd.ntmps10
      go_wp2_with fail
      try simp only [List.append]
      refine Od.wp_region_ord [(0, false), (2, false), (1, true), (3, true), (4, true), (5, true), (6, false), (7, false), (8, false), (9, true), (10, false), (11, false)] (by kernel_rfl) (by kernel_rfl) ?_
      intro w0 hw0 KQ hKQ
      have cw0_0_0 : w0.cell? ⟨W.heap.size, 0, none⟩ = some (.int .i64 k) := cell_gr hw0 (by go_simp)
      have cw0_0_1 : w0.cell? ⟨W.heap.size, 1, none⟩ = some (.slice ad n cap) := cell_gr hw0 (by go_simp)
      have zw0_0 : W.heap.size < w0.heap.size := World.block_lt_of_cell? _ _ cw0_0_0
      have cw0_1_0 : w0.cell? ⟨W.heap.size + 1, 0, none⟩ = some (.int .i64 kq) := cell_gr hw0 (by go_simp)
      have cw0_1_1 : w0.cell? ⟨W.heap.size + 1, 1, none⟩ = some (.int .i64 qlx) := cell_gr hw0 (by go_simp)
      have cw0_1_2 : w0.cell? ⟨W.heap.size + 1, 2, none⟩ = some (.int .i64 qly) := cell_gr hw0 (by go_simp)
      have cw0_1_3 : w0.cell? ⟨W.heap.size + 1, 3, none⟩ = some (.int .i64 qhx) := cell_gr hw0 (by go_simp)
      have cw0_1_4 : w0.cell? ⟨W.heap.size + 1, 4, none⟩ = some (.int .i64 qhy) := cell_gr hw0 (by go_simp)
      have cw0_1_5 : w0.cell? ⟨W.heap.size + 1, 5, none⟩ = some (.slice bd m bcap) := cell_gr hw0 (by go_simp)
      have zw0_1 : W.heap.size + 1 < w0.heap.size := World.block_lt_of_cell? _ _ cw0_1_0
      have gw0 : Gr W w0 := Gr.trans (by go_grown) hw0
      skip
      clear hw0
      repeat (first | (refine Od.wpO_skip (by simp only [List.getElem?_toArray, List.getElem?_cons_succ, List.getElem?_cons_zero] <;> rfl) rfl ?_; simp only [Act.put, List.setIfInBounds_toArray, List.set_cons_zero, List.set_cons_succ]) | (refine Od.wpO_pure (by simp only [List.getElem?_toArray, List.getElem?_cons_succ, List.getElem?_cons_zero] <;> rfl) rfl ?_; apply Exists.intro; refine ⟨?_, ?_⟩; (· intro wx gx; obtain ⟨mx, rfl⟩ := spread_of_gr gx; clear gx; all_goals (apply Od.pAt_of_quiet; intro K hK; go_big_quiet_op; first | exact hK _ rfl | (apply Exists.intro; refine ⟨fun _ => ?_, ?_⟩; (· fail); exact hK _ rfl))); try simp only [Act.put, List.setIfInBounds_toArray, List.set_cons_zero, List.set_cons_succ]))
      refine Od.wpO_call (by simp only [List.getElem?_toArray, List.getElem?_cons_succ, List.getElem?_cons_zero] <;> rfl) rfl ?_
      intro QS hQS
      go_wp2_with fail
      go_at_call 19
      (with_reducible refine ((H1.out _ gw0)).mono ?_)
      rintro e w1 ⟨B1, rfl, hw1⟩
      go_wp2_with fail
      apply Exists.intro
      refine ⟨?_, hw1, ?_⟩
      · simp only [Act.put, List.setIfInBounds_toArray, List.set_cons_zero, List.set_cons_succ]; rfl
      have cw1_0_0 : w1.cell? ⟨W.heap.size, 0, none⟩ = some (.int .i64 k) := cell_gr hw1 (by go_simp)
      have cw1_0_1 : w1.cell? ⟨W.heap.size, 1, none⟩ = some (.slice ad n cap) := cell_gr hw1 (by go_simp)
      have zw1_0 : W.heap.size < w1.heap.size := World.block_lt_of_cell? _ _ cw1_0_0
      have cw1_1_0 : w1.cell? ⟨W.heap.size + 1, 0, none⟩ = some (.int .i64 kq) := cell_gr hw1 (by go_simp)
      have cw1_1_1 : w1.cell? ⟨W.heap.size + 1, 1, none⟩ = some (.int .i64 qlx) := cell_gr hw1 (by go_simp)
      have cw1_1_2 : w1.cell? ⟨W.heap.size + 1, 2, none⟩ = some (.int .i64 qly) := cell_gr hw1 (by go_simp)
      have cw1_1_3 : w1.cell? ⟨W.heap.size + 1, 3, none⟩ = some (.int .i64 qhx) := cell_gr hw1 (by go_simp)
      have cw1_1_4 : w1.cell? ⟨W.heap.size + 1, 4, none⟩ = some (.int .i64 qhy) := cell_gr hw1 (by go_simp)
      have cw1_1_5 : w1.cell? ⟨W.heap.size + 1, 5, none⟩ = some (.slice bd m bcap) := cell_gr hw1 (by go_simp)
      have zw1_1 : W.heap.size + 1 < w1.heap.size := World.block_lt_of_cell? _ _ cw1_1_0
      have gw1 : Gr W w1 := Gr.trans (by have gg := gw0; have gs := gg.size; go_grown) hw1
      clear gw0 zw0_0 cw0_0_0 cw0_0_1 zw0_1 cw0_1_0 cw0_1_1 cw0_1_2 cw0_1_3 cw0_1_4 cw0_1_5
      clear hw1
      try simp only [Act.put, List.setIfInBounds_toArray, List.set_cons_zero, List.set_cons_succ]
      repeat (first | (refine Od.wpO_skip (by simp only [List.getElem?_toArray, List.getElem?_cons_succ, List.getElem?_cons_zero] <;> rfl) rfl ?_; simp only [Act.put, List.setIfInBounds_toArray, List.set_cons_zero, List.set_cons_succ]) | (refine Od.wpO_pure (by simp only [List.getElem?_toArray, List.getElem?_cons_succ, List.getElem?_cons_zero] <;> rfl) rfl ?_; apply Exists.intro; refine ⟨?_, ?_⟩; (· intro wx gx; obtain ⟨mx, rfl⟩ := spread_of_gr gx; clear gx; all_goals (apply Od.pAt_of_quiet; intro K hK; go_big_quiet_op; first | exact hK _ rfl | (apply Exists.intro; refine ⟨fun _ => ?_, ?_⟩; (· fail); exact hK _ rfl))); try simp only [Act.put, List.setIfInBounds_toArray, List.set_cons_zero, List.set_cons_succ]))
      refine Od.wpO_call (by simp only [List.getElem?_toArray, List.getElem?_cons_succ, List.getElem?_cons_zero] <;> rfl) rfl ?_
      intro QS hQS
      go_wp2_with fail
      go_at_call 22
      (with_reducible refine ((H2.out _ gw1)).mono ?_)
      rintro e w2 ⟨B2, rfl, hw2⟩
      go_wp2_with fail
      apply Exists.intro
      refine ⟨?_, hw2, ?_⟩
      · simp only [Act.put, List.setIfInBounds_toArray, List.set_cons_zero, List.set_cons_succ]; rfl
      have cw2_0_0 : w2.cell? ⟨W.heap.size, 0, none⟩ = some (.int .i64 k) := cell_gr hw2 (by go_simp)
      have cw2_0_1 : w2.cell? ⟨W.heap.size, 1, none⟩ = some (.slice ad n cap) := cell_gr hw2 (by go_simp)
      have zw2_0 : W.heap.size < w2.heap.size := World.block_lt_of_cell? _ _ cw2_0_0
      have cw2_1_0 : w2.cell? ⟨W.heap.size + 1, 0, none⟩ = some (.int .i64 kq) := cell_gr hw2 (by go_simp)
      have cw2_1_1 : w2.cell? ⟨W.heap.size + 1, 1, none⟩ = some (.int .i64 qlx) := cell_gr hw2 (by go_simp)
      have cw2_1_2 : w2.cell? ⟨W.heap.size + 1, 2, none⟩ = some (.int .i64 qly) := cell_gr hw2 (by go_simp)
      have cw2_1_3 : w2.cell? ⟨W.heap.size + 1, 3, none⟩ = some (.int .i64 qhx) := cell_gr hw2 (by go_simp)
      have cw2_1_4 : w2.cell? ⟨W.heap.size + 1, 4, none⟩ = some (.int .i64 qhy) := cell_gr hw2 (by go_simp)
      have cw2_1_5 : w2.cell? ⟨W.heap.size + 1, 5, none⟩ = some (.slice bd m bcap) := cell_gr hw2 (by go_simp)
      have zw2_1 : W.heap.size + 1 < w2.heap.size := World.block_lt_of_cell? _ _ cw2_1_0
      have gw2 : Gr W w2 := Gr.trans (by have gg := gw1; have gs := gg.size; go_grown) hw2
      clear gw1 zw1_0 cw1_0_0 cw1_0_1 zw1_1 cw1_1_0 cw1_1_1 cw1_1_2 cw1_1_3 cw1_1_4 cw1_1_5
      clear hw2
      try simp only [Act.put, List.setIfInBounds_toArray, List.set_cons_zero, List.set_cons_succ]
      repeat (first | (refine Od.wpO_skip (by simp only [List.getElem?_toArray, List.getElem?_cons_succ, List.getElem?_cons_zero] <;> rfl) rfl ?_; simp only [Act.put, List.setIfInBounds_toArray, List.set_cons_zero, List.set_cons_succ]) | (refine Od.wpO_pure (by simp only [List.getElem?_toArray, List.getElem?_cons_succ, List.getElem?_cons_zero] <;> rfl) rfl ?_; apply Exists.intro; refine ⟨?_, ?_⟩; (· intro wx gx; obtain ⟨mx, rfl⟩ := spread_of_gr gx; clear gx; all_goals (apply Od.pAt_of_quiet; intro K hK; go_big_quiet_op; first | exact hK _ rfl | (apply Exists.intro; refine ⟨fun _ => ?_, ?_⟩; (· fail); exact hK _ rfl))); try simp only [Act.put, List.setIfInBounds_toArray, List.set_cons_zero, List.set_cons_succ]))
      refine Od.wpO_call (by simp only [List.getElem?_toArray, List.getElem?_cons_succ, List.getElem?_cons_zero] <;> rfl) rfl ?_
      intro QS hQS
      go_wp2_with fail
      first | (apply Exists.intro; refine ⟨?_, (by go_grown), ?_⟩; (· simp only [Act.put, List.setIfInBounds_toArray, List.set_cons_zero, List.set_cons_succ]; rfl)) | (refine ⟨(by go_grown), ?_⟩)
      generalize hhw3 : (w2.alloc (.cells #[.iface 60 (.pointer (some ⟨B1, 0, none⟩)), .iface 60 (.pointer (some ⟨B2, 0, none⟩))] 41)) = w3
      have hw3 : Gr w2 w3 := by subst hhw3; go_grown
      have cw3_0_0 : w3.cell? ⟨W.heap.size, 0, none⟩ = some (.int .i64 k) := by subst hhw3; go_simp
      have cw3_0_1 : w3.cell? ⟨W.heap.size, 1, none⟩ = some (.slice ad n cap) := by subst hhw3; go_simp
      have zw3_0 : W.heap.size < w3.heap.size := World.block_lt_of_cell? _ _ cw3_0_0
      have cw3_1_0 : w3.cell? ⟨W.heap.size + 1, 0, none⟩ = some (.int .i64 kq) := by subst hhw3; go_simp
      have cw3_1_1 : w3.cell? ⟨W.heap.size + 1, 1, none⟩ = some (.int .i64 qlx) := by subst hhw3; go_simp
      have cw3_1_2 : w3.cell? ⟨W.heap.size + 1, 2, none⟩ = some (.int .i64 qly) := by subst hhw3; go_simp
      have cw3_1_3 : w3.cell? ⟨W.heap.size + 1, 3, none⟩ = some (.int .i64 qhx) := by subst hhw3; go_simp
      have cw3_1_4 : w3.cell? ⟨W.heap.size + 1, 4, none⟩ = some (.int .i64 qhy) := by subst hhw3; go_simp
      have cw3_1_5 : w3.cell? ⟨W.heap.size + 1, 5, none⟩ = some (.slice bd m bcap) := by subst hhw3; go_simp
      have zw3_1 : W.heap.size + 1 < w3.heap.size := World.block_lt_of_cell? _ _ cw3_1_0
      have cw3_2_0 : w3.cell? ⟨w2.heap.size, 0, none⟩ = some (.iface 60 (.pointer (some ⟨B1, 0, none⟩))) := by subst hhw3; go_simp
      have cw3_2_1 : w3.cell? ⟨w2.heap.size, 1, none⟩ = some (.iface 60 (.pointer (some ⟨B2, 0, none⟩))) := by subst hhw3; go_simp
      have zw3_2 : w2.heap.size < w3.heap.size := World.block_lt_of_cell? _ _ cw3_2_0
      have gw3 : Gr W w3 := Gr.trans (by have gg := gw2; have gs := gg.size; go_grown) hw3
      clear hhw3 hw3 gw2 zw2_0 cw2_0_0 cw2_0_1 zw2_1 cw2_1_0 cw2_1_1 cw2_1_2 cw2_1_3 cw2_1_4 cw2_1_5
      try simp only [Act.put, List.setIfInBounds_toArray, List.set_cons_zero, List.set_cons_succ]
      repeat (first | (refine Od.wpO_skip (by simp only [List.getElem?_toArray, List.getElem?_cons_succ, List.getElem?_cons_zero] <;> rfl) rfl ?_; simp only [Act.put, List.setIfInBounds_toArray, List.set_cons_zero, List.set_cons_succ]) | (refine Od.wpO_pure (by simp only [List.getElem?_toArray, List.getElem?_cons_succ, List.getElem?_cons_zero] <;> rfl) rfl ?_; apply Exists.intro; refine ⟨?_, ?_⟩; (· intro wx gx; obtain ⟨mx, rfl⟩ := spread_of_gr gx; clear gx; all_goals (apply Od.pAt_of_quiet; intro K hK; go_big_quiet_op; first | exact hK _ rfl | (apply Exists.intro; refine ⟨fun _ => ?_, ?_⟩; (· fail); exact hK _ rfl))); try simp only [Act.put, List.setIfInBounds_toArray, List.set_cons_zero, List.set_cons_succ]))
      refine Od.wpO_call (by simp only [List.getElem?_toArray, List.getElem?_cons_succ, List.getElem?_cons_zero] <;> rfl) rfl ?_
      intro QS hQS
      go_wp2_with fail
      go_at_call 21
      (with_reducible refine ((H4.out _ _ _ _ false gw3 cw3_2_0 cw3_2_1 (nf_f _) (nf_f _) (by simp))).mono ?_)
      rintro e w4 ⟨rfl, hw4⟩
      go_wp2_with fail
      apply Exists.intro
      refine ⟨?_, hw4, ?_⟩
      · simp only [Act.put, List.setIfInBounds_toArray, List.set_cons_zero, List.set_cons_succ]; rfl
      have cw4_0_0 : w4.cell? ⟨W.heap.size, 0, none⟩ = some (.int .i64 k) := cell_gr hw4 (by go_simp)
      have cw4_0_1 : w4.cell? ⟨W.heap.size, 1, none⟩ = some (.slice ad n cap) := cell_gr hw4 (by go_simp)
      have zw4_0 : W.heap.size < w4.heap.size := World.block_lt_of_cell? _ _ cw4_0_0
      have cw4_1_0 : w4.cell? ⟨W.heap.size + 1, 0, none⟩ = some (.int .i64 kq) := cell_gr hw4 (by go_simp)
      have cw4_1_1 : w4.cell? ⟨W.heap.size + 1, 1, none⟩ = some (.int .i64 qlx) := cell_gr hw4 (by go_simp)
      have cw4_1_2 : w4.cell? ⟨W.heap.size + 1, 2, none⟩ = some (.int .i64 qly) := cell_gr hw4 (by go_simp)
      have cw4_1_3 : w4.cell? ⟨W.heap.size + 1, 3, none⟩ = some (.int .i64 qhx) := cell_gr hw4 (by go_simp)
      have cw4_1_4 : w4.cell? ⟨W.heap.size + 1, 4, none⟩ = some (.int .i64 qhy) := cell_gr hw4 (by go_simp)
      have cw4_1_5 : w4.cell? ⟨W.heap.size + 1, 5, none⟩ = some (.slice bd m bcap) := cell_gr hw4 (by go_simp)
      have zw4_1 : W.heap.size + 1 < w4.heap.size := World.block_lt_of_cell? _ _ cw4_1_0
      have cw4_2_0 : w4.cell? ⟨w2.heap.size, 0, none⟩ = some (.iface 60 (.pointer (some ⟨B1, 0, none⟩))) := cell_gr hw4 (by go_simp)
      have cw4_2_1 : w4.cell? ⟨w2.heap.size, 1, none⟩ = some (.iface 60 (.pointer (some ⟨B2, 0, none⟩))) := cell_gr hw4 (by go_simp)
      have zw4_2 : w2.heap.size < w4.heap.size := World.block_lt_of_cell? _ _ cw4_2_0
      have gw4 : Gr W w4 := Gr.trans (by have gg := gw3; have gs := gg.size; go_grown) hw4
      clear gw3 zw3_0 cw3_0_0 cw3_0_1 zw3_1 cw3_1_0 cw3_1_1 cw3_1_2 cw3_1_3 cw3_1_4 cw3_1_5 zw3_2 cw3_2_0 cw3_2_1
      clear hw4
      try simp only [Act.put, List.setIfInBounds_toArray, List.set_cons_zero, List.set_cons_succ]
      repeat (first | (refine Od.wpO_skip (by simp only [List.getElem?_toArray, List.getElem?_cons_succ, List.getElem?_cons_zero] <;> rfl) rfl ?_; simp only [Act.put, List.setIfInBounds_toArray, List.set_cons_zero, List.set_cons_succ]) | (refine Od.wpO_pure (by simp only [List.getElem?_toArray, List.getElem?_cons_succ, List.getElem?_cons_zero] <;> rfl) rfl ?_; apply Exists.intro; refine ⟨?_, ?_⟩; (· intro wx gx; obtain ⟨mx, rfl⟩ := spread_of_gr gx; clear gx; all_goals (apply Od.pAt_of_quiet; intro K hK; go_big_quiet_op; first | exact hK _ rfl | (apply Exists.intro; refine ⟨fun _ => ?_, ?_⟩; (· fail); exact hK _ rfl))); try simp only [Act.put, List.setIfInBounds_toArray, List.set_cons_zero, List.set_cons_succ]))
      refine Od.wpO_nil (hKQ _ _ ?_)
      clear hKQ KQ
      go_wp2_with fail
      go_ret
      exact ⟨rfl, gw4⟩
end
end Go.Proofs.YtfobmlgpjhghdaaDoor
namespace Go.Proofs.YtfobmlgpjhghdaaDoor
set_option linter.unusedVariables false
set_option linter.unusedSimpArgs false
open Go.ChangeShapes Go.WideShapes Go.ChangeAt Go.RowKit
theorem boxN_0 {lx ly hx hy : Int} : boxN lx ly hx hy = 0 ↔ boxB lx ly hx hy = true := by
  unfold boxN boxB
  cases nearB lx ly <;> cases nearB hx hy <;> cases decide (lx ≤ hx) <;> cases decide (ly ≤ hy) <;> simp
def BL (W : World) (k : Int) (v : Value) (lx ly hx hy : Int) : Prop := FrTo W k v lx ly hx hy ∧ ∃ n X Y, Pts W v n X Y ∧ objC k n X Y = boxN lx ly hx hy
def maV (lx ly hx hy kq qlx qly qhx qhy : Int) (m : Nat) (P Q : Nat → Int) : Bool := decide (boxN lx ly hx hy = 0) && decide (qC kq qlx qly qhx qhy m P Q = 0) && msV lx ly hx hy kq qlx qly qhx qhy m P Q
theorem c_MatchO {k lx ly hx hy : Int} {v : Value} {m : Nat} {P Q : Nat → Int} {u : Value} (kq qlx qly qhx qhy : Int) (W : World) (hE : ErrT W) (h : BL W k v lx ly hx hy) (hu : Pts W u m P Q) :
    Calls Tryd.prog 10 #[.agg #[.int .i64 k, v], qryV kq qlx qly qhx qhy u] W fun e w' => e = .returned (.bool (maV lx ly hx hy kq qlx qly qhx qhy m P Q)) ∧ Gr W w' := by
  obtain ⟨hF, n, X, Y, hp, hc⟩ := h
  have A1 : ∀ w, Gr W w → Calls Tryd.prog 19 #[.agg #[.int .i64 k, v]] w fun e w' => ∃ x, e = .returned x ∧ WErr objectS w' x k (boxN lx ly hx hy) ∧ Gr w w' := fun w g => by have C := c_relCheck k w (pts_gr hp g); rw [hc] at C; exact C
  have A2 : ∀ w, Gr W w → Calls Tryd.prog 22 #[qryV kq qlx qly qhx qhy u] w fun e w' => ∃ x, e = .returned x ∧ WErr queryS w' x kq (qC kq qlx qly qhx qhy m P Q) ∧ Gr w w' := fun w g => c_CheckQuery kq qlx qly qhx qhy w (pts_gr hu g)
  have A3 : qC kq qlx qly qhx qhy m P Q = 0 → ∀ w, Gr W w → Calls Tryd.prog 23 #[.agg #[.int .i64 k, v], qryV kq qlx qly qhx qhy u] w fun e w' => e = .returned (.bool (msV lx ly hx hy kq qlx qly qhx qhy m P Q)) ∧ Gr w w' := fun hd w g => c_MatchesB kq qlx qly qhx qhy w (frTo_gr hF g) (pts_gr hu g) (fun h4 => by unfold qC at hd; rw [if_neg (by omega), if_neg (by omega), if_pos h4] at hd; exact hd)
  obtain ⟨ad, cap, _, _, rfl, -⟩ := hp
  obtain ⟨bd, bcap, _, _, rfl, -⟩ := hu
  exact match_core kq qlx qly qhx qhy ad bd n cap m bcap _ _ _ W hE A1 A2 (fun _ hd => A3 hd)
end Go.Proofs.YtfobmlgpjhghdaaDoor
namespace Go.Proofs.YtfobmlgpjhghdaaDoor
set_option linter.unusedVariables false
set_option linter.unusedSimpArgs false
open Go.ChangeShapes Go.WideShapes Go.ChangeAt Go.RowKit
set_option maxHeartbeats 4000000 in
set_option maxRecDepth 100000 in
theorem c_rings_no {n m : Nat} {X Y P Q : Nat → Int} {v u : Value} (W : World) (h : Pts W v n X Y) (hu : Pts W u m P Q) (hn : n ≤ 64) (hm9 : m ≤ 64) (hm : arM n X Y (mnN P m) (mnN Q m) (mxN P m) (mxN Q m) = false) :
    Calls Tryd.prog 51 #[v, u] W fun e w' => e = .returned (.bool false) ∧ Gr W w' := by
  have A1 := fun w' (g : Gr W w') => c_AroundN w' (pts_gr h g) (by omega)
  have A2 := fun w' (g : Gr W w') => c_AroundN w' (pts_gr hu g) (by omega)
  have A3 := fun w' => c_Meets (mnN X n) (mnN Y n) (mxN X n) (mxN Y n) (mnN P m) (mnN Q m) (mxN P m) (mxN Q m) w'
  unfold arM at hm
  rw [hm] at A3
  generalize mnN X n = m1 at A1 A3
  generalize mnN Y n = m2 at A1 A3
  generalize mxN X n = m3 at A1 A3
  generalize mxN Y n = m4 at A1 A3
  generalize mnN P m = k1 at A2 A3
  generalize mnN Q m = k2 at A2 A3
  generalize mxN P m = k3 at A2 A3
  generalize mxN Q m = k4 at A2 A3
  obtain ⟨ad, cap, B, off, rfl, -⟩ := h
  obtain ⟨bd, bcap, C, oc, rfl, -⟩ := hu
  have H1 := Lib.hid A1
  have H2 := Lib.hid A2
  have H3 := Lib.hid A3
  clear A1 A2 A3
  clear hm
  go_enter Tryd.func51, Tryd.ntmps51
  go_wp2_with fail
  go_at_call 36
  refine ((H2.out _ (by go_grown))).mono ?_
  rintro e w1 ⟨rfl, hw1⟩
  have cw1_0_0 : w1.cell? ⟨W.heap.size, 0, none⟩ = some (.slice bd m bcap) := cell_gr hw1 (by go_simp)
  have zw1_0 : W.heap.size < w1.heap.size := World.block_lt_of_cell? _ _ cw1_0_0
  have cw1_1_0 : w1.cell? ⟨W.heap.size + 1, 0, none⟩ = some (.bool false) := cell_gr hw1 (by go_simp)
  have fw1_1_0 : w1.frozen? ⟨W.heap.size + 1, 0, none⟩ = false := frozen_gr (v := .bool false) hw1 (by go_simp) (by go_simp)
  have zw1_1 : W.heap.size + 1 < w1.heap.size := World.block_lt_of_cell? _ _ cw1_1_0
  have gw1 : Gr W w1 := Gr.trans (by go_grown) hw1
  clear hw1
  go_wp2_with fail
  go_wp2_with fail
  refine wp_region_spread (by kernel_rfl) (by kernel_rfl) ?_
  try simp only [List.append]
  repeat (first | go_big_quiet_skip | (go_big_quiet_want; go_big_quiet_op; (first | go_big_quiet_on | (apply Exists.intro; refine ⟨fun _ => ?_, ?_⟩; (· (first | (go_at_call 36; first | ((with_reducible refine ((H1.out _ (Gr.trans (by have gg := gw1; have gs := gg.size; go_grown) (gr_spread _ _)))).mono ?_); rintro e w' ⟨rfl, hg⟩; exact ⟨rfl, spread_gr hg⟩)) | (go_at_call 50; first | ((with_reducible refine ((H3.out _)).mono ?_); rintro e w' ⟨rfl, hg⟩; exact ⟨rfl, spread_gr hg⟩)))); go_big_quiet_on))))
  refine wpQuiet_nil ?_
  intro w2 hhw2
  have hw2 := Hd.gr_of_spread hhw2
  have cw2_0_0 : w2.cell? ⟨W.heap.size, 0, none⟩ = some (.slice bd m bcap) := cell_gr hw2 (by go_simp)
  have zw2_0 : W.heap.size < w2.heap.size := World.block_lt_of_cell? _ _ cw2_0_0
  have cw2_1_0 : w2.cell? ⟨W.heap.size + 1, 0, none⟩ = some (.bool false) := cell_gr hw2 (by go_simp)
  have fw2_1_0 : w2.frozen? ⟨W.heap.size + 1, 0, none⟩ = false := frozen_gr (v := .bool false) hw2 (by go_simp) (by go_simp)
  have zw2_1 : W.heap.size + 1 < w2.heap.size := World.block_lt_of_cell? _ _ cw2_1_0
  have cw2_2_0 : w2.cell? ⟨w1.heap.size, 0, none⟩ = some (.int .i64 k1) := cell_gr hw2 (by go_simp)
  have cw2_2_1 : w2.cell? ⟨w1.heap.size, 1, none⟩ = some (.int .i64 k2) := cell_gr hw2 (by go_simp)
  have cw2_2_2 : w2.cell? ⟨w1.heap.size, 2, none⟩ = some (.int .i64 k3) := cell_gr hw2 (by go_simp)
  have cw2_2_3 : w2.cell? ⟨w1.heap.size, 3, none⟩ = some (.int .i64 k4) := cell_gr hw2 (by go_simp)
  have zw2_2 : w1.heap.size < w2.heap.size := World.block_lt_of_cell? _ _ cw2_2_0
  have gw2 : Gr W w2 := Gr.trans (by have gg := gw1; have gs := gg.size; go_grown) hw2
  clear hw2 hhw2 gw1 zw1_0 cw1_0_0 zw1_1 cw1_1_0 fw1_1_0
  go_wp2_with fail
  refine bodyPost_ret (v := .bool false) (by simp [results, Tryd.results51, go_sem, *]) rfl ⟨rfl, by go_grown⟩
def rgV (n : Nat) (X Y : Nat → Int) (m : Nat) (P Q : Nat → Int) : Bool :=
  arM n X Y (mnN P m) (mnN Q m) (mxN P m) (mxN Q m) && (rmW n X Y m P Q (mnN P m) (mnN Q m) (mxN P m) (mxN Q m) (List.range n) || ((nearB (P 0) (Q 0) && Rg.hasN n X Y (P 0) (Q 0)) || (nearB (X 0) (Y 0) && Rg.hasN m P Q (X 0) (Y 0))))
theorem c_ringsA {n m : Nat} {X Y P Q : Nat → Int} {v u : Value} (W : World) (h : Pts W v n X Y) (hu : Pts W u m P Q) (h0 : (Rg.ringC n X Y).1 = 0) (h9 : (Rg.ringC m P Q).1 = 0) : Calls Tryd.prog 51 #[v, u] W fun e w' => e = .returned (.bool (rgV n X Y m P Q)) ∧ Gr W w' := by
  unfold rgV
  cases hm : arM n X Y (mnN P m) (mnN Q m) (mxN P m) (mxN Q m)
  · exact c_rings_no W h hu (by have := (Rg.ringC_ok h0).1; omega) (by have := (Rg.ringC_ok h9).1; omega) hm
  · rw [Bool.true_and]; exact c_rings W h hu h0 h9 rfl rfl rfl rfl hm
section
variable {n : Nat} {X Y : Nat → Int} {v : Value}
set_option maxHeartbeats 2000000 in
set_option maxRecDepth 100000 in
theorem c_frame_4 (W : World) (h : Pts W v n X Y) (hn : n ≤ 1000000) : Calls Tryd.prog 24 #[.agg #[.int .i64 4, v]] W fun e w' => e = .returned (.agg #[.int .i64 (mnN X n), .int .i64 (mnN Y n), .int .i64 (mxN X n), .int .i64 (mxN Y n)]) ∧ Gr W w' := by
  have A1 := fun w (g : Gr W w) => c_AroundN w (pts_gr h g) hn
  generalize mnN X n = m1 at A1 ⊢
  generalize mnN Y n = m2 at A1 ⊢
  generalize mxN X n = m3 at A1 ⊢
  generalize mxN Y n = m4 at A1 ⊢
  obtain ⟨ad, cap, B, off, rfl, -⟩ := h
  have H1 := Lib.hid A1
  clear A1
  go_enter Tryd.func24, Tryd.ntmps24
  go_wp2_with fail
  go_at_call 36
  refine ((H1.out _ (by go_grown))).mono ?_
  rintro e w1 ⟨rfl, hw1⟩
  have cw1_0_0 : w1.cell? ⟨W.heap.size, 0, none⟩ = some (.int .i64 4) := cell_gr hw1 (by go_simp)
  have cw1_0_1 : w1.cell? ⟨W.heap.size, 1, none⟩ = some (.slice ad n cap) := cell_gr hw1 (by go_simp)
  have zw1_0 : W.heap.size < w1.heap.size := World.block_lt_of_cell? _ _ cw1_0_0
  have cw1_1_0 : w1.cell? ⟨W.heap.size + 1, 0, none⟩ = some (.int .i64 0) := cell_gr hw1 (by go_simp)
  have fw1_1_0 : w1.frozen? ⟨W.heap.size + 1, 0, none⟩ = false := frozen_gr (v := .int .i64 0) hw1 (by go_simp) (by go_simp)
  have cw1_1_1 : w1.cell? ⟨W.heap.size + 1, 1, none⟩ = some (.int .i64 0) := cell_gr hw1 (by go_simp)
  have fw1_1_1 : w1.frozen? ⟨W.heap.size + 1, 1, none⟩ = false := frozen_gr (v := .int .i64 0) hw1 (by go_simp) (by go_simp)
  have cw1_1_2 : w1.cell? ⟨W.heap.size + 1, 2, none⟩ = some (.int .i64 0) := cell_gr hw1 (by go_simp)
  have fw1_1_2 : w1.frozen? ⟨W.heap.size + 1, 2, none⟩ = false := frozen_gr (v := .int .i64 0) hw1 (by go_simp) (by go_simp)
  have cw1_1_3 : w1.cell? ⟨W.heap.size + 1, 3, none⟩ = some (.int .i64 0) := cell_gr hw1 (by go_simp)
  have fw1_1_3 : w1.frozen? ⟨W.heap.size + 1, 3, none⟩ = false := frozen_gr (v := .int .i64 0) hw1 (by go_simp) (by go_simp)
  have zw1_1 : W.heap.size + 1 < w1.heap.size := World.block_lt_of_cell? _ _ cw1_1_0
  have gw1 : Gr W w1 := Gr.trans (by go_grown) hw1
  clear hw1
  go_wp2_with fail
  refine bodyPost_ret (v := .agg #[.int .i64 m1, .int .i64 m2, .int .i64 m3, .int .i64 m4]) (by simp [results, Tryd.results24, go_sem, *]) rfl ⟨rfl, by go_grown⟩
set_option maxRecDepth 100000 in
theorem c_meetsBoxA (lx ly hx hy : Int) (W : World) (h : Pts W v n X Y) (h0 : (Rg.ringC n X Y).1 = 0) :
    Calls Tryd.prog 34 #[.agg #[.int .i64 4, v], .agg #[.int .i64 lx, .int .i64 ly, .int .i64 hx, .int .i64 hy]] W fun e w' => e = .returned (.bool (rmV n X Y lx ly hx hy)) ∧ Gr W w' := by
  have A1 := fun w (g : Gr W w) => c_rmbA lx ly hx hy w (pts_gr h g) h0
  generalize rmV n X Y lx ly hx hy = z at A1 ⊢
  obtain ⟨ad, cap, B, off, rfl, _⟩ := h
  have H1 := Lib.hid A1
  clear A1
  go_enter Tryd.func34, Tryd.ntmps34
  go_wp2_with fail
  go_at_call 49
  refine ((H1.out _ (by go_grown))).mono ?_
  rintro e w1 ⟨rfl, hw1⟩
  have gw1 : Gr W w1 := Gr.trans (by go_grown) hw1
  clear hw1
  go_wp2_with fail
  go_ret
  exact ⟨rfl, gw1⟩
set_option maxRecDepth 100000 in
theorem c_meetsRingA {m : Nat} {P Q : Nat → Int} {u : Value} (W : World) (h : Pts W v n X Y) (h0 : (Rg.ringC n X Y).1 = 0) (hu : Pts W u m P Q) (h9 : (Rg.ringC m P Q).1 = 0) :
    Calls Tryd.prog 35 #[.agg #[.int .i64 4, v], u] W fun e w' => e = .returned (.bool (rgV n X Y m P Q)) ∧ Gr W w' := by
  have A1 := fun w (g : Gr W w) => c_ringsA w (pts_gr h g) (pts_gr hu g) h0 h9
  generalize rgV n X Y m P Q = z at A1 ⊢
  obtain ⟨ad, cap, B, off, rfl, _⟩ := h
  obtain ⟨bd, bcap, C, oc, rfl, _⟩ := hu
  have H1 := Lib.hid A1
  clear A1
  go_enter Tryd.func35, Tryd.ntmps35
  go_wp2_with fail
  go_at_call 51
  refine ((H1.out _ (by go_grown))).mono ?_
  rintro e w1 ⟨rfl, hw1⟩
  have gw1 : Gr W w1 := Gr.trans (by go_grown) hw1
  clear hw1
  go_wp2_with fail
  go_ret
  exact ⟨rfl, gw1⟩
def mpV (n : Nat) (X Y : Nat → Int) (kq qlx qly qhx qhy : Int) (m : Nat) (P Q : Nat → Int) : Bool :=
  if kq = 2 then inV (mnN X n) (mnN Y n) (mxN X n) (mxN Y n) qlx qly qhx qhy else if kq = 3 then rmV n X Y qlx qly qlx qly else if kq = 4 then rgV n X Y m P Q else rmV n X Y qlx qly qhx qhy
set_option maxHeartbeats 4000000 in
set_option maxRecDepth 100000 in
theorem c_MatchesP {m : Nat} {P Q : Nat → Int} {u : Value} (kq qlx qly qhx qhy : Int) (W : World) (h : Pts W v n X Y) (h9 : (Rg.ringC n X Y).1 = 0) (hu : Pts W u m P Q) (h0 : kq = 4 → (Rg.ringC m P Q).1 = 0) :
    Calls Tryd.prog 23 #[.agg #[.int .i64 4, v], qryV kq qlx qly qhx qhy u] W fun e w' => e = .returned (.bool (mpV n X Y kq qlx qly qhx qhy m P Q)) ∧ Gr W w' := by
  unfold mpV
  by_cases k2 : kq = 2
  · rw [if_pos k2]
    subst k2
    have A1 := fun w => c_Inside (mnN X n) (mnN Y n) (mxN X n) (mxN Y n) qlx qly qhx qhy w
    have A2 := fun w (g : Gr W w) => c_frame_4 w (pts_gr h g) (by have := (Rg.ringC_ok h9).1; omega)
    unfold inV
    generalize (boxB (mnN X n) (mnN Y n) (mxN X n) (mxN Y n) && boxB qlx qly qhx qhy && inB qlx qly qhx qhy (mnN X n) (mnN Y n) && inB qlx qly qhx qhy (mxN X n) (mxN Y n)) = z at A1 ⊢
    generalize mnN X n = m1 at A1 A2
    generalize mnN Y n = m2 at A1 A2
    generalize mxN X n = m3 at A1 A2
    generalize mxN Y n = m4 at A1 A2
    obtain ⟨ad, cap, _, _, rfl, -⟩ := h
    obtain ⟨bd, bcap, _, _, rfl, -⟩ := hu
    have H1 := Lib.hid A1
    have H2 := Lib.hid A2
    clear A1 A2
    clear h0 h9
    go_enter Tryd.func23, Tryd.ntmps23
    go_wp2_with fail
    go_wp2_with fail
    refine wp_region_spread (by kernel_rfl) (by kernel_rfl) ?_
    try simp only [List.append]
    repeat (first | go_big_quiet_skip | (go_big_quiet_want; go_big_quiet_op; (first | go_big_quiet_on | (apply Exists.intro; refine ⟨fun _ => ?_, ?_⟩; (· (first | (go_at_call 24; first | ((with_reducible refine ((H2.out _ (Gr.trans (by go_grown) (gr_spread _ _)))).mono ?_); rintro e w' ⟨rfl, hg⟩; exact ⟨rfl, spread_gr hg⟩)) | (go_at_call 33; first | ((with_reducible refine ((H1.out _)).mono ?_); rintro e w' ⟨rfl, hg⟩; exact ⟨rfl, spread_gr hg⟩)))); go_big_quiet_on))))
    refine wpQuiet_nil ?_
    intro w1 hhw1
    have hw1 := Hd.gr_of_spread hhw1
    have cw1_0_0 : w1.cell? ⟨W.heap.size, 0, none⟩ = some (.int .i64 4) := cell_gr hw1 (by go_simp)
    have cw1_0_1 : w1.cell? ⟨W.heap.size, 1, none⟩ = some (.slice ad n cap) := cell_gr hw1 (by go_simp)
    have zw1_0 : W.heap.size < w1.heap.size := World.block_lt_of_cell? _ _ cw1_0_0
    have cw1_1_0 : w1.cell? ⟨W.heap.size + 1, 0, none⟩ = some (.int .i64 2) := cell_gr hw1 (by go_simp)
    have fw1_1_0 : w1.frozen? ⟨W.heap.size + 1, 0, none⟩ = false := frozen_gr (v := .int .i64 2) hw1 (by go_simp) (by go_simp)
    have cw1_1_1 : w1.cell? ⟨W.heap.size + 1, 1, none⟩ = some (.int .i64 qlx) := cell_gr hw1 (by go_simp)
    have fw1_1_1 : w1.frozen? ⟨W.heap.size + 1, 1, none⟩ = false := frozen_gr (v := .int .i64 qlx) hw1 (by go_simp) (by go_simp)
    have cw1_1_2 : w1.cell? ⟨W.heap.size + 1, 2, none⟩ = some (.int .i64 qly) := cell_gr hw1 (by go_simp)
    have fw1_1_2 : w1.frozen? ⟨W.heap.size + 1, 2, none⟩ = false := frozen_gr (v := .int .i64 qly) hw1 (by go_simp) (by go_simp)
    have cw1_1_3 : w1.cell? ⟨W.heap.size + 1, 3, none⟩ = some (.int .i64 qhx) := cell_gr hw1 (by go_simp)
    have fw1_1_3 : w1.frozen? ⟨W.heap.size + 1, 3, none⟩ = false := frozen_gr (v := .int .i64 qhx) hw1 (by go_simp) (by go_simp)
    have cw1_1_4 : w1.cell? ⟨W.heap.size + 1, 4, none⟩ = some (.int .i64 qhy) := cell_gr hw1 (by go_simp)
    have fw1_1_4 : w1.frozen? ⟨W.heap.size + 1, 4, none⟩ = false := frozen_gr (v := .int .i64 qhy) hw1 (by go_simp) (by go_simp)
    have cw1_1_5 : w1.cell? ⟨W.heap.size + 1, 5, none⟩ = some (.slice bd m bcap) := cell_gr hw1 (by go_simp)
    have fw1_1_5 : w1.frozen? ⟨W.heap.size + 1, 5, none⟩ = false := frozen_gr (v := .slice bd m bcap) hw1 (by go_simp) (by go_simp)
    have zw1_1 : W.heap.size + 1 < w1.heap.size := World.block_lt_of_cell? _ _ cw1_1_0
    have gw1 : Gr W w1 := Gr.trans (by go_grown) hw1
    clear hw1 hhw1
    go_wp2_with fail
    go_ret
    exact ⟨rfl, by have gg := gw1; have gs := gg.size; go_grown⟩
  rw [if_neg k2]
  have b2 : (kq == 2) = false := by simp; omega
  by_cases k3 : kq = 3
  · rw [if_pos k3]
    subst k3
    have A1 := fun w (g : Gr W w) => c_meetsBoxA qlx qly qlx qly w (pts_gr h g) h9
    generalize rmV n X Y qlx qly qlx qly = z at A1 ⊢
    obtain ⟨ad, cap, _, _, rfl, -⟩ := h
    obtain ⟨bd, bcap, _, _, rfl, -⟩ := hu
    have H1 := Lib.hid A1
    clear A1
    clear h0 h9
    go_enter Tryd.func23, Tryd.ntmps23
    go_wp2_with fail
    go_at_call 34
    refine ((H1.out _ (by go_grown))).mono ?_
    rintro e w1 ⟨rfl, hw1⟩
    have gw1 : Gr W w1 := Gr.trans (by go_grown) hw1
    clear hw1
    go_wp2_with fail
    go_ret
    exact ⟨rfl, gw1⟩
  rw [if_neg k3]
  have b3 : (kq == 3) = false := by simp; omega
  by_cases k4 : kq = 4
  · rw [if_pos k4]
    have A1 := fun w (g : Gr W w) => c_meetsRingA w (pts_gr h g) h9 (pts_gr hu g) (h0 k4)
    subst k4
    generalize rgV n X Y m P Q = z at A1 ⊢
    obtain ⟨ad, cap, _, _, rfl, -⟩ := h
    obtain ⟨bd, bcap, _, _, rfl, -⟩ := hu
    have H1 := Lib.hid A1
    clear A1
    clear h0 h9
    go_enter Tryd.func23, Tryd.ntmps23
    go_wp2_with fail
    go_at_call 35
    refine ((H1.out _ (by go_grown))).mono ?_
    rintro e w1 ⟨rfl, hw1⟩
    have gw1 : Gr W w1 := Gr.trans (by go_grown) hw1
    clear hw1
    go_wp2_with fail
    go_ret
    exact ⟨rfl, gw1⟩
  rw [if_neg k4]
  have b4 : (kq == 4) = false := by simp; omega
  have A1 := fun w (g : Gr W w) => c_meetsBoxA qlx qly qhx qhy w (pts_gr h g) h9
  generalize rmV n X Y qlx qly qhx qhy = z at A1 ⊢
  obtain ⟨ad, cap, _, _, rfl, -⟩ := h
  obtain ⟨bd, bcap, _, _, rfl, -⟩ := hu
  have H1 := Lib.hid A1
  clear A1
  clear h0 h9
  go_enter Tryd.func23, Tryd.ntmps23
  go_wp2_with fail
  go_at_call 34
  refine ((H1.out _ (by go_grown))).mono ?_
  rintro e w1 ⟨rfl, hw1⟩
  have gw1 : Gr W w1 := Gr.trans (by go_grown) hw1
  clear hw1
  go_wp2_with fail
  go_ret
  exact ⟨rfl, gw1⟩
end
theorem c_MatchP {n : Nat} {X Y : Nat → Int} {v : Value} {m : Nat} {P Q : Nat → Int} {u : Value} (kq qlx qly qhx qhy : Int) (W : World) (hE : ErrT W) (h : Pts W v n X Y) (hu : Pts W u m P Q) :
    Calls Tryd.prog 10 #[.agg #[.int .i64 4, v], qryV kq qlx qly qhx qhy u] W fun e w' => e = .returned (.bool (decide ((Rg.ringC n X Y).1 = 0) && decide (qC kq qlx qly qhx qhy m P Q = 0) && mpV n X Y kq qlx qly qhx qhy m P Q)) ∧ Gr W w' := by
  have A1 : ∀ w, Gr W w → Calls Tryd.prog 19 #[.agg #[.int .i64 4, v]] w fun e w' => ∃ x, e = .returned x ∧ WErr objectS w' x 4 (Rg.ringC n X Y).1 ∧ Gr w w' := fun w g => by have C := c_relCheck 4 w (pts_gr h g); rw [objC_4] at C; exact C
  have A2 : ∀ w, Gr W w → Calls Tryd.prog 22 #[qryV kq qlx qly qhx qhy u] w fun e w' => ∃ x, e = .returned x ∧ WErr queryS w' x kq (qC kq qlx qly qhx qhy m P Q) ∧ Gr w w' := fun w g => c_CheckQuery kq qlx qly qhx qhy w (pts_gr hu g)
  have A3 : (Rg.ringC n X Y).1 = 0 → qC kq qlx qly qhx qhy m P Q = 0 → ∀ w, Gr W w → Calls Tryd.prog 23 #[.agg #[.int .i64 4, v], qryV kq qlx qly qhx qhy u] w fun e w' => e = .returned (.bool (mpV n X Y kq qlx qly qhx qhy m P Q)) ∧ Gr w w' := fun hc hd w g => c_MatchesP kq qlx qly qhx qhy w (pts_gr h g) hc (pts_gr hu g) (fun h4 => by unfold qC at hd; rw [if_neg (by omega), if_neg (by omega), if_pos h4] at hd; exact hd)
  obtain ⟨ad, cap, _, _, rfl, -⟩ := h
  obtain ⟨bd, bcap, _, _, rfl, -⟩ := hu
  exact match_core kq qlx qly qhx qhy ad bd n cap m bcap _ _ _ W hE A1 A2 A3
end Go.Proofs.YtfobmlgpjhghdaaDoor
namespace Go.Proofs.YtfobmlgpjhghdaaDoor
set_option linter.unusedVariables false
set_option linter.unusedSimpArgs false
open Go.ChangeShapes Go.WideShapes Go.ChangeAt Go.RowKit
theorem near_box {n : Nat} {X Y : Nat → Int} (h : ∀ k, k < n → nearB (X k) (Y k) = true) (hn : 1 ≤ n) : boxB (mnN X n) (mnN Y n) (mxN X n) (mxN Y n) = true := by
  have key : ∀ m, 1 ≤ m → m ≤ n → ((-1073741823 ≤ mnN X m ∧ mnN X m ≤ mxN X m) ∧ mxN X m ≤ 1073741823) ∧ ((-1073741823 ≤ mnN Y m ∧ mnN Y m ≤ mxN Y m) ∧ mxN Y m ≤ 1073741823) := by
    intro m
    induction m with
    | zero => intro h; omega
    | succ m ih =>
      intro _ hm
      have b := Rg.nearB_iff'.1 (h m (by omega))
      by_cases h0 : m = 0
      · rw [mnN_0 _ h0, mnN_0 _ h0, mxN_0 _ h0, mxN_0 _ h0]; omega
      · have i := ih (by omega) (by omega)
        rw [mnN_s _ h0, mnN_s _ h0, mxN_s _ h0, mxN_s _ h0]
        unfold minZ maxZ
        refine ⟨⟨⟨?_, ?_⟩, ?_⟩, ⟨⟨?_, ?_⟩, ?_⟩⟩ <;> (repeat split) <;> omega
  have k := key n hn (Nat.le_refl _)
  exact boxB_iff.2 ⟨⟨Rg.nearB_iff'.2 (by omega), Rg.nearB_iff'.2 (by omega)⟩, by omega, by omega⟩
end Go.Proofs.YtfobmlgpjhghdaaDoor
namespace Go.Proofs.YtfobmlgpjhghdaaDoor
set_option linter.unusedVariables false
set_option linter.unusedSimpArgs false
open Go.ChangeShapes Go.WideShapes Go.ChangeAt Go.RowKit
def oLy (k : Int) (Y : Nat → Int) : Int := if k = 2 then 0 else Y 0
def oHx (k : Int) (X Y : Nat → Int) : Int := if k = 3 then X 1 else if k = 2 then Y 0 else X 0
def oHy (k : Int) (Y : Nat → Int) : Int := if k = 3 then Y 1 else if k = 2 then 0 else Y 0
def maA (k : Int) (n : Nat) (X Y : Nat → Int) (kq qlx qly qhx qhy : Int) (m : Nat) (P Q : Nat → Int) : Bool := if k = 4 then mpV n X Y kq qlx qly qhx qhy m P Q else msV (X 0) (oLy k Y) (oHx k X Y) (oHy k Y) kq qlx qly qhx qhy m P Q
theorem obj_box {k : Int} {n : Nat} {X Y : Nat → Int} (h : objC k n X Y = 0) (h4 : k ≠ 4) : (k = 1 ∧ n = 1 ∨ k = 2 ∧ n = 1 ∨ k = 3 ∧ n = 2) ∧ objC k n X Y = boxN (X 0) (oLy k Y) (oHx k X Y) (oHy k Y) ∧ boxN (X 0) (oLy k Y) (oHx k X Y) (oHy k Y) = 0 := by
  have e : objC k n X Y = 0 := h
  unfold objC at e
  rw [if_neg h4] at e
  by_cases k3 : k = 3
  · subst k3
    rw [if_pos rfl] at e
    by_cases hn : n = 2
    · subst hn
      rw [if_pos rfl] at e
      exact ⟨Or.inr (Or.inr ⟨rfl, rfl⟩), by rw [objC_3, if_pos rfl]; rfl, e⟩
    · rw [if_neg hn] at e; cases e
  rw [if_neg k3] at e
  by_cases k1 : k = 1
  · subst k1
    rw [if_pos rfl] at e
    by_cases hn : n = 1
    · subst hn
      rw [if_pos rfl] at e
      exact ⟨Or.inl ⟨rfl, rfl⟩, by rw [objC_1, if_pos rfl]; rfl, e⟩
    · rw [if_neg hn] at e; cases e
  rw [if_neg k1] at e
  by_cases k2 : k = 2
  · subst k2
    rw [if_pos rfl] at e
    by_cases hn : n = 1
    · subst hn
      rw [if_pos rfl] at e
      exact ⟨Or.inr (Or.inl ⟨rfl, rfl⟩), by rw [objC_2, if_pos rfl]; rfl, e⟩
    · rw [if_neg hn] at e; cases e
  rw [if_neg k2] at e
  cases e
theorem bl_of {W : World} {k : Int} {n : Nat} {X Y : Nat → Int} {v : Value} (hp : Pts W v n X Y) (h : objC k n X Y = 0) (h4 : k ≠ 4) : BL W k v (X 0) (oLy k Y) (oHx k X Y) (oHy k Y) := by
  obtain ⟨hk, he, -⟩ := obj_box h h4
  have hp0 := hp
  obtain ⟨ad, cap, B, off, rfl, q1, q2, q3, q4⟩ := hp
  rcases hk with ⟨rfl, rfl⟩ | ⟨rfl, rfl⟩ | ⟨rfl, rfl⟩
  · obtain rfl := q3 (by omega)
    obtain ⟨c0, c1⟩ := q4 0 (by omega)
    rw [Nat.zero_mul, Nat.add_zero] at c0 c1
    exact ⟨⟨Or.inl rfl, ⟨_, _, _, rfl⟩, fun w' g => c_frame_1 (X 0) (Y 0) B off cap w' (cell_gr g c0) (cell_gr g c1) (World.block_lt_of_cell? _ _ (cell_gr g c0))⟩, 1, X, Y, hp0, he⟩
  · obtain rfl := q3 (by omega)
    obtain ⟨c0, c1⟩ := q4 0 (by omega)
    rw [Nat.zero_mul, Nat.add_zero] at c0 c1
    exact ⟨⟨Or.inr (Or.inl rfl), ⟨_, _, _, rfl⟩, fun w' g => c_frame_2 (X 0) (Y 0) B off cap w' (cell_gr g c0) (cell_gr g c1) (World.block_lt_of_cell? _ _ (cell_gr g c0))⟩, 1, X, Y, hp0, he⟩
  · obtain rfl := q3 (by omega)
    obtain ⟨c0, c1⟩ := q4 0 (by omega)
    obtain ⟨c2, c3⟩ := q4 1 (by omega)
    rw [Nat.zero_mul, Nat.add_zero] at c0 c1
    rw [Nat.one_mul] at c2 c3
    exact ⟨⟨Or.inr (Or.inr rfl), ⟨_, _, _, rfl⟩, fun w' g => c_frame_3 (X 0) (Y 0) (X 1) (Y 1) B off cap w' (cell_gr g c0) (cell_gr g c1) (cell_gr g c2) (cell_gr g c3) (World.block_lt_of_cell? _ _ (cell_gr g c0))⟩, 2, X, Y, hp0, he⟩
theorem c_MatchAny {k : Int} {n : Nat} {X Y : Nat → Int} {v : Value} {m : Nat} {P Q : Nat → Int} {u : Value} (kq qlx qly qhx qhy : Int) (W : World) (hE : ErrT W) (h : Pts W v n X Y) (hc : objC k n X Y = 0) (hu : Pts W u m P Q) (hq : qC kq qlx qly qhx qhy m P Q = 0) :
    Calls Tryd.prog 10 #[.agg #[.int .i64 k, v], qryV kq qlx qly qhx qhy u] W fun e w' => e = .returned (.bool (maA k n X Y kq qlx qly qhx qhy m P Q)) ∧ Gr W w' := by
  unfold maA
  by_cases h4 : k = 4
  · subst h4
    rw [if_pos rfl]
    have C := c_MatchP kq qlx qly qhx qhy W hE h hu
    rw [objC_4] at hc
    rw [hc, hq] at C
    simpa using C
  · rw [if_neg h4]
    obtain ⟨-, -, e⟩ := obj_box hc h4
    have C := c_MatchO kq qlx qly qhx qhy W hE (bl_of h hc h4) hu
    unfold maV at C
    rw [e, hq] at C
    simpa using C
end Go.Proofs.YtfobmlgpjhghdaaDoor
namespace Go.Proofs.YtfobmlgpjhghdaaDoor
set_option linter.unusedVariables false
set_option linter.unusedSimpArgs false
open Go.ChangeShapes Go.WideShapes Go.ChangeAt Go.RowKit
section
variable {k : Int} {n : Nat} {X Y : Nat → Int} {v : Value}
def bLx (k : Int) (n : Nat) (X : Nat → Int) : Int := if k = 4 then mnN X n else X 0
def bLy (k : Int) (n : Nat) (Y : Nat → Int) : Int := if k = 4 then mnN Y n else oLy k Y
def bHx (k : Int) (n : Nat) (X Y : Nat → Int) : Int := if k = 4 then mxN X n else oHx k X Y
def bHy (k : Int) (n : Nat) (Y : Nat → Int) : Int := if k = 4 then mxN Y n else oHy k Y
theorem c_frameAny (W : World) (h : Pts W v n X Y) (hc : objC k n X Y = 0) : Calls Tryd.prog 24 #[.agg #[.int .i64 k, v]] W fun e w' => e = .returned (.agg #[.int .i64 (bLx k n X), .int .i64 (bLy k n Y), .int .i64 (bHx k n X Y), .int .i64 (bHy k n Y)]) ∧ Gr W w' := by
  unfold bLx bLy bHx bHy
  by_cases k4 : k = 4
  · rw [if_pos k4, if_pos k4, if_pos k4, if_pos k4]
    subst k4
    rw [objC_4] at hc
    exact c_frame_4 W h (by have := (Rg.ringC_ok hc).1; omega)
  · rw [if_neg k4, if_neg k4, if_neg k4, if_neg k4]
    exact (bl_of h hc k4).1.2.2 W (Below.refl _ _)
set_option maxHeartbeats 4000000 in
set_option maxRecDepth 100000 in
theorem c_BoundsOk (W : World) (h : Pts W v n X Y) (hc : objC k n X Y = 0) : Calls Tryd.prog 13 #[.agg #[.int .i64 k, v]] W fun e w' => e = .returned (.tuple #[.agg #[.int .i64 (bLx k n X), .int .i64 (bLy k n Y), .int .i64 (bHx k n X Y), .int .i64 (bHy k n Y)], .nilIface]) ∧ Gr W w' := by
  have A1 : ∀ w, Gr W w → Calls Tryd.prog 19 #[.agg #[.int .i64 k, v]] w fun e w' => e = .returned .nilIface ∧ Gr w w' := fun w g => (c_relCheck k w (pts_gr h g)).mono (by
    rintro e w' ⟨x, rfl, hx, g'⟩
    rw [hc] at hx
    obtain rfl := (werr_nf hx).2.2 rfl
    exact ⟨rfl, g'⟩)
  have A2 := fun w (g : Gr W w) => c_frameAny w (pts_gr h g) hc
  generalize bLx k n X = m1 at A2 ⊢
  generalize bLy k n Y = m2 at A2 ⊢
  generalize bHx k n X Y = m3 at A2 ⊢
  generalize bHy k n Y = m4 at A2 ⊢
  obtain ⟨ad, cap, _, _, rfl, -⟩ := h
  have H1 := Lib.hid A1
  have H2 := Lib.hid A2
  clear A1 A2
  clear hc
  go_enter Tryd.func13, Tryd.ntmps13
  go_wp2_with fail
  go_at_call 19
  refine ((H1.out _ (by go_grown))).mono ?_
  rintro e w1 ⟨rfl, hw1⟩
  have cw1_0_0 : w1.cell? ⟨W.heap.size, 0, none⟩ = some (.int .i64 k) := cell_gr hw1 (by go_simp)
  have cw1_0_1 : w1.cell? ⟨W.heap.size, 1, none⟩ = some (.slice ad n cap) := cell_gr hw1 (by go_simp)
  have zw1_0 : W.heap.size < w1.heap.size := World.block_lt_of_cell? _ _ cw1_0_0
  have cw1_1_0 : w1.cell? ⟨W.heap.size + 1, 0, none⟩ = some (.int .i64 0) := cell_gr hw1 (by go_simp)
  have fw1_1_0 : w1.frozen? ⟨W.heap.size + 1, 0, none⟩ = false := frozen_gr (v := .int .i64 0) hw1 (by go_simp) (by go_simp)
  have cw1_1_1 : w1.cell? ⟨W.heap.size + 1, 1, none⟩ = some (.int .i64 0) := cell_gr hw1 (by go_simp)
  have fw1_1_1 : w1.frozen? ⟨W.heap.size + 1, 1, none⟩ = false := frozen_gr (v := .int .i64 0) hw1 (by go_simp) (by go_simp)
  have cw1_1_2 : w1.cell? ⟨W.heap.size + 1, 2, none⟩ = some (.int .i64 0) := cell_gr hw1 (by go_simp)
  have fw1_1_2 : w1.frozen? ⟨W.heap.size + 1, 2, none⟩ = false := frozen_gr (v := .int .i64 0) hw1 (by go_simp) (by go_simp)
  have cw1_1_3 : w1.cell? ⟨W.heap.size + 1, 3, none⟩ = some (.int .i64 0) := cell_gr hw1 (by go_simp)
  have fw1_1_3 : w1.frozen? ⟨W.heap.size + 1, 3, none⟩ = false := frozen_gr (v := .int .i64 0) hw1 (by go_simp) (by go_simp)
  have zw1_1 : W.heap.size + 1 < w1.heap.size := World.block_lt_of_cell? _ _ cw1_1_0
  have gw1 : Gr W w1 := Gr.trans (by go_grown) hw1
  clear hw1
  go_wp2_with fail
  go_at_call 24
  refine ((H2.out _ (by have gg := gw1; have gs := gg.size; go_grown))).mono ?_
  rintro e w2 ⟨rfl, hw2⟩
  have cw2_0_0 : w2.cell? ⟨W.heap.size, 0, none⟩ = some (.int .i64 k) := cell_gr hw2 (by go_simp)
  have cw2_0_1 : w2.cell? ⟨W.heap.size, 1, none⟩ = some (.slice ad n cap) := cell_gr hw2 (by go_simp)
  have zw2_0 : W.heap.size < w2.heap.size := World.block_lt_of_cell? _ _ cw2_0_0
  have cw2_1_0 : w2.cell? ⟨W.heap.size + 1, 0, none⟩ = some (.int .i64 0) := cell_gr hw2 (by go_simp)
  have fw2_1_0 : w2.frozen? ⟨W.heap.size + 1, 0, none⟩ = false := frozen_gr (v := .int .i64 0) hw2 (by go_simp) (by go_simp)
  have cw2_1_1 : w2.cell? ⟨W.heap.size + 1, 1, none⟩ = some (.int .i64 0) := cell_gr hw2 (by go_simp)
  have fw2_1_1 : w2.frozen? ⟨W.heap.size + 1, 1, none⟩ = false := frozen_gr (v := .int .i64 0) hw2 (by go_simp) (by go_simp)
  have cw2_1_2 : w2.cell? ⟨W.heap.size + 1, 2, none⟩ = some (.int .i64 0) := cell_gr hw2 (by go_simp)
  have fw2_1_2 : w2.frozen? ⟨W.heap.size + 1, 2, none⟩ = false := frozen_gr (v := .int .i64 0) hw2 (by go_simp) (by go_simp)
  have cw2_1_3 : w2.cell? ⟨W.heap.size + 1, 3, none⟩ = some (.int .i64 0) := cell_gr hw2 (by go_simp)
  have fw2_1_3 : w2.frozen? ⟨W.heap.size + 1, 3, none⟩ = false := frozen_gr (v := .int .i64 0) hw2 (by go_simp) (by go_simp)
  have zw2_1 : W.heap.size + 1 < w2.heap.size := World.block_lt_of_cell? _ _ cw2_1_0
  have gw2 : Gr W w2 := Gr.trans (by have gg := gw1; have gs := gg.size; go_grown) hw2
  clear hw2 gw1 zw1_0 cw1_0_0 cw1_0_1 zw1_1 cw1_1_0 fw1_1_0 cw1_1_1 fw1_1_1 cw1_1_2 fw1_1_2 cw1_1_3 fw1_1_3
  have GS := gw2.size
  go_wp2_with fail
  refine bodyPost_ret (v := .tuple #[.agg #[.int .i64 m1, .int .i64 m2, .int .i64 m3, .int .i64 m4], .nilIface]) (by simp [results, Tryd.results13, go_sem, *]) rfl ⟨rfl, by go_grown⟩
end
end Go.Proofs.YtfobmlgpjhghdaaDoor
namespace Go.Proofs.YtfobmlgpjhghdaaDoor
set_option linter.unusedVariables false
set_option linter.unusedSimpArgs false
section
variable {lx ly hx hy ax ay bx by' px py qx qy : Int}
theorem corner_lo (h : inP lx ly hx hy px py) : ∃ cx cy, (cx = lx ∨ cx = hx) ∧ (cy = ly ∨ cy = hy) ∧ cr ax ay bx by' cx cy ≤ cr ax ay bx by' px py := by
  have e : ∀ cx cy, cr ax ay bx by' cx cy = cr ax ay bx by' px py + (bx - ax) * (cy - py) - (by' - ay) * (cx - px) := fun cx cy => by unfold cr; grind
  unfold inP at h
  have h1 : ∃ cy, (cy = ly ∨ cy = hy) ∧ (bx - ax) * (cy - py) ≤ 0 := by
    by_cases g : 0 ≤ bx - ax
    · exact ⟨ly, Or.inl rfl, Int.mul_nonpos_of_nonneg_of_nonpos g (by omega)⟩
    · exact ⟨hy, Or.inr rfl, Int.mul_nonpos_of_nonpos_of_nonneg (by omega) (by omega)⟩
  have h2 : ∃ cx, (cx = lx ∨ cx = hx) ∧ 0 ≤ (by' - ay) * (cx - px) := by
    by_cases g : 0 ≤ by' - ay
    · exact ⟨hx, Or.inr rfl, Int.mul_nonneg g (by omega)⟩
    · exact ⟨lx, Or.inl rfl, Int.mul_nonneg_of_nonpos_of_nonpos (by omega) (by omega)⟩
  obtain ⟨cy, k1, k2⟩ := h1
  obtain ⟨cx, k3, k4⟩ := h2
  exact ⟨cx, cy, k3, k1, by rw [e]; omega⟩
theorem corner_hi (h : inP lx ly hx hy px py) : ∃ cx cy, (cx = lx ∨ cx = hx) ∧ (cy = ly ∨ cy = hy) ∧ cr ax ay bx by' px py ≤ cr ax ay bx by' cx cy := by
  obtain ⟨cx, cy, e1, e2, e3⟩ := corner_lo (ax := bx) (ay := by') (bx := ax) (by' := ay) h
  rw [cr_flip, cr_flip ax ay bx by' px py] at e3
  exact ⟨cx, cy, e1, e2, by omega⟩
def stP (lx ly hx hy ax ay bx by' : Int) : Prop := ovP lx ly hx hy ax ay bx by' ∧ ∃ px py qx qy, inP lx ly hx hy px py ∧ inP lx ly hx hy qx qy ∧ cr ax ay bx by' px py ≤ 0 ∧ 0 ≤ cr ax ay bx by' qx qy
theorem stP_flip (h : stP lx ly hx hy ax ay bx by') : stP lx ly hx hy bx by' ax ay := by
  obtain ⟨ho, p, q, r, s, h1, h2, h3, h4⟩ := h
  exact ⟨ovP_flip ho, r, s, p, q, h2, h1, by rw [cr_flip]; omega, by rw [cr_flip]; omega⟩
theorem stP_mono {mx my nx ny : Int} (h : stP lx ly hx hy ax ay bx by') (hl : mx ≤ lx ∧ my ≤ ly ∧ hx ≤ nx ∧ hy ≤ ny) : stP mx my nx ny ax ay bx by' := by
  obtain ⟨ho, p, q, r, s, h1, h2, h3, h4⟩ := h
  exact ⟨by unfold ovP at *; omega, p, q, r, s, by unfold inP at *; omega, by unfold inP at *; omega, h3, h4⟩
theorem cr_a (ax ay bx by' : Int) : cr ax ay bx by' ax ay = 0 := by unfold cr; grind
theorem stP_a (h : inP lx ly hx hy ax ay) : stP lx ly hx hy ax ay bx by' :=
  ⟨by unfold inP at h; unfold ovP; omega, ax, ay, ax, ay, h, h, by rw [cr_a]; omega, by rw [cr_a]; omega⟩
theorem stP_b (h : inP lx ly hx hy bx by') : stP lx ly hx hy ax ay bx by' := stP_flip (stP_a h)
theorem me_on1 (h : onF ax ay bx by' px py = true) : meF ax ay bx by' px py qx qy = true := by unfold meF enF; simp [h]
theorem me_on2 (h : onF ax ay bx by' qx qy = true) : meF ax ay bx by' px py qx qy = true := by unfold meF enF; simp [h]
theorem st_di (hb : lx ≤ hx ∧ ly ≤ hy) (h : stP lx ly hx hy ax ay bx by') (na : ¬ inP lx ly hx hy ax ay) (nb : ¬ inP lx ly hx hy bx by') : diF lx ly hx hy ax ay bx by' = true := by
  obtain ⟨ho, p, q, r, s, h1, h2, h3, h4⟩ := h
  obtain ⟨c1, c2, e1, e2, e3⟩ := corner_lo (ax := ax) (ay := ay) (bx := bx) (by' := by') h1
  obtain ⟨d1, d2, f1, f2, f3⟩ := corner_hi (ax := ax) (ay := ay) (bx := bx) (by' := by') h2
  have i0 : inP lx ly hx hy lx ly := by unfold inP; omega
  have i1 : inP lx ly hx hy hx ly := by unfold inP; omega
  have i2 : inP lx ly hx hy hx hy := by unfold inP; omega
  have i3 : inP lx ly hx hy lx hy := by unfold inP; omega
  have sum : cr ax ay bx by' lx ly + cr ax ay bx by' hx hy = cr ax ay bx by' hx ly + cr ax ay bx by' lx hy := by unfold cr; grind
  unfold diF
  rw [Bool.or_eq_true]
  by_cases A0 : cr ax ay bx by' lx ly = 0
  · exact Or.inl (me_on1 (on_line i0 ho na nb A0))
  by_cases C0 : cr ax ay bx by' hx hy = 0
  · exact Or.inl (me_on2 (on_line i2 ho na nb C0))
  by_cases D0 : cr ax ay bx by' lx hy = 0
  · exact Or.inr (me_on1 (on_line i3 ho na nb D0))
  by_cases B0 : cr ax ay bx by' hx ly = 0
  · exact Or.inr (me_on2 (on_line i1 ho na nb B0))
  by_cases s1 : (cr ax ay bx by' lx ly ≤ 0 ∧ 0 ≤ cr ax ay bx by' hx hy) ∨ (cr ax ay bx by' hx hy ≤ 0 ∧ 0 ≤ cr ax ay bx by' lx ly)
  · exact Or.inl (line_parts2 i0 i2 ho na nb s1 (by omega))
  · refine Or.inr (line_parts2 i3 i1 ho na nb ?_ ?_)
    · rcases e1 with rfl | rfl <;> rcases e2 with rfl | rfl <;> rcases f1 with rfl | rfl <;> rcases f2 with rfl | rfl <;> omega
    · rcases e1 with rfl | rfl <;> rcases e2 with rfl | rfl <;> rcases f1 with rfl | rfl <;> rcases f2 with rfl | rfl <;> omega
theorem me_parts (h : meF ax ay bx by' px py qx qy = true) (h1 : inP lx ly hx hy px py) (h2 : inP lx ly hx hy qx qy) : stP lx ly hx hy ax ay bx by' := by
  have o := me_opp h
  refine ⟨me_ov h h1 h2, ?_⟩
  by_cases c : cr ax ay bx by' px py ≤ 0 ∧ 0 ≤ cr ax ay bx by' qx qy
  · exact ⟨px, py, qx, qy, h1, h2, c.1, c.2⟩
  · exact ⟨qx, qy, px, py, h2, h1, by omega, by omega⟩
theorem mb_st (hb : lx ≤ hx ∧ ly ≤ hy) : mbF ax ay bx by' lx ly hx hy = true ↔ stP lx ly hx hy ax ay bx by' := by
  unfold mbF
  rw [Bool.and_eq_true, Bool.or_eq_true, Bool.or_eq_true, ovB_iff, inB_P, inB_P]
  constructor
  · rintro ⟨ho, (h | h) | h⟩
    · exact stP_a h
    · exact stP_b h
    · unfold diF at h
      rw [Bool.or_eq_true] at h
      rcases h with h | h
      · exact me_parts h (by unfold inP; omega) (by unfold inP; omega)
      · exact me_parts h (by unfold inP; omega) (by unfold inP; omega)
  · intro h
    refine ⟨h.1, ?_⟩
    by_cases na : inP lx ly hx hy ax ay
    · exact Or.inl (Or.inl na)
    by_cases nb : inP lx ly hx hy bx by'
    · exact Or.inl (Or.inr nb)
    exact Or.inr (st_di hb h na nb)
theorem up_l (h : ay < by') (h1 : ay ≤ py) (h2 : py ≤ by') (ha : px < ax) (hb : px < bx) : 0 < cr ax ay bx by' px py := by
  have e : cr ax ay bx by' px py = (bx - px) * (py - ay) + (ax - px) * (by' - py) := by unfold cr; grind
  rw [e]
  have k1 : 0 ≤ (bx - px) * (py - ay) := Int.mul_nonneg (by omega) (by omega)
  have k2 : 0 ≤ (ax - px) * (by' - py) := Int.mul_nonneg (by omega) (by omega)
  rcases (by omega : ay < py ∨ py < by') with g | g
  · have : 0 < (bx - px) * (py - ay) := Int.mul_pos (by omega) (by omega); omega
  · have : 0 < (ax - px) * (by' - py) := Int.mul_pos (by omega) (by omega); omega
theorem up_r (h : ay < by') (h1 : ay ≤ py) (h2 : py ≤ by') (ha : ax < px) (hb : bx < px) : cr ax ay bx by' px py < 0 := by
  have e : cr ax ay bx by' px py = -((px - bx) * (py - ay) + (px - ax) * (by' - py)) := by unfold cr; grind
  rw [e]
  have k1 : 0 ≤ (px - bx) * (py - ay) := Int.mul_nonneg (by omega) (by omega)
  have k2 : 0 ≤ (px - ax) * (by' - py) := Int.mul_nonneg (by omega) (by omega)
  rcases (by omega : ay < py ∨ py < by') with g | g
  · have : 0 < (px - bx) * (py - ay) := Int.mul_pos (by omega) (by omega); omega
  · have : 0 < (px - ax) * (by' - py) := Int.mul_pos (by omega) (by omega); omega
theorem side_same (hno : ¬ stP lx ly hx hy ax ay bx by') (hu : ay < by') (hs : inP lx ly hx hy px py) (ht : inP lx ly hx hy qx qy) (s1 : ay ≤ py ∧ py ≤ by') (t1 : ay ≤ qy ∧ qy ≤ by') :
    0 < cr ax ay bx by' px py ↔ 0 < cr ax ay bx by' qx qy := by
  by_cases ho : ovP lx ly hx hy ax ay bx by'
  · constructor
    · intro h
      rcases Int.lt_or_le 0 (cr ax ay bx by' qx qy) with g | g
      · exact g
      · exact absurd ⟨ho, qx, qy, px, py, ht, hs, g, by omega⟩ hno
    · intro h
      rcases Int.lt_or_le 0 (cr ax ay bx by' px py) with g | g
      · exact g
      · exact absurd ⟨ho, px, py, qx, qy, hs, ht, g, by omega⟩ hno
  · unfold ovP at ho
    unfold inP at hs ht
    rcases (by omega : (hx < ax ∧ hx < bx) ∨ (ax < lx ∧ bx < lx)) with g | g
    · exact iff_of_true (up_l hu s1.1 s1.2 (by omega) (by omega)) (up_l hu t1.1 t1.2 (by omega) (by omega))
    · have k1 := up_r (ax := ax) (bx := bx) (px := px) (py := py) hu s1.1 s1.2 (by omega) (by omega)
      have k2 := up_r (ax := ax) (bx := bx) (px := qx) (py := qy) hu t1.1 t1.2 (by omega) (by omega)
      exact iff_of_false (by omega) (by omega)
def gR (hx py qy vx vy : Int) : Bool := decide (py < vy) && decide (vy ≤ qy) && decide (hx < vx)
theorem ovR_up (h : ay ≤ by') : Rg.ovR ax ay bx by' px py = (decide (ay ≤ py ∧ py < by') && decide (0 < cr ax ay bx by' px py)) := by
  unfold Rg.ovR
  rw [if_neg (by omega)]
  by_cases c : ay ≤ py ∧ py < by'
  · rw [if_pos c, decide_eq_true c, Bool.true_and]
  · rw [if_neg c, decide_eq_false c, Bool.false_and]
theorem ovR_swap : Rg.ovR bx by' ax ay px py = Rg.ovR ax ay bx by' px py := by
  unfold Rg.ovR
  by_cases c : by' ≤ py ∧ py < ay
  · rw [if_neg (by omega), if_pos c, if_pos c]
  · rw [if_neg c]
    by_cases d : ay ≤ py ∧ py < by'
    · rw [if_pos d, if_neg c]
    · rw [if_neg d, if_neg c]
theorem cr_at_a (sx : Int) : cr ax ay bx by' sx ay = (by' - ay) * (ax - sx) := by unfold cr; grind
theorem cr_at_b (sx : Int) : cr ax ay bx by' sx by' = (by' - ay) * (bx - sx) := by unfold cr; grind
theorem pos_r {u v s : Int} (h : 0 < u) : 0 < u * (v - s) ↔ s < v := by
  constructor
  · intro g
    rcases Int.lt_or_le s v with k | k
    · exact k
    · have := Int.mul_nonpos_of_nonneg_of_nonpos (a := u) (b := v - s) (by omega) (by omega); omega
  · intro g; exact Int.mul_pos h (by omega)
theorem par_up (hb : lx ≤ hx ∧ ly ≤ hy) (hno : ¬ stP lx ly hx hy ax ay bx by') (hu : ay ≤ by') (hp : inP lx ly hx hy px py) (hq : inP lx ly hx hy qx qy) (hpq : py ≤ qy) :
    (Rg.ovR ax ay bx by' px py != Rg.ovR ax ay bx by' qx qy) = (gR hx py qy ax ay != gR hx py qy bx by') := by
  rw [ovR_up hu, ovR_up hu]
  unfold gR
  have na : ¬ inP lx ly hx hy ax ay := fun h => hno (stP_a h)
  have nb : ¬ inP lx ly hx hy bx by' := fun h => hno (stP_b h)
  have hp' := hp
  have hq' := hq
  unfold inP at hp' hq' na nb
  by_cases e0 : ay = by'
  · subst e0
    rw [decide_eq_false (p := ay ≤ py ∧ py < ay) (by omega), decide_eq_false (p := ay ≤ qy ∧ qy < ay) (by omega)]
    by_cases c : py < ay ∧ ay ≤ qy
    · have : hx < ax ↔ hx < bx := by
        have key : ¬ ((ax < lx ∧ hx < bx) ∨ (bx < lx ∧ hx < ax)) := fun k => hno ⟨by unfold ovP; omega, lx, ay, lx, ay, by unfold inP; omega, by unfold inP; omega, by rw [cr_at_a, Int.sub_self, Int.zero_mul]; omega, by rw [cr_at_a, Int.sub_self, Int.zero_mul]; omega⟩
        omega
      rw [show decide (hx < ax) = decide (hx < bx) from decide_eq_decide.2 this]
      simp
    · rcases (by omega : ¬ py < ay ∨ ¬ ay ≤ qy) with g | g <;> simp [g]
  have h0 : 0 < by' - ay := by omega
  by_cases c1 : py < ay
  · rw [decide_eq_false (p := ay ≤ py ∧ py < by') (by omega), decide_eq_true c1, decide_eq_true (p := py < by') (by omega)]
    by_cases c2 : ay ≤ qy
    · rw [decide_eq_true c2]
      by_cases c3 : qy < by'
      · rw [decide_eq_true (p := ay ≤ qy ∧ qy < by') ⟨c2, c3⟩, decide_eq_false (p := by' ≤ qy) (by omega)]
        have k := side_same hno (by omega) (px := qx) (py := qy) (qx := lx) (qy := ay) hq (by unfold inP; omega) (by omega) (by omega)
        rw [cr_at_a, pos_r h0] at k
        simp only [Bool.true_and, Bool.false_and, Bool.false_bne, Bool.bne_false]
        exact decide_eq_decide.2 (k.trans (by omega))
      · rw [decide_eq_false (p := ay ≤ qy ∧ qy < by') (by omega), decide_eq_true (p := by' ≤ qy) (by omega)]
        have : hx < ax ↔ hx < bx := by
          have o : (ax < lx ∧ hx < bx) ∨ (bx < lx ∧ hx < ax) → ovP lx ly hx hy ax ay bx by' := fun k => by unfold ovP; omega
          have key : ¬ ((ax < lx ∧ hx < bx) ∨ (bx < lx ∧ hx < ax)) := fun k => by
            have oo := o k
            rcases k with k | k
            · have u1 : ¬ 0 < (by' - ay) * (ax - lx) := fun g => by have := (pos_r h0).1 g; omega
              have u2 : 0 < (by' - ay) * (bx - lx) := (pos_r h0).2 (by omega)
              exact hno ⟨oo, lx, ay, lx, by', by unfold inP; omega, by unfold inP; omega, by rw [cr_at_a]; omega, by rw [cr_at_b]; omega⟩
            · have u1 : ¬ 0 < (by' - ay) * (bx - lx) := fun g => by have := (pos_r h0).1 g; omega
              have u2 : 0 < (by' - ay) * (ax - lx) := (pos_r h0).2 (by omega)
              exact hno ⟨oo, lx, by', lx, ay, by unfold inP; omega, by unfold inP; omega, by rw [cr_at_b]; omega, by rw [cr_at_a]; omega⟩
          omega
        rw [show decide (hx < ax) = decide (hx < bx) from decide_eq_decide.2 this]
        simp
    · rw [decide_eq_false c2, decide_eq_false (p := ay ≤ qy ∧ qy < by') (by omega), decide_eq_false (p := by' ≤ qy) (by omega)]
      simp
  · rw [decide_eq_false c1]
    by_cases c2 : py < by'
    · rw [decide_eq_true (p := ay ≤ py ∧ py < by') (by omega), decide_eq_true c2]
      by_cases c3 : by' ≤ qy
      · rw [decide_eq_false (p := ay ≤ qy ∧ qy < by') (by omega), decide_eq_true c3]
        have k := side_same hno (by omega) (px := px) (py := py) (qx := lx) (qy := by') hp (by unfold inP; omega) (by omega) (by omega)
        rw [cr_at_b, pos_r h0] at k
        simp only [Bool.true_and, Bool.false_and, Bool.false_bne, Bool.bne_false]
        exact decide_eq_decide.2 (k.trans (by omega))
      · rw [decide_eq_true (p := ay ≤ qy ∧ qy < by') (by omega), decide_eq_false c3]
        have k := side_same hno (by omega) (px := px) (py := py) (qx := qx) (qy := qy) hp hq (by omega) (by omega)
        rw [show decide (0 < cr ax ay bx by' px py) = decide (0 < cr ax ay bx by' qx qy) from decide_eq_decide.2 k]
        simp
    · rw [decide_eq_false (p := ay ≤ py ∧ py < by') (by omega), decide_eq_false (p := ay ≤ qy ∧ qy < by') (by omega), decide_eq_false c2]
      simp
theorem par_edge (hb : lx ≤ hx ∧ ly ≤ hy) (hno : ¬ stP lx ly hx hy ax ay bx by') (hp : inP lx ly hx hy px py) (hq : inP lx ly hx hy qx qy) (hpq : py ≤ qy) :
    (Rg.ovR ax ay bx by' px py != Rg.ovR ax ay bx by' qx qy) = (gR hx py qy ax ay != gR hx py qy bx by') := by
  by_cases hu : ay ≤ by'
  · exact par_up hb hno hu hp hq hpq
  · rw [← ovR_swap, ← ovR_swap (px := qx), par_up hb (fun h => hno (stP_flip h)) (by omega) hp hq hpq]
    cases gR hx py qy ax ay <;> cases gR hx py qy bx by' <;> rfl
end
def xorN (f : Nat → Bool) : Nat → Bool
  | 0 => false
  | k + 1 => xorN f k != f k
theorem xorN_xor (f g : Nat → Bool) : ∀ k, (xorN f k != xorN g k) = xorN (fun i => f i != g i) k := by
  intro k
  induction k with
  | zero => rfl
  | succ k ih => simp only [xorN]; rw [← ih]; cases xorN f k <;> cases xorN g k <;> cases f k <;> cases g k <;> rfl
theorem xor_tel {n : Nat} {f g : Nat → Bool} (hn : 1 ≤ n) (h : ∀ i, i < n → f i = (g i != g (Rg.nx1 n i))) : xorN f n = false := by
  have part : ∀ k, k < n → xorN f k = (g 0 != g k) := by
    intro k
    induction k with
    | zero => intro _; simp [xorN]
    | succ k ih =>
      intro hk
      simp only [xorN]
      rw [ih (by omega), h k (by omega), show Rg.nx1 n k = k + 1 by unfold Rg.nx1; rw [if_neg (by omega)]]
      cases g 0 <;> cases g k <;> cases g (k + 1) <;> rfl
  obtain ⟨k, rfl⟩ : ∃ k, n = k + 1 := ⟨n - 1, by omega⟩
  simp only [xorN]
  rw [part k (by omega), h k (by omega), show Rg.nx1 (k + 1) k = 0 by unfold Rg.nx1; rw [if_pos rfl]]
  cases g 0 <;> cases g k <;> rfl
theorem od_xor (n : Nat) (X Y : Nat → Int) (px py : Int) : ∀ k, Rg.odN n X Y px py k = xorN (fun i => Rg.ovR (X i) (Y i) (X (Rg.nx1 n i)) (Y (Rg.nx1 n i)) px py) k := by
  intro k
  induction k with
  | zero => rfl
  | succ k ih => simp only [Rg.odN, xorN]; rw [ih]
section
variable {n : Nat} {X Y : Nat → Int} {lx ly hx hy px py qx qy : Int}
theorem od_same (hn : 1 ≤ n) (hb : lx ≤ hx ∧ ly ≤ hy) (hno : ∀ i, i < n → ¬ stP lx ly hx hy (X i) (Y i) (X (Rg.nx1 n i)) (Y (Rg.nx1 n i))) (hp : inP lx ly hx hy px py) (hq : inP lx ly hx hy qx qy) :
    Rg.odN n X Y px py n = Rg.odN n X Y qx qy n := by
  have key : ∀ px py qx qy, inP lx ly hx hy px py → inP lx ly hx hy qx qy → py ≤ qy → (Rg.odN n X Y px py n != Rg.odN n X Y qx qy n) = false := fun px py qx qy hp hq hpq => by
    rw [od_xor, od_xor, xorN_xor]
    exact xor_tel (g := fun i => gR hx py qy (X i) (Y i)) hn fun i hi => par_edge hb (hno i hi) hp hq hpq
  rcases Int.le_total py qy with h | h
  · have := key px py qx qy hp hq h
    revert this; cases Rg.odN n X Y px py n <;> cases Rg.odN n X Y qx qy n <;> simp
  · have := key qx qy px py hq hp h
    revert this; cases Rg.odN n X Y px py n <;> cases Rg.odN n X Y qx qy n <;> simp
theorem on_none (hno : ∀ i, i < n → ¬ stP lx ly hx hy (X i) (Y i) (X (Rg.nx1 n i)) (Y (Rg.nx1 n i))) (hp : inP lx ly hx hy px py) : Rg.onN n X Y px py n = false := by
  cases h : Rg.onN n X Y px py n
  · rfl
  · exfalso
    obtain ⟨i, hi, h⟩ := (Rg.onN_iff n).1 h
    unfold onG at h
    rw [Bool.and_eq_true] at h
    have h := (onF_iff.1 h.2)
    have b := btw_iff.1 h.1
    refine hno i hi ⟨?_, px, py, px, py, hp, hp, by rw [h.2]; omega, by rw [h.2]; omega⟩
    unfold inP at hp
    unfold ovP
    omega
theorem has_same (hn : 1 ≤ n) (hb : lx ≤ hx ∧ ly ≤ hy) (hno : ∀ i, i < n → ¬ stP lx ly hx hy (X i) (Y i) (X (Rg.nx1 n i)) (Y (Rg.nx1 n i))) (hp : inP lx ly hx hy px py) (hq : inP lx ly hx hy qx qy) :
    Rg.hasN n X Y px py = Rg.hasN n X Y qx qy := by
  unfold Rg.hasN
  rw [on_none hno hp, on_none hno hq, od_same hn hb hno hp hq]
theorem mn_le (F : Nat → Int) : ∀ n k, k < n → mnN F n ≤ F k := by
  intro n
  induction n with
  | zero => intro k hk; omega
  | succ n ih =>
    intro k hk
    by_cases h : n = 0
    · rw [mnN_0 F h]; obtain rfl : k = n := by omega
      exact Int.le_refl _
    · rw [mnN_s F h]
      rcases (by omega : k < n ∨ k = n) with g | rfl
      · exact min_le'.2 (Or.inl (ih k g))
      · exact min_le'.2 (Or.inr (Int.le_refl _))
theorem le_mx (F : Nat → Int) : ∀ n k, k < n → F k ≤ mxN F n := by
  intro n
  induction n with
  | zero => intro k hk; omega
  | succ n ih =>
    intro k hk
    by_cases h : n = 0
    · rw [mxN_0 F h]; obtain rfl : k = n := by omega
      exact Int.le_refl _
    · rw [mxN_s F h]
      rcases (by omega : k < n ∨ k = n) with g | rfl
      · exact le_max.2 (Or.inl (ih k g))
      · exact le_max.2 (Or.inr (Int.le_refl _))
theorem nxl_of (hn : 1 ≤ n) {i : Nat} (hi : i < n) : Rg.nx1 n i < n := by unfold Rg.nx1; split <;> omega
theorem has_box (hn : 1 ≤ n) (h : Rg.hasN n X Y px py = true) : inP (mnN X n) (mnN Y n) (mxN X n) (mxN Y n) px py := by
  have bd : ∀ i, i < n → mnN X n ≤ X i ∧ X i ≤ mxN X n ∧ mnN Y n ≤ Y i ∧ Y i ≤ mxN Y n := fun i hi => ⟨mn_le X n i hi, le_mx X n i hi, mn_le Y n i hi, le_mx Y n i hi⟩
  unfold Rg.hasN at h
  rw [Bool.or_eq_true] at h
  unfold inP
  rcases h with h | h
  · obtain ⟨i, hi, h⟩ := (Rg.onN_iff n).1 h
    unfold onG at h
    rw [Bool.and_eq_true] at h
    have b := btw_iff.1 (onF_iff.1 h.2).1
    have b1 := bd i hi
    have b2 := bd _ (nxl_of hn hi)
    omega
  ·
    have some_edge : ∀ k, k ≤ n → Rg.odN n X Y px py k = true → ∃ i, i < n ∧ Rg.ovR (X i) (Y i) (X (Rg.nx1 n i)) (Y (Rg.nx1 n i)) px py = true := by
      intro k
      induction k with
      | zero => intro _ h; cases h
      | succ k ih =>
        intro hk h
        simp only [Rg.odN] at h
        cases e : Rg.ovR (X k) (Y k) (X (Rg.nx1 n k)) (Y (Rg.nx1 n k)) px py
        · rw [e] at h
          exact ih (by omega) (by simpa using h)
        · exact ⟨k, hk, e⟩
    obtain ⟨i, hi, hv⟩ := some_edge n (Nat.le_refl _) h
    have b1 := bd i hi
    have b2 := bd _ (nxl_of hn hi)
    have hl : mnN X n ≤ px := by
      rcases Int.lt_or_le px (mnN X n) with g | g
      · exfalso
        have : Rg.odN n X Y px py n = false := by
          rw [od_xor]
          refine xor_tel (g := fun i => decide (Y i ≤ py)) hn fun i hi => ?_
          have c1 := bd i hi
          have c2 := bd _ (nxl_of hn hi)
          have up : ∀ ax ay bx by' : Int, px < ax → px < bx → ay ≤ by' → Rg.ovR ax ay bx by' px py = (decide (ay ≤ py) != decide (by' ≤ py)) := fun ax ay bx by' h1 h2 h3 => by
            rw [ovR_up h3]
            by_cases c : ay ≤ py ∧ py < by'
            · rw [decide_eq_true c, decide_eq_true (up_l (by omega) c.1 (by omega) h1 h2), decide_eq_true c.1, decide_eq_false (p := by' ≤ py) (by omega)]; rfl
            · rw [decide_eq_false c]
              by_cases d : ay ≤ py
              · rw [decide_eq_true d, decide_eq_true (p := by' ≤ py) (by omega)]; rfl
              · rw [decide_eq_false d, decide_eq_false (p := by' ≤ py) (by omega)]; rfl
          by_cases hu : Y i ≤ Y (Rg.nx1 n i)
          · exact up _ _ _ _ (by omega) (by omega) hu
          · show Rg.ovR (X i) (Y i) (X (Rg.nx1 n i)) (Y (Rg.nx1 n i)) px py = _
            rw [← ovR_swap, up _ _ _ _ (by omega) (by omega) (by omega)]
            cases decide (Y i ≤ py) <;> cases decide (Y (Rg.nx1 n i) ≤ py) <;> rfl
        rw [this] at h; cases h
      · exact g
    have up : ∀ ax ay bx by' : Int, ay ≤ by' → Rg.ovR ax ay bx by' px py = true → ay ≤ py ∧ py < by' ∧ (px ≤ ax ∨ px ≤ bx) := fun ax ay bx by' h3 h => by
      rw [ovR_up h3, Bool.and_eq_true, decide_eq_true_eq, decide_eq_true_eq] at h
      refine ⟨h.1.1, h.1.2, ?_⟩
      rcases (by omega : (px ≤ ax ∨ px ≤ bx) ∨ (ax < px ∧ bx < px)) with g | g
      · exact g
      · have := up_r (px := px) (py := py) (by omega : ay < by') h.1.1 (by omega) g.1 g.2
        omega
    by_cases hu : Y i ≤ Y (Rg.nx1 n i)
    · have := up _ _ _ _ hu hv
      omega
    · rw [← ovR_swap] at hv
      have := up _ _ _ _ (by omega) hv
      omega
end
end Go.Proofs.YtfobmlgpjhghdaaDoor
namespace Go.Proofs.YtfobmlgpjhghdaaDoor
set_option linter.unusedVariables false
set_option linter.unusedSimpArgs false
theorem mbG_st {ax ay bx by' lx ly hx hy : Int} (ha : nearB ax ay = true) (hb' : nearB bx by' = true) (hb : boxB lx ly hx hy = true) : mbG ax ay bx by' lx ly hx hy = true ↔ stP lx ly hx hy ax ay bx by' := by
  unfold mbG
  rw [ha, hb', hb]
  simp only [Bool.true_and]
  exact mb_st (boxB_iff.1 hb).2
section
variable {n : Nat} {X Y : Nat → Int} {lx ly hx hy : Int}
theorem mbW_iff : mbW n X Y lx ly hx hy (List.range n) = true ↔ ∃ i, i < n ∧ mbG (X i) (Y i) (X (Rg.nx1 n i)) (Y (Rg.nx1 n i)) lx ly hx hy = true := by
  unfold mbW
  rw [List.any_eq_true]
  constructor
  · rintro ⟨i, hi, h⟩; exact ⟨i, List.mem_range.1 hi, h⟩
  · rintro ⟨i, hi, h⟩; exact ⟨i, List.mem_range.2 hi, h⟩
def rmD (n : Nat) (X Y : Nat → Int) (lx ly hx hy : Int) : Bool := Rg.hasN n X Y lx ly || mbW n X Y lx ly hx hy (List.range n)
theorem rmD_iff (h0 : (Rg.ringC n X Y).1 = 0) (hb : boxB lx ly hx hy = true) : rmD n X Y lx ly hx hy = true ↔ Rg.hasN n X Y lx ly = true ∨ ∃ i, i < n ∧ stP lx ly hx hy (X i) (Y i) (X (Rg.nx1 n i)) (Y (Rg.nx1 n i)) := by
  obtain ⟨h1, h2, -⟩ := Rg.ringC_ok h0
  unfold rmD
  rw [Bool.or_eq_true, mbW_iff]
  constructor
  · rintro (h | ⟨i, hi, h⟩)
    · exact Or.inl h
    · exact Or.inr ⟨i, hi, (mbG_st (h2 i hi) (h2 _ (nxl_of (by omega) hi)) hb).1 h⟩
  · rintro (h | ⟨i, hi, h⟩)
    · exact Or.inl h
    · exact Or.inr ⟨i, hi, (mbG_st (h2 i hi) (h2 _ (nxl_of (by omega) hi)) hb).2 h⟩
theorem bd_mm (n : Nat) (X Y : Nat → Int) (i : Nat) (hi : i < n) : mnN X n ≤ X i ∧ X i ≤ mxN X n ∧ mnN Y n ≤ Y i ∧ Y i ≤ mxN Y n := ⟨mn_le X n i hi, le_mx X n i hi, mn_le Y n i hi, le_mx Y n i hi⟩
theorem rmD_ov (h0 : (Rg.ringC n X Y).1 = 0) (hb : boxB lx ly hx hy = true) (h : rmD n X Y lx ly hx hy = true) : mnN X n ≤ hx ∧ lx ≤ mxN X n ∧ mnN Y n ≤ hy ∧ ly ≤ mxN Y n := by
  obtain ⟨h1, h2, -⟩ := Rg.ringC_ok h0
  have hl := (boxB_iff.1 hb).2
  rcases (rmD_iff h0 hb).1 h with g | ⟨i, hi, g⟩
  · have := has_box (by omega) g
    unfold inP at this
    omega
  · have b1 := bd_mm n X Y i hi
    have b2 := bd_mm n X Y _ (nxl_of (by omega) hi)
    have := g.1
    unfold ovP at this
    omega
theorem ring_box (h0 : (Rg.ringC n X Y).1 = 0) : boxB (mnN X n) (mnN Y n) (mxN X n) (mxN Y n) = true := by
  obtain ⟨h1, h2, -⟩ := Rg.ringC_ok h0
  exact near_box h2 (by omega)
theorem rm_doc (h0 : (Rg.ringC n X Y).1 = 0) (hb : boxB lx ly hx hy = true) : rmV n X Y lx ly hx hy = rmD n X Y lx ly hx hy := by
  have hn := (boxB_iff.1 hb).1.1
  have ov := rmD_ov h0 hb
  have rb := ring_box h0
  unfold rmV arM rmbV
  rw [rb, hb, hn]
  by_cases c : mnN X n ≤ hx ∧ lx ≤ mxN X n ∧ mnN Y n ≤ hy ∧ ly ≤ mxN Y n
  · rw [decide_eq_true c.1, decide_eq_true c.2.1, decide_eq_true c.2.2.1, decide_eq_true c.2.2.2]
    simp only [Bool.true_and]
    unfold rmD
    exact Bool.or_comm _ _
  · have e : rmD n X Y lx ly hx hy = false := by
      cases h : rmD n X Y lx ly hx hy
      · rfl
      · exact absurd (ov h) c
    rw [e]
    have : (decide (mnN X n ≤ hx) && decide (lx ≤ mxN X n) && decide (mnN Y n ≤ hy) && decide (ly ≤ mxN Y n)) = false := by
      rw [← Bool.not_eq_true]
      simp only [Bool.and_eq_true, decide_eq_true_eq, and_assoc]
      exact c
    simp only [Bool.true_and]
    rw [this]
    rfl
theorem rmD_mono {mx my nx ny : Int} (h0 : (Rg.ringC n X Y).1 = 0) (hb : boxB lx ly hx hy = true) (hb2 : boxB mx my nx ny = true) (hl : mx ≤ lx ∧ my ≤ ly ∧ hx ≤ nx ∧ hy ≤ ny) (h : rmD n X Y lx ly hx hy = true) : rmD n X Y mx my nx ny = true := by
  obtain ⟨h1, h2, -⟩ := Rg.ringC_ok h0
  have a1 := (boxB_iff.1 hb).2
  have a2 := (boxB_iff.1 hb2).2
  rw [rmD_iff h0 hb2]
  by_cases c : ∃ i, i < n ∧ stP mx my nx ny (X i) (Y i) (X (Rg.nx1 n i)) (Y (Rg.nx1 n i))
  · exact Or.inr c
  left
  rcases (rmD_iff h0 hb).1 h with g | ⟨i, hi, g⟩
  · rw [← g]
    exact has_same (by omega) a2 (fun i hi g => c ⟨i, hi, g⟩) (by unfold inP; omega) (by unfold inP; omega)
  · exact absurd ⟨i, hi, stP_mono g hl⟩ c
theorem rmD_vert (h0 : (Rg.ringC n X Y).1 = 0) (hb : boxB lx ly hx hy = true) {i : Nat} (hi : i < n) (h : inP lx ly hx hy (X i) (Y i)) : rmD n X Y lx ly hx hy = true :=
  (rmD_iff h0 hb).2 (Or.inr ⟨i, hi, stP_a h⟩)
end
end Go.Proofs.YtfobmlgpjhghdaaDoor
namespace Go.Proofs.YtfobmlgpjhghdaaDoor
set_option linter.unusedVariables false
set_option linter.unusedSimpArgs false
open Go.ChangeShapes Go.WideShapes Go.ChangeAt Go.RowKit
theorem addr_addO (b off n : Nat) : (⟨b, off, none⟩ : Addr).add n = ⟨b, off + n, none⟩ := by
  unfold Addr.add; split <;> simp_all
section
variable {H : Type} {enc : TypeId × Value → H} {P : Program} {w : World} {base : Nat} {sp : Nat → Bool} {held : Bool} {r : Reach} {b0 : Nat}
theorem spot_cell {a : Addr} {v : Value} (h : w.cell? a = some v) : a.spot = none := by
  unfold World.cell? at h
  split at h
  · split at h
    · cases h
    · rename_i hs; simpa using hs
  · cases h
theorem cells2s {a : Addr} {x0 x1 : Value} (h : w.cells? base a 2 = some [x0, x1]) : w.cell? (a.add 0) = some x0 ∧ w.cell? (a.add 1) = some x1 := by
  unfold World.cells? at h
  split at h
  · rw [show List.range 2 = [0, 1] from rfl] at h
    simp only [List.mapM_cons, List.mapM_nil] at h
    obtain ⟨y0, h0, h⟩ := Option.bind_eq_some_iff.1 h
    obtain ⟨t0, h, e0⟩ := Option.bind_eq_some_iff.1 h
    obtain ⟨y1, h1, h⟩ := Option.bind_eq_some_iff.1 h
    obtain ⟨t1, h, e1⟩ := Option.bind_eq_some_iff.1 h
    cases h
    cases e1
    cases e0
    exact ⟨h0, h1⟩
  · cases h
theorem trod_ptsC {t p u : TypeId} {G0 G1 : Field} {x : Value} {fuel : Nat} {y : DataW H × List MemPlace} (ht : P.underlying t = some (.slice p)) (hp : P.underlying p = some (.struct #[G0, G1])) (hu : P.underlying u = some (.int .i64))
    (hG0 : G0.type = u ∧ G0.offset = 0) (hG1 : G1.type = u ∧ G1.offset = 1) (cp : P.cellsOf p = 2) (cu : P.cellsOf u = 1)
    (hd : DataW.trod enc P w base sp held fuel t [x] = some y) : ∃ (n : Nat) (X Y : Nat → Int), Pts w x n X Y := by
  rcases Deep.open_slice ht hd with ⟨h, -⟩ | ⟨a, n, cap, m, q, D, Pl, hv, -, hl, hcap, hm, -, hel⟩
  · simp only [List.cons.injEq, and_true] at h
    subst h
    exact ⟨0, fun _ => 0, fun _ => 0, none, 0, 0, 0, rfl, Nat.le_refl _, by decide, fun h => absurd h (by omega), fun k h => absurd h (by omega)⟩
  · simp only [List.cons.injEq, and_true] at hv
    subst hv
    have hlm : n ≤ m := by rw [hm]; split <;> omega
    have hcap' : cap ≤ 9223372036854775807 := by unfold maxLen at hcap; omega
    obtain ⟨b, off, s⟩ := a
    have key : ∀ k, k < n → ∃ z : Int × Int, w.cell? (((⟨b, off, s⟩ : Addr).add (k * 2)).add 0) = some (.int .i64 z.1) ∧ w.cell? (((⟨b, off, s⟩ : Addr).add (k * 2)).add 1) = some (.int .i64 z.2) := fun k hk => by
      obtain ⟨cs', hc, htr⟩ := hel k (by omega)
      rw [cp] at hc
      obtain ⟨y0, y1, j, -, hlen, t0, t1⟩ := trod_struct2 hp htr
      rw [cp] at hlen
      match cs', hlen with
      | [x0, x1], _ =>
        rw [hG0.1, hG0.2, cu] at t0
        rw [hG1.1, hG1.2, cu] at t1
        obtain ⟨z0, q0, -, -⟩ := DataW.trod_int hu t0
        obtain ⟨z1, q1, -, -⟩ := DataW.trod_int hu t1
        simp at q0 q1
        subst q0 q1
        exact ⟨(z0, z1), cells2s hc⟩
    by_cases h0 : n = 0
    · subst h0
      exact ⟨0, fun _ => 0, fun _ => 0, some ⟨b, off, s⟩, cap, b, off, rfl, Nat.zero_le _, hcap', fun h => absurd h (by omega), fun k h => absurd h (by omega)⟩
    · have hs : s = none := by
        obtain ⟨z, hz, -⟩ := key 0 (by omega)
        have := spot_cell hz
        unfold Addr.add at this
        (repeat' split at this) <;> simp_all
      subst hs
      have key2 : ∀ k, k < n → ∃ z : Int × Int, w.cell? ⟨b, off + k * 2, none⟩ = some (.int .i64 z.1) ∧ w.cell? ⟨b, off + k * 2 + 1, none⟩ = some (.int .i64 z.2) := fun k hk => by
        obtain ⟨z, h0, h1⟩ := key k hk
        rw [addr_addO, addr_addO] at h0 h1
        exact ⟨z, h0, h1⟩
      refine ⟨n, fun k => if h : k < n then (key2 k h).choose.1 else 0, fun k => if h : k < n then (key2 k h).choose.2 else 0, some ⟨b, off, none⟩, cap, b, off, rfl, hl, hcap', fun _ => rfl, fun k hk => ?_⟩
      simp only [dif_pos hk]
      exact (key2 k hk).choose_spec
theorem open_obj {t s p u : TypeId} {F0 F1 G0 G1 : Field} {v : Value} {d : DataW H} {ps : List MemPlace} (hs : P.underlying t = some (.struct #[F0, F1])) (hF0 : F0.type = u) (hF1 : F1.type = s) (hone : Go.Deep.oneCellFields P #[F0, F1] = true) (hC : P.cellsOf t = 2)
    (ht : P.underlying s = some (.slice p)) (hp : P.underlying p = some (.struct #[G0, G1])) (hu : P.underlying u = some (.int .i64))
    (hG0 : G0.type = u ∧ G0.offset = 0) (hG1 : G1.type = u ∧ G1.offset = 1) (cp : P.cellsOf p = 2) (cu : P.cellsOf u = 1)
    (hval : Value.okWide P w r b0 t v) (hd : DataW.Trod enc P w base sp held t v d ps) : ∃ (k : Int) (x : Value) (n : Nat) (X Y : Nat → Int), v = .agg #[.int .i64 k, x] ∧ (-9223372036854775808 ≤ k ∧ k ≤ 9223372036854775807) ∧ Pts w x n X Y := by
  obtain ⟨v0, v1, y0, y1, j, rfl, -, -, h0, h1⟩ := Joins.open_agg2 hs hone hC hval hd
  rw [hF0] at h0
  rw [hF1] at h1
  obtain ⟨z0, q0, -, wf⟩ := DataW.trod_int hu h0
  simp at q0
  subst q0
  obtain ⟨n, X, Y, hP⟩ := trod_ptsC ht hp hu hG0 hG1 cp cu h1
  exact ⟨z0, v1, n, X, Y, rfl, bounds_i64 wf, hP⟩
end
end Go.Proofs.YtfobmlgpjhghdaaDoor
namespace Go.Proofs.YtfobmlgpjhghdaaDoor
set_option linter.unusedVariables false
set_option linter.unusedSimpArgs false
open Go.ChangeShapes Go.WideShapes Go.ChangeAt Go.RowKit
theorem objC_near6 {k : Int} {n : Nat} {X Y : Nat → Int} (h : objC k n X Y = 0) : 1 ≤ k ∧ k ≤ 4 ∧ n ≤ 64 ∧ 1 ≤ n ∧ ∀ i, i < n → nearB (X i) (Y i) = true := by
  have hb : ∀ a b c d, boxN a b c d = 0 → nearB a b = true ∧ nearB c d = true := fun a b c d hh => by
    unfold boxN at hh
    split at hh
    · rename_i h1; simpa using h1
    · cases hh
  by_cases h4 : k = 4
  · subst h4
    rw [objC_4] at h
    obtain ⟨q1, q2, _, _⟩ := Rg.ringC_ok h
    exact ⟨by omega, by omega, by omega, by omega, q2⟩
  by_cases h3 : k = 3
  · subst h3
    rw [objC_3] at h
    by_cases hn : n = 2
    · rw [if_pos hn] at h
      obtain ⟨q1, q2⟩ := hb _ _ _ _ h
      refine ⟨by omega, by omega, by omega, by omega, fun i hi => ?_⟩
      rcases (by omega : i = 0 ∨ i = 1) with rfl | rfl
      · exact q1
      · exact q2
    · rw [if_neg hn] at h; cases h
  by_cases h1 : k = 1
  · subst h1
    rw [objC_1] at h
    by_cases hn : n = 1
    · rw [if_pos hn] at h
      refine ⟨by omega, by omega, by omega, by omega, fun i hi => ?_⟩
      obtain rfl : i = 0 := by omega
      exact (hb _ _ _ _ h).1
    · rw [if_neg hn] at h; cases h
  by_cases h2 : k = 2
  · subst h2
    rw [objC_2] at h
    by_cases hn : n = 1
    · rw [if_pos hn] at h
      refine ⟨by omega, by omega, by omega, by omega, fun i hi => ?_⟩
      obtain rfl : i = 0 := by omega
      have := hb _ _ _ _ h
      rw [nearB_iff, nearB_iff] at this
      rw [nearB_iff]
      omega
    · rw [if_neg hn] at h; cases h
  rw [objC_x h4 h3 h1 h2] at h
  cases h
set_option maxRecDepth 100000 in
theorem c_May6 (k : Int) {n : Nat} {X Y : Nat → Int} {v : Value} (W : World) (h : Pts W v n X Y) : Calls Tryd.prog 5 #[.agg #[.int .i64 k, v]] W fun e w' => e = .returned (.bool (decide (objC k n X Y = 0))) ∧ Gr W w' := by
  have A1 : ∀ w, Gr W w → Calls Tryd.prog 17 #[.agg #[.int .i64 k, v]] w fun e w' => e = .returned (.int .i64 (objC k n X Y : Nat)) ∧ Gr w w' := fun w g => c_rCheck k w (pts_gr h g)
  have hn : objC k n X Y = 0 → n ≤ 64 := fun e => (objC_near6 e).2.2.1
  generalize objC k n X Y = c at A1 hn ⊢
  obtain ⟨ad, cap, _, _, rfl, -⟩ := h
  by_cases h64 : n ≤ 64
  · have t1 : decide ((n : Int) ≤ (64 : Int)) = true := decide_eq_true (by omega)
    have t2 : decide (n ≤ 64) = true := decide_eq_true h64
    have H1 := Lib.hid A1
    clear A1
    by_cases hc : c = 0
    · subst hc
      rw [decide_eq_true rfl]
      clear hn h64
      go_enter Tryd.func5, Tryd.ntmps5
      go_wp2_with fail
      go_at_call 17
      refine ((H1.out _ (by go_grown))).mono ?_
      rintro e w1 ⟨rfl, hw1⟩
      have gw1 : Gr W w1 := Gr.trans (by go_grown) hw1
      clear hw1
      go_wp2_with fail
      go_ret
      exact ⟨rfl, gw1⟩
    · rw [decide_eq_false hc]
      have e1 : ((c : Int) == 0) = false := by simp; omega
      have e2 : (c == 0) = false := by simp; omega
      clear hn h64
      go_enter Tryd.func5, Tryd.ntmps5
      go_wp2_with fail
      go_at_call 17
      refine ((H1.out _ (by go_grown))).mono ?_
      rintro e w1 ⟨rfl, hw1⟩
      have gw1 : Gr W w1 := Gr.trans (by go_grown) hw1
      clear hw1
      go_wp2_with fail
      go_ret
      exact ⟨rfl, gw1⟩
  · have t1 : decide ((n : Int) ≤ (64 : Int)) = false := decide_eq_false (by omega)
    have t2 : decide (n ≤ 64) = false := decide_eq_false h64
    rw [decide_eq_false (fun e => h64 (hn e))]
    clear A1 hn h64
    go_enter Tryd.func5, Tryd.ntmps5
    go_wp2_with fail
    go_ret
    exact ⟨rfl, by go_grown⟩
end Go.Proofs.YtfobmlgpjhghdaaDoor
namespace Go.Proofs.YtfobmlgpjhghdaaDoor
set_option linter.unusedVariables false
open Go.ChangeShapes Go.WideShapes Go.ChangeAt Go.RowKit
set_option maxHeartbeats 2000000 in
set_option maxRecDepth 100000 in
theorem c_rBoxInside (lx ly hx hy mx my nx ny : Int) (W : World) :
    Calls Tryd.prog 14 #[.agg #[.int .i64 lx, .int .i64 ly, .int .i64 hx, .int .i64 hy], .agg #[.int .i64 mx, .int .i64 my, .int .i64 nx, .int .i64 ny]] W fun e w' => e = .returned (.bool (boxB lx ly hx hy && boxB mx my nx ny && inB mx my nx ny lx ly && inB mx my nx ny hx hy)) ∧ Gr W w' := by
  obtain ⟨k1, e1⟩ : ∃ k, k = boxCode lx ly hx hy := ⟨_, rfl⟩
  obtain ⟨q2, e2⟩ : ∃ q, q = (boxB mx my nx ny && nearB lx ly && inB mx my nx ny lx ly) := ⟨_, rfl⟩
  obtain ⟨q3, e3⟩ : ∃ q, q = (boxB mx my nx ny && nearB hx hy && inB mx my nx ny hx hy) := ⟨_, rfl⟩
  obtain ⟨r, hr⟩ : ∃ r, r = (boxB lx ly hx hy && boxB mx my nx ny && inB mx my nx ny lx ly && inB mx my nx ny hx hy) := ⟨_, rfl⟩
  have hrq : r = ((k1 == 0) && q2 && q3) := by
    rw [hr, e1, boxCode_zero, e2, e3]
    unfold boxB
    cases nearB lx ly <;> cases nearB hx hy <;> cases nearB mx my <;> cases nearB nx ny <;> simp
    grind
  have M := c_rCheckBox lx ly hx hy
  have N := c_rBoxHas mx my nx ny lx ly
  have O := c_rBoxHas mx my nx ny hx hy
  rw [← e1] at M
  rw [← e2] at N
  rw [← e3] at O
  rw [← hr]
  have H1 := Lib.hid M
  have H2 := Lib.hid N
  have H3 := Lib.hid O
  clear M N O e1 e2 e3 hr
  have hc : ((k1 == 0) = false ∧ r = false) ∨ (k1 = 0 ∧ q2 = false ∧ r = false) ∨ (k1 = 0 ∧ q2 = true ∧ r = q3) := by
    by_cases z1 : k1 = 0
    · subst z1
      cases q2
      · right; left; exact ⟨rfl, rfl, by rw [hrq]; simp⟩
      · right; right; exact ⟨rfl, rfl, by rw [hrq]; simp⟩
    · have : (k1 == 0) = false := by simpa using z1
      left; exact ⟨this, by rw [hrq, this]; simp⟩
  clear hrq
  rcases hc with ⟨z1, rfl⟩ | ⟨rfl, rfl, rfl⟩ | ⟨rfl, rfl, rfl⟩
  · go_enter Tryd.func14, Tryd.ntmps14
    go_wp2_with fail
    go_at_call 6
    refine ((H1.out _)).mono ?_
    rintro e w1 ⟨rfl, hw1⟩
    have cw1_0_0 : w1.cell? ⟨W.heap.size, 0, none⟩ = some (.int .i64 lx) := cell_gr hw1 (by go_simp)
    have cw1_0_1 : w1.cell? ⟨W.heap.size, 1, none⟩ = some (.int .i64 ly) := cell_gr hw1 (by go_simp)
    have cw1_0_2 : w1.cell? ⟨W.heap.size, 2, none⟩ = some (.int .i64 hx) := cell_gr hw1 (by go_simp)
    have cw1_0_3 : w1.cell? ⟨W.heap.size, 3, none⟩ = some (.int .i64 hy) := cell_gr hw1 (by go_simp)
    have zw1_0 : W.heap.size < w1.heap.size := World.block_lt_of_cell? _ _ cw1_0_0
    have cw1_1_0 : w1.cell? ⟨W.heap.size + 1, 0, none⟩ = some (.int .i64 mx) := cell_gr hw1 (by go_simp)
    have cw1_1_1 : w1.cell? ⟨W.heap.size + 1, 1, none⟩ = some (.int .i64 my) := cell_gr hw1 (by go_simp)
    have cw1_1_2 : w1.cell? ⟨W.heap.size + 1, 2, none⟩ = some (.int .i64 nx) := cell_gr hw1 (by go_simp)
    have cw1_1_3 : w1.cell? ⟨W.heap.size + 1, 3, none⟩ = some (.int .i64 ny) := cell_gr hw1 (by go_simp)
    have zw1_1 : W.heap.size + 1 < w1.heap.size := World.block_lt_of_cell? _ _ cw1_1_0
    have gw1 : Gr W w1 := Gr.trans (by go_grown) hw1
    clear hw1
    go_wp2_with fail
    go_ret
    exact ⟨rfl, by go_grown⟩
  · go_enter Tryd.func14, Tryd.ntmps14
    go_wp2_with fail
    go_at_call 6
    refine ((H1.out _)).mono ?_
    rintro e w1 ⟨rfl, hw1⟩
    have cw1_0_0 : w1.cell? ⟨W.heap.size, 0, none⟩ = some (.int .i64 lx) := cell_gr hw1 (by go_simp)
    have cw1_0_1 : w1.cell? ⟨W.heap.size, 1, none⟩ = some (.int .i64 ly) := cell_gr hw1 (by go_simp)
    have cw1_0_2 : w1.cell? ⟨W.heap.size, 2, none⟩ = some (.int .i64 hx) := cell_gr hw1 (by go_simp)
    have cw1_0_3 : w1.cell? ⟨W.heap.size, 3, none⟩ = some (.int .i64 hy) := cell_gr hw1 (by go_simp)
    have zw1_0 : W.heap.size < w1.heap.size := World.block_lt_of_cell? _ _ cw1_0_0
    have cw1_1_0 : w1.cell? ⟨W.heap.size + 1, 0, none⟩ = some (.int .i64 mx) := cell_gr hw1 (by go_simp)
    have cw1_1_1 : w1.cell? ⟨W.heap.size + 1, 1, none⟩ = some (.int .i64 my) := cell_gr hw1 (by go_simp)
    have cw1_1_2 : w1.cell? ⟨W.heap.size + 1, 2, none⟩ = some (.int .i64 nx) := cell_gr hw1 (by go_simp)
    have cw1_1_3 : w1.cell? ⟨W.heap.size + 1, 3, none⟩ = some (.int .i64 ny) := cell_gr hw1 (by go_simp)
    have zw1_1 : W.heap.size + 1 < w1.heap.size := World.block_lt_of_cell? _ _ cw1_1_0
    have gw1 : Gr W w1 := Gr.trans (by go_grown) hw1
    clear hw1
    go_wp2_with fail
    go_at_call 25
    refine ((H2.out _)).mono ?_
    rintro e w2 ⟨rfl, hw2⟩
    have cw2_0_0 : w2.cell? ⟨W.heap.size, 0, none⟩ = some (.int .i64 lx) := cell_gr hw2 (by go_simp)
    have cw2_0_1 : w2.cell? ⟨W.heap.size, 1, none⟩ = some (.int .i64 ly) := cell_gr hw2 (by go_simp)
    have cw2_0_2 : w2.cell? ⟨W.heap.size, 2, none⟩ = some (.int .i64 hx) := cell_gr hw2 (by go_simp)
    have cw2_0_3 : w2.cell? ⟨W.heap.size, 3, none⟩ = some (.int .i64 hy) := cell_gr hw2 (by go_simp)
    have zw2_0 : W.heap.size < w2.heap.size := World.block_lt_of_cell? _ _ cw2_0_0
    have cw2_1_0 : w2.cell? ⟨W.heap.size + 1, 0, none⟩ = some (.int .i64 mx) := cell_gr hw2 (by go_simp)
    have cw2_1_1 : w2.cell? ⟨W.heap.size + 1, 1, none⟩ = some (.int .i64 my) := cell_gr hw2 (by go_simp)
    have cw2_1_2 : w2.cell? ⟨W.heap.size + 1, 2, none⟩ = some (.int .i64 nx) := cell_gr hw2 (by go_simp)
    have cw2_1_3 : w2.cell? ⟨W.heap.size + 1, 3, none⟩ = some (.int .i64 ny) := cell_gr hw2 (by go_simp)
    have zw2_1 : W.heap.size + 1 < w2.heap.size := World.block_lt_of_cell? _ _ cw2_1_0
    have gw2 : Gr W w2 := Gr.trans (by have gg := gw1; have gs := gg.size; go_grown) hw2
    clear hw2 gw1 zw1_0 cw1_0_0 cw1_0_1 cw1_0_2 cw1_0_3 zw1_1 cw1_1_0 cw1_1_1 cw1_1_2 cw1_1_3
    go_wp2_with fail
    go_ret
    exact ⟨rfl, by go_grown⟩
  · go_enter Tryd.func14, Tryd.ntmps14
    go_wp2_with fail
    go_at_call 6
    refine ((H1.out _)).mono ?_
    rintro e w1 ⟨rfl, hw1⟩
    have cw1_0_0 : w1.cell? ⟨W.heap.size, 0, none⟩ = some (.int .i64 lx) := cell_gr hw1 (by go_simp)
    have cw1_0_1 : w1.cell? ⟨W.heap.size, 1, none⟩ = some (.int .i64 ly) := cell_gr hw1 (by go_simp)
    have cw1_0_2 : w1.cell? ⟨W.heap.size, 2, none⟩ = some (.int .i64 hx) := cell_gr hw1 (by go_simp)
    have cw1_0_3 : w1.cell? ⟨W.heap.size, 3, none⟩ = some (.int .i64 hy) := cell_gr hw1 (by go_simp)
    have zw1_0 : W.heap.size < w1.heap.size := World.block_lt_of_cell? _ _ cw1_0_0
    have cw1_1_0 : w1.cell? ⟨W.heap.size + 1, 0, none⟩ = some (.int .i64 mx) := cell_gr hw1 (by go_simp)
    have cw1_1_1 : w1.cell? ⟨W.heap.size + 1, 1, none⟩ = some (.int .i64 my) := cell_gr hw1 (by go_simp)
    have cw1_1_2 : w1.cell? ⟨W.heap.size + 1, 2, none⟩ = some (.int .i64 nx) := cell_gr hw1 (by go_simp)
    have cw1_1_3 : w1.cell? ⟨W.heap.size + 1, 3, none⟩ = some (.int .i64 ny) := cell_gr hw1 (by go_simp)
    have zw1_1 : W.heap.size + 1 < w1.heap.size := World.block_lt_of_cell? _ _ cw1_1_0
    have gw1 : Gr W w1 := Gr.trans (by go_grown) hw1
    clear hw1
    go_wp2_with fail
    go_at_call 25
    refine ((H2.out _)).mono ?_
    rintro e w2 ⟨rfl, hw2⟩
    have cw2_0_0 : w2.cell? ⟨W.heap.size, 0, none⟩ = some (.int .i64 lx) := cell_gr hw2 (by go_simp)
    have cw2_0_1 : w2.cell? ⟨W.heap.size, 1, none⟩ = some (.int .i64 ly) := cell_gr hw2 (by go_simp)
    have cw2_0_2 : w2.cell? ⟨W.heap.size, 2, none⟩ = some (.int .i64 hx) := cell_gr hw2 (by go_simp)
    have cw2_0_3 : w2.cell? ⟨W.heap.size, 3, none⟩ = some (.int .i64 hy) := cell_gr hw2 (by go_simp)
    have zw2_0 : W.heap.size < w2.heap.size := World.block_lt_of_cell? _ _ cw2_0_0
    have cw2_1_0 : w2.cell? ⟨W.heap.size + 1, 0, none⟩ = some (.int .i64 mx) := cell_gr hw2 (by go_simp)
    have cw2_1_1 : w2.cell? ⟨W.heap.size + 1, 1, none⟩ = some (.int .i64 my) := cell_gr hw2 (by go_simp)
    have cw2_1_2 : w2.cell? ⟨W.heap.size + 1, 2, none⟩ = some (.int .i64 nx) := cell_gr hw2 (by go_simp)
    have cw2_1_3 : w2.cell? ⟨W.heap.size + 1, 3, none⟩ = some (.int .i64 ny) := cell_gr hw2 (by go_simp)
    have zw2_1 : W.heap.size + 1 < w2.heap.size := World.block_lt_of_cell? _ _ cw2_1_0
    have gw2 : Gr W w2 := Gr.trans (by have gg := gw1; have gs := gg.size; go_grown) hw2
    clear hw2 gw1 zw1_0 cw1_0_0 cw1_0_1 cw1_0_2 cw1_0_3 zw1_1 cw1_1_0 cw1_1_1 cw1_1_2 cw1_1_3
    go_wp2_with fail
    go_at_call 25
    refine ((H3.out _)).mono ?_
    rintro e w3 ⟨rfl, hw3⟩
    have cw3_0_0 : w3.cell? ⟨W.heap.size, 0, none⟩ = some (.int .i64 lx) := cell_gr hw3 (by go_simp)
    have cw3_0_1 : w3.cell? ⟨W.heap.size, 1, none⟩ = some (.int .i64 ly) := cell_gr hw3 (by go_simp)
    have cw3_0_2 : w3.cell? ⟨W.heap.size, 2, none⟩ = some (.int .i64 hx) := cell_gr hw3 (by go_simp)
    have cw3_0_3 : w3.cell? ⟨W.heap.size, 3, none⟩ = some (.int .i64 hy) := cell_gr hw3 (by go_simp)
    have zw3_0 : W.heap.size < w3.heap.size := World.block_lt_of_cell? _ _ cw3_0_0
    have cw3_1_0 : w3.cell? ⟨W.heap.size + 1, 0, none⟩ = some (.int .i64 mx) := cell_gr hw3 (by go_simp)
    have cw3_1_1 : w3.cell? ⟨W.heap.size + 1, 1, none⟩ = some (.int .i64 my) := cell_gr hw3 (by go_simp)
    have cw3_1_2 : w3.cell? ⟨W.heap.size + 1, 2, none⟩ = some (.int .i64 nx) := cell_gr hw3 (by go_simp)
    have cw3_1_3 : w3.cell? ⟨W.heap.size + 1, 3, none⟩ = some (.int .i64 ny) := cell_gr hw3 (by go_simp)
    have zw3_1 : W.heap.size + 1 < w3.heap.size := World.block_lt_of_cell? _ _ cw3_1_0
    have gw3 : Gr W w3 := Gr.trans (by have gg := gw2; have gs := gg.size; go_grown) hw3
    clear hw3 gw2 zw2_0 cw2_0_0 cw2_0_1 cw2_0_2 cw2_0_3 zw2_1 cw2_1_0 cw2_1_1 cw2_1_2 cw2_1_3
    go_wp2_with fail
    go_ret
    exact ⟨rfl, by go_grown⟩
end Go.Proofs.YtfobmlgpjhghdaaDoor
