/- rel.ringsMeet: two rings whose boxes meet -/
import Derived.Test.YtpomllpplpalkaaGreatDoorUi
namespace Go.Proofs.YtpomllpplpalkaaGreatDoor
set_option linter.unusedVariables false
open Go.ChangeShapes Go.WideShapes Go.ChangeAt Go.RowKit Go.Shelf
attribute [local go_sem] Oper.semAt_some

def rmE (n : Nat) (X Y : Nat → Int) (m : Nat) (P Q : Nat → Int) (lx ly hx hy : Int) (k : Nat) : Bool := mbG (X k) (Y k) (X (Rg.nx1 n k)) (Y (Rg.nx1 n k)) lx ly hx hy && emW m P Q (X k) (Y k) (X (Rg.nx1 n k)) (Y (Rg.nx1 n k)) (List.range m)
def rmW (n : Nat) (X Y : Nat → Int) (m : Nat) (P Q : Nat → Int) (lx ly hx hy : Int) (pre : List Nat) : Bool := pre.any fun k => rmE n X Y m P Q lx ly hx hy k
theorem rmW_snoc (n : Nat) (X Y : Nat → Int) (m : Nat) (P Q : Nat → Int) (lx ly hx hy : Int) (pre : List Nat) (k : Nat) : rmW n X Y m P Q lx ly hx hy (pre ++ [k]) = (rmW n X Y m P Q lx ly hx hy pre || rmE n X Y m P Q lx ly hx hy k) := by
  unfold rmW; rw [List.any_append]; simp
theorem rmW_mono {n : Nat} {X Y : Nat → Int} {m : Nat} {P Q : Nat → Int} {lx ly hx hy : Int} {k : Nat} (hk : k ≤ n) (h : rmW n X Y m P Q lx ly hx hy (List.range k) = true) : rmW n X Y m P Q lx ly hx hy (List.range n) = true := by
  unfold rmW at *
  rw [List.any_eq_true] at *
  obtain ⟨x, h1, h2⟩ := h
  exact ⟨x, List.mem_range.2 (by have := List.mem_range.1 h1; omega), h2⟩
set_option maxHeartbeats 8000000 in
set_option maxRecDepth 100000 in
theorem c_rings {n m : Nat} {X Y P Q : Nat → Int} {v u : Value} {lx ly hx hy : Int} (w : World) (h : Pts w v n X Y) (hu : Pts w u m P Q) (h0 : (Rg.ringC n X Y).1 = 0) (h9 : (Rg.ringC m P Q).1 = 0) (e1 : mnN P m = lx) (e2 : mnN Q m = ly) (e3 : mxN P m = hx) (e4 : mxN Q m = hy) (hm : arM n X Y lx ly hx hy = true) :
    Calls Tryz.prog 155 #[v, u] w fun e w' => e = .returned (.bool (rmW n X Y m P Q lx ly hx hy (List.range n) || ((nearB (P 0) (Q 0) && Rg.hasN n X Y (P 0) (Q 0)) || (nearB (X 0) (Y 0) && Rg.hasN m P Q (X 0) (Y 0))))) ∧ Gr w w' := by
  have A1 := fun w' (g : Gr w w') => c_AroundN w' (pts_gr h g) (by have := (Rg.ringC_ok h0).1; omega)
  have A2 := fun w' => c_Meets (mnN X n) (mnN Y n) (mxN X n) (mxN Y n) lx ly hx hy w'
  have A3 := fun w' (g : Gr w w') => c_hs w h h0 (P 0) (Q 0) w' g
  have A4 := fun w' (g : Gr w w') => c_hs w hu h9 (X 0) (Y 0) w' g
  have A5 := fun w' (g : Gr w w') => c_AroundN w' (pts_gr hu g) (by have := (Rg.ringC_ok h9).1; omega)
  have A6 := fun (px py qx qy : Int) w' (g : Gr w w') => c_edgeMeets (px := px) (py := py) (qx := qx) (qy := qy) w' (pts_gr hu g) (by have := (Rg.ringC_ok h9).1; omega) (by have := (Rg.ringC_ok h9).1; omega)
  rw [e1, e2, e3, e4] at A5
  unfold arM at hm
  rw [hm] at A2
  have h1 : 1 ≤ n := by have := (Rg.ringC_ok h0).1; omega
  have hn : n ≤ 1000 := by have := (Rg.ringC_ok h0).1; omega
  have m1 : 1 ≤ m := by have := (Rg.ringC_ok h9).1; omega
  generalize hz : (nearB (P 0) (Q 0) && Rg.hasN n X Y (P 0) (Q 0)) = z1 at A3 ⊢
  generalize hz2 : (nearB (X 0) (Y 0) && Rg.hasN m P Q (X 0) (Y 0)) = z2 at A4 ⊢
  obtain ⟨ad, cap, B, off, rfl, q1, q2, q3, q4⟩ := h
  obtain rfl := q3 (by omega)
  obtain ⟨bd, bcap, C, oc, rfl, r1, r2, r3, r4⟩ := hu
  obtain rfl := r3 (by omega)
  have hB : B < w.heap.size := World.block_lt_of_cell? _ _ (q4 0 (by omega)).1
  have hC9 : C < w.heap.size := World.block_lt_of_cell? _ _ (r4 0 (by omega)).1
  have HC := Lib.hid q4
  have HD := Lib.hid (r4 0 (by omega))
  have hmx : Tryz.prog.follows .mixedOrders = true := by kernel_rfl
  have H1 := Lib.hid A1
  have H2 := Lib.hid A2
  have H3 := Lib.hid A3
  have H4 := Lib.hid A4
  have H5 := Lib.hid A5
  have H6 := Lib.hid A6
  clear A1 A2 A3 A4 A5 A6
  clear q3 q4 r3 r4 hm h0 h9 e1 e2 e3 e4 hz hz2
  refine (callsIn_wide (n := 10)).1 ?_
  refine callsIn_of_wp_marks Tryz.func155 rfl trivial ?_ rfl
  simp only [Tryz.ntmps155, List.size_toArray, List.length_cons, List.length_nil, Nat.reduceAdd, Nat.reduceSub, Array.replicate_succ, Array.replicate_zero, List.push_toArray, List.append_toArray, List.nil_append, List.cons_append]
  have n0 : 0 < n := by omega
  gi_wp2_with (refine ⟨trivial, ?_⟩; gi_at_call 152; refine (callsIn_wide.2 (H5.out _ (by go_grown))).mono ?_; rintro e w1 ⟨rfl, g1⟩)
  have g1s := g1.size
  simp only [World.size_alloc] at g1s
  have bS : Boxed w1 w.heap.size 32 (.slice (some ⟨C, oc, none⟩) m bcap) := ((Boxed.new w 32 (.slice (some ⟨C, oc, none⟩) m bcap)).alloc (.cells #[.bool false] 4)).kept (gr_grown g1) (by simp)
  have bR : Boxed w1 (w.heap.size + 1) 4 (.bool false) := by
    have h := Boxed.new (w.alloc (.cells #[(.slice (some ⟨C, oc, none⟩) m bcap)] 32)) 4 (.bool false)
    rw [World.size_alloc] at h
    exact h.kept (gr_grown g1) (by simp)
  have bP := Box4.new w1 lx ly hx hy
  have bS0 := bS.alloc (.cells #[.int .i64 lx, .int .i64 ly, .int .i64 hx, .int .i64 hy] 60)
  have bR0 := bR.alloc (.cells #[.int .i64 lx, .int .i64 ly, .int .i64 hx, .int .i64 hy] 60)
  have hG0 : Gr w (w1.alloc (.cells #[.int .i64 lx, .int .i64 ly, .int .i64 hx, .int .i64 hy] 60)) := Gr.trans (Gr.trans (by go_grown) g1) (by go_grown)
  have hsz : (w1.alloc (.cells #[.int .i64 lx, .int .i64 ly, .int .i64 hx, .int .i64 hy] 60)).heap.size = w1.heap.size + 1 := by simp
  obtain ⟨W1, hW1⟩ : ∃ W1, w1.alloc (.cells #[.int .i64 lx, .int .i64 ly, .int .i64 hx, .int .i64 hy] 60) = W1 := ⟨_, rfl⟩
  rw [hW1] at bS0 bR0 bP hG0 hsz ⊢
  obtain ⟨s, hs⟩ : ∃ s, w1.heap.size = s := ⟨_, rfl⟩
  rw [hs] at bP hsz g1s ⊢
  clear hW1 bS bR g1 hs
  obtain ⟨b0, b1, b2, b3⟩ := bP.cells
  refine wpIn_mono (Q := Exit.then (fun a' W2 => a' = { tmps := #[.slice (some ⟨B, off, none⟩) n cap, .slice (some ⟨C, oc, none⟩) m bcap, undef, .pointer (some ⟨w.heap.size, 0, none⟩), .pointer (some ⟨w.heap.size + 1, 0, none⟩), .pointer (some ⟨s, 0, none⟩), undef, undef, .slice (some ⟨C, oc, none⟩) m bcap, .agg #[.int .i64 lx, .int .i64 ly, .int .i64 hx, .int .i64 hy], .slice (some ⟨B, off, none⟩) n cap, .agg #[.int .i64 (mnN X n), .int .i64 (mnN Y n), .int .i64 (mxN X n), .int .i64 (mxN Y n)], .agg #[.int .i64 lx, .int .i64 ly, .int .i64 hx, .int .i64 hy], .bool true, .bool false, undef, undef, undef, undef, undef, undef, undef, undef, undef, undef, undef, undef, undef, undef, undef, undef, undef, undef, undef, undef, undef, undef, undef, undef, undef, undef], defers := [] } ∧ Gr W1 W2) (fun _ _ _ => False)) ?_ ?_
  · generalize mnN X n = x1 at H1 H2 ⊢
    generalize mnN Y n = x2 at H1 H2 ⊢
    generalize mxN X n = x3 at H1 H2 ⊢
    generalize mxN Y n = x4 at H1 H2 ⊢
    gi_region_with_o (first
      | (refine ⟨trivial, ?_⟩; gi_at_call 152; (refine (callsIn_wide.2 (H1.out _ (Gr.trans hG0 (by go_grown)))).mono ?_); rintro e w' ⟨rfl, gx⟩; (have gy : Gr W1 w' := Gr.trans (by go_grown) gx); (have d0 := cell_gr gy b0); (have d1 := cell_gr gy b1); (have d2 := cell_gr gy b2); (have d3 := cell_gr gy b3); clear gx)
      | (gi_at_call 152; (refine (callsIn_wide.2 (H1.out _ (Gr.trans hG0 (by go_grown)))).mono ?_); rintro e w' ⟨rfl, gx⟩; (have gy : Gr W1 w' := Gr.trans (by go_grown) gx); (have d0 := cell_gr gy b0); (have d1 := cell_gr gy b1); (have d2 := cell_gr gy b2); (have d3 := cell_gr gy b3); clear gx)
      | (refine ⟨trivial, ?_⟩; gi_at_call 154; (refine (callsIn_wide.2 (H2.out _)).mono ?_); rintro e w'' ⟨rfl, gx⟩; (have gz : Gr W1 w'' := Gr.trans gy (Gr.trans (by go_grown) gx)); clear gx)
      | (gi_at_call 154; (refine (callsIn_wide.2 (H2.out _)).mono ?_); rintro e w'' ⟨rfl, gx⟩; (have gz : Gr W1 w'' := Gr.trans gy (Gr.trans (by go_grown) gx)); clear gx))
    all_goals exact ⟨rfl, Gr.trans gz (by go_grown)⟩
  intro e a' W2 hh
  cases e
  all_goals try exact False.elim hh
  obtain ⟨rfl, g2⟩ := hh
  dsimp only [Exit.then]
  have g2s := g2.size
  have bP2 : Box4 W2 s lx ly hx hy := bP.kept (gr_grown g2) (by simp)
  have bS2 : Boxed W2 w.heap.size 32 (.slice (some ⟨C, oc, none⟩) m bcap) := bS0.kept (gr_grown g2) (by simp)
  have bR2 : Boxed W2 (w.heap.size + 1) 4 (.bool false) := bR0.kept (gr_grown g2) (by simp)
  have hG2 : Gr w W2 := Gr.trans hG0 g2
  clear b0 b1 b2 b3 bP bS0 bR0 hG0 g2
  gi_wp2_with (refine ⟨trivial, ?_⟩; gi_at_call 118; refine (callsIn_wide.2 (c_Edges _ _ _ _)).mono ?_; rintro e w' ⟨rfl, rfl⟩)
  have bE := Boxed.new W2 32 (.slice (some ⟨B, off, none⟩) n cap)
  have bP0 := bP2.alloc (.cells #[.slice (some ⟨B, off, none⟩) n cap] 32)
  have bS0 := bS2.alloc (.cells #[.slice (some ⟨B, off, none⟩) n cap] 32)
  have bR0 := bR2.alloc (.cells #[.slice (some ⟨B, off, none⟩) n cap] 32)
  have hG0 : Gr w (W2.alloc (.cells #[.slice (some ⟨B, off, none⟩) n cap] 32)) := Gr.trans hG2 (by go_grown)
  have hsz0 : (W2.alloc (.cells #[.slice (some ⟨B, off, none⟩) n cap] 32)).heap.size = W2.heap.size + 1 := by simp
  obtain ⟨W0, hW0⟩ : ∃ W0, W2.alloc (.cells #[.slice (some ⟨B, off, none⟩) n cap] 32) = W0 := ⟨_, rfl⟩
  rw [hW0] at bE bP0 bS0 bR0 hG0 hsz0 ⊢
  obtain ⟨q, hq⟩ : ∃ q, W2.heap.size = q := ⟨_, rfl⟩
  rw [hq] at bE hsz0 g2s ⊢
  clear hW0 bP2 bS2 bR2 hG2 hq H1 H2 H5
  have hsw : w.heap.size + 2 ≤ s := by omega
  refine wpIn_rangeFunc_ownH rfl (by decide) (gf := 162) (lb := #[.pointer (some ⟨q, 0, none⟩)]) rfl trivial (enters_of Tryz.func162 (by kernel_rfl) rfl)
    (edges_stops (10 - 1) (by decide) q B off n cap X Y hn h1 W0 bE.cell q1 q2 (fun k hk => ⟨cell_gr hG0 (HC.out k hk).1, cell_gr hG0 (HC.out k hk).2⟩)) KK.trans (kk_put (by omega) (by omega)) (Below.refl _ _) (fun _ => rfl)
    (fun pre W => (Boxed W (w.heap.size + 1) 4 (.bool false) ∧ Boxed W w.heap.size 32 (.slice (some ⟨C, oc, none⟩) m bcap)) ∧ ((Box4 W s lx ly hx hy ∧ rmW n X Y m P Q lx ly hx hy pre = false) ∧ (q + 1 ≤ W.heap.size ∧ Below w.heap.size w W)))
    (fun c pre W => (c = .ret ∧ rmW n X Y m P Q lx ly hx hy pre = true) ∧ (Boxed W (w.heap.size + 1) 4 (.bool true) ∧ Below w.heap.size w W))
    (OwnFrom.and (OwnFrom.and (Own.from (boxed_own _ _ _) _) (Own.from (boxed_own _ _ _) _)) (OwnFrom.and (OwnFrom.and (Own.from (box4_own _ _ _ _ _) _) (ownFrom_pure _ _)) (OwnFrom.and (fun _ P Q row hs hg hr => Nat.le_trans hs hg.size) (ownFrom_below (Nat.le_refl _) (by omega)))))
    (fun c => OwnFrom.and (ownFrom_pure _ _) (OwnFrom.and (Own.from (boxed_own _ _ _) _) (ownFrom_below (Nat.le_refl _) (by omega))))
    ⟨⟨bR0, bS0⟩, ⟨bP0, rfl⟩, by omega, hG0⟩
    (fun x a' W => ∃ Ba Bb, q + 1 ≤ Ba ∧ q + 1 ≤ Bb ∧ Box2 W Ba (X x) (Y x) ∧ Box2 W Bb (X (Rg.nx1 n x)) (Y (Rg.nx1 n x)) ∧ a' = { tmps := #[.slice (some ⟨B, off, none⟩) n cap, .slice (some ⟨C, oc, none⟩) m bcap, undef, .pointer (some ⟨w.heap.size, 0, none⟩), .pointer (some ⟨w.heap.size + 1, 0, none⟩), .pointer (some ⟨s, 0, none⟩), .pointer (some ⟨Ba, 0, none⟩), .pointer (some ⟨Bb, 0, none⟩), .slice (some ⟨C, oc, none⟩) m bcap, .agg #[.int .i64 lx, .int .i64 ly, .int .i64 hx, .int .i64 hy], .slice (some ⟨B, off, none⟩) n cap, .agg #[.int .i64 (mnN X n), .int .i64 (mnN Y n), .int .i64 (mxN X n), .int .i64 (mxN Y n)], .agg #[.int .i64 lx, .int .i64 ly, .int .i64 hx, .int .i64 hy], .bool true, .bool false, .slice (some ⟨B, off, none⟩) n cap, .func (.func 162) #[] #[.pointer (some ⟨q, 0, none⟩)], .agg #[.int .i64 (X x), .int .i64 (Y x)], .agg #[.int .i64 (X (Rg.nx1 n x)), .int .i64 (Y (Rg.nx1 n x))], undef, undef, undef, undef, undef, undef, undef, undef, undef, undef, undef, undef, undef, undef, undef, undef, undef, undef, undef, undef, undef, undef], defers := [] })
    (fun x a' _ P Q row hs hg hr => by obtain ⟨Ba, Bb, i1, i2, i3, i4, i5⟩ := hs; exact ⟨Ba, Bb, i1, i2, box2_notcells i3 hg (fun r e => (hr r e).2), box2_notcells i4 hg (fun r e => (hr r e).2), i5⟩)
    ?assign ?body ?done ?stop
  case assign =>
    rintro l pre x W K ⟨⟨bR1, bS1⟩, ⟨bP1, hon⟩, hs3, hB1⟩ hK
    gi_wp2
    have gA : Gr W ((W.alloc (.cells #[.int .i64 (X x), .int .i64 (Y x)] 58)).alloc (.cells #[.int .i64 (X (Rg.nx1 n x)), .int .i64 (Y (Rg.nx1 n x))] 58)) := by go_grown
    exact hK _ _ ((gr_keeps gA).from _) ((KK.refl _ _ _).gr gA (by omega) (by omega)) ⟨⟨(bR1.alloc _).alloc _, (bS1.alloc _).alloc _⟩, ⟨(bP1.alloc _).alloc _, hon⟩, Nat.le_trans hs3 gA.size, Gr.trans hB1 gA⟩
      ⟨W.heap.size, W.heap.size + 1, hs3, by omega, (Box2.new W (X x) (Y x)).alloc _, (by have := Box2.new (W.alloc (.cells #[.int .i64 (X x), .int .i64 (Y x)] 58)) (X (Rg.nx1 n x)) (Y (Rg.nx1 n x)); rwa [World.size_alloc] at this), rfl⟩
  case body =>
    rintro l pre x a' W hl ⟨r, hr⟩ ⟨⟨bR1, bS1⟩, ⟨bP1, hon⟩, hs3, hB1⟩ ⟨Ba, Bb, hBa, hBb, bA, bB, rfl⟩ hlt
    obtain ⟨a0, a1⟩ := bA.cells
    obtain ⟨b0, b1⟩ := bB.cells
    obtain ⟨p0, p1, p2, p3⟩ := bP1.cells
    have s0 := bS1.cell
    have cR := bR1.cell
    have fR := bR1.frozen
    have hso := rmW_snoc n X Y m P Q lx ly hx hy pre x
    rw [hon, Bool.false_or] at hso
    unfold rmE at hso
    have CO := c_gMeetsBox (X x) (Y x) (X (Rg.nx1 n x)) (Y (Rg.nx1 n x)) lx ly hx hy
    have CE := H6.out (X x) (Y x) (X (Rg.nx1 n x)) (Y (Rg.nx1 n x))
    generalize mbG (X x) (Y x) (X (Rg.nx1 n x)) (Y (Rg.nx1 n x)) lx ly hx hy = og at CO hso
    generalize emW m P Q (X x) (Y x) (X (Rg.nx1 n x)) (Y (Rg.nx1 n x)) (List.range m) = em at CE hso
    generalize X x = xa at a0 CO CE
    generalize Y x = ya at a1 CO CE
    generalize X (Rg.nx1 n x) = xb at b0 CO CE
    generalize Y (Rg.nx1 n x) = yb at b1 CO CE
    have HCO := Lib.hid CO
    have HEM := Lib.hid CE
    have HSO := Lib.hid hso
    have HB := Lib.hid (And.intro bR1 (And.intro bP1 bS1))
    clear CO CE hso hon bA bB bR1 bP1 bS1 H6 H3 H4
    have fin : ∀ w3, Gr W w3 → (og && em) = false → _ := fun w3 (g3 : Gr W w3) (hf : (og && em) = false) => (⟨(gr_keeps g3).from W0.heap.size, (KK.refl B q W).gr g3 (by omega) (by omega), ⟨⟨HB.out.1.kept (gr_grown g3) (by simp), HB.out.2.2.kept (gr_grown g3) (by simp)⟩, ⟨HB.out.2.1.kept (gr_grown g3) (by simp), HSO.out.trans hf⟩, by have := g3.size; omega, Gr.trans hB1 g3⟩⟩ : KeepsFrom W0.heap.size W w3 ∧ KK B q W w3 ∧ ((Boxed w3 (w.heap.size + 1) 4 (.bool false) ∧ Boxed w3 w.heap.size 32 (.slice (some ⟨C, oc, none⟩) m bcap)) ∧ ((Box4 w3 s lx ly hx hy ∧ rmW n X Y m P Q lx ly hx hy (pre ++ [x]) = false) ∧ (q + 1 ≤ w3.heap.size ∧ Below w.heap.size w w3))))
    cases og
    · gi_wp2_with (first | (refine ⟨trivial, ?_⟩; gi_at_call 201; (refine (CallsIn.inRound l (callsIn_wide.2 (HCO.out _))).mono ?_); rintro e w2 ⟨rfl, x2⟩; (have g2 : Gr W w2 := Gr.trans (by go_grown) x2); (have a0' := cell_gr g2 a0); (have a1' := cell_gr g2 a1); (have b0' := cell_gr g2 b0); (have b1' := cell_gr g2 b1); (have s0' := cell_gr g2 s0); clear x2) | (refine ⟨trivial, ?_⟩))
      exact fin w2 g2 rfl
    · cases em
      · gi_wp2_with (first | (refine ⟨trivial, ?_⟩; gi_at_call 201; (refine (CallsIn.inRound l (callsIn_wide.2 (HCO.out _))).mono ?_); rintro e w2 ⟨rfl, x2⟩; (have g2 : Gr W w2 := Gr.trans (by go_grown) x2); (have a0' := cell_gr g2 a0); (have a1' := cell_gr g2 a1); (have b0' := cell_gr g2 b0); (have b1' := cell_gr g2 b1); (have s0' := cell_gr g2 s0); clear x2) | (refine ⟨trivial, ?_⟩; gi_at_call 202; (refine (CallsIn.inRound l (callsIn_wide.2 (HEM.out _ (Gr.trans hB1 (Gr.trans g2 (by go_grown)))))).mono ?_); rintro e w3 ⟨rfl, x3⟩; (have g3 : Gr W w3 := Gr.trans g2 (Gr.trans (by go_grown) x3)); have dR := cell_gr g3 cR; have eR := frozen_gr g3 cR fR; clear x3))
        exact fin w3 g3 rfl
      · gi_wp2_with (first | (refine ⟨trivial, ?_⟩; gi_at_call 201; (refine (CallsIn.inRound l (callsIn_wide.2 (HCO.out _))).mono ?_); rintro e w2 ⟨rfl, x2⟩; (have g2 : Gr W w2 := Gr.trans (by go_grown) x2); (have a0' := cell_gr g2 a0); (have a1' := cell_gr g2 a1); (have b0' := cell_gr g2 b0); (have b1' := cell_gr g2 b1); (have s0' := cell_gr g2 s0); clear x2) | (refine ⟨trivial, ?_⟩; gi_at_call 202; (refine (CallsIn.inRound l (callsIn_wide.2 (HEM.out _ (Gr.trans hB1 (Gr.trans g2 (by go_grown)))))).mono ?_); rintro e w3 ⟨rfl, x3⟩; (have g3 : Gr W w3 := Gr.trans g2 (Gr.trans (by go_grown) x3)); have dR := cell_gr g3 cR; have eR := frozen_gr g3 cR fR; clear x3))
        obtain ⟨bR1, bP1, bS1⟩ := HB.out
        exact ⟨((gr_keeps g3).trans (KeepsOthers.setCell _ _ _)).from _, ⟨rfl, HSO.out⟩, (bR1.kept (gr_grown g3) (by simp)).set _, (Gr.trans hB1 g3).setCell (p := ⟨w.heap.size + 1, 0, none⟩) (by simp) _⟩
  case done =>
    rintro D ys W' hD rfl ⟨⟨bR1, bS1⟩, ⟨bP1, hon⟩, hs3, hB1⟩ hK
    have s0 := bS1.cell
    have cR := bR1.cell
    have fR := bR1.frozen
    have k0 := cell_gr hB1 HD.out.1
    have k1 := cell_gr hB1 HD.out.2
    have j0 := cell_gr hB1 (HC.out 0 n0).1
    have j1 := cell_gr hB1 (HC.out 0 n0).2
    rw [Nat.zero_mul, Nat.add_zero] at k0 k1 j0 j1
    generalize P 0 = pa at k0 H3
    generalize Q 0 = pb at k1 H3
    generalize X 0 = xa at j0 H4
    generalize Y 0 = xb at j1 H4
    have m0 : 0 < m := by omega
    have HBR := Lib.hid bR1
    clear bR1 bS1 bP1
    have zB := World.block_lt_of_cell? _ _ j0
    have zC := World.block_lt_of_cell? _ _ k0
    have zS := World.block_lt_of_cell? _ _ s0
    cases z1
    · gi_wp2
      refine wpIn_wide.2 ?_
      go_wp2_with fail
      try simp only [List.append]
      refine Od.wp_region_ordT 12 [(0, false), (1, false), (2, false), (3, false), (4, true), (5, false), (6, false), (7, false), (8, false), (9, false), (10, true), (11, false)] (by kernel_rfl) (by kernel_rfl) ?_
      intro v3 hv3 KQ hKQ
      have cv3_0_0 : v3.cell? ⟨w.heap.size, 0, none⟩ = some (.slice (some ⟨C, oc, none⟩) m bcap) := cell_gr hv3 (by go_simp)
      have zv3_0 : w.heap.size < v3.heap.size := World.block_lt_of_cell? _ _ cv3_0_0
      have cv3_1_0 : v3.cell? ⟨C, oc, none⟩ = some (.int .i64 pa) := cell_gr hv3 (by go_simp)
      have cv3_1_1 : v3.cell? ⟨C, oc + 1, none⟩ = some (.int .i64 pb) := cell_gr hv3 (by go_simp)
      have zv3_1 : C < v3.heap.size := World.block_lt_of_cell? _ _ cv3_1_0
      have cv3_2_0 : v3.cell? ⟨B, off, none⟩ = some (.int .i64 xa) := cell_gr hv3 (by go_simp)
      have cv3_2_1 : v3.cell? ⟨B, off + 1, none⟩ = some (.int .i64 xb) := cell_gr hv3 (by go_simp)
      have zv3_2 : B < v3.heap.size := World.block_lt_of_cell? _ _ cv3_2_0
      have cv3_3_0 : v3.cell? ⟨w.heap.size + 1, 0, none⟩ = some (.bool false) := cell_gr hv3 (by go_simp)
      have fv3_3_0 : v3.frozen? ⟨w.heap.size + 1, 0, none⟩ = false := frozen_gr (v := .bool false) hv3 (by go_simp) (by go_simp)
      have zv3_3 : w.heap.size + 1 < v3.heap.size := World.block_lt_of_cell? _ _ cv3_3_0
      have gv3 : Gr W' v3 := Gr.trans (by go_grown) hv3
      skip
      clear hv3
      repeat (first | (refine Od.wpO_skip (by simp only [List.getElem?_toArray, List.getElem?_cons_succ, List.getElem?_cons_zero] <;> rfl) rfl ?_; simp only [Act.put, List.setIfInBounds_toArray, List.set_cons_zero, List.set_cons_succ]) | (refine Od.wpO_pure (by simp only [List.getElem?_toArray, List.getElem?_cons_succ, List.getElem?_cons_zero] <;> rfl) rfl ?_; apply Exists.intro; refine ⟨?_, ?_⟩; (· intro wx gx; obtain ⟨mx, rfl⟩ := spread_of_gr gx; clear gx; all_goals (apply Od.pAt_of_quiet; intro K hK; go_big_quiet_op; first | exact hK _ rfl | (apply Exists.intro; refine ⟨fun _ => ?_, ?_⟩; (· fail); exact hK _ rfl))); try simp only [Act.put, List.setIfInBounds_toArray, List.set_cons_zero, List.set_cons_succ]))
      refine Od.wpO_call (by simp only [List.getElem?_toArray, List.getElem?_cons_succ, List.getElem?_cons_zero] <;> rfl) rfl ?_
      intro QS hQS
      go_wp2_with fail
      go_at_call 116
      (with_reducible refine ((H3.out _ (Gr.trans hB1 gv3))).mono ?_)
      rintro e v4 ⟨rfl, hv4⟩
      go_wp2_with fail
      apply Exists.intro
      refine ⟨?_, hv4, ?_⟩
      · simp only [Act.put, List.setIfInBounds_toArray, List.set_cons_zero, List.set_cons_succ]; rfl
      have cv4_0_0 : v4.cell? ⟨w.heap.size, 0, none⟩ = some (.slice (some ⟨C, oc, none⟩) m bcap) := cell_gr hv4 (by go_simp)
      have zv4_0 : w.heap.size < v4.heap.size := World.block_lt_of_cell? _ _ cv4_0_0
      have cv4_1_0 : v4.cell? ⟨C, oc, none⟩ = some (.int .i64 pa) := cell_gr hv4 (by go_simp)
      have cv4_1_1 : v4.cell? ⟨C, oc + 1, none⟩ = some (.int .i64 pb) := cell_gr hv4 (by go_simp)
      have zv4_1 : C < v4.heap.size := World.block_lt_of_cell? _ _ cv4_1_0
      have cv4_2_0 : v4.cell? ⟨B, off, none⟩ = some (.int .i64 xa) := cell_gr hv4 (by go_simp)
      have cv4_2_1 : v4.cell? ⟨B, off + 1, none⟩ = some (.int .i64 xb) := cell_gr hv4 (by go_simp)
      have zv4_2 : B < v4.heap.size := World.block_lt_of_cell? _ _ cv4_2_0
      have cv4_3_0 : v4.cell? ⟨w.heap.size + 1, 0, none⟩ = some (.bool false) := cell_gr hv4 (by go_simp)
      have fv4_3_0 : v4.frozen? ⟨w.heap.size + 1, 0, none⟩ = false := frozen_gr (v := .bool false) hv4 (by go_simp) (by go_simp)
      have zv4_3 : w.heap.size + 1 < v4.heap.size := World.block_lt_of_cell? _ _ cv4_3_0
      have gv4 : Gr W' v4 := Gr.trans (by have gg := gv3; have gs := gg.size; go_grown) hv4
      clear gv3 zv3_0 cv3_0_0 zv3_1 cv3_1_0 cv3_1_1 zv3_2 cv3_2_0 cv3_2_1 zv3_3 cv3_3_0 fv3_3_0
      clear hv4
      try simp only [Act.put, List.setIfInBounds_toArray, List.set_cons_zero, List.set_cons_succ]
      repeat (first | (refine Od.wpO_skip (by simp only [List.getElem?_toArray, List.getElem?_cons_succ, List.getElem?_cons_zero] <;> rfl) rfl ?_; simp only [Act.put, List.setIfInBounds_toArray, List.set_cons_zero, List.set_cons_succ]) | (refine Od.wpO_pure (by simp only [List.getElem?_toArray, List.getElem?_cons_succ, List.getElem?_cons_zero] <;> rfl) rfl ?_; apply Exists.intro; refine ⟨?_, ?_⟩; (· intro wx gx; obtain ⟨mx, rfl⟩ := spread_of_gr gx; clear gx; all_goals (apply Od.pAt_of_quiet; intro K hK; go_big_quiet_op; first | exact hK _ rfl | (apply Exists.intro; refine ⟨fun _ => ?_, ?_⟩; (· fail); exact hK _ rfl))); try simp only [Act.put, List.setIfInBounds_toArray, List.set_cons_zero, List.set_cons_succ]))
      refine Od.wpO_call (by simp only [List.getElem?_toArray, List.getElem?_cons_succ, List.getElem?_cons_zero] <;> rfl) rfl ?_
      intro QS hQS
      go_wp2_with fail
      go_at_call 116
      (with_reducible refine ((H4.out _ (Gr.trans hB1 gv4))).mono ?_)
      rintro e v5 ⟨rfl, hv5⟩
      go_wp2_with fail
      apply Exists.intro
      refine ⟨?_, hv5, ?_⟩
      · simp only [Act.put, List.setIfInBounds_toArray, List.set_cons_zero, List.set_cons_succ]; rfl
      have cv5_0_0 : v5.cell? ⟨w.heap.size, 0, none⟩ = some (.slice (some ⟨C, oc, none⟩) m bcap) := cell_gr hv5 (by go_simp)
      have zv5_0 : w.heap.size < v5.heap.size := World.block_lt_of_cell? _ _ cv5_0_0
      have cv5_1_0 : v5.cell? ⟨C, oc, none⟩ = some (.int .i64 pa) := cell_gr hv5 (by go_simp)
      have cv5_1_1 : v5.cell? ⟨C, oc + 1, none⟩ = some (.int .i64 pb) := cell_gr hv5 (by go_simp)
      have zv5_1 : C < v5.heap.size := World.block_lt_of_cell? _ _ cv5_1_0
      have cv5_2_0 : v5.cell? ⟨B, off, none⟩ = some (.int .i64 xa) := cell_gr hv5 (by go_simp)
      have cv5_2_1 : v5.cell? ⟨B, off + 1, none⟩ = some (.int .i64 xb) := cell_gr hv5 (by go_simp)
      have zv5_2 : B < v5.heap.size := World.block_lt_of_cell? _ _ cv5_2_0
      have cv5_3_0 : v5.cell? ⟨w.heap.size + 1, 0, none⟩ = some (.bool false) := cell_gr hv5 (by go_simp)
      have fv5_3_0 : v5.frozen? ⟨w.heap.size + 1, 0, none⟩ = false := frozen_gr (v := .bool false) hv5 (by go_simp) (by go_simp)
      have zv5_3 : w.heap.size + 1 < v5.heap.size := World.block_lt_of_cell? _ _ cv5_3_0
      have gv5 : Gr W' v5 := Gr.trans (by have gg := gv4; have gs := gg.size; go_grown) hv5
      clear gv4 zv4_0 cv4_0_0 zv4_1 cv4_1_0 cv4_1_1 zv4_2 cv4_2_0 cv4_2_1 zv4_3 cv4_3_0 fv4_3_0
      clear hv5
      try simp only [Act.put, List.setIfInBounds_toArray, List.set_cons_zero, List.set_cons_succ]
      repeat (first | (refine Od.wpO_skip (by simp only [List.getElem?_toArray, List.getElem?_cons_succ, List.getElem?_cons_zero] <;> rfl) rfl ?_; simp only [Act.put, List.setIfInBounds_toArray, List.set_cons_zero, List.set_cons_succ]) | (refine Od.wpO_pure (by simp only [List.getElem?_toArray, List.getElem?_cons_succ, List.getElem?_cons_zero] <;> rfl) rfl ?_; apply Exists.intro; refine ⟨?_, ?_⟩; (· intro wx gx; obtain ⟨mx, rfl⟩ := spread_of_gr gx; clear gx; all_goals (apply Od.pAt_of_quiet; intro K hK; go_big_quiet_op; first | exact hK _ rfl | (apply Exists.intro; refine ⟨fun _ => ?_, ?_⟩; (· fail); exact hK _ rfl))); try simp only [Act.put, List.setIfInBounds_toArray, List.set_cons_zero, List.set_cons_succ]))
      refine Od.wpO_nil (hKQ _ _ ?_)
      clear hKQ KQ
      go_wp2_with fail
      gi_wp2
      rw [hon, Bool.false_or, Bool.false_or]
      have bR2 : Boxed v5 (w.heap.size + 1) 4 (.bool false) := HBR.out.kept (gr_grown gv5) (by simp)
      have hK1 : v5.heap[D]? = some (.deferred (some [])) := (gr_keeps gv5).same D _ hK rfl
      have hK2 : (v5.setCell ⟨w.heap.size + 1, 0, none⟩ (.bool z2)).heap[D]? = some (.deferred (some [])) := (KeepsOthers.setCell _ _ _).same D _ hK1 rfl
      have hc2 := cell_kept (bR2.set (.bool z2)).cell (grownBy_putObj' _ D (.deferred none)) (fun r e => by cases e; exact ⟨_, hK2, rfl⟩)
      refine ⟨by simp, .inl ⟨_, _, rfl, run_takeDeferred hK2, ?_⟩⟩
      exact ⟨_, results_cell1 rfl rfl (Tryz.underlying4) rfl hc2, rfl, ((Gr.trans hB1 gv5).setCell (p := ⟨w.heap.size + 1, 0, none⟩) (by simp) _).trans (belowK_b (w := w) (Nat.le_refl _) _ D _ _ (by omega) hK2 rfl rfl)⟩
    · gi_wp2
      refine wpIn_wide.2 ?_
      go_wp2_with fail
      try simp only [List.append]
      refine Od.wp_region_ordT 12 [(0, false), (1, false), (2, false), (3, false), (4, true), (5, false), (6, false), (7, false), (8, false), (9, false), (10, true), (11, false)] (by kernel_rfl) (by kernel_rfl) ?_
      intro v3 hv3 KQ hKQ
      have cv3_0_0 : v3.cell? ⟨w.heap.size, 0, none⟩ = some (.slice (some ⟨C, oc, none⟩) m bcap) := cell_gr hv3 (by go_simp)
      have zv3_0 : w.heap.size < v3.heap.size := World.block_lt_of_cell? _ _ cv3_0_0
      have cv3_1_0 : v3.cell? ⟨C, oc, none⟩ = some (.int .i64 pa) := cell_gr hv3 (by go_simp)
      have cv3_1_1 : v3.cell? ⟨C, oc + 1, none⟩ = some (.int .i64 pb) := cell_gr hv3 (by go_simp)
      have zv3_1 : C < v3.heap.size := World.block_lt_of_cell? _ _ cv3_1_0
      have cv3_2_0 : v3.cell? ⟨B, off, none⟩ = some (.int .i64 xa) := cell_gr hv3 (by go_simp)
      have cv3_2_1 : v3.cell? ⟨B, off + 1, none⟩ = some (.int .i64 xb) := cell_gr hv3 (by go_simp)
      have zv3_2 : B < v3.heap.size := World.block_lt_of_cell? _ _ cv3_2_0
      have cv3_3_0 : v3.cell? ⟨w.heap.size + 1, 0, none⟩ = some (.bool false) := cell_gr hv3 (by go_simp)
      have fv3_3_0 : v3.frozen? ⟨w.heap.size + 1, 0, none⟩ = false := frozen_gr (v := .bool false) hv3 (by go_simp) (by go_simp)
      have zv3_3 : w.heap.size + 1 < v3.heap.size := World.block_lt_of_cell? _ _ cv3_3_0
      have gv3 : Gr W' v3 := Gr.trans (by go_grown) hv3
      skip
      clear hv3
      repeat (first | (refine Od.wpO_skip (by simp only [List.getElem?_toArray, List.getElem?_cons_succ, List.getElem?_cons_zero] <;> rfl) rfl ?_; simp only [Act.put, List.setIfInBounds_toArray, List.set_cons_zero, List.set_cons_succ]) | (refine Od.wpO_pure (by simp only [List.getElem?_toArray, List.getElem?_cons_succ, List.getElem?_cons_zero] <;> rfl) rfl ?_; apply Exists.intro; refine ⟨?_, ?_⟩; (· intro wx gx; obtain ⟨mx, rfl⟩ := spread_of_gr gx; clear gx; all_goals (apply Od.pAt_of_quiet; intro K hK; go_big_quiet_op; first | exact hK _ rfl | (apply Exists.intro; refine ⟨fun _ => ?_, ?_⟩; (· fail); exact hK _ rfl))); try simp only [Act.put, List.setIfInBounds_toArray, List.set_cons_zero, List.set_cons_succ]))
      refine Od.wpO_call (by simp only [List.getElem?_toArray, List.getElem?_cons_succ, List.getElem?_cons_zero] <;> rfl) rfl ?_
      intro QS hQS
      go_wp2_with fail
      go_at_call 116
      (with_reducible refine ((H3.out _ (Gr.trans hB1 gv3))).mono ?_)
      rintro e v4 ⟨rfl, hv4⟩
      go_wp2_with fail
      apply Exists.intro
      refine ⟨?_, hv4, ?_⟩
      · simp only [Act.put, List.setIfInBounds_toArray, List.set_cons_zero, List.set_cons_succ]; rfl
      have cv4_0_0 : v4.cell? ⟨w.heap.size, 0, none⟩ = some (.slice (some ⟨C, oc, none⟩) m bcap) := cell_gr hv4 (by go_simp)
      have zv4_0 : w.heap.size < v4.heap.size := World.block_lt_of_cell? _ _ cv4_0_0
      have cv4_1_0 : v4.cell? ⟨C, oc, none⟩ = some (.int .i64 pa) := cell_gr hv4 (by go_simp)
      have cv4_1_1 : v4.cell? ⟨C, oc + 1, none⟩ = some (.int .i64 pb) := cell_gr hv4 (by go_simp)
      have zv4_1 : C < v4.heap.size := World.block_lt_of_cell? _ _ cv4_1_0
      have cv4_2_0 : v4.cell? ⟨B, off, none⟩ = some (.int .i64 xa) := cell_gr hv4 (by go_simp)
      have cv4_2_1 : v4.cell? ⟨B, off + 1, none⟩ = some (.int .i64 xb) := cell_gr hv4 (by go_simp)
      have zv4_2 : B < v4.heap.size := World.block_lt_of_cell? _ _ cv4_2_0
      have cv4_3_0 : v4.cell? ⟨w.heap.size + 1, 0, none⟩ = some (.bool false) := cell_gr hv4 (by go_simp)
      have fv4_3_0 : v4.frozen? ⟨w.heap.size + 1, 0, none⟩ = false := frozen_gr (v := .bool false) hv4 (by go_simp) (by go_simp)
      have zv4_3 : w.heap.size + 1 < v4.heap.size := World.block_lt_of_cell? _ _ cv4_3_0
      have gv4 : Gr W' v4 := Gr.trans (by have gg := gv3; have gs := gg.size; go_grown) hv4
      clear gv3 zv3_0 cv3_0_0 zv3_1 cv3_1_0 cv3_1_1 zv3_2 cv3_2_0 cv3_2_1 zv3_3 cv3_3_0 fv3_3_0
      clear hv4
      try simp only [Act.put, List.setIfInBounds_toArray, List.set_cons_zero, List.set_cons_succ]
      repeat (first | (refine Od.wpO_skip (by simp only [List.getElem?_toArray, List.getElem?_cons_succ, List.getElem?_cons_zero] <;> rfl) rfl ?_; simp only [Act.put, List.setIfInBounds_toArray, List.set_cons_zero, List.set_cons_succ]) | (refine Od.wpO_pure (by simp only [List.getElem?_toArray, List.getElem?_cons_succ, List.getElem?_cons_zero] <;> rfl) rfl ?_; apply Exists.intro; refine ⟨?_, ?_⟩; (· intro wx gx; obtain ⟨mx, rfl⟩ := spread_of_gr gx; clear gx; all_goals (apply Od.pAt_of_quiet; intro K hK; go_big_quiet_op; first | exact hK _ rfl | (apply Exists.intro; refine ⟨fun _ => ?_, ?_⟩; (· fail); exact hK _ rfl))); try simp only [Act.put, List.setIfInBounds_toArray, List.set_cons_zero, List.set_cons_succ]))
      refine Od.wpO_nil (hKQ _ _ ?_)
      clear hKQ KQ
      go_wp2_with fail
      gi_wp2
      rw [hon, Bool.false_or, Bool.true_or]
      have bR2 : Boxed v4 (w.heap.size + 1) 4 (.bool false) := HBR.out.kept (gr_grown gv4) (by simp)
      have hK1 : v4.heap[D]? = some (.deferred (some [])) := (gr_keeps gv4).same D _ hK rfl
      have hK2 : (v4.setCell ⟨w.heap.size + 1, 0, none⟩ (.bool true)).heap[D]? = some (.deferred (some [])) := (KeepsOthers.setCell _ _ _).same D _ hK1 rfl
      have hc2 := cell_kept (bR2.set (.bool true)).cell (grownBy_putObj' _ D (.deferred none)) (fun r e => by cases e; exact ⟨_, hK2, rfl⟩)
      refine ⟨by simp, .inl ⟨_, _, rfl, run_takeDeferred hK2, ?_⟩⟩
      exact ⟨_, results_cell1 rfl rfl (Tryz.underlying4) rfl hc2, rfl, ((Gr.trans hB1 gv4).setCell (p := ⟨w.heap.size + 1, 0, none⟩) (by simp) _).trans (belowK_b (w := w) (Nat.le_refl _) _ D _ _ (by omega) hK2 rfl rfl)⟩
  case stop =>
    rintro D c pre W hD ⟨k, hk, rfl⟩ ⟨⟨rfl, hon⟩, bR1, hB1⟩ hK
    have cR := bR1.cell
    gi_wp2
    have hc2 := cell_kept cR (grownBy_putObj' _ D (.deferred none)) (fun r e => by cases e; exact ⟨_, hK, rfl⟩)
    rw [rmW_mono hk hon, Bool.true_or]
    refine ⟨by simp, .inl ⟨_, _, rfl, run_takeDeferred hK, ?_⟩⟩
    exact ⟨_, results_cell1 rfl rfl (Tryz.underlying4) rfl hc2, rfl, hB1.trans (belowK_b (w := w) (Nat.le_refl _) _ D _ _ (by omega) hK rfl rfl)⟩
end Go.Proofs.YtpomllpplpalkaaGreatDoor
