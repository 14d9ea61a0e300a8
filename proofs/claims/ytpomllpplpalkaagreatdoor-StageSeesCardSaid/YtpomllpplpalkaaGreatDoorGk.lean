import Derived.Test.YtpomllpplpalkaaGreatDoorGc
/- ring: overRay, Holds -/
namespace Go.Proofs.YtpomllpplpalkaaGreatDoor
set_option linter.unusedVariables false
open Go.ChangeShapes Go.WideShapes Go.ChangeAt Go.RowKit

def ovZ (ax ay bx by' px py : Int) : Bool :=
  if by' ≤ py ∧ py < ay then decide (0 < orZ bx by' ax ay px py)
  else if ay ≤ py ∧ py < by' then decide (0 < orZ ax ay bx by' px py) else false
theorem or_pos {ax ay bx by' px py : Int} (h1 : nearB ax ay = true) (h2 : nearB bx by' = true) (h3 : nearB px py = true) : decide (0 < orZ ax ay bx by' px py) = decide (0 < cr ax ay bx by' px py) := by
  have e : crossZ ax ay bx by' px py = cr ax ay bx by' px py := by unfold crossZ cr; rw [h1, h2, h3]; rfl
  unfold orZ
  rw [e, decide_eq_decide]
  unfold cmpZ
  split
  · omega
  · split <;> omega
theorem ovZ_near {ax ay bx by' px py : Int} (h1 : nearB ax ay = true) (h2 : nearB bx by' = true) (h3 : nearB px py = true) : ovZ ax ay bx by' px py = Rg.ovR ax ay bx by' px py := by
  unfold ovZ Rg.ovR
  rw [or_pos h1 h2 h3, or_pos h2 h1 h3]
set_option maxHeartbeats 4000000 in
set_option maxRecDepth 100000 in
theorem c_overRay (ax ay bx by' px py : Int) (W : World) : Calls Tryz.prog 159 #[.agg #[.int .i64 ax, .int .i64 ay], .agg #[.int .i64 bx, .int .i64 by'], .agg #[.int .i64 px, .int .i64 py]] W fun e w' => e = .returned (.bool (ovZ ax ay bx by' px py)) ∧ Gr W w' := by
  have A1 := c_Orient bx by' ax ay px py
  have A2 := c_Orient ax ay bx by' px py
  by_cases h1 : py < ay
  · have t1 : decide (py < ay) = true := decide_eq_true h1
    by_cases h2 : by' ≤ py
    · have t2 : decide (by' ≤ py) = true := decide_eq_true h2
      have e : ovZ ax ay bx by' px py = decide (0 < orZ bx by' ax ay px py) := by unfold ovZ; rw [if_pos ⟨h2, h1⟩]
      rw [e]
      unfold orZ
      generalize cmpZ (crossZ bx by' ax ay px py) 0 = k at A1 ⊢
      have H1 := Lib.hid A1
      clear A1
      clear A2 e
      go_enter Tryz.func159, Tryz.ntmps159
      go_wp2_with fail
      go_at_call 204
      (with_reducible refine (H1.out _).mono ?_)
      rintro e w1 ⟨rfl, g1⟩
      go_wp2_with fail
      go_ret
      exact ⟨rfl, Gr.trans (by go_grown) g1⟩
    · have t2 : decide (by' ≤ py) = false := decide_eq_false h2
      have t3 : decide (ay ≤ py) = false := decide_eq_false (by omega)
      have e : ovZ ax ay bx by' px py = false := by unfold ovZ; rw [if_neg (by omega), if_neg (by omega)]
      rw [e]
      clear A1 A2 e
      go_enter Tryz.func159, Tryz.ntmps159
      go_wp2_with fail
      go_ret
      exact ⟨rfl, by go_grown⟩
  · have t1 : decide (py < ay) = false := decide_eq_false h1
    have t3 : decide (ay ≤ py) = true := decide_eq_true (by omega)
    by_cases h2 : py < by'
    · have t2 : decide (py < by') = true := decide_eq_true h2
      have e : ovZ ax ay bx by' px py = decide (0 < orZ ax ay bx by' px py) := by unfold ovZ; rw [if_neg (by omega), if_pos ⟨by omega, h2⟩]
      rw [e]
      unfold orZ
      generalize cmpZ (crossZ ax ay bx by' px py) 0 = k at A2 ⊢
      have H2 := Lib.hid A2
      clear A2
      clear A1 e
      go_enter Tryz.func159, Tryz.ntmps159
      go_wp2_with fail
      go_at_call 204
      (with_reducible refine (H2.out _).mono ?_)
      rintro e w1 ⟨rfl, g1⟩
      go_wp2_with fail
      go_ret
      exact ⟨rfl, Gr.trans (by go_grown) g1⟩
    · have t2 : decide (py < by') = false := decide_eq_false h2
      have e : ovZ ax ay bx by' px py = false := by unfold ovZ; rw [if_neg (by omega), if_neg (by omega)]
      rw [e]
      clear A1 A2 e
      go_enter Tryz.func159, Tryz.ntmps159
      go_wp2_with fail
      go_ret
      exact ⟨rfl, by go_grown⟩
end Go.Proofs.YtpomllpplpalkaaGreatDoor
namespace Go.Proofs.YtpomllpplpalkaaGreatDoor
set_option linter.unusedVariables false
open Go.ChangeShapes Go.WideShapes Go.ChangeAt Go.RowKit Go.Shelf

attribute [local go_sem] Oper.semAt_some
def odW (n : Nat) (X Y : Nat → Int) (px py : Int) (pre : List Nat) : Bool := pre.foldl (fun o k => o != ovZ (X k) (Y k) (X (Rg.nx1 n k)) (Y (Rg.nx1 n k)) px py) false
def onW (n : Nat) (X Y : Nat → Int) (px py : Int) (pre : List Nat) : Bool := pre.any fun k => onG (X k) (Y k) (X (Rg.nx1 n k)) (Y (Rg.nx1 n k)) px py
theorem odW_snoc (n : Nat) (X Y : Nat → Int) (px py : Int) (pre : List Nat) (k : Nat) : odW n X Y px py (pre ++ [k]) = (odW n X Y px py pre != ovZ (X k) (Y k) (X (Rg.nx1 n k)) (Y (Rg.nx1 n k)) px py) := by
  unfold odW; rw [List.foldl_append]; rfl
theorem onW_snoc (n : Nat) (X Y : Nat → Int) (px py : Int) (pre : List Nat) (k : Nat) : onW n X Y px py (pre ++ [k]) = (onW n X Y px py pre || onG (X k) (Y k) (X (Rg.nx1 n k)) (Y (Rg.nx1 n k)) px py) := by
  unfold onW; rw [List.any_append]; simp
theorem onW_all (n : Nat) (X Y : Nat → Int) (px py : Int) : ∀ k, onW n X Y px py (List.range k) = Rg.onN n X Y px py k := by
  intro k
  induction k with
  | zero => rfl
  | succ k ih => rw [List.range_succ, onW_snoc, ih]; rfl
theorem odW_all {n : Nat} {X Y : Nat → Int} {px py : Int} (hnr : ∀ k, k < n → nearB (X k) (Y k) = true) (hp : nearB px py = true) : ∀ k, k ≤ n → odW n X Y px py (List.range k) = Rg.odN n X Y px py k := by
  intro k
  induction k with
  | zero => intro _; rfl
  | succ k ih =>
    intro hk
    have hx : Rg.nx1 n k < n := by unfold Rg.nx1; split <;> omega
    rw [List.range_succ, odW_snoc, ih (by omega), ovZ_near (hnr k (by omega)) (hnr _ hx) hp]
    rfl
theorem onW_mono {n : Nat} {X Y : Nat → Int} {px py : Int} {k : Nat} (hk : k ≤ n) (h : onW n X Y px py (List.range k) = true) : onW n X Y px py (List.range n) = true := by
  unfold onW at *
  rw [List.any_eq_true] at *
  obtain ⟨x, h1, h2⟩ := h
  exact ⟨x, List.mem_range.2 (by have := List.mem_range.1 h1; omega), h2⟩
theorem results_cell1 {P : Program} {fn : Func} {p : Tmp} {ty : TypeId} (h : fn.results = #[.cell p ty]) {tmps : Array Value} {w : World} {b : Nat} {v : Value} (hp : tmps.getD p undef = .pointer (some ⟨b, 0, none⟩))
    {d : TypeDesc} (hu : P.underlying ty = some d) (hd : (match d with | .struct _ | .array _ _ => true | _ => false) = false) (hc : w.cell? ⟨b, 0, none⟩ = some v) : (results fn tmps).run P w = .ok v w := by
  have hp' : tmps[p]?.getD undef = .pointer (some ⟨b, 0, none⟩) := by simpa using hp
  have hl : (loadVar ty ⟨b, 0, none⟩).run P w = .ok v w := by
    have hagg : (isAgg ty).run P w = .ok false w := by
      unfold isAgg
      cases d <;> first | (cases hd; done) | simp [underlying, Sem.run_bind, Result.andThen, hu, go_sem]
    simp [loadVar, hagg, Sem.run_bind, Result.andThen, hc, go_sem]
  simp [results, h, hp', asAddr, hl]
theorem box2_own {β : Type} (B : Nat) (x y : Int) : Own (fun (_ : β) W => Box2 W B x y) := fun s X Y row hs hg hrow => box2_notcells hs hg hrow
set_option maxHeartbeats 1000000 in
set_option maxRecDepth 100000 in
theorem c_Holds_no (ad : Option Addr) (n cap : Nat) (px py : Int) (hp : nearB px py = false) (W : World) : Calls Tryz.prog 116 #[.slice ad n cap, .agg #[.int .i64 px, .int .i64 py]] W fun e w' => e = .returned (.bool false) ∧ Gr W w' := by
  have A := c_CheckPoint px py
  rw [hp, if_neg (by decide)] at A
  have H := Lib.hid A
  clear A
  go_enter Tryz.func116, Tryz.ntmps116
  go_wp2_with fail
  go_at_call 79
  (with_reducible refine ((H.out _)).mono ?_)
  rintro e w1 ⟨rfl, hw1⟩
  have cw1_0_0 : w1.cell? ⟨W.heap.size, 0, none⟩ = some (.int .i64 px) := cell_gr hw1 (by go_simp)
  have cw1_0_1 : w1.cell? ⟨W.heap.size, 1, none⟩ = some (.int .i64 py) := cell_gr hw1 (by go_simp)
  have zw1_0 : W.heap.size < w1.heap.size := World.block_lt_of_cell? _ _ cw1_0_0
  have cw1_1_0 : w1.cell? ⟨W.heap.size + 1, 0, none⟩ = some (.bool false) := cell_gr hw1 (by go_simp)
  have fw1_1_0 : w1.frozen? ⟨W.heap.size + 1, 0, none⟩ = false := frozen_gr (v := .bool false) hw1 (by go_simp) (by go_simp)
  have zw1_1 : W.heap.size + 1 < w1.heap.size := World.block_lt_of_cell? _ _ cw1_1_0
  have gw1 : Gr W w1 := Gr.trans (by go_grown) hw1
  clear hw1
  go_wp2_with fail
  refine bodyPost_ret (v := .bool false) (by simp [results, Tryz.results116, go_sem, *]) rfl ⟨rfl, by go_grown⟩
set_option maxHeartbeats 8000000 in
set_option maxRecDepth 100000 in
theorem c_Holds {n : Nat} {X Y : Nat → Int} {v : Value} {px py : Int} (w : World) (h : Pts w v n X Y) (h1 : 1 ≤ n) (hn : n ≤ 1000) (hp : nearB px py = true) :
    Calls Tryz.prog 116 #[v, .agg #[.int .i64 px, .int .i64 py]] w fun e w' => e = .returned (.bool (onW n X Y px py (List.range n) || odW n X Y px py (List.range n))) ∧ Gr w w' := by
  obtain ⟨ad, cap, B, off, rfl, q1, q2, q3, q4⟩ := h
  obtain rfl := q3 (by omega)
  have hB : B < w.heap.size := World.block_lt_of_cell? _ _ (q4 0 (by omega)).1
  have HC := Lib.hid q4
  have hmx : Tryz.prog.follows .mixedOrders = true := by kernel_rfl
  have A := c_CheckPoint px py
  rw [hp, if_pos rfl] at A
  have H := Lib.hid A
  clear A
  clear q3 q4 hp
  refine (callsIn_wide (n := 10)).1 ?_
  refine callsIn_of_wp_marks Tryz.func116 rfl trivial ?_ rfl
  simp only [Tryz.ntmps116, List.size_toArray, List.length_cons, List.length_nil, Nat.reduceAdd, Nat.reduceSub, Array.replicate_succ, Array.replicate_zero, List.push_toArray, List.append_toArray, List.nil_append, List.cons_append]
  have n0 : 0 < n := by omega
  gi_wp2_with (first
    | (refine ⟨trivial, ?_⟩; gi_at_call 79; refine (callsIn_wide.2 (H.out _)).mono ?_; rintro e w1 ⟨rfl, g1⟩)
    | (refine ⟨trivial, ?_⟩; gi_at_call 118; refine (callsIn_wide.2 (c_Edges _ _ _ _)).mono ?_; rintro e w' ⟨rfl, rfl⟩))
  have g1s := g1.size
  simp only [World.size_alloc] at g1s
  have bP : Box2 w1 w.heap.size px py := ((Box2.new w px py).alloc _).kept (gr_grown g1) (by simp)
  have bR : Boxed w1 (w.heap.size + 1) 4 (.bool false) := by
    have h := Boxed.new (w.alloc (.cells #[.int .i64 px, .int .i64 py] 58)) 4 (.bool false)
    rw [World.size_alloc] at h
    exact h.kept (gr_grown g1) (by simp)
  have bO := (Boxed.new w1 4 (.bool false)).alloc (.cells #[.slice (some ⟨B, off, none⟩) n cap] 32)
  have bE := Boxed.new (w1.alloc (.cells #[.bool false] 4)) 32 (.slice (some ⟨B, off, none⟩) n cap)
  have bP0 := (bP.alloc (.cells #[.bool false] 4)).alloc (.cells #[.slice (some ⟨B, off, none⟩) n cap] 32)
  have bR0 := (bR.alloc (.cells #[.bool false] 4)).alloc (.cells #[.slice (some ⟨B, off, none⟩) n cap] 32)
  have gw1 : Gr w w1 := Gr.trans (by go_grown) g1
  have hG0 : Gr w ((w1.alloc (.cells #[.bool false] 4)).alloc (.cells #[.slice (some ⟨B, off, none⟩) n cap] 32)) := Gr.trans gw1 (by go_grown)
  have hsz : ((w1.alloc (.cells #[.bool false] 4)).alloc (.cells #[.slice (some ⟨B, off, none⟩) n cap] 32)).heap.size = w1.heap.size + 2 := by simp
  simp only [World.size_alloc] at bE
  obtain ⟨W0, hW0⟩ : ∃ W0, (w1.alloc (.cells #[.bool false] 4)).alloc (.cells #[.slice (some ⟨B, off, none⟩) n cap] 32) = W0 := ⟨_, rfl⟩
  rw [hW0] at bO bE bP0 bR0 hG0 hsz ⊢
  obtain ⟨q, hq⟩ : ∃ q, w1.heap.size = q := ⟨_, rfl⟩
  rw [hq] at bO bE hsz g1s ⊢
  clear hW0 bP bR gw1 g1 H hq
  refine wpIn_rangeFunc_ownH rfl (by decide) (gf := 162) (lb := #[.pointer (some ⟨q + 1, 0, none⟩)]) rfl trivial (enters_of Tryz.func162 (by kernel_rfl) rfl)
    (edges_stops (10 - 1) (by decide) (q + 1) B off n cap X Y hn h1 W0 bE.cell q1 q2 (fun k hk => ⟨cell_gr hG0 (HC.out k hk).1, cell_gr hG0 (HC.out k hk).2⟩)) KK.trans (kk_put (by omega) (by omega)) (Below.refl _ _) (fun _ => rfl)
    (fun pre W => (Boxed W q 4 (.bool (odW n X Y px py pre)) ∧ Boxed W (w.heap.size + 1) 4 (.bool false)) ∧ ((Box2 W w.heap.size px py ∧ onW n X Y px py pre = false) ∧ (q + 2 ≤ W.heap.size ∧ Below w.heap.size w W)))
    (fun c pre W => (c = .ret ∧ onW n X Y px py pre = true) ∧ (Boxed W (w.heap.size + 1) 4 (.bool true) ∧ Below w.heap.size w W))
    (OwnFrom.and (OwnFrom.and (Own.from (boxed_own _ _ _) _) (Own.from (boxed_own _ _ _) _)) (OwnFrom.and (OwnFrom.and (Own.from (box2_own _ _ _) _) (ownFrom_pure _ _)) (OwnFrom.and (fun _ P Q row hs hg hr => Nat.le_trans hs hg.size) (ownFrom_below (Nat.le_refl _) (by omega)))))
    (fun c => OwnFrom.and (ownFrom_pure _ _) (OwnFrom.and (Own.from (boxed_own _ _ _) _) (ownFrom_below (Nat.le_refl _) (by omega))))
    ⟨⟨bO, bR0⟩, ⟨bP0, rfl⟩, by omega, hG0⟩
    (fun x a' W => ∃ Ba Bb, q + 2 ≤ Ba ∧ q + 2 ≤ Bb ∧ Box2 W Ba (X x) (Y x) ∧ Box2 W Bb (X (Rg.nx1 n x)) (Y (Rg.nx1 n x)) ∧ a' = { tmps := #[.slice (some ⟨B, off, none⟩) n cap, .agg #[.int .i64 px, .int .i64 py], undef, .pointer (some ⟨w.heap.size, 0, none⟩), .pointer (some ⟨w.heap.size + 1, 0, none⟩), .pointer (some ⟨q, 0, none⟩), .pointer (some ⟨Ba, 0, none⟩), .pointer (some ⟨Bb, 0, none⟩), .agg #[.int .i64 px, .int .i64 py], .nilIface, .bool false, .slice (some ⟨B, off, none⟩) n cap, .func (.func 162) #[] #[.pointer (some ⟨q + 1, 0, none⟩)], .agg #[.int .i64 (X x), .int .i64 (Y x)], .agg #[.int .i64 (X (Rg.nx1 n x)), .int .i64 (Y (Rg.nx1 n x))], undef, undef, undef, undef, undef, undef, undef, undef, undef, undef, undef], defers := [] })
    (fun x a' _ P Q row hs hg hr => by obtain ⟨Ba, Bb, i1, i2, i3, i4, i5⟩ := hs; exact ⟨Ba, Bb, i1, i2, box2_notcells i3 hg (fun r e => (hr r e).2), box2_notcells i4 hg (fun r e => (hr r e).2), i5⟩)
    ?assign ?body ?done ?stop
  case assign =>
    rintro l pre x W K ⟨⟨bO1, bR1⟩, ⟨bP1, hon⟩, hs3, hB1⟩ hK
    gi_wp2
    have gA : Gr W ((W.alloc (.cells #[.int .i64 (X x), .int .i64 (Y x)] 58)).alloc (.cells #[.int .i64 (X (Rg.nx1 n x)), .int .i64 (Y (Rg.nx1 n x))] 58)) := by go_grown
    exact hK _ _ ((gr_keeps gA).from _) ((KK.refl _ _ _).gr gA (by omega) (by omega)) ⟨⟨(bO1.alloc _).alloc _, (bR1.alloc _).alloc _⟩, ⟨(bP1.alloc _).alloc _, hon⟩, Nat.le_trans hs3 gA.size, Gr.trans hB1 gA⟩
      ⟨W.heap.size, W.heap.size + 1, hs3, by omega, (Box2.new W (X x) (Y x)).alloc _, (by have := Box2.new (W.alloc (.cells #[.int .i64 (X x), .int .i64 (Y x)] 58)) (X (Rg.nx1 n x)) (Y (Rg.nx1 n x)); rwa [World.size_alloc] at this), rfl⟩
  case body =>
    rintro l pre x a' W hl ⟨r, hr⟩ ⟨⟨bO1, bR1⟩, ⟨bP1, hon⟩, hs3, hB1⟩ ⟨Ba, Bb, hBa, hBb, bA, bB, rfl⟩ hlt
    obtain ⟨a0, a1⟩ := bA.cells
    obtain ⟨b0, b1⟩ := bB.cells
    obtain ⟨p0, p1⟩ := bP1.cells
    have cO := bO1.cell
    have fO := bO1.frozen
    have cR := bR1.cell
    have fR := bR1.frozen
    have hsn := odW_snoc n X Y px py pre x
    have hso := onW_snoc n X Y px py pre x
    rw [hon, Bool.false_or] at hso
    have CV := c_overRay (X x) (Y x) (X (Rg.nx1 n x)) (Y (Rg.nx1 n x)) px py
    have CO := c_gOn (X x) (Y x) (X (Rg.nx1 n x)) (Y (Rg.nx1 n x)) px py
    generalize ovZ (X x) (Y x) (X (Rg.nx1 n x)) (Y (Rg.nx1 n x)) px py = ov at CV hsn
    generalize onG (X x) (Y x) (X (Rg.nx1 n x)) (Y (Rg.nx1 n x)) px py = og at CO hso
    generalize odW n X Y px py pre = sz at cO bO1 hsn
    generalize X x = xa at a0 CV CO
    generalize Y x = ya at a1 CV CO
    generalize X (Rg.nx1 n x) = xb at b0 CV CO
    generalize Y (Rg.nx1 n x) = yb at b1 CV CO
    have HCV := Lib.hid CV
    have HCO := Lib.hid CO
    have HSN := Lib.hid hsn
    have HSO := Lib.hid hso
    have HB := Lib.hid (And.intro bO1 (And.intro bR1 bP1))
    clear CV CO hsn hso hon bA bB bO1 bR1 bP1
    have hne1 : w.heap.size + 1 ≠ q := by omega
    have hne2 : q ≠ w.heap.size + 1 := by omega
    cases og
    · gi_wp2_with (refine ⟨trivial, ?_⟩; gi_at_call 158; (refine (CallsIn.inRound l (callsIn_wide.2 (HCO.out _))).mono ?_); rintro e w2 ⟨rfl, g2⟩)
      have g2s := g2.size
      have fin : ∀ w', Gr w2 w' → KeepsFrom W0.heap.size W (w'.setCell ⟨q, 0, none⟩ (.bool (sz != ov))) ∧ KK B (q + 1) W (w'.setCell ⟨q, 0, none⟩ (.bool (sz != ov))) ∧
          ((Boxed (w'.setCell ⟨q, 0, none⟩ (.bool (sz != ov))) q 4 (.bool (odW n X Y px py (pre ++ [x]))) ∧ Boxed (w'.setCell ⟨q, 0, none⟩ (.bool (sz != ov))) (w.heap.size + 1) 4 (.bool false)) ∧ ((Box2 (w'.setCell ⟨q, 0, none⟩ (.bool (sz != ov))) w.heap.size px py ∧ onW n X Y px py (pre ++ [x]) = false) ∧ (q + 2 ≤ (w'.setCell ⟨q, 0, none⟩ (.bool (sz != ov))).heap.size ∧ Below w.heap.size w (w'.setCell ⟨q, 0, none⟩ (.bool (sz != ov)))))) := fun w' g => by
        have gs := g.size
        have g3 : Gr W w' := Gr.trans g2 g
        obtain ⟨bO1, bR1, bP1⟩ := HB.out
        refine ⟨((gr_keeps g3).trans (KeepsOthers.setCell _ _ _)).from _, ((KK.refl B (q + 1) W).gr g3 (by omega) (by omega)).trans ⟨by simp, Below.heap_setCell _ _ _ _ (by simp; omega), Below.heap_setCell _ _ _ _ (by simp)⟩, ⟨⟨?_, (bR1.kept (gr_grown g3) (by simp)).other (by omega) _⟩, ⟨?_, HSO.out⟩, by simp; omega, (Gr.trans hB1 g3).setCell (p := ⟨q, 0, none⟩) (by simp; omega) _⟩⟩
        · rw [HSN.out]
          exact (bO1.kept (gr_grown g3) (by simp)).set _
        · exact (Below.heap_setCell _ _ _ _ (by simp; omega)).trans (bP1.kept (gr_grown g3) (by simp))
      have HFIN := Lib.hid fin
      have c0 := cell_gr g2 a0
      have c1 := cell_gr g2 a1
      have d0 := cell_gr g2 b0
      have d1 := cell_gr g2 b1
      have e0 := cell_gr g2 p0
      have e1 := cell_gr g2 p1
      have cO2 := cell_gr g2 cO
      have fO2 := frozen_gr g2 cO fO
      clear fin HB HSO HSN HCO g2 a0 a1 b0 b1 p0 p1 cO fO cR fR hr hs3 hB1
      gi_region_with_o (first
        | (refine ⟨trivial, ?_⟩; gi_at_call 159; (refine (CallsIn.inRound l (callsIn_wide.2 (HCV.out _))).mono ?_); rintro e w' ⟨rfl, gx⟩; (have gy : Gr w2 w' := Gr.trans (by go_grown) gx); (have dS : w'.cell? ⟨q, 0, none⟩ = some (.bool sz) := cell_gr gy cO2); (have eS : w'.frozen? ⟨q, 0, none⟩ = false := frozen_gr gy cO2 fO2); clear gx)
        | (gi_at_call 159; (refine (CallsIn.inRound l (callsIn_wide.2 (HCV.out _))).mono ?_); rintro e w' ⟨rfl, gx⟩; (have gy : Gr w2 w' := Gr.trans (by go_grown) gx); (have dS : w'.cell? ⟨q, 0, none⟩ = some (.bool sz) := cell_gr gy cO2); (have eS : w'.frozen? ⟨q, 0, none⟩ = false := frozen_gr gy cO2 fO2); clear gx))
      all_goals exact HFIN.out _ gy
    · gi_wp2_with (refine ⟨trivial, ?_⟩; gi_at_call 158; (refine (CallsIn.inRound l (callsIn_wide.2 (HCO.out _))).mono ?_); rintro e w2 ⟨rfl, g2⟩; have dR := cell_gr g2 cR; have eR := frozen_gr g2 cR fR)
      obtain ⟨bO1, bR1, bP1⟩ := HB.out
      exact ⟨((gr_keeps g2).trans (KeepsOthers.setCell _ _ _)).from _, ⟨rfl, HSO.out⟩, (bR1.kept (gr_grown g2) (by simp)).set _, (Gr.trans hB1 g2).setCell (p := ⟨w.heap.size + 1, 0, none⟩) (by simp) _⟩
  case done =>
    rintro D ys W' hD rfl ⟨⟨bO1, bR1⟩, ⟨bP1, hon⟩, hs3, hB1⟩ hK
    have cO := bO1.cell
    have cR := bR1.cell
    have fR := bR1.frozen
    gi_wp2
    rw [hon, Bool.false_or]
    have hK2 : (W'.setCell ⟨w.heap.size + 1, 0, none⟩ (.bool (odW n X Y px py (List.range n)))).heap[D]? = some (.deferred (some [])) := (KeepsOthers.setCell _ _ _).same D _ hK rfl
    have hc2 := cell_kept (bR1.set (.bool (odW n X Y px py (List.range n)))).cell (grownBy_putObj' _ D (.deferred none)) (fun r e => by cases e; exact ⟨_, hK2, rfl⟩)
    refine ⟨by simp, .inl ⟨_, _, rfl, run_takeDeferred hK2, ?_⟩⟩
    exact ⟨_, results_cell1 rfl rfl (Tryz.underlying4) rfl hc2, rfl, (hB1.setCell (p := ⟨w.heap.size + 1, 0, none⟩) (by simp) _).trans (belowK_b (w := w) (Nat.le_refl _) _ D _ _ (by omega) hK2 rfl rfl)⟩
  case stop =>
    rintro D c pre W hD ⟨k, hk, rfl⟩ ⟨⟨rfl, hon⟩, bR1, hB1⟩ hK
    have cR := bR1.cell
    gi_wp2
    have hc2 := cell_kept cR (grownBy_putObj' _ D (.deferred none)) (fun r e => by cases e; exact ⟨_, hK, rfl⟩)
    rw [onW_mono hk hon, Bool.true_or]
    refine ⟨by simp, .inl ⟨_, _, rfl, run_takeDeferred hK, ?_⟩⟩
    exact ⟨_, results_cell1 rfl rfl (Tryz.underlying4) rfl hc2, rfl, hB1.trans (belowK_b (w := w) (Nat.le_refl _) _ D _ _ (by omega) hK rfl rfl)⟩
end Go.Proofs.YtpomllpplpalkaaGreatDoor
/- ring: Left, Has, Twice; what the document fixes -/
namespace Go.Proofs.YtpomllpplpalkaaGreatDoor
set_option linter.unusedVariables false
open Go.ChangeShapes Go.WideShapes Go.ChangeAt Go.RowKit Go.Shelf

theorem c_hs {n : Nat} {X Y : Nat → Int} {v : Value} (W : World) (h : Pts W v n X Y) (h0 : (Rg.ringC n X Y).1 = 0) (px py : Int) : ∀ w, Gr W w → Calls Tryz.prog 116 #[v, .agg #[.int .i64 px, .int .i64 py]] w fun e w' => e = .returned (.bool (nearB px py && Rg.hasN n X Y px py)) ∧ Gr w w' := fun w g => by
  obtain ⟨h1, h2, _, _⟩ := Rg.ringC_ok h0
  by_cases hp : nearB px py = true
  · have C := c_Holds w (pts_gr h g) (by omega) (by omega) hp
    rw [onW_all, odW_all h2 hp n (Nat.le_refl _)] at C
    rw [hp]
    exact C
  · have hp2 : nearB px py = false := by simpa using hp
    obtain ⟨ad, cap, B, off, rfl, _⟩ := h
    rw [hp2]
    exact c_Holds_no _ _ _ px py hp2 w
end Go.Proofs.YtpomllpplpalkaaGreatDoor
namespace Go.Proofs.YtpomllpplpalkaaGreatDoor
set_option linter.unusedVariables false
open Go.ChangeShapes Go.WideShapes Go.ChangeAt Go.RowKit

end Go.Proofs.YtpomllpplpalkaaGreatDoor
