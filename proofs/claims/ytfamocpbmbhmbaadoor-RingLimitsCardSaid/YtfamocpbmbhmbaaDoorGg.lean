/- ring: the edges of a ring, one behind the other; signed -/
import Derived.Test.YtfamocpbmbhmbaaDoorGc
import Derived.RangeFuncNested
import Derived.RangeFuncBound
import Derived.RangeFuncCalls
import Derived.RangeFuncLeaves
import Derived.Shelf.Abstract
import Derived.Shelf.RegionOpen
import Derived.OwnWalkIn
import Derived.TacticsInMore
import Derived.LoopNIn
import Derived.LoopIn
namespace Go.Proofs.YtfamocpbmbhmbaaDoor
set_option linter.unusedVariables false
open Go.ChangeShapes Go.WideShapes Go.ChangeAt Go.RowKit Go.Shelf

attribute [local go_sem] Oper.semAt_some
/-- The ends of the k-th edge. -/
abbrev edgeV (n : Nat) (X Y : Nat → Int) (k : Nat) : Array Value := #[.agg #[.int .i64 (X k), .int .i64 (Y k)], .agg #[.int .i64 (X (Rg.nx1 n k)), .int .i64 (Y (Rg.nx1 n k))]]
theorem gr_grown {a b : World} (g : Gr a b) : a.grownBy b none := ⟨g.os, g.tape, g.output, g.size, fun k hk _ => g.block k hk⟩
/-- Two blocks stay as they are. -/
def KK (B C : Nat) (a b : World) : Prop := a.heap.size ≤ b.heap.size ∧ b.heap[B]? = a.heap[B]? ∧ b.heap[C]? = a.heap[C]?
theorem KK.refl (B C : Nat) (a : World) : KK B C a a := ⟨Nat.le_refl _, rfl, rfl⟩
theorem KK.trans {B C : Nat} {a b c : World} (h : KK B C a b) (k : KK B C b c) : KK B C a c := ⟨Nat.le_trans h.1 k.1, k.2.1.trans h.2.1, k.2.2.trans h.2.2⟩
theorem KK.gr {B C : Nat} {a b c : World} (h : KK B C a b) (g : Gr b c) (h1 : B < b.heap.size) (h2 : C < b.heap.size) : KK B C a c := h.trans ⟨g.size, g.block B h1, g.block C h2⟩
theorem cell_heap {a b : World} {B o : Nat} (h : b.heap[B]? = a.heap[B]?) : b.cell? ⟨B, o, none⟩ = a.cell? ⟨B, o, none⟩ := by
  simp only [World.cell?, h]
theorem KK.cell1 {B C o : Nat} {a b : World} {u : Value} (h : KK B C a b) (hc : a.cell? ⟨B, o, none⟩ = some u) : b.cell? ⟨B, o, none⟩ = some u := (cell_heap h.2.1).trans hc
theorem KK.cell2 {B C o : Nat} {a b : World} {u : Value} (h : KK B C a b) (hc : a.cell? ⟨C, o, none⟩ = some u) : b.cell? ⟨C, o, none⟩ = some u := (cell_heap h.2.2).trans hc
theorem kk_put {B C N : Nat} (h1 : B < N) (h2 : C < N) (W : World) (l : Nat) (o o' : Obj) (hl : N ≤ l) (_ : W.heap[l]? = some o) (_ : o.isCells = false) (_ : o.isWalk = false) : KK B C W (W.putObj l o') := by
  refine ⟨by simp, ?_, ?_⟩
  · exact World.putObj_heap_other (by omega)
  · exact World.putObj_heap_other (by omega)
set_option maxHeartbeats 8000000 in
set_option maxRecDepth 100000 in
theorem edges1_in (m : Nat) (hm : 1 ≤ m) (l Bs B off n cap : Nat) (X Y : Nat → Int) (hn : n ≤ 1000) (hn3 : 1 ≤ n) (J Jx : List Nat → World → Prop) (W : World) (hJa : AbidesFrom W.heap.size J)
    (hY : ∀ pre x W1, J pre W1 → pre.length < n → YieldAt Fence.wide (m - 1) Tryd.prog l (edgeV n X Y x) W1 fun e W' =>
      (e = .returned (.bool true) ∧ J (pre ++ [x]) W' ∧ KK B Bs W1 W') ∨ (e = .returned (.bool false) ∧ Jx (pre ++ [x]) W'))
    (hBs : W.cell? ⟨Bs, 0, none⟩ = some (.slice (some ⟨B, off, none⟩) n cap)) (hcap : n ≤ cap) (hcap2 : cap ≤ 9223372036854775807) (hC : ∀ k, k < n → W.cell? ⟨B, off + k * 2, none⟩ = some (.int .i64 (X k)) ∧ W.cell? ⟨B, off + k * 2 + 1, none⟩ = some (.int .i64 (Y k))) (h0 : J [] W) :
    CallsIn Fence.wide m Tryd.prog 78 #[.func (.yield l) #[] #[], .pointer (some ⟨Bs, 0, none⟩)] W fun e W' => (∃ v, e = .returned v) ∧
      ((∃ ys, ys = List.range n ∧ J ys W') ∨ (∃ pre, (∃ k, k ≤ n ∧ pre = List.range k) ∧ Jx pre W')) := by
  have HY := Lib.hid hY
  have HC := Lib.hid hC
  have HJ := Lib.hid hJa
  clear hY hJa hC
  refine callsIn_of_wp Tryd.func78 rfl trivial ?_ rfl
  simp only [Tryd.ntmps78, List.size_toArray, List.length_cons, List.length_nil, Nat.reduceAdd, Nat.reduceSub, Array.replicate_succ, Array.replicate_zero, List.push_toArray, List.append_toArray, List.nil_append, List.cons_append]
  gi_wp2
  gi_loopw [7] (fun i wr => ∃ k : Nat, k ≤ n ∧ i = .int .i64 k ∧ J (List.range k) wr ∧ KK B Bs W wr)
    (fun i _ => n - (intOf i).toNat)
  case atStart => exact ⟨0, Nat.zero_le _, rfl, h0, KK.refl _ _ _⟩
  case round =>
    obtain ⟨k, hk, rfl, hJs, hnx⟩ := hrel
    by_cases hlt : k < n
    · have ti : decide ((k : Int) < (n : Int)) = true := decide_eq_true (by omega)
      have ti3 : (k : Int) < (n : Int) := by omega
      have hkb : (k : Int) ≤ 1000 := by omega
      have hc0 : wr.cell? ⟨Bs, 0, none⟩ = some (.slice (some ⟨B, off, none⟩) n cap) := hnx.cell2 hBs
      obtain ⟨k0, k1⟩ := HC.out k hlt
      have p0 := hnx.cell1 k0
      have p1 := hnx.cell1 k1
      have hBs1 : Bs < wr.heap.size := World.block_lt_of_cell? _ _ hc0
      have hB1 : B < wr.heap.size := World.block_lt_of_cell? _ _ p0
      have NX : ∀ w, KK B Bs W w → Calls Tryd.prog 59 #[.slice (some ⟨B, off, none⟩) n cap, .int .i64 k] w fun e w' => e = .returned (.agg #[.int .i64 (X (Rg.nx1 n k)), .int .i64 (Y (Rg.nx1 n k))]) ∧ Gr w w' := fun w g =>
        c_next w ⟨_, cap, B, off, rfl, hcap, hcap2, fun _ => rfl, fun j hj => ⟨g.cell1 (HC.out j hj).1, g.cell1 (HC.out j hj).2⟩⟩ k hlt (by omega)
      have HNX := Lib.hid NX
      have HYk := Lib.hid (fun W1 (h : J (List.range k) W1) => HY.out (List.range k) k W1 h (by rw [List.length_range]; exact hlt))
      unfold edgeV at HYk
      generalize X k = xk at p0 HYk
      generalize Y k = yk at p1 HYk
      generalize X (Rg.nx1 n k) = xn at HNX HYk
      generalize Y (Rg.nx1 n k) = yn at HNX HYk
      clear NX k0 k1
      have HJs := Lib.hid hJs
      have hmx : Tryd.prog.follows .mixedOrders = true := by kernel_rfl
      gi_wp2
      gi_region_with_o (first
        | (refine ⟨trivial, ?_⟩; gi_at_call 59; (refine (callsIn_wide.2 (HNX.out _ (hnx.gr (by go_grown) hB1 hBs1))).mono ?_); rintro e w' ⟨rfl, gx⟩; (have gy : Gr wr w' := Gr.trans (by go_grown) gx); (have d0 : w'.cell? ⟨wr.heap.size, 0, none⟩ = some (.int .i64 xk) := cell_gr gx (by go_simp)); (have d1 : w'.cell? ⟨wr.heap.size, 1, none⟩ = some (.int .i64 yk) := cell_gr gx (by go_simp)); (obtain ⟨fn, tmps, assign, body, hy, hR⟩ := HYk.out w' (HJ.out _ _ _ none HJs.out (gr_grown gy) (fun r e => by cases e))); (have hR2 := Lib.hid (hR.mono (R' := fun e W' => ∃ b : Bool, e = .returned (.bool b) ∧ ((b = true ∧ J (List.range k ++ [k]) W' ∧ KK B Bs w' W') ∨ (b = false ∧ Jx (List.range k ++ [k]) W'))) (fun e W' h => by rcases h with ⟨rfl, h⟩ | ⟨rfl, h⟩; exact ⟨true, rfl, Or.inl ⟨rfl, h⟩⟩; exact ⟨false, rfl, Or.inr ⟨rfl, h⟩⟩))); clear gx)
        | (refine hR2.out.mono ?_; rintro e W3 ⟨b, rfl, h3⟩))
      all_goals
        rcases h3 with ⟨rfl, hJ3, hk3⟩ | ⟨rfl, hJx3⟩
        · gi_wp2
          go_roundw
          case rel => exact ⟨k + 1, by omega, by go_num, by rw [List.range_succ]; exact hJ3, (hnx.gr gy hB1 hBs1).trans hk3⟩
          case measure => simp [intOf]; omega
        · gi_wp2
          refine bodyPost_ret (results_none rfl _ _ _) rfl ?_
          exact ⟨⟨_, rfl⟩, .inr ⟨_, ⟨k + 1, by omega, List.range_succ.symm⟩, hJx3⟩⟩
    · obtain rfl : n = k := by omega
      have ti : decide ((n : Int) < (n : Int)) = false := decide_eq_false (by omega)
      gi_wp2
      go_end0
      exact ⟨⟨_, rfl⟩, .inl ⟨_, rfl, hJs⟩⟩
/-- All edges of a ring, to whatever body keeps the points and the box that the iterator has. -/
theorem edges_stops (m : Nat) (hm : 1 ≤ m) (Bs B off n cap : Nat) (X Y : Nat → Int) (hn : n ≤ 1000) (hn3 : 1 ≤ n) (w : World) (hBs : w.cell? ⟨Bs, 0, none⟩ = some (.slice (some ⟨B, off, none⟩) n cap)) (hcap : n ≤ cap) (hcap2 : cap ≤ 9223372036854775807)
    (hC : ∀ k, k < n → w.cell? ⟨B, off + k * 2, none⟩ = some (.int .i64 (X k)) ∧ w.cell? ⟨B, off + k * 2 + 1, none⟩ = some (.int .i64 (Y k))) :
    SeqStopsK Fence.wide m Tryd.prog 78 #[.pointer (some ⟨Bs, 0, none⟩)] (edgeV n X Y) (KK B Bs) (fun ys => ys = List.range n) (fun pre => ∃ k, k ≤ n ∧ pre = List.range k) n w := fun l J Jx W hW hJ _ hY h0 =>
  edges1_in m hm l Bs B off n cap X Y hn hn3 J Jx W hJ hY (cell_gr hW hBs) hcap hcap2 (fun k hk => ⟨cell_gr hW (hC k hk).1, cell_gr hW (hC k hk).2⟩) h0
set_option maxHeartbeats 1000000 in
set_option maxRecDepth 100000 in
theorem c_Edges (ad : Option Addr) (n cap : Nat) (W : World) : Calls Tryd.prog 61 #[.slice ad n cap] W fun e w' => e = .returned (.func (.func 78) #[] #[.pointer (some ⟨W.heap.size, 0, none⟩)]) ∧ w' = W.alloc (.cells #[.slice ad n cap] 22) := by
  go_enter Tryd.func61, Tryd.ntmps61
  go_wp2_with fail
  go_ret
  exact ⟨rfl, rfl⟩
end Go.Proofs.YtfamocpbmbhmbaaDoor
namespace Go.Proofs.YtfamocpbmbhmbaaDoor
set_option linter.unusedVariables false
open Go.ChangeShapes Go.WideShapes Go.ChangeAt Go.RowKit Go.Shelf

attribute [local go_sem] Oper.semAt_some
/-- A block of two numbers. -/
def Box2 (W : World) (B : Nat) (x y : Int) : Prop := W.heap[B]? = some (.cells #[.int .i64 x, .int .i64 y] 24 (0, 0))
theorem Box2.lt {W : World} {B : Nat} {x y : Int} (h : Box2 W B x y) : B < W.heap.size := (Array.getElem?_eq_some_iff.1 h).1
theorem Box2.cells {W : World} {B : Nat} {x y : Int} (h : Box2 W B x y) : W.cell? ⟨B, 0, none⟩ = some (.int .i64 x) ∧ W.cell? ⟨B, 1, none⟩ = some (.int .i64 y) := by
  constructor <;> simp [World.cell?, show W.heap[B]? = _ from h]
theorem Box2.kept {W W' : World} {row : Option Nat} {B : Nat} {x y : Int} (h : Box2 W B x y) (hg : W.grownBy W' row) (hne : some B ≠ row) : Box2 W' B x y := (hg.block B h.lt hne).trans h
theorem Box2.new (W : World) (x y : Int) : Box2 (W.alloc (.cells #[.int .i64 x, .int .i64 y] 24)) W.heap.size x y := World.alloc_heap_new W _
theorem Box2.alloc {W : World} {B : Nat} {x y : Int} (h : Box2 W B x y) (o : Obj) : Box2 (W.alloc o) B x y := h.kept (World.grownBy_alloc W o none) (by simp)
theorem box2_notcells {W W' : World} {row : Option Nat} {B : Nat} {x y : Int} (h : Box2 W B x y) (hg : W.grownBy W' row) (hr : ∀ r, row = some r → ∃ o : Obj, W.heap[r]? = some o ∧ o.isCells = false) : Box2 W' B x y := by
  refine h.kept hg fun e => ?_
  obtain ⟨o, h1, h2⟩ := hr B e.symm
  rw [show W.heap[B]? = _ from h] at h1
  cases h1
  cases h2
theorem gr_keeps {a b : World} (g : Gr a b) : KeepsOthers a b := ⟨g.size, fun k o hk ho => (g.block k (Array.getElem?_eq_some_iff.1 hk).1).trans hk⟩
/-- What has been added up. -/
def csW (n : Nat) (X Y : Nat → Int) (pre : List Nat) : Int := pre.foldl (fun s k => IntKind.i64.wrap (s + crossZ (X 0) (Y 0) (X k) (Y k) (X (Rg.nx1 n k)) (Y (Rg.nx1 n k)))) 0
theorem csW_snoc (n : Nat) (X Y : Nat → Int) (pre : List Nat) (k : Nat) : csW n X Y (pre ++ [k]) = IntKind.i64.wrap (csW n X Y pre + crossZ (X 0) (Y 0) (X k) (Y k) (X (Rg.nx1 n k)) (Y (Rg.nx1 n k))) := by
  unfold csW; rw [List.foldl_append]; rfl
theorem csW_all {n : Nat} {X Y : Nat → Int} (hnr : ∀ k, k < n → nearB (X k) (Y k) = true) (h1 : 1 ≤ n) : ∀ k, k ≤ n → csW n X Y (List.range k) = IntKind.i64.wrap (Rg.crS n X Y k) := by
  intro k
  induction k with
  | zero => intro _; rfl
  | succ k ih =>
    intro hk
    have hx : Rg.nx1 n k < n := by unfold Rg.nx1; split <;> omega
    rw [List.range_succ, csW_snoc, ih (by omega)]
    have e : crossZ (X 0) (Y 0) (X k) (Y k) (X (Rg.nx1 n k)) (Y (Rg.nx1 n k)) = cr (X 0) (Y 0) (X k) (Y k) (X (Rg.nx1 n k)) (Y (Rg.nx1 n k)) := by
      unfold crossZ cr; rw [hnr 0 (by omega), hnr k (by omega), hnr _ hx]; rfl
    rw [e]
    simp only [Rg.crS]
    rw [IntKind.wrap_i64, IntKind.wrap_i64, IntKind.wrap_i64]
    omega
set_option maxHeartbeats 8000000 in
set_option maxRecDepth 100000 in
theorem c_signed {n : Nat} {X Y : Nat → Int} {v : Value} (w : World) (h : Pts w v n X Y) (h1 : 1 ≤ n) (hn : n ≤ 1000) :
    Calls Tryd.prog 39 #[v] w fun e w' => e = .returned (.int .i64 (csW n X Y (List.range n))) ∧ Gr w w' := by
  obtain ⟨ad, cap, B, off, rfl, q1, q2, q3, q4⟩ := h
  obtain rfl := q3 (by omega)
  have hB : B < w.heap.size := World.block_lt_of_cell? _ _ (q4 0 (by omega)).1
  have HC := Lib.hid q4
  obtain ⟨z0, z1⟩ := q4 0 (by omega)
  rw [Nat.zero_mul, Nat.add_zero] at z0 z1
  have hmx : Tryd.prog.follows .mixedOrders = true := by kernel_rfl
  have n0 : 0 < n := by omega
  have n0i : (0 : Int) < (n : Int) := by omega
  clear q3 q4
  refine (callsIn_wide (n := 10)).1 ?_
  refine callsIn_of_wp_marks Tryd.func39 rfl trivial ?_ rfl
  simp only [Tryd.ntmps39, List.size_toArray, List.length_cons, List.length_nil, Nat.reduceAdd, Nat.reduceSub, Array.replicate_succ, Array.replicate_zero, List.push_toArray, List.append_toArray, List.nil_append, List.cons_append]
  gi_wp2_with (refine ⟨trivial, ?_⟩; gi_at_call 61; refine (callsIn_wide.2 (c_Edges _ _ _ _)).mono ?_; rintro e w' ⟨rfl, rfl⟩)
  have hsz : (((w.alloc (.cells #[.slice (some ⟨B, off, none⟩) n cap] 22)).alloc (.cells #[.int .i64 0] 3)).alloc (.cells #[.slice (some ⟨B, off, none⟩) n cap] 22)).heap.size = w.heap.size + 3 := by simp
  have bL := ((Boxed.new w 22 (.slice (some ⟨B, off, none⟩) n cap)).alloc (.cells #[.int .i64 0] 3)).alloc (.cells #[.slice (some ⟨B, off, none⟩) n cap] 22)
  have bS := (Boxed.new (w.alloc (.cells #[.slice (some ⟨B, off, none⟩) n cap] 22)) 3 (.int .i64 0)).alloc (.cells #[.slice (some ⟨B, off, none⟩) n cap] 22)
  have bE := Boxed.new ((w.alloc (.cells #[.slice (some ⟨B, off, none⟩) n cap] 22)).alloc (.cells #[.int .i64 0] 3)) 22 (.slice (some ⟨B, off, none⟩) n cap)
  have hG0 : Gr w (((w.alloc (.cells #[.slice (some ⟨B, off, none⟩) n cap] 22)).alloc (.cells #[.int .i64 0] 3)).alloc (.cells #[.slice (some ⟨B, off, none⟩) n cap] 22)) := by go_grown
  simp only [World.size_alloc] at bS bE
  obtain ⟨W0, hW0⟩ : ∃ W0, ((w.alloc (.cells #[.slice (some ⟨B, off, none⟩) n cap] 22)).alloc (.cells #[.int .i64 0] 3)).alloc (.cells #[.slice (some ⟨B, off, none⟩) n cap] 22) = W0 := ⟨_, rfl⟩
  rw [hW0] at bL bS bE hG0 hsz ⊢
  clear hW0
  refine wpIn_rangeFunc_ownH rfl (by decide) (gf := 78) (lb := #[.pointer (some ⟨w.heap.size + 1 + 1, 0, none⟩)]) rfl trivial (enters_of Tryd.func78 (by kernel_rfl) rfl)
    (edges_stops (10 - 1) (by decide) (w.heap.size + 1 + 1) B off n cap X Y hn h1 W0 bE.cell q1 q2 (fun k hk => ⟨cell_gr hG0 (HC.out k hk).1, cell_gr hG0 (HC.out k hk).2⟩)) KK.trans (kk_put (by omega) (by omega)) (Below.refl _ _) (fun _ => rfl)
    (fun pre W => (Boxed W (w.heap.size + 1) 3 (.int .i64 (csW n X Y pre)) ∧ Boxed W w.heap.size 22 (.slice (some ⟨B, off, none⟩) n cap)) ∧ (w.heap.size + 3 ≤ W.heap.size ∧ Below w.heap.size w W))
    (fun _ _ _ => False)
    (OwnFrom.and (OwnFrom.and (Own.from (boxed_own _ _ _) _) (Own.from (boxed_own _ _ _) _)) (OwnFrom.and (fun _ P Q row hs hg hr => Nat.le_trans hs hg.size) (ownFrom_below (Nat.le_refl _) (by omega))))
    (fun _ _ _ _ _ hs _ _ => hs)
    ⟨⟨bS, bL⟩, by omega, hG0⟩
    (fun x a' W => ∃ Ba Bb, w.heap.size + 3 ≤ Ba ∧ w.heap.size + 3 ≤ Bb ∧ Box2 W Ba (X x) (Y x) ∧ Box2 W Bb (X (Rg.nx1 n x)) (Y (Rg.nx1 n x)) ∧ a' = { tmps := #[.slice (some ⟨B, off, none⟩) n cap, .pointer (some ⟨w.heap.size, 0, none⟩), .int .i64 0, .pointer (some ⟨w.heap.size + 1, 0, none⟩), .pointer (some ⟨Ba, 0, none⟩), .pointer (some ⟨Bb, 0, none⟩), .slice (some ⟨B, off, none⟩) n cap, .func (.func 78) #[] #[.pointer (some ⟨w.heap.size + 1 + 1, 0, none⟩)], .agg #[.int .i64 (X x), .int .i64 (Y x)], .agg #[.int .i64 (X (Rg.nx1 n x)), .int .i64 (Y (Rg.nx1 n x))], undef, undef, undef, undef, undef, undef, undef, undef, undef], defers := [] })
    (fun x a' _ P Q row hs hg hr => by obtain ⟨Ba, Bb, i1, i2, i3, i4, i5⟩ := hs; exact ⟨Ba, Bb, i1, i2, box2_notcells i3 hg (fun r e => (hr r e).2), box2_notcells i4 hg (fun r e => (hr r e).2), i5⟩)
    ?assign ?body ?done ?stop
  case assign =>
    rintro l pre x W K ⟨⟨bS1, bL1⟩, hs3, hB1⟩ hK
    gi_wp2
    have gA : Gr W ((W.alloc (.cells #[.int .i64 (X x), .int .i64 (Y x)] 24)).alloc (.cells #[.int .i64 (X (Rg.nx1 n x)), .int .i64 (Y (Rg.nx1 n x))] 24)) := by go_grown
    exact hK _ _ ((gr_keeps gA).from _) ((KK.refl _ _ _).gr gA (by omega) (by omega)) ⟨⟨(bS1.alloc _).alloc _, (bL1.alloc _).alloc _⟩, Nat.le_trans hs3 gA.size, Gr.trans hB1 gA⟩
      ⟨W.heap.size, W.heap.size + 1, hs3, by omega, (Box2.new W (X x) (Y x)).alloc _, (by have := Box2.new (W.alloc (.cells #[.int .i64 (X x), .int .i64 (Y x)] 24)) (X (Rg.nx1 n x)) (Y (Rg.nx1 n x)); rwa [World.size_alloc] at this), rfl⟩
  case body =>
    rintro l pre x a' W hl ⟨r, hr⟩ ⟨⟨bS1, bL1⟩, hs3, hB1⟩ ⟨Ba, Bb, hBa, hBb, bA, bB, rfl⟩ hlt
    obtain ⟨a0, a1⟩ := bA.cells
    obtain ⟨b0, b1⟩ := bB.cells
    have cS := bS1.cell
    have fS := bS1.frozen
    have cL := bL1.cell
    have y0 := cell_gr hB1 z0
    have y1 := cell_gr hB1 z1
    have hsn := csW_snoc n X Y pre x
    have CR := c_Cross (X 0) (Y 0) (X x) (Y x) (X (Rg.nx1 n x)) (Y (Rg.nx1 n x))
    generalize crossZ (X 0) (Y 0) (X x) (Y x) (X (Rg.nx1 n x)) (Y (Rg.nx1 n x)) = cz at CR hsn
    generalize csW n X Y pre = sz at cS bS1 hsn
    generalize X x = xa at a0 CR
    generalize Y x = ya at a1 CR
    generalize X (Rg.nx1 n x) = xb at b0 CR
    generalize Y (Rg.nx1 n x) = yb at b1 CR
    generalize X 0 = x0 at y0 CR
    generalize Y 0 = y0' at y1 CR
    have HCR := Lib.hid CR
    have HSN := Lib.hid hsn
    have fin : ∀ w', Gr W w' → KeepsFrom W0.heap.size W (w'.setCell ⟨w.heap.size + 1, 0, none⟩ (.int .i64 (IntKind.i64.wrap (sz + cz)))) ∧ KK B (w.heap.size + 1 + 1) W (w'.setCell ⟨w.heap.size + 1, 0, none⟩ (.int .i64 (IntKind.i64.wrap (sz + cz)))) ∧
        ((Boxed (w'.setCell ⟨w.heap.size + 1, 0, none⟩ (.int .i64 (IntKind.i64.wrap (sz + cz)))) (w.heap.size + 1) 3 (.int .i64 (csW n X Y (pre ++ [x]))) ∧ Boxed (w'.setCell ⟨w.heap.size + 1, 0, none⟩ (.int .i64 (IntKind.i64.wrap (sz + cz)))) w.heap.size 22 (.slice (some ⟨B, off, none⟩) n cap)) ∧ (w.heap.size + 3 ≤ (w'.setCell ⟨w.heap.size + 1, 0, none⟩ (.int .i64 (IntKind.i64.wrap (sz + cz)))).heap.size ∧ Below w.heap.size w (w'.setCell ⟨w.heap.size + 1, 0, none⟩ (.int .i64 (IntKind.i64.wrap (sz + cz)))))) := fun w' g => by
      have gs := g.size
      refine ⟨((gr_keeps g).trans (KeepsOthers.setCell _ _ _)).from _, ((KK.refl B (w.heap.size + 1 + 1) W).gr g (by omega) (by omega)).trans ⟨by simp, Below.heap_setCell _ _ _ _ (by simp; omega), Below.heap_setCell _ _ _ _ (by simp)⟩, ⟨⟨?_, (bL1.kept (gr_grown g) (by simp)).other (by omega) _⟩, by simp; omega, (Gr.trans hB1 g).setCell (p := ⟨w.heap.size + 1, 0, none⟩) (by simp) _⟩⟩
      rw [hsn]
      exact (bS1.kept (gr_grown g) (by simp)).set _
    have HFIN := Lib.hid fin
    clear CR hsn bA bB bS1 bL1 fin
    gi_wp2
    gi_region_with_o (first
      | (refine ⟨trivial, ?_⟩; gi_at_call 62; (refine (CallsIn.inRound l (callsIn_wide.2 (HCR.out _))).mono ?_); rintro e w' ⟨rfl, gx⟩; (have gy : Gr W w' := Gr.trans (by go_grown) gx); (have dS : w'.cell? ⟨w.heap.size + 1, 0, none⟩ = some (.int .i64 sz) := cell_gr gy cS); (have eS : w'.frozen? ⟨w.heap.size + 1, 0, none⟩ = false := frozen_gr gy cS fS); clear gx)
      | (gi_at_call 62; (refine (CallsIn.inRound l (callsIn_wide.2 (HCR.out _))).mono ?_); rintro e w' ⟨rfl, gx⟩; (have gy : Gr W w' := Gr.trans (by go_grown) gx); (have dS : w'.cell? ⟨w.heap.size + 1, 0, none⟩ = some (.int .i64 sz) := cell_gr gy cS); (have eS : w'.frozen? ⟨w.heap.size + 1, 0, none⟩ = false := frozen_gr gy cS fS); clear gx))
    all_goals exact HFIN.out _ gy
  case done =>
    rintro D ys W' hD rfl ⟨⟨bS1, bL1⟩, hs3, hB1⟩ hK
    have cS := bS1.cell
    gi_wp2
    refine ⟨by simp, .inl ⟨_, _, rfl, run_takeDeferred hK, ?_⟩⟩
    exact ⟨_, results_tmp rfl _ _ _, rfl, hB1.trans (belowK_b (w := w) (Nat.le_refl _) W' D _ _ (by omega) hK rfl rfl)⟩
  case stop =>
    rintro D c pre W _ _ h _
    exact h.elim
end Go.Proofs.YtfamocpbmbhmbaaDoor
