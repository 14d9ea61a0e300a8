/- points in order: what is put in order, by the first number, then by the second -/
import Derived.Test.YtogflfepkddbhaaDoorYh
import Derived.Test.YtogflfepkddbhaaDoorShelf
import Derived.Test.YtogflfepkddbhaaDoorShh
import Derived.StillTailTactics
namespace Go.Proofs.YtogflfepkddbhaaDoor
set_option linter.unusedVariables false
open Go.ChangeShapes Go.WideShapes Go.ChangeAt Go.RowKit Go.Sort

/-- How two points stand: by the first number, then by the second. -/
def orP (x y : Int) : Int := if x ≠ 0 then x else y
def cfP (a b : Hp.Pt) : Int := orP (Lib.compareInt a.1 b.1) (Lib.compareInt a.2 b.2)
theorem ci_lt {x y : Int} (h : x < y) : Lib.compareInt x y = -1 := by unfold Lib.compareInt; rw [if_pos h]
theorem ci_eq (x : Int) : Lib.compareInt x x = 0 := by unfold Lib.compareInt; rw [if_neg (by omega), if_neg (by omega)]
theorem ci_gt {x y : Int} (h : y < x) : Lib.compareInt x y = 1 := by unfold Lib.compareInt; rw [if_neg (by omega), if_pos h]
theorem ltP (a b : Hp.Pt) : ltOf cfP a b = decide (a.1 < b.1 ∨ (a.1 = b.1 ∧ a.2 < b.2)) := by
  unfold ltOf
  rw [decide_eq_decide]
  rcases Int.lt_trichotomy a.1 b.1 with h | h | h
  · have e : cfP a b = -1 := by unfold cfP orP; rw [ci_lt h]; rfl
    rw [e]; constructor <;> intro _ <;> omega
  · rcases Int.lt_trichotomy a.2 b.2 with k | k | k
    · have e : cfP a b = -1 := by unfold cfP orP; rw [h, ci_eq, ci_lt k]; rfl
      rw [e]; constructor <;> intro _ <;> omega
    · have e : cfP a b = 0 := by unfold cfP orP; rw [h, k, ci_eq, ci_eq]; rfl
      rw [e]; constructor <;> intro _ <;> omega
    · have e : cfP a b = 1 := by unfold cfP orP; rw [h, ci_eq, ci_gt k]; rfl
      rw [e]; constructor <;> intro _ <;> omega
  · have e : cfP a b = 1 := by unfold cfP orP; rw [ci_gt h]; rfl
    rw [e]; constructor <;> intro _ <;> omega
theorem swoP : Go.Sort.SWO (ltOf cfP) where
  irrefl x := by rw [ltP]; simp
  trans x y z h1 h2 := by
    rw [ltP, decide_eq_true_eq] at *
    omega
  ntrans x y z h1 h2 := by
    rw [ltP, decide_eq_false_iff_not] at *
    omega
set_option maxHeartbeats 1000000 in
set_option maxRecDepth 100000 in
theorem c_Or2 (x y : Int) (B : Nat) (W : World) (h0 : W.cell? ⟨B, 0, none⟩ = some (.int .i64 x)) (h1 : W.cell? ⟨B, 1, none⟩ = some (.int .i64 y)) :
    Calls Tryd.prog 28 #[.slice (some ⟨B, 0, none⟩) 2 2] W fun e w' => e = .returned (.int .i64 (orP x y)) ∧ w' = W := by
  by_cases hx : x = 0
  · subst hx
    have e : orP 0 y = y := by unfold orP; rw [if_neg (by decide)]
    rw [e]
    by_cases hy : y = 0
    · subst hy
      go_enter Tryd.func28, Tryd.ntmps28
      go_wp2_with fail
      refine wp_loop_rounds 3 ?_
      rw [rounds_succ]
      go_wp2_with fail
      rw [rounds_succ]
      go_wp2_with fail
      rw [rounds_succ]
      go_wp2_with fail
      go_ret
      exact ⟨rfl, rfl⟩
    · have t1 : (y == 0) = false := by simpa using hy
      go_enter Tryd.func28, Tryd.ntmps28
      go_wp2_with fail
      refine wp_loop_rounds 2 ?_
      rw [rounds_succ]
      go_wp2_with fail
      rw [rounds_succ]
      go_wp2_with fail
      go_ret
      exact ⟨rfl, rfl⟩
  · have t1 : (x == 0) = false := by simpa using hx
    have e : orP x y = x := by unfold orP; rw [if_pos hx]
    rw [e]
    go_enter Tryd.func28, Tryd.ntmps28
    go_wp2_with fail
    refine wp_loop_rounds 1 ?_
    rw [rounds_succ]
    go_wp2_with fail
    go_ret
    exact ⟨rfl, rfl⟩
theorem three_new (W : World) (A B C : Obj) : (((W.alloc A).alloc B).drew).alloc C = Sort.grow (W.drewN 1) #[A, B, C] := by
  have e : ((W.alloc A).alloc B).drew = Sort.grow (W.drewN 1) #[A, B] := by
    rw [Go.Sort.alloc_eq_grow, Go.Sort.alloc_eq_grow, Go.Sort.grow_grow]; rfl
  rw [e, Go.Sort.alloc_eq_grow, Go.Sort.grow_grow]; rfl
set_option maxHeartbeats 2000000 in
set_option maxRecDepth 100000 in
theorem c_cmpP (a b : Hp.Pt) (W : World) :
    Calls Tryd.prog 27 #[.agg (encP a).toArray, .agg (encP b).toArray] W fun e w' => e = .returned (.int .i64 (cfP a b)) ∧ ∃ q os, w' = Sort.grow (W.drewN q) os := by
  unfold cfP
  have C1 := Tryd.cmp_Compare_int a.1 b.1
  have C2 := Tryd.cmp_Compare_int a.2 b.2
  show Calls Tryd.prog 27 #[.agg #[.int .i64 a.1, .int .i64 a.2], .agg #[.int .i64 b.1, .int .i64 b.2]] W _
  generalize Lib.compareInt a.1 b.1 = z1 at C1 ⊢
  generalize Lib.compareInt a.2 b.2 = z2 at C2 ⊢
  generalize a.1 = x at C1 ⊢
  generalize a.2 = y at C2 ⊢
  generalize b.1 = p at C1 ⊢
  generalize b.2 = q at C2 ⊢
  have H1 := Lib.hid C1
  have H2 := Lib.hid C2
  clear C1 C2
  go_enter Tryd.func27, Tryd.ntmps27
  go_wp2_with fail
  refine wp_region_still_tail 10 (by kernel_rfl) (by kernel_rfl) ?_
  simp only [List.take_succ_cons, List.take_zero, List.drop_succ_cons, List.drop_zero]
  obtain ⟨w2, hw2⟩ : ∃ w2, w2 = ((W.alloc (.cells #[.int .i64 x, .int .i64 y] 30)).alloc (.cells #[.int .i64 p, .int .i64 q] 30)).drew := ⟨_, rfl⟩
  change wpStill _ _ ((W.alloc (.cells #[.int .i64 x, .int .i64 y] 30)).alloc (.cells #[.int .i64 p, .int .i64 q] 30)).drew (fun a' => wpList _ _ _ _ a' ((W.alloc (.cells #[.int .i64 x, .int .i64 y] 30)).alloc (.cells #[.int .i64 p, .int .i64 q] 30)).drew) _ _
  rw [← hw2]
  have k0 : w2.cell? ⟨W.heap.size, 0, none⟩ = some (.int .i64 x) := by rw [hw2]; go_simp
  have k1 : w2.cell? ⟨W.heap.size, 1, none⟩ = some (.int .i64 y) := by rw [hw2]; go_simp
  have k2 : w2.cell? ⟨W.heap.size + 1, 0, none⟩ = some (.int .i64 p) := by rw [hw2]; go_simp
  have k3 : w2.cell? ⟨W.heap.size + 1, 1, none⟩ = some (.int .i64 q) := by rw [hw2]; go_simp
  have HW2 := Lib.hid hw2
  clear hw2
  repeat still_step
  still_call (H1.out _)
  repeat still_step
  still_call (H2.out _)
  refine wpStill_nil ?_
  go_wp2_with fail
  go_at_call 28
  (with_reducible refine (c_Or2 z1 z2 _ _ (by go_simp) (by go_simp)).mono ?_)
  rintro e w1 ⟨rfl, rfl⟩
  go_wp2_with fail
  go_ret
  refine ⟨rfl, 1, #[.cells #[.int .i64 x, .int .i64 y] 30, .cells #[.int .i64 p, .int .i64 q] 30, .cells #[.int .i64 z1, .int .i64 z2] 3], ?_⟩
  rw [HW2.out]
  exact three_new _ _ _ _
theorem cmpLaysP (blk off size : Nat) (w : World) : CmpLays Tryd.prog 27 #[] encP 2 cfP blk off size w :=
  fun _ _ _ _ x y => c_cmpP x y _
end Go.Proofs.YtogflfepkddbhaaDoor
