/- the document's own sums and comparisons -/
import Derived.Test.YtfamocpbmbhmbaaDoorB
import Derived.Test.YtfamocpbmbhmbaaDoorH
import Derived.Deep.DeepCutAuto
namespace Go.Proofs.YtfamocpbmbhmbaaDoor
set_option linter.unusedVariables false
open Go.ChangeShapes Go.WideShapes Go.ChangeAt Go.RowKit

theorem c_rCompare (ah al bh bl : Nat) (h1 : Wd ah) (h2 : Wd al) (h3 : Wd bh) (h4 : Wd bl) (w : World) :
    Calls Tryd.prog 47 #[.agg #[.int .u64 ah, .int .u64 al], .agg #[.int .u64 bh, .int .u64 bl]] w fun e w' => e = .returned (.int .i64 (cmpN (val ah al) (val bh bl))) ∧ Gr w w' := by
  rcases Nat.lt_trichotomy ah bh with h | h | h
  · have e : val ah al < val bh bl := by unfold val Wd at *; omega
    rw [cmpN_lt e]
    clear h1 h2 h3 h4 e
    have hd : decide (ah < bh) = true := decide_eq_true h
    go_enter Tryd.func47, Tryd.ntmps47
    go_wp2
    go_ret
    exact ⟨rfl, by go_grown⟩
  · subst h
    rcases Nat.lt_trichotomy al bl with g | g | g
    · have e : val ah al < val ah bl := by unfold val; omega
      rw [cmpN_lt e]
      clear h1 h2 h3 h4 e
      have hd : decide (al < bl) = true := decide_eq_true g
      go_enter Tryd.func47, Tryd.ntmps47
      go_wp2
      go_ret
      exact ⟨rfl, by go_grown⟩
    · subst g
      rw [cmpN_eq rfl]
      clear h1 h2 h3 h4
      go_enter Tryd.func47, Tryd.ntmps47
      go_wp2
      go_ret
      exact ⟨rfl, by go_grown⟩
    · have e : val ah bl < val ah al := by unfold val; omega
      rw [cmpN_gt e]
      clear h1 h2 h3 h4 e
      have hd : decide (al < bl) = false := decide_eq_false (by omega)
      have hn : ((al : Int) == (bl : Int)) = false := by simp; omega
      go_enter Tryd.func47, Tryd.ntmps47
      go_wp2
      go_ret
      exact ⟨rfl, by go_grown⟩
  · have e : val bh bl < val ah al := by unfold val Wd at *; omega
    rw [cmpN_gt e]
    clear h1 h2 h3 h4 e
    have hd : decide (ah < bh) = false := decide_eq_false (by omega)
    have hn : ((ah : Int) == (bh : Int)) = false := by simp; omega
    go_enter Tryd.func47, Tryd.ntmps47
    go_wp2
    go_ret
    exact ⟨rfl, by go_grown⟩
set_option maxHeartbeats 1000000 in
set_option maxRecDepth 100000 in
theorem radd_core (ah al bh bl s0 sh sl : Nat) (k : Int) (ov cy : Bool) (w : World)
    (e1 : IntKind.u64.wrap ((ah : Int) + (bh : Int)) = (s0 : Int)) (e2 : IntKind.u64.wrap ((al : Int) + (bl : Int)) = (sl : Int)) (hcy : decide (sl < al) = cy)
    (e3 : cy = true → IntKind.u64.wrap ((s0 : Int) + 1) = (sh : Int)) (e4 : cy = false → s0 = sh) (hk : decide (k < 0) = ov)
    (A1 : ∀ w, Calls Tryd.prog 47 #[.agg #[.int .u64 sh, .int .u64 sl], .agg #[.int .u64 ah, .int .u64 al]] w fun e w' => e = .returned (.int .i64 k) ∧ Gr w w') :
    Calls Tryd.prog 26 #[.agg #[.int .u64 ah, .int .u64 al], .agg #[.int .u64 bh, .int .u64 bl]] w fun e w' => e = .returned (.tuple #[.agg #[.int .u64 sh, .int .u64 sl], .bool ov]) ∧ Gr w w' := by
  have H1 := Lib.hid A1
  clear A1
  cases cy
  · obtain rfl := e4 rfl
    clear e3 e4
    go_enter Tryd.func26, Tryd.ntmps26
    go_wp2_with fail
    let Rc : World → Prop := fun w' => Gr w w' ∧ w'.cell? ⟨w.heap.size, 0, none⟩ = some (.int .u64 ah) ∧ w'.cell? ⟨w.heap.size, 1, none⟩ = some (.int .u64 al) ∧ w'.cell? ⟨w.heap.size + 1 + 1 + 1, 0, none⟩ = some (.int .u64 s0) ∧ w'.cell? ⟨w.heap.size + 1 + 1 + 1, 1, none⟩ = some (.int .u64 sl)
    refine Hd.wp_region_head 6 5 Rc (fun w' => Rc w' ∧ w'.cell? ⟨w.heap.size + 1 + 1, 0, none⟩ = some (.int .u64 0) ∧ w'.cell? ⟨w.heap.size + 1 + 1, 1, none⟩ = some (.int .u64 0) ∧ w'.frozen? ⟨w.heap.size + 1 + 1, 0, none⟩ = false ∧ w'.frozen? ⟨w.heap.size + 1 + 1, 1, none⟩ = false) (fun _ w' => Rc w' ∧ w'.cell? ⟨w.heap.size + 1 + 1, 0, none⟩ = some (.int .u64 s0) ∧ w'.cell? ⟨w.heap.size + 1 + 1, 1, none⟩ = some (.int .u64 sl)) (by kernel_rfl) (by simp only [List.getElem?_toArray, List.getElem?_cons_succ, List.getElem?_cons_zero] <;> rfl) (by kernel_rfl) (by intro _ _ h; cases h) ?_ ?_ ?_ ?_ ?_ ?_
    · intro a b h g
      exact ⟨⟨Gr.trans h.1.1 g, cell_gr g h.1.2.1, cell_gr g h.1.2.2.1, cell_gr g h.1.2.2.2.1, cell_gr g h.1.2.2.2.2⟩, cell_gr g h.2.1, cell_gr g h.2.2.1, frozen_gr g h.2.1 h.2.2.2.1, frozen_gr g h.2.2.1 h.2.2.2.2⟩
    · intro v a b h g
      exact ⟨⟨Gr.trans h.1.1 g, cell_gr g h.1.2.1, cell_gr g h.1.2.2.1, cell_gr g h.1.2.2.2.1, cell_gr g h.1.2.2.2.2⟩, cell_gr g h.2.1, cell_gr g h.2.2⟩
    · intro a h; exact h.1
    · intro v a h; exact h.1
    · refine ⟨⟨by go_grown, by go_simp, by go_simp, by go_simp, by go_simp⟩, by go_simp, by go_simp, by go_simp, by go_simp⟩
    · intro KQ hKQ
      repeat (first | (refine Hd.wpG_skip (by decide) rfl ?_; simp only [Act.put, List.setIfInBounds_toArray, List.set_cons_zero, List.set_cons_succ]) | (refine Hd.wpG_want (by decide) rfl ?_; apply Exists.intro; refine ⟨?_, ?_⟩; (· intro wx gx; (have gx0 := gx.2.1; have gx1 := gx.2.2.1; have gx2 := gx.2.2.2.1; have gx3 := gx.2.2.2.2; clear gx); all_goals (apply Hd.gAt_of_quiet; intro K hK; go_big_quiet_op; first | exact hK _ rfl | (apply Exists.intro; refine ⟨fun _ => ?_, ?_⟩; (· (go_at_call 47; with_reducible refine (H1.out _).mono ?_; rintro e w' ⟨rfl, hg⟩; exact ⟨rfl, spread_gr hg⟩)); exact hK _ rfl))); try simp only [Act.put, List.setIfInBounds_toArray, List.set_cons_zero, List.set_cons_succ]))
      refine Hd.wpG_k (by decide) ?_ ?_
      · rintro w' ⟨⟨gx, gx0, gx1, gx2, gx3⟩, gx4, gx5, gx6, gx7⟩
        unfold Oper.wp
        go_simp
        exact ⟨by go_grown, by go_simp, by go_simp, by go_simp, by go_simp⟩
      refine Hd.wpG_nil (hKQ _ ?_)
      clear hKQ KQ
      rintro v w' ⟨⟨gx, gx0, gx1, gx2, gx3⟩, gx4, gx5⟩
      clear Rc
      go_wp2_with fail
      refine bodyPost_ret (v := .tuple #[.agg #[.int .u64 s0, .int .u64 sl], .bool ov]) (by simp [results, Tryd.results26, go_sem, gx4, gx5]) rfl ⟨rfl, gx⟩
  · have e5 := e3 rfl
    clear e3 e4
    go_enter Tryd.func26, Tryd.ntmps26
    go_wp2_with fail
    let Rc : World → Prop := fun w' => Gr w w' ∧ w'.cell? ⟨w.heap.size, 0, none⟩ = some (.int .u64 ah) ∧ w'.cell? ⟨w.heap.size, 1, none⟩ = some (.int .u64 al) ∧ w'.cell? ⟨w.heap.size + 1 + 1 + 1, 0, none⟩ = some (.int .u64 sh) ∧ w'.cell? ⟨w.heap.size + 1 + 1 + 1, 1, none⟩ = some (.int .u64 sl)
    refine Hd.wp_region_head 6 5 Rc (fun w' => Rc w' ∧ w'.cell? ⟨w.heap.size + 1 + 1, 0, none⟩ = some (.int .u64 0) ∧ w'.cell? ⟨w.heap.size + 1 + 1, 1, none⟩ = some (.int .u64 0) ∧ w'.frozen? ⟨w.heap.size + 1 + 1, 0, none⟩ = false ∧ w'.frozen? ⟨w.heap.size + 1 + 1, 1, none⟩ = false) (fun _ w' => Rc w' ∧ w'.cell? ⟨w.heap.size + 1 + 1, 0, none⟩ = some (.int .u64 sh) ∧ w'.cell? ⟨w.heap.size + 1 + 1, 1, none⟩ = some (.int .u64 sl)) (by kernel_rfl) (by simp only [List.getElem?_toArray, List.getElem?_cons_succ, List.getElem?_cons_zero] <;> rfl) (by kernel_rfl) (by intro _ _ h; cases h) ?_ ?_ ?_ ?_ ?_ ?_
    · intro a b h g
      exact ⟨⟨Gr.trans h.1.1 g, cell_gr g h.1.2.1, cell_gr g h.1.2.2.1, cell_gr g h.1.2.2.2.1, cell_gr g h.1.2.2.2.2⟩, cell_gr g h.2.1, cell_gr g h.2.2.1, frozen_gr g h.2.1 h.2.2.2.1, frozen_gr g h.2.2.1 h.2.2.2.2⟩
    · intro v a b h g
      exact ⟨⟨Gr.trans h.1.1 g, cell_gr g h.1.2.1, cell_gr g h.1.2.2.1, cell_gr g h.1.2.2.2.1, cell_gr g h.1.2.2.2.2⟩, cell_gr g h.2.1, cell_gr g h.2.2⟩
    · intro a h; exact h.1
    · intro v a h; exact h.1
    · refine ⟨⟨by go_grown, by go_simp, by go_simp, by go_simp, by go_simp⟩, by go_simp, by go_simp, by go_simp, by go_simp⟩
    · intro KQ hKQ
      repeat (first | (refine Hd.wpG_skip (by decide) rfl ?_; simp only [Act.put, List.setIfInBounds_toArray, List.set_cons_zero, List.set_cons_succ]) | (refine Hd.wpG_want (by decide) rfl ?_; apply Exists.intro; refine ⟨?_, ?_⟩; (· intro wx gx; (have gx0 := gx.2.1; have gx1 := gx.2.2.1; have gx2 := gx.2.2.2.1; have gx3 := gx.2.2.2.2; clear gx); all_goals (apply Hd.gAt_of_quiet; intro K hK; go_big_quiet_op; first | exact hK _ rfl | (apply Exists.intro; refine ⟨fun _ => ?_, ?_⟩; (· (go_at_call 47; with_reducible refine (H1.out _).mono ?_; rintro e w' ⟨rfl, hg⟩; exact ⟨rfl, spread_gr hg⟩)); exact hK _ rfl))); try simp only [Act.put, List.setIfInBounds_toArray, List.set_cons_zero, List.set_cons_succ]))
      refine Hd.wpG_k (by decide) ?_ ?_
      · rintro w' ⟨⟨gx, gx0, gx1, gx2, gx3⟩, gx4, gx5, gx6, gx7⟩
        unfold Oper.wp
        go_simp
        exact ⟨by go_grown, by go_simp, by go_simp, by go_simp, by go_simp⟩
      refine Hd.wpG_nil (hKQ _ ?_)
      clear hKQ KQ
      rintro v w' ⟨⟨gx, gx0, gx1, gx2, gx3⟩, gx4, gx5⟩
      clear Rc
      go_wp2_with fail
      refine bodyPost_ret (v := .tuple #[.agg #[.int .u64 sh, .int .u64 sl], .bool ov]) (by simp [results, Tryd.results26, go_sem, gx4, gx5]) rfl ⟨rfl, gx⟩
end Go.Proofs.YtfamocpbmbhmbaaDoor
