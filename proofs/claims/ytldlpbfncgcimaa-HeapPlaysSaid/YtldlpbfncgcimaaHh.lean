/- heap: New, Len, Top, Pop -/
import Derived.Test.YtldlpbfncgcimaaHg
namespace Go.Proofs.Ytldlpbfncgcimaa
set_option linter.unusedVariables false
open Go.ChangeShapes Go.WideShapes Go.ChangeAt Go.RowKit

theorem heapAt_form {w : World} {base p m : Nat} {v : Value} {L : List Nu} (h : HeapAt w base p v L m) : ∃ ad cap, v = .slice ad L.length cap ∧ L.length ≤ cap ∧ (cap : Int) ≤ 9223372036854775807 := by
  rcases h.2.2.1.2 with ⟨rfl, h0⟩ | ⟨g, cap, cur, rfl, hb, hg, hn, hc, hs, ht⟩
  · exact ⟨none, 0, by rw [h0], by omega, by omega⟩
  · exact ⟨_, cap, rfl, hn, by unfold maxLen at hc; omega⟩
theorem c_hNew (W : World) : Calls Try.prog 21 #[] W fun e w' => e = .returned (.pointer (some ⟨W.heap.size, 0, none⟩)) ∧ HeapAt w' W.heap.size W.heap.size (.slice none 0 0) [] 0 ∧ Gr W w' := by
  go_enter Try.func21, Try.ntmps21
  go_wp2_with fail
  go_ret
  exact ⟨rfl, ⟨Nat.le_refl _, heap_alloc_new W _, World.ownsRow_nil _ _ _ _, by simp [Value.ownBlock]⟩, by go_grown⟩
theorem c_hLen {base p m : Nat} {v : Value} {L : List Nu} (W : World) (H : HeapAt W base p v L m) : Calls Try.prog 29 #[.pointer (some ⟨p, 0, none⟩)] W fun e w' => e = .returned (.int .i64 L.length) ∧ Gr W w' := by
  obtain ⟨p0, p1, pf0, pf1⟩ := H.cells
  obtain ⟨ad, cap, rfl, h1, h2⟩ := heapAt_form H
  clear H h1 h2
  go_enter Try.func29, Try.ntmps29
  go_wp2_with fail
  go_ret
  exact ⟨rfl, by go_grown⟩
theorem c_hLen_nil (W : World) : Calls Try.prog 29 #[.pointer none] W fun e w' => e = .returned (.int .i64 0) ∧ Gr W w' := by
  go_enter Try.func29, Try.ntmps29
  go_wp2_with fail
  go_ret
  exact ⟨rfl, by go_grown⟩
set_option maxHeartbeats 2000000 in
set_option maxRecDepth 100000 in
theorem top_none (pv : Value) (W : World) (A1 : ∀ w, Gr W w → Calls Try.prog 29 #[pv] w fun e w' => e = .returned (.int .i64 0) ∧ Gr w w') :
    Calls Try.prog 27 #[pv] W fun e w' => e = .returned (.tuple #[.agg #[.int .i64 0, .int .u64 0, .int .u64 0, .int .u64 0, .bool false, .int .i64 0], .bool false]) ∧ Gr W w' := by
  have H1 := Lib.hid A1
  clear A1
  go_enter Try.func27, Try.ntmps27
  go_wp2_with fail
  go_at_call 29
  refine ((H1.out _ (by go_grown))).mono ?_
  rintro e w1 ⟨rfl, hw1⟩
  have cw1_0_0 : w1.cell? ⟨W.heap.size, 0, none⟩ = some (.int .i64 0) := cell_gr hw1 (by go_simp)
  have fw1_0_0 : w1.frozen? ⟨W.heap.size, 0, none⟩ = false := frozen_gr (v := .int .i64 0) hw1 (by go_simp) (by go_simp)
  have cw1_0_1 : w1.cell? ⟨W.heap.size, 1, none⟩ = some (.int .u64 0) := cell_gr hw1 (by go_simp)
  have fw1_0_1 : w1.frozen? ⟨W.heap.size, 1, none⟩ = false := frozen_gr (v := .int .u64 0) hw1 (by go_simp) (by go_simp)
  have cw1_0_2 : w1.cell? ⟨W.heap.size, 2, none⟩ = some (.int .u64 0) := cell_gr hw1 (by go_simp)
  have fw1_0_2 : w1.frozen? ⟨W.heap.size, 2, none⟩ = false := frozen_gr (v := .int .u64 0) hw1 (by go_simp) (by go_simp)
  have cw1_0_3 : w1.cell? ⟨W.heap.size, 3, none⟩ = some (.int .u64 0) := cell_gr hw1 (by go_simp)
  have fw1_0_3 : w1.frozen? ⟨W.heap.size, 3, none⟩ = false := frozen_gr (v := .int .u64 0) hw1 (by go_simp) (by go_simp)
  have cw1_0_4 : w1.cell? ⟨W.heap.size, 4, none⟩ = some (.bool false) := cell_gr hw1 (by go_simp)
  have fw1_0_4 : w1.frozen? ⟨W.heap.size, 4, none⟩ = false := frozen_gr (v := .bool false) hw1 (by go_simp) (by go_simp)
  have cw1_0_5 : w1.cell? ⟨W.heap.size, 5, none⟩ = some (.int .i64 0) := cell_gr hw1 (by go_simp)
  have fw1_0_5 : w1.frozen? ⟨W.heap.size, 5, none⟩ = false := frozen_gr (v := .int .i64 0) hw1 (by go_simp) (by go_simp)
  have zw1_0 : W.heap.size < w1.heap.size := World.block_lt_of_cell? _ _ cw1_0_0
  have gw1 : Gr W w1 := Gr.trans (by go_grown) hw1
  clear hw1
  go_wp2_with fail
  have gs := gw1.size
  go_wp2_with fail
  refine bodyPost_ret (v := .tuple #[.agg #[.int .i64 0, .int .u64 0, .int .u64 0, .int .u64 0, .bool false, .int .i64 0], .bool false]) (by simp [results, Try.results27, go_sem, *]) rfl ⟨rfl, by go_grown⟩
set_option maxHeartbeats 2000000 in
set_option maxRecDepth 100000 in
theorem top_some (p g l cap : Nat) (ai ah al ad : Int) (ab : Bool) (an : Int) (hl : 0 < l) (hl2 : l ≤ 100000) (W : World) (p0 : W.cell? ⟨p, 0, none⟩ = some (.slice (some ⟨g, 0, none⟩) l cap))
    (a0 : W.cell? ⟨g, 0, none⟩ = some (.int .i64 ai)) (a1 : W.cell? ⟨g, 1, none⟩ = some (.int .u64 ah)) (a2 : W.cell? ⟨g, 2, none⟩ = some (.int .u64 al)) (a3 : W.cell? ⟨g, 3, none⟩ = some (.int .u64 ad)) (a4 : W.cell? ⟨g, 4, none⟩ = some (.bool ab)) (a5 : W.cell? ⟨g, 5, none⟩ = some (.int .i64 an))
    (A1 : ∀ w, Gr W w → Calls Try.prog 29 #[.pointer (some ⟨p, 0, none⟩)] w fun e w' => e = .returned (.int .i64 l) ∧ Gr w w') :
    Calls Try.prog 27 #[.pointer (some ⟨p, 0, none⟩)] W fun e w' => e = .returned (.tuple #[.agg #[.int .i64 ai, .int .u64 ah, .int .u64 al, .int .u64 ad, .bool ab, .int .i64 an], .bool true]) ∧ Gr W w' := by
  have H1 := Lib.hid A1
  clear A1
  have b1 : ((l : Int) == 0) = false := by simp; omega
  have b2 : (l == 0) = false := by simp; omega
  have b3 : (0 : Int) < (l : Int) := by omega
  have zp := World.block_lt_of_cell? _ _ p0
  have zg := World.block_lt_of_cell? _ _ a0
  go_enter Try.func27, Try.ntmps27
  go_wp2_with fail
  go_at_call 29
  refine ((H1.out _ (by go_grown))).mono ?_
  rintro e w1 ⟨rfl, hw1⟩
  have cw1_0_0 : w1.cell? ⟨W.heap.size, 0, none⟩ = some (.int .i64 0) := cell_gr hw1 (by go_simp)
  have fw1_0_0 : w1.frozen? ⟨W.heap.size, 0, none⟩ = false := frozen_gr (v := .int .i64 0) hw1 (by go_simp) (by go_simp)
  have cw1_0_1 : w1.cell? ⟨W.heap.size, 1, none⟩ = some (.int .u64 0) := cell_gr hw1 (by go_simp)
  have fw1_0_1 : w1.frozen? ⟨W.heap.size, 1, none⟩ = false := frozen_gr (v := .int .u64 0) hw1 (by go_simp) (by go_simp)
  have cw1_0_2 : w1.cell? ⟨W.heap.size, 2, none⟩ = some (.int .u64 0) := cell_gr hw1 (by go_simp)
  have fw1_0_2 : w1.frozen? ⟨W.heap.size, 2, none⟩ = false := frozen_gr (v := .int .u64 0) hw1 (by go_simp) (by go_simp)
  have cw1_0_3 : w1.cell? ⟨W.heap.size, 3, none⟩ = some (.int .u64 0) := cell_gr hw1 (by go_simp)
  have fw1_0_3 : w1.frozen? ⟨W.heap.size, 3, none⟩ = false := frozen_gr (v := .int .u64 0) hw1 (by go_simp) (by go_simp)
  have cw1_0_4 : w1.cell? ⟨W.heap.size, 4, none⟩ = some (.bool false) := cell_gr hw1 (by go_simp)
  have fw1_0_4 : w1.frozen? ⟨W.heap.size, 4, none⟩ = false := frozen_gr (v := .bool false) hw1 (by go_simp) (by go_simp)
  have cw1_0_5 : w1.cell? ⟨W.heap.size, 5, none⟩ = some (.int .i64 0) := cell_gr hw1 (by go_simp)
  have fw1_0_5 : w1.frozen? ⟨W.heap.size, 5, none⟩ = false := frozen_gr (v := .int .i64 0) hw1 (by go_simp) (by go_simp)
  have zw1_0 : W.heap.size < w1.heap.size := World.block_lt_of_cell? _ _ cw1_0_0
  have cw1_1_0 : w1.cell? ⟨p, 0, none⟩ = some (.slice (some ⟨g, 0, none⟩) l cap) := cell_gr hw1 (by go_simp)
  have zw1_1 : p < w1.heap.size := World.block_lt_of_cell? _ _ cw1_1_0
  have cw1_2_0 : w1.cell? ⟨g, 0, none⟩ = some (.int .i64 ai) := cell_gr hw1 (by go_simp)
  have cw1_2_1 : w1.cell? ⟨g, 1, none⟩ = some (.int .u64 ah) := cell_gr hw1 (by go_simp)
  have cw1_2_2 : w1.cell? ⟨g, 2, none⟩ = some (.int .u64 al) := cell_gr hw1 (by go_simp)
  have cw1_2_3 : w1.cell? ⟨g, 3, none⟩ = some (.int .u64 ad) := cell_gr hw1 (by go_simp)
  have cw1_2_4 : w1.cell? ⟨g, 4, none⟩ = some (.bool ab) := cell_gr hw1 (by go_simp)
  have cw1_2_5 : w1.cell? ⟨g, 5, none⟩ = some (.int .i64 an) := cell_gr hw1 (by go_simp)
  have zw1_2 : g < w1.heap.size := World.block_lt_of_cell? _ _ cw1_2_0
  have gw1 : Gr W w1 := Gr.trans (by go_grown) hw1
  clear hw1
  have gs := gw1.size
  go_wp2_with fail
  refine bodyPost_ret (v := .tuple #[.agg #[.int .i64 ai, .int .u64 ah, .int .u64 al, .int .u64 ad, .bool ab, .int .i64 an], .bool true]) (by simp [results, Try.results27, go_sem, *]) rfl ⟨rfl, by go_grown⟩
/-- What Top answers. -/
def topV : List Nu → Value
  | [] => .tuple #[.agg #[.int .i64 0, .int .u64 0, .int .u64 0, .int .u64 0, .bool false, .int .i64 0], .bool false]
  | x :: _ => .tuple #[.agg #[.int .i64 (x.e).id, .int .u64 (x.e).hi, .int .u64 (x.e).lo, .int .u64 (x.e).den, .bool (x.e).item, .int .i64 (x.e).node], .bool true]
theorem c_hTop {base p m : Nat} {v : Value} {L : List Nu} (W : World) (H : HeapAt W base p v L m) (hl : L.length ≤ 100000) : Calls Try.prog 27 #[.pointer (some ⟨p, 0, none⟩)] W fun e w' => e = .returned ((topV L)) ∧ Gr W w' := by
  have hLen := fun w (g : Gr W w) => c_hLen w (heapAt_gr H g)
  cases L with
  | nil => exact top_none _ W (fun w g => by simpa using hLen w g)
  | cons x L =>
    obtain ⟨g, cap, rfl, hb, hg, hn, hc, hpg⟩ := heapAt_row H (by simp)
    obtain ⟨a0, a1, a2, a3, a4, a5, a6⟩ := heapAt_entry H rfl 0 (by simp) x rfl
    rw [Nat.zero_mul] at a0
    rw [Nat.zero_mul, Nat.zero_add] at a1 a2 a3 a4 a5
    exact top_some p g (x :: L).length cap _ _ _ _ _ _ (by simp) hl W H.cells.1 a0 a1 a2 a3 a4 a5 hLen
theorem c_hTop_nil (W : World) : Calls Try.prog 27 #[.pointer none] W fun e w' => e = .returned ((topV [])) ∧ Gr W w' := top_none _ W (fun w _ => c_hLen_nil w)
set_option maxHeartbeats 2000000 in
set_option maxRecDepth 100000 in
theorem pop_none (pv : Value) (W : World) (A1 : ∀ w, Gr W w → Calls Try.prog 27 #[pv] w fun e w' => e = .returned (.tuple #[.agg #[.int .i64 0, .int .u64 0, .int .u64 0, .int .u64 0, .bool false, .int .i64 0], .bool false]) ∧ Gr w w') :
    Calls Try.prog 24 #[pv] W fun e w' => e = .returned (.tuple #[.agg #[.int .i64 0, .int .u64 0, .int .u64 0, .int .u64 0, .bool false, .int .i64 0], .bool false]) ∧ Gr W w' := by
  have H1 := Lib.hid A1
  clear A1
  go_enter Try.func24, Try.ntmps24
  go_wp2_with fail
  go_at_call 27
  (with_reducible refine ((H1.out _ (by go_grown))).mono ?_)
  rintro e w1 ⟨rfl, hw1⟩
  have cw1_0_0 : w1.cell? ⟨W.heap.size, 0, none⟩ = some (.int .i64 0) := cell_gr hw1 (by go_simp)
  have fw1_0_0 : w1.frozen? ⟨W.heap.size, 0, none⟩ = false := frozen_gr (v := .int .i64 0) hw1 (by go_simp) (by go_simp)
  have cw1_0_1 : w1.cell? ⟨W.heap.size, 1, none⟩ = some (.int .u64 0) := cell_gr hw1 (by go_simp)
  have fw1_0_1 : w1.frozen? ⟨W.heap.size, 1, none⟩ = false := frozen_gr (v := .int .u64 0) hw1 (by go_simp) (by go_simp)
  have cw1_0_2 : w1.cell? ⟨W.heap.size, 2, none⟩ = some (.int .u64 0) := cell_gr hw1 (by go_simp)
  have fw1_0_2 : w1.frozen? ⟨W.heap.size, 2, none⟩ = false := frozen_gr (v := .int .u64 0) hw1 (by go_simp) (by go_simp)
  have cw1_0_3 : w1.cell? ⟨W.heap.size, 3, none⟩ = some (.int .u64 0) := cell_gr hw1 (by go_simp)
  have fw1_0_3 : w1.frozen? ⟨W.heap.size, 3, none⟩ = false := frozen_gr (v := .int .u64 0) hw1 (by go_simp) (by go_simp)
  have cw1_0_4 : w1.cell? ⟨W.heap.size, 4, none⟩ = some (.bool false) := cell_gr hw1 (by go_simp)
  have fw1_0_4 : w1.frozen? ⟨W.heap.size, 4, none⟩ = false := frozen_gr (v := .bool false) hw1 (by go_simp) (by go_simp)
  have cw1_0_5 : w1.cell? ⟨W.heap.size, 5, none⟩ = some (.int .i64 0) := cell_gr hw1 (by go_simp)
  have fw1_0_5 : w1.frozen? ⟨W.heap.size, 5, none⟩ = false := frozen_gr (v := .int .i64 0) hw1 (by go_simp) (by go_simp)
  have zw1_0 : W.heap.size < w1.heap.size := World.block_lt_of_cell? _ _ cw1_0_0
  have gw1 : Gr W w1 := Gr.trans (by go_grown) hw1
  clear hw1
  go_upto_region 3 with fail
  generalize hhw2 : (w1.alloc (.cells #[.int .i64 0, .int .u64 0, .int .u64 0, .int .u64 0, .bool false, .int .i64 0] 50)) = w2
  have cw2_0_0 : w2.cell? ⟨W.heap.size, 0, none⟩ = some (.int .i64 0) := by subst hhw2; go_simp
  have fw2_0_0 : w2.frozen? ⟨W.heap.size, 0, none⟩ = false := by subst hhw2; go_simp
  have cw2_0_1 : w2.cell? ⟨W.heap.size, 1, none⟩ = some (.int .u64 0) := by subst hhw2; go_simp
  have fw2_0_1 : w2.frozen? ⟨W.heap.size, 1, none⟩ = false := by subst hhw2; go_simp
  have cw2_0_2 : w2.cell? ⟨W.heap.size, 2, none⟩ = some (.int .u64 0) := by subst hhw2; go_simp
  have fw2_0_2 : w2.frozen? ⟨W.heap.size, 2, none⟩ = false := by subst hhw2; go_simp
  have cw2_0_3 : w2.cell? ⟨W.heap.size, 3, none⟩ = some (.int .u64 0) := by subst hhw2; go_simp
  have fw2_0_3 : w2.frozen? ⟨W.heap.size, 3, none⟩ = false := by subst hhw2; go_simp
  have cw2_0_4 : w2.cell? ⟨W.heap.size, 4, none⟩ = some (.bool false) := by subst hhw2; go_simp
  have fw2_0_4 : w2.frozen? ⟨W.heap.size, 4, none⟩ = false := by subst hhw2; go_simp
  have cw2_0_5 : w2.cell? ⟨W.heap.size, 5, none⟩ = some (.int .i64 0) := by subst hhw2; go_simp
  have fw2_0_5 : w2.frozen? ⟨W.heap.size, 5, none⟩ = false := by subst hhw2; go_simp
  have zw2_0 : W.heap.size < w2.heap.size := World.block_lt_of_cell? _ _ cw2_0_0
  have gw2 : Gr W w2 := by subst hhw2; have gg := gw1; have gs := gg.size; go_grown
  clear hhw2 gw1 zw1_0 cw1_0_0 fw1_0_0 cw1_0_1 fw1_0_1 cw1_0_2 fw1_0_2 cw1_0_3 fw1_0_3 cw1_0_4 fw1_0_4 cw1_0_5 fw1_0_5
  have gs := gw2.size
  go_wp2_with fail
  refine bodyPost_ret (v := .tuple #[.agg #[.int .i64 0, .int .u64 0, .int .u64 0, .int .u64 0, .bool false, .int .i64 0], .bool false]) (by simp [results, Try.results24, go_sem, *]) rfl ⟨rfl, by go_grown⟩
theorem Fr.block {a b : World} {p : Nat} {u v : Value} (h : Fr a b p u v) {q : Nat} {o : Obj} (hc : a.heap[q]? = some o) (hp : q ≠ p) (hn : some q ≠ u.ownBlock) : b.heap[q]? = some o :=
  (h.2.1 q (Array.getElem?_eq_some_iff.1 hc).1 hp hn).trans hc
theorem row_cut {w : World} {base g n cap size : Nat} {e : TypeId} {xs : List Value} (h : w.ownsRow base e size (.slice (some ⟨g, 0, none⟩) n cap) n xs) (n' : Nat) (hn : n' ≤ n) : w.ownsRow base e size (.slice (some ⟨g, 0, none⟩) n' cap) n' (xs.take (n' * size)) := by
  rcases h.2 with ⟨h', _⟩ | ⟨g', cap', cur, h', hb, hg, hnc, hcm, hcs, ht⟩
  · simp at h'
  · simp only [Value.slice.injEq, Option.some.injEq, Addr.mk.injEq, and_true, true_and] at h'
    obtain ⟨rfl, rfl⟩ := h'
    have hm : n' * size ≤ n * size := Nat.mul_le_mul_right _ hn
    refine ⟨by rw [List.length_take, h.1]; omega, .inr ⟨g, cap, cur, rfl, hb, hg, by omega, hcm, hcs, ?_⟩⟩
    rw [← ht, List.take_take, Nat.min_eq_left hm]
theorem flat_take (L : List Nu) (k : Nat) : (L.take k).flatMap Nu.cs = (L.flatMap Nu.cs).take (k * 7) := by
  refine List.ext_getElem? fun j => ?_
  rw [flat_get, List.getElem?_take, List.getElem?_take, flat_get]
  by_cases h : j < k * 7
  · rw [if_pos h, if_pos (by omega)]
  · rw [if_neg h, if_neg (by omega)]; rfl
/-- The slice of a heap is cut. -/
theorem heapAt_cut {w : World} {base p g n cap m : Nat} {L : List Nu} (h : HeapAt w base p (.slice (some ⟨g, 0, none⟩) n cap) L m) (hn : n = L.length) (n' : Nat) (hn' : n' ≤ n) :
    HeapAt (w.setCell ⟨p, 0, none⟩ (.slice (some ⟨g, 0, none⟩) n' cap)) base p (.slice (some ⟨g, 0, none⟩) n' cap) (L.take n') m ∧ Fr w (w.setCell ⟨p, 0, none⟩ (.slice (some ⟨g, 0, none⟩) n' cap)) p (.slice (some ⟨g, 0, none⟩) n cap) (.slice (some ⟨g, 0, none⟩) n' cap) := by
  subst hn
  have hpg : p ≠ g := fun e => h.2.2.2 (by simp [Value.ownBlock, e])
  have r := row_cut h.2.2.1 n' hn'
  rw [← flat_take] at r
  have k := heapAt_slice (o := .slice (some ⟨g, 0, none⟩) L.length cap) (m := m) (L := L.take n') (n := n') r (by simp; omega) h.1 h.2.1 hpg
  exact ⟨k.1, ⟨k.2.1, k.2.2.1, k.2.2.2⟩⟩
end Go.Proofs.Ytldlpbfncgcimaa
