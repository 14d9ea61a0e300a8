/- heap: the document's order of entries -/
import Derived.Test.YtldlpbfncgcimaaHc
namespace Go.Proofs.Ytldlpbfncgcimaa
set_option linter.unusedVariables false
open Go.ChangeShapes Go.WideShapes Go.ChangeAt Go.RowKit

set_option maxHeartbeats 2000000 in
set_option maxRecDepth 100000 in
theorem rless_core (ai ah al ad : Int) (ab : Bool) (an : Int) (bi bh bl bd : Int) (bb : Bool) (bn : Int) (d : Int) (q : Bool) (W : World)
    (A1 : ∀ w, Calls Try.prog 41 #[.agg #[.int .u64 ah, .int .u64 al, .int .u64 ad], .agg #[.int .u64 bh, .int .u64 bl, .int .u64 bd]] w fun e w' => e = .returned (.int .i64 d) ∧ Gr w w')
    (h : ((d != 0) = true ∧ q = decide (d < 0)) ∨ (d = 0 ∧ ab = true ∧ bb = false ∧ q = false) ∨ (d = 0 ∧ ab = false ∧ bb = true ∧ q = true) ∨ (d = 0 ∧ ab = true ∧ bb = true ∧ q = decide (ai < bi)) ∨ (d = 0 ∧ ab = false ∧ bb = false ∧ q = decide (an < bn))) :
    Calls Try.prog 31 #[.agg #[.int .i64 ai, .int .u64 ah, .int .u64 al, .int .u64 ad, .bool ab, .int .i64 an], .agg #[.int .i64 bi, .int .u64 bh, .int .u64 bl, .int .u64 bd, .bool bb, .int .i64 bn]] W fun e w' => e = .returned (.bool q) ∧ Gr W w' := by
  have H1 := Lib.hid A1
  clear A1
  rcases h with ⟨t1, rfl⟩ | ⟨rfl, rfl, rfl, rfl⟩ | ⟨rfl, rfl, rfl, rfl⟩ | ⟨rfl, rfl, rfl, rfl⟩ | ⟨rfl, rfl, rfl, rfl⟩
  · go_enter Try.func31, Try.ntmps31
    go_wp2_with fail
    go_at_call 41
    refine ((H1.out _)).mono ?_
    rintro e w1 ⟨rfl, hw1⟩
    have cw1_0_0 : w1.cell? ⟨W.heap.size, 0, none⟩ = some (.int .i64 ai) := cell_gr hw1 (by go_simp)
    have cw1_0_1 : w1.cell? ⟨W.heap.size, 1, none⟩ = some (.int .u64 ah) := cell_gr hw1 (by go_simp)
    have cw1_0_2 : w1.cell? ⟨W.heap.size, 2, none⟩ = some (.int .u64 al) := cell_gr hw1 (by go_simp)
    have cw1_0_3 : w1.cell? ⟨W.heap.size, 3, none⟩ = some (.int .u64 ad) := cell_gr hw1 (by go_simp)
    have cw1_0_4 : w1.cell? ⟨W.heap.size, 4, none⟩ = some (.bool ab) := cell_gr hw1 (by go_simp)
    have cw1_0_5 : w1.cell? ⟨W.heap.size, 5, none⟩ = some (.int .i64 an) := cell_gr hw1 (by go_simp)
    have zw1_0 : W.heap.size < w1.heap.size := World.block_lt_of_cell? _ _ cw1_0_0
    have cw1_1_0 : w1.cell? ⟨W.heap.size + 1, 0, none⟩ = some (.int .i64 bi) := cell_gr hw1 (by go_simp)
    have cw1_1_1 : w1.cell? ⟨W.heap.size + 1, 1, none⟩ = some (.int .u64 bh) := cell_gr hw1 (by go_simp)
    have cw1_1_2 : w1.cell? ⟨W.heap.size + 1, 2, none⟩ = some (.int .u64 bl) := cell_gr hw1 (by go_simp)
    have cw1_1_3 : w1.cell? ⟨W.heap.size + 1, 3, none⟩ = some (.int .u64 bd) := cell_gr hw1 (by go_simp)
    have cw1_1_4 : w1.cell? ⟨W.heap.size + 1, 4, none⟩ = some (.bool bb) := cell_gr hw1 (by go_simp)
    have cw1_1_5 : w1.cell? ⟨W.heap.size + 1, 5, none⟩ = some (.int .i64 bn) := cell_gr hw1 (by go_simp)
    have zw1_1 : W.heap.size + 1 < w1.heap.size := World.block_lt_of_cell? _ _ cw1_1_0
    have gw1 : Gr W w1 := Gr.trans (by go_grown) hw1
    clear hw1
    go_wp2_with fail
    go_ret
    exact ⟨rfl, gw1⟩
  · go_enter Try.func31, Try.ntmps31
    go_wp2_with fail
    go_at_call 41
    refine ((H1.out _)).mono ?_
    rintro e w1 ⟨rfl, hw1⟩
    have cw1_0_0 : w1.cell? ⟨W.heap.size, 0, none⟩ = some (.int .i64 ai) := cell_gr hw1 (by go_simp)
    have cw1_0_1 : w1.cell? ⟨W.heap.size, 1, none⟩ = some (.int .u64 ah) := cell_gr hw1 (by go_simp)
    have cw1_0_2 : w1.cell? ⟨W.heap.size, 2, none⟩ = some (.int .u64 al) := cell_gr hw1 (by go_simp)
    have cw1_0_3 : w1.cell? ⟨W.heap.size, 3, none⟩ = some (.int .u64 ad) := cell_gr hw1 (by go_simp)
    have cw1_0_4 : w1.cell? ⟨W.heap.size, 4, none⟩ = some (.bool true) := cell_gr hw1 (by go_simp)
    have cw1_0_5 : w1.cell? ⟨W.heap.size, 5, none⟩ = some (.int .i64 an) := cell_gr hw1 (by go_simp)
    have zw1_0 : W.heap.size < w1.heap.size := World.block_lt_of_cell? _ _ cw1_0_0
    have cw1_1_0 : w1.cell? ⟨W.heap.size + 1, 0, none⟩ = some (.int .i64 bi) := cell_gr hw1 (by go_simp)
    have cw1_1_1 : w1.cell? ⟨W.heap.size + 1, 1, none⟩ = some (.int .u64 bh) := cell_gr hw1 (by go_simp)
    have cw1_1_2 : w1.cell? ⟨W.heap.size + 1, 2, none⟩ = some (.int .u64 bl) := cell_gr hw1 (by go_simp)
    have cw1_1_3 : w1.cell? ⟨W.heap.size + 1, 3, none⟩ = some (.int .u64 bd) := cell_gr hw1 (by go_simp)
    have cw1_1_4 : w1.cell? ⟨W.heap.size + 1, 4, none⟩ = some (.bool false) := cell_gr hw1 (by go_simp)
    have cw1_1_5 : w1.cell? ⟨W.heap.size + 1, 5, none⟩ = some (.int .i64 bn) := cell_gr hw1 (by go_simp)
    have zw1_1 : W.heap.size + 1 < w1.heap.size := World.block_lt_of_cell? _ _ cw1_1_0
    have gw1 : Gr W w1 := Gr.trans (by go_grown) hw1
    clear hw1
    go_wp2_with fail
    go_ret
    exact ⟨rfl, gw1⟩
  · go_enter Try.func31, Try.ntmps31
    go_wp2_with fail
    go_at_call 41
    refine ((H1.out _)).mono ?_
    rintro e w1 ⟨rfl, hw1⟩
    have cw1_0_0 : w1.cell? ⟨W.heap.size, 0, none⟩ = some (.int .i64 ai) := cell_gr hw1 (by go_simp)
    have cw1_0_1 : w1.cell? ⟨W.heap.size, 1, none⟩ = some (.int .u64 ah) := cell_gr hw1 (by go_simp)
    have cw1_0_2 : w1.cell? ⟨W.heap.size, 2, none⟩ = some (.int .u64 al) := cell_gr hw1 (by go_simp)
    have cw1_0_3 : w1.cell? ⟨W.heap.size, 3, none⟩ = some (.int .u64 ad) := cell_gr hw1 (by go_simp)
    have cw1_0_4 : w1.cell? ⟨W.heap.size, 4, none⟩ = some (.bool false) := cell_gr hw1 (by go_simp)
    have cw1_0_5 : w1.cell? ⟨W.heap.size, 5, none⟩ = some (.int .i64 an) := cell_gr hw1 (by go_simp)
    have zw1_0 : W.heap.size < w1.heap.size := World.block_lt_of_cell? _ _ cw1_0_0
    have cw1_1_0 : w1.cell? ⟨W.heap.size + 1, 0, none⟩ = some (.int .i64 bi) := cell_gr hw1 (by go_simp)
    have cw1_1_1 : w1.cell? ⟨W.heap.size + 1, 1, none⟩ = some (.int .u64 bh) := cell_gr hw1 (by go_simp)
    have cw1_1_2 : w1.cell? ⟨W.heap.size + 1, 2, none⟩ = some (.int .u64 bl) := cell_gr hw1 (by go_simp)
    have cw1_1_3 : w1.cell? ⟨W.heap.size + 1, 3, none⟩ = some (.int .u64 bd) := cell_gr hw1 (by go_simp)
    have cw1_1_4 : w1.cell? ⟨W.heap.size + 1, 4, none⟩ = some (.bool true) := cell_gr hw1 (by go_simp)
    have cw1_1_5 : w1.cell? ⟨W.heap.size + 1, 5, none⟩ = some (.int .i64 bn) := cell_gr hw1 (by go_simp)
    have zw1_1 : W.heap.size + 1 < w1.heap.size := World.block_lt_of_cell? _ _ cw1_1_0
    have gw1 : Gr W w1 := Gr.trans (by go_grown) hw1
    clear hw1
    go_wp2_with fail
    go_ret
    exact ⟨rfl, gw1⟩
  · go_enter Try.func31, Try.ntmps31
    go_wp2_with fail
    go_at_call 41
    refine ((H1.out _)).mono ?_
    rintro e w1 ⟨rfl, hw1⟩
    have cw1_0_0 : w1.cell? ⟨W.heap.size, 0, none⟩ = some (.int .i64 ai) := cell_gr hw1 (by go_simp)
    have cw1_0_1 : w1.cell? ⟨W.heap.size, 1, none⟩ = some (.int .u64 ah) := cell_gr hw1 (by go_simp)
    have cw1_0_2 : w1.cell? ⟨W.heap.size, 2, none⟩ = some (.int .u64 al) := cell_gr hw1 (by go_simp)
    have cw1_0_3 : w1.cell? ⟨W.heap.size, 3, none⟩ = some (.int .u64 ad) := cell_gr hw1 (by go_simp)
    have cw1_0_4 : w1.cell? ⟨W.heap.size, 4, none⟩ = some (.bool true) := cell_gr hw1 (by go_simp)
    have cw1_0_5 : w1.cell? ⟨W.heap.size, 5, none⟩ = some (.int .i64 an) := cell_gr hw1 (by go_simp)
    have zw1_0 : W.heap.size < w1.heap.size := World.block_lt_of_cell? _ _ cw1_0_0
    have cw1_1_0 : w1.cell? ⟨W.heap.size + 1, 0, none⟩ = some (.int .i64 bi) := cell_gr hw1 (by go_simp)
    have cw1_1_1 : w1.cell? ⟨W.heap.size + 1, 1, none⟩ = some (.int .u64 bh) := cell_gr hw1 (by go_simp)
    have cw1_1_2 : w1.cell? ⟨W.heap.size + 1, 2, none⟩ = some (.int .u64 bl) := cell_gr hw1 (by go_simp)
    have cw1_1_3 : w1.cell? ⟨W.heap.size + 1, 3, none⟩ = some (.int .u64 bd) := cell_gr hw1 (by go_simp)
    have cw1_1_4 : w1.cell? ⟨W.heap.size + 1, 4, none⟩ = some (.bool true) := cell_gr hw1 (by go_simp)
    have cw1_1_5 : w1.cell? ⟨W.heap.size + 1, 5, none⟩ = some (.int .i64 bn) := cell_gr hw1 (by go_simp)
    have zw1_1 : W.heap.size + 1 < w1.heap.size := World.block_lt_of_cell? _ _ cw1_1_0
    have gw1 : Gr W w1 := Gr.trans (by go_grown) hw1
    clear hw1
    go_wp2_with fail
    go_ret
    exact ⟨rfl, gw1⟩
  · go_enter Try.func31, Try.ntmps31
    go_wp2_with fail
    go_at_call 41
    refine ((H1.out _)).mono ?_
    rintro e w1 ⟨rfl, hw1⟩
    have cw1_0_0 : w1.cell? ⟨W.heap.size, 0, none⟩ = some (.int .i64 ai) := cell_gr hw1 (by go_simp)
    have cw1_0_1 : w1.cell? ⟨W.heap.size, 1, none⟩ = some (.int .u64 ah) := cell_gr hw1 (by go_simp)
    have cw1_0_2 : w1.cell? ⟨W.heap.size, 2, none⟩ = some (.int .u64 al) := cell_gr hw1 (by go_simp)
    have cw1_0_3 : w1.cell? ⟨W.heap.size, 3, none⟩ = some (.int .u64 ad) := cell_gr hw1 (by go_simp)
    have cw1_0_4 : w1.cell? ⟨W.heap.size, 4, none⟩ = some (.bool false) := cell_gr hw1 (by go_simp)
    have cw1_0_5 : w1.cell? ⟨W.heap.size, 5, none⟩ = some (.int .i64 an) := cell_gr hw1 (by go_simp)
    have zw1_0 : W.heap.size < w1.heap.size := World.block_lt_of_cell? _ _ cw1_0_0
    have cw1_1_0 : w1.cell? ⟨W.heap.size + 1, 0, none⟩ = some (.int .i64 bi) := cell_gr hw1 (by go_simp)
    have cw1_1_1 : w1.cell? ⟨W.heap.size + 1, 1, none⟩ = some (.int .u64 bh) := cell_gr hw1 (by go_simp)
    have cw1_1_2 : w1.cell? ⟨W.heap.size + 1, 2, none⟩ = some (.int .u64 bl) := cell_gr hw1 (by go_simp)
    have cw1_1_3 : w1.cell? ⟨W.heap.size + 1, 3, none⟩ = some (.int .u64 bd) := cell_gr hw1 (by go_simp)
    have cw1_1_4 : w1.cell? ⟨W.heap.size + 1, 4, none⟩ = some (.bool false) := cell_gr hw1 (by go_simp)
    have cw1_1_5 : w1.cell? ⟨W.heap.size + 1, 5, none⟩ = some (.int .i64 bn) := cell_gr hw1 (by go_simp)
    have zw1_1 : W.heap.size + 1 < w1.heap.size := World.block_lt_of_cell? _ _ cw1_1_0
    have gw1 : Gr W w1 := Gr.trans (by go_grown) hw1
    clear hw1
    go_wp2_with fail
    go_ret
    exact ⟨rfl, gw1⟩
theorem c_rLessEntry (a b : En) (ha : a.ok) (hb : b.ok) (W : World) : Calls Try.prog 31 #[.agg #[.int .i64 (a).id, .int .u64 (a).hi, .int .u64 (a).lo, .int .u64 (a).den, .bool (a).item, .int .i64 (a).node], .agg #[.int .i64 (b).id, .int .u64 (b).hi, .int .u64 (b).lo, .int .u64 (b).den, .bool (b).item, .int .i64 (b).node]] W fun e w' => e = .returned (.bool (ltE a b)) ∧ Gr W w' := by
  obtain ⟨h0, h1, h2, h3, h4⟩ := ha
  obtain ⟨k0, k1, k2, k3, k4⟩ := hb
  refine rless_core a.id a.hi a.lo a.den a.item a.node b.id b.hi b.lo b.den b.item b.node (cmpD (val a.hi a.lo) a.den (val b.hi b.lo) b.den) _ W (fun w => c_rCompareDist a.hi a.lo a.den b.hi b.lo b.den h1 h2 h3 k1 k2 k3 w) ?_
  have zl : ∀ x y : Int, decide (cmpZ x y < 0) = decide (x < y) := fun x y => decide_eq_decide.2 (by unfold cmpZ; split <;> (try split) <;> omega)
  unfold ltE ltC cmpE lexC
  by_cases e1 : cmpD (val a.hi a.lo) a.den (val b.hi b.lo) b.den = 0
  · right
    cases ea : a.item <;> cases eb : b.item <;> simp [e1, ea, eb, En.kind, En.num, cmpZ_eq, zl, show cmpZ 0 1 = -1 from rfl, show cmpZ 1 0 = 1 from rfl]
  · left; simp [e1]
set_option maxHeartbeats 2000000 in
set_option maxRecDepth 100000 in
theorem c_made15 (ai ah al ad : Int) (ab : Bool) (an : Int) (W : World) :
    Calls Try.prog 23 #[.agg #[.int .i64 ai, .int .u64 ah, .int .u64 al, .int .u64 ad, .bool ab, .int .i64 an]] W fun e w' => e = .returned (.agg #[.int .i64 ai, .int .u64 ah, .int .u64 al, .int .u64 ad, .bool ab, .int .i64 an]) ∧ Gr W w' := by
  go_enter Try.func23, Try.ntmps23
  go_wp2_with fail
  refine bodyPost_ret (v := .agg #[.int .i64 ai, .int .u64 ah, .int .u64 al, .int .u64 ad, .bool ab, .int .i64 an]) (by simp [results, Try.results23, go_sem, *]) rfl ⟨rfl, by go_grown⟩
end Go.Proofs.Ytldlpbfncgcimaa
