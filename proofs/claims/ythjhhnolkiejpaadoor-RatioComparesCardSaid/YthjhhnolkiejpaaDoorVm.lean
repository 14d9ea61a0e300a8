/- the document's own order of what is near -/
import Derived.Test.YthjhhnolkiejpaaDoorVd
import Derived.Test.YthjhhnolkiejpaaDoorRd
namespace Go.Proofs.YthjhhnolkiejpaaDoor
set_option linter.unusedVariables false
open Go.ChangeShapes Go.WideShapes Go.ChangeAt Go.RowKit

set_option maxHeartbeats 2000000 in
set_option maxRecDepth 100000 in
theorem rless_core (ai bi : Int) (ah al ad bh bl bd : Nat) (k : Int) (z : Bool) (W : World)
    (h : (decide (k < 0) = true ∧ z = true) ∨ (k = 0 ∧ z = decide (ai < bi)) ∨ (decide (k < 0) = false ∧ (k == 0) = false ∧ z = false))
    (A1 : ∀ w, Calls Tryd.prog 26 #[.agg #[.int .u64 ah, .int .u64 al, .int .u64 ad], .agg #[.int .u64 bh, .int .u64 bl, .int .u64 bd]] w fun e w' => e = .returned (.int .i64 k) ∧ Gr w w') :
    Calls Tryd.prog 32 #[.agg #[.int .i64 ai, .int .u64 ah, .int .u64 al, .int .u64 ad], .agg #[.int .i64 bi, .int .u64 bh, .int .u64 bl, .int .u64 bd]] W fun e w' => e = .returned (.bool z) ∧ Gr W w' := by
  have H1 := Lib.hid A1
  clear A1
  rcases h with ⟨t1, rfl⟩ | ⟨rfl, rfl⟩ | ⟨t1, t2, rfl⟩
  · go_enter Tryd.func32, Tryd.ntmps32
    go_wp2_with fail
    go_at_call 26
    refine ((H1.out _)).mono ?_
    rintro e w1 ⟨rfl, hw1⟩
    have cw1_0_0 : w1.cell? ⟨W.heap.size, 0, none⟩ = some (.int .i64 ai) := cell_gr hw1 (by go_simp)
    have cw1_0_1 : w1.cell? ⟨W.heap.size, 1, none⟩ = some (.int .u64 ah) := cell_gr hw1 (by go_simp)
    have cw1_0_2 : w1.cell? ⟨W.heap.size, 2, none⟩ = some (.int .u64 al) := cell_gr hw1 (by go_simp)
    have cw1_0_3 : w1.cell? ⟨W.heap.size, 3, none⟩ = some (.int .u64 ad) := cell_gr hw1 (by go_simp)
    have zw1_0 : W.heap.size < w1.heap.size := World.block_lt_of_cell? _ _ cw1_0_0
    have cw1_1_0 : w1.cell? ⟨W.heap.size + 1, 0, none⟩ = some (.int .i64 bi) := cell_gr hw1 (by go_simp)
    have cw1_1_1 : w1.cell? ⟨W.heap.size + 1, 1, none⟩ = some (.int .u64 bh) := cell_gr hw1 (by go_simp)
    have cw1_1_2 : w1.cell? ⟨W.heap.size + 1, 2, none⟩ = some (.int .u64 bl) := cell_gr hw1 (by go_simp)
    have cw1_1_3 : w1.cell? ⟨W.heap.size + 1, 3, none⟩ = some (.int .u64 bd) := cell_gr hw1 (by go_simp)
    have zw1_1 : W.heap.size + 1 < w1.heap.size := World.block_lt_of_cell? _ _ cw1_1_0
    have gw1 : Gr W w1 := Gr.trans (by go_grown) hw1
    clear hw1
    go_wp2_with fail
    go_ret
    exact ⟨rfl, by have gg := gw1; have gs := gg.size; go_grown⟩
  · go_enter Tryd.func32, Tryd.ntmps32
    go_wp2_with fail
    go_at_call 26
    refine ((H1.out _)).mono ?_
    rintro e w1 ⟨rfl, hw1⟩
    have cw1_0_0 : w1.cell? ⟨W.heap.size, 0, none⟩ = some (.int .i64 ai) := cell_gr hw1 (by go_simp)
    have cw1_0_1 : w1.cell? ⟨W.heap.size, 1, none⟩ = some (.int .u64 ah) := cell_gr hw1 (by go_simp)
    have cw1_0_2 : w1.cell? ⟨W.heap.size, 2, none⟩ = some (.int .u64 al) := cell_gr hw1 (by go_simp)
    have cw1_0_3 : w1.cell? ⟨W.heap.size, 3, none⟩ = some (.int .u64 ad) := cell_gr hw1 (by go_simp)
    have zw1_0 : W.heap.size < w1.heap.size := World.block_lt_of_cell? _ _ cw1_0_0
    have cw1_1_0 : w1.cell? ⟨W.heap.size + 1, 0, none⟩ = some (.int .i64 bi) := cell_gr hw1 (by go_simp)
    have cw1_1_1 : w1.cell? ⟨W.heap.size + 1, 1, none⟩ = some (.int .u64 bh) := cell_gr hw1 (by go_simp)
    have cw1_1_2 : w1.cell? ⟨W.heap.size + 1, 2, none⟩ = some (.int .u64 bl) := cell_gr hw1 (by go_simp)
    have cw1_1_3 : w1.cell? ⟨W.heap.size + 1, 3, none⟩ = some (.int .u64 bd) := cell_gr hw1 (by go_simp)
    have zw1_1 : W.heap.size + 1 < w1.heap.size := World.block_lt_of_cell? _ _ cw1_1_0
    have gw1 : Gr W w1 := Gr.trans (by go_grown) hw1
    clear hw1
    go_wp2_with fail
    go_ret
    exact ⟨rfl, by have gg := gw1; have gs := gg.size; go_grown⟩
  · go_enter Tryd.func32, Tryd.ntmps32
    go_wp2_with fail
    go_at_call 26
    refine ((H1.out _)).mono ?_
    rintro e w1 ⟨rfl, hw1⟩
    have cw1_0_0 : w1.cell? ⟨W.heap.size, 0, none⟩ = some (.int .i64 ai) := cell_gr hw1 (by go_simp)
    have cw1_0_1 : w1.cell? ⟨W.heap.size, 1, none⟩ = some (.int .u64 ah) := cell_gr hw1 (by go_simp)
    have cw1_0_2 : w1.cell? ⟨W.heap.size, 2, none⟩ = some (.int .u64 al) := cell_gr hw1 (by go_simp)
    have cw1_0_3 : w1.cell? ⟨W.heap.size, 3, none⟩ = some (.int .u64 ad) := cell_gr hw1 (by go_simp)
    have zw1_0 : W.heap.size < w1.heap.size := World.block_lt_of_cell? _ _ cw1_0_0
    have cw1_1_0 : w1.cell? ⟨W.heap.size + 1, 0, none⟩ = some (.int .i64 bi) := cell_gr hw1 (by go_simp)
    have cw1_1_1 : w1.cell? ⟨W.heap.size + 1, 1, none⟩ = some (.int .u64 bh) := cell_gr hw1 (by go_simp)
    have cw1_1_2 : w1.cell? ⟨W.heap.size + 1, 2, none⟩ = some (.int .u64 bl) := cell_gr hw1 (by go_simp)
    have cw1_1_3 : w1.cell? ⟨W.heap.size + 1, 3, none⟩ = some (.int .u64 bd) := cell_gr hw1 (by go_simp)
    have zw1_1 : W.heap.size + 1 < w1.heap.size := World.block_lt_of_cell? _ _ cw1_1_0
    have gw1 : Gr W w1 := Gr.trans (by go_grown) hw1
    clear hw1
    go_wp2_with fail
    go_ret
    exact ⟨rfl, by have gg := gw1; have gs := gg.size; go_grown⟩
theorem c_rLess (ai bi : Int) (ah al ad bh bl bd : Nat) (h1 : Wd ah) (h2 : Wd al) (h3 : Wd ad) (h4 : Wd bh) (h5 : Wd bl) (h6 : Wd bd) (W : World) :
    Calls Tryd.prog 32 #[.agg #[.int .i64 ai, .int .u64 ah, .int .u64 al, .int .u64 ad], .agg #[.int .i64 bi, .int .u64 bh, .int .u64 bl, .int .u64 bd]] W fun e w' => e = .returned (.bool (lessB (val ah al) ad (val bh bl) bd ai bi)) ∧ Gr W w' := by
  have L := lessB_iff (val ah al) ad (val bh bl) bd ai bi
  refine rless_core ai bi ah al ad bh bl bd _ _ W ?_ (fun w => c_rCompareDist ah al ad bh bl bd h1 h2 h3 h4 h5 h6 w)
  generalize cmpD (val ah al) ad (val bh bl) bd = k at *
  generalize lessB (val ah al) ad (val bh bl) bd ai bi = z at *
  by_cases c1 : k < 0
  · exact Or.inl ⟨decide_eq_true c1, L.2 (Or.inl c1)⟩
  · right
    by_cases c2 : k = 0
    · refine Or.inl ⟨c2, ?_⟩
      by_cases c3 : ai < bi
      · rw [decide_eq_true c3]; exact L.2 (Or.inr ⟨c2, c3⟩)
      · rw [decide_eq_false c3, ← Bool.not_eq_true]
        intro hz
        rcases L.1 hz with h | h
        · exact c1 h
        · exact c3 h.2
    · refine Or.inr ⟨decide_eq_false c1, by simp; exact c2, ?_⟩
      rw [← Bool.not_eq_true]
      intro hz
      rcases L.1 hz with h | h
      · exact c1 h
      · exact c2 h.1
end Go.Proofs.YthjhhnolkiejpaaDoor
