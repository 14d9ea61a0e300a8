/- ratio: Compare, Less, Text; what the document fixes -/
import Derived.Test.YthjhhnolkiejpaaDoorRa
import Derived.Test.YthjhhnolkiejpaaDoorI
namespace Go.Proofs.YthjhhnolkiejpaaDoor
set_option linter.unusedVariables false
open Go.ChangeShapes Go.WideShapes Go.ChangeAt Go.RowKit

/-- Compare's answer. -/
def cmpD (va da vb db : Nat) : Int := if da = 0 then (if db = 0 then 0 else 1) else (if db = 0 then -1 else cmpN (va * db) (vb * da))
set_option maxHeartbeats 1000000 in
set_option maxRecDepth 100000 in
theorem c_rtCompare (ah al ad bh bl bd : Nat) (h1 : Wd ah) (h2 : Wd al) (h3 : Wd ad) (h4 : Wd bh) (h5 : Wd bl) (h6 : Wd bd) (W : World) :
    Calls Tryd.prog 27 #[.agg #[.int .u64 ah, .int .u64 al, .int .u64 ad], .agg #[.int .u64 bh, .int .u64 bl, .int .u64 bd]] W fun e w' => e = .returned (.int .i64 (cmpD (val ah al) ad (val bh bl) bd)) ∧ Gr W w' := by
  obtain ⟨k, hk⟩ : ∃ k, k = cmpD (val ah al) ad (val bh bl) bd := ⟨_, rfl⟩
  obtain ⟨s1, e1⟩ : ∃ s, s = decide (ad ≠ 0) := ⟨_, rfl⟩
  obtain ⟨s2, e2⟩ : ∃ s, s = decide (bd ≠ 0) := ⟨_, rfl⟩
  have A1 := c_Sound ah al ad
  have A2 := c_Sound bh bl bd
  have A3 := c_CompareProducts ah al bd bh bl ad h1 h2 h6 h4 h5 h3
  rw [← hk]
  rw [← e1] at A1
  rw [← e2] at A2
  unfold cmpD at hk
  have H1 := Lib.hid A1
  have H2 := Lib.hid A2
  clear A1 A2
  by_cases d1 : ad = 0
  · obtain rfl : s1 = false := by rw [e1]; simp [d1]
    rw [if_pos d1] at hk
    by_cases d2 : bd = 0
    · obtain rfl : s2 = false := by rw [e2]; simp [d2]
      rw [if_pos d2] at hk
      subst hk
      clear e1 e2 A3 d1 d2
      go_enter Tryd.func27, Tryd.ntmps27
      go_wp2_with fail
      go_at_call 33
      refine ((H1.out _)).mono ?_
      rintro e w1 ⟨rfl, hw1⟩
      have cw1_0_0 : w1.cell? ⟨W.heap.size, 0, none⟩ = some (.int .u64 ah) := cell_gr hw1 (by go_simp)
      have cw1_0_1 : w1.cell? ⟨W.heap.size, 1, none⟩ = some (.int .u64 al) := cell_gr hw1 (by go_simp)
      have cw1_0_2 : w1.cell? ⟨W.heap.size, 2, none⟩ = some (.int .u64 ad) := cell_gr hw1 (by go_simp)
      have zw1_0 : W.heap.size < w1.heap.size := World.block_lt_of_cell? _ _ cw1_0_0
      have cw1_1_0 : w1.cell? ⟨W.heap.size + 1, 0, none⟩ = some (.int .u64 bh) := cell_gr hw1 (by go_simp)
      have cw1_1_1 : w1.cell? ⟨W.heap.size + 1, 1, none⟩ = some (.int .u64 bl) := cell_gr hw1 (by go_simp)
      have cw1_1_2 : w1.cell? ⟨W.heap.size + 1, 2, none⟩ = some (.int .u64 bd) := cell_gr hw1 (by go_simp)
      have zw1_1 : W.heap.size + 1 < w1.heap.size := World.block_lt_of_cell? _ _ cw1_1_0
      have gw1 : Gr W w1 := Gr.trans (by go_grown) hw1
      clear hw1
      go_wp2_with fail
      go_at_call 33
      refine ((H1.out _)).mono ?_
      rintro e w2 ⟨rfl, hw2⟩
      have cw2_0_0 : w2.cell? ⟨W.heap.size, 0, none⟩ = some (.int .u64 ah) := cell_gr hw2 (by go_simp)
      have cw2_0_1 : w2.cell? ⟨W.heap.size, 1, none⟩ = some (.int .u64 al) := cell_gr hw2 (by go_simp)
      have cw2_0_2 : w2.cell? ⟨W.heap.size, 2, none⟩ = some (.int .u64 ad) := cell_gr hw2 (by go_simp)
      have zw2_0 : W.heap.size < w2.heap.size := World.block_lt_of_cell? _ _ cw2_0_0
      have cw2_1_0 : w2.cell? ⟨W.heap.size + 1, 0, none⟩ = some (.int .u64 bh) := cell_gr hw2 (by go_simp)
      have cw2_1_1 : w2.cell? ⟨W.heap.size + 1, 1, none⟩ = some (.int .u64 bl) := cell_gr hw2 (by go_simp)
      have cw2_1_2 : w2.cell? ⟨W.heap.size + 1, 2, none⟩ = some (.int .u64 bd) := cell_gr hw2 (by go_simp)
      have zw2_1 : W.heap.size + 1 < w2.heap.size := World.block_lt_of_cell? _ _ cw2_1_0
      have gw2 : Gr W w2 := Gr.trans (by have gg := gw1; have gs := gg.size; go_grown) hw2
      clear hw2 gw1 zw1_0 cw1_0_0 cw1_0_1 cw1_0_2 zw1_1 cw1_1_0 cw1_1_1 cw1_1_2
      go_wp2_with fail
      go_at_call 33
      refine ((H2.out _)).mono ?_
      rintro e w3 ⟨rfl, hw3⟩
      have cw3_0_0 : w3.cell? ⟨W.heap.size, 0, none⟩ = some (.int .u64 ah) := cell_gr hw3 (by go_simp)
      have cw3_0_1 : w3.cell? ⟨W.heap.size, 1, none⟩ = some (.int .u64 al) := cell_gr hw3 (by go_simp)
      have cw3_0_2 : w3.cell? ⟨W.heap.size, 2, none⟩ = some (.int .u64 ad) := cell_gr hw3 (by go_simp)
      have zw3_0 : W.heap.size < w3.heap.size := World.block_lt_of_cell? _ _ cw3_0_0
      have cw3_1_0 : w3.cell? ⟨W.heap.size + 1, 0, none⟩ = some (.int .u64 bh) := cell_gr hw3 (by go_simp)
      have cw3_1_1 : w3.cell? ⟨W.heap.size + 1, 1, none⟩ = some (.int .u64 bl) := cell_gr hw3 (by go_simp)
      have cw3_1_2 : w3.cell? ⟨W.heap.size + 1, 2, none⟩ = some (.int .u64 bd) := cell_gr hw3 (by go_simp)
      have zw3_1 : W.heap.size + 1 < w3.heap.size := World.block_lt_of_cell? _ _ cw3_1_0
      have gw3 : Gr W w3 := Gr.trans (by have gg := gw2; have gs := gg.size; go_grown) hw3
      clear hw3 gw2 zw2_0 cw2_0_0 cw2_0_1 cw2_0_2 zw2_1 cw2_1_0 cw2_1_1 cw2_1_2
      go_wp2_with fail
      go_ret
      exact ⟨rfl, by go_grown⟩
    · obtain rfl : s2 = true := by rw [e2]; simp [d2]
      rw [if_neg d2] at hk
      subst hk
      clear e1 e2 A3 d1 d2
      go_enter Tryd.func27, Tryd.ntmps27
      go_wp2_with fail
      go_at_call 33
      refine ((H1.out _)).mono ?_
      rintro e w1 ⟨rfl, hw1⟩
      have cw1_0_0 : w1.cell? ⟨W.heap.size, 0, none⟩ = some (.int .u64 ah) := cell_gr hw1 (by go_simp)
      have cw1_0_1 : w1.cell? ⟨W.heap.size, 1, none⟩ = some (.int .u64 al) := cell_gr hw1 (by go_simp)
      have cw1_0_2 : w1.cell? ⟨W.heap.size, 2, none⟩ = some (.int .u64 ad) := cell_gr hw1 (by go_simp)
      have zw1_0 : W.heap.size < w1.heap.size := World.block_lt_of_cell? _ _ cw1_0_0
      have cw1_1_0 : w1.cell? ⟨W.heap.size + 1, 0, none⟩ = some (.int .u64 bh) := cell_gr hw1 (by go_simp)
      have cw1_1_1 : w1.cell? ⟨W.heap.size + 1, 1, none⟩ = some (.int .u64 bl) := cell_gr hw1 (by go_simp)
      have cw1_1_2 : w1.cell? ⟨W.heap.size + 1, 2, none⟩ = some (.int .u64 bd) := cell_gr hw1 (by go_simp)
      have zw1_1 : W.heap.size + 1 < w1.heap.size := World.block_lt_of_cell? _ _ cw1_1_0
      have gw1 : Gr W w1 := Gr.trans (by go_grown) hw1
      clear hw1
      go_wp2_with fail
      go_at_call 33
      refine ((H1.out _)).mono ?_
      rintro e w2 ⟨rfl, hw2⟩
      have cw2_0_0 : w2.cell? ⟨W.heap.size, 0, none⟩ = some (.int .u64 ah) := cell_gr hw2 (by go_simp)
      have cw2_0_1 : w2.cell? ⟨W.heap.size, 1, none⟩ = some (.int .u64 al) := cell_gr hw2 (by go_simp)
      have cw2_0_2 : w2.cell? ⟨W.heap.size, 2, none⟩ = some (.int .u64 ad) := cell_gr hw2 (by go_simp)
      have zw2_0 : W.heap.size < w2.heap.size := World.block_lt_of_cell? _ _ cw2_0_0
      have cw2_1_0 : w2.cell? ⟨W.heap.size + 1, 0, none⟩ = some (.int .u64 bh) := cell_gr hw2 (by go_simp)
      have cw2_1_1 : w2.cell? ⟨W.heap.size + 1, 1, none⟩ = some (.int .u64 bl) := cell_gr hw2 (by go_simp)
      have cw2_1_2 : w2.cell? ⟨W.heap.size + 1, 2, none⟩ = some (.int .u64 bd) := cell_gr hw2 (by go_simp)
      have zw2_1 : W.heap.size + 1 < w2.heap.size := World.block_lt_of_cell? _ _ cw2_1_0
      have gw2 : Gr W w2 := Gr.trans (by have gg := gw1; have gs := gg.size; go_grown) hw2
      clear hw2 gw1 zw1_0 cw1_0_0 cw1_0_1 cw1_0_2 zw1_1 cw1_1_0 cw1_1_1 cw1_1_2
      go_wp2_with fail
      go_at_call 33
      refine ((H2.out _)).mono ?_
      rintro e w3 ⟨rfl, hw3⟩
      have cw3_0_0 : w3.cell? ⟨W.heap.size, 0, none⟩ = some (.int .u64 ah) := cell_gr hw3 (by go_simp)
      have cw3_0_1 : w3.cell? ⟨W.heap.size, 1, none⟩ = some (.int .u64 al) := cell_gr hw3 (by go_simp)
      have cw3_0_2 : w3.cell? ⟨W.heap.size, 2, none⟩ = some (.int .u64 ad) := cell_gr hw3 (by go_simp)
      have zw3_0 : W.heap.size < w3.heap.size := World.block_lt_of_cell? _ _ cw3_0_0
      have cw3_1_0 : w3.cell? ⟨W.heap.size + 1, 0, none⟩ = some (.int .u64 bh) := cell_gr hw3 (by go_simp)
      have cw3_1_1 : w3.cell? ⟨W.heap.size + 1, 1, none⟩ = some (.int .u64 bl) := cell_gr hw3 (by go_simp)
      have cw3_1_2 : w3.cell? ⟨W.heap.size + 1, 2, none⟩ = some (.int .u64 bd) := cell_gr hw3 (by go_simp)
      have zw3_1 : W.heap.size + 1 < w3.heap.size := World.block_lt_of_cell? _ _ cw3_1_0
      have gw3 : Gr W w3 := Gr.trans (by have gg := gw2; have gs := gg.size; go_grown) hw3
      clear hw3 gw2 zw2_0 cw2_0_0 cw2_0_1 cw2_0_2 zw2_1 cw2_1_0 cw2_1_1 cw2_1_2
      go_wp2_with fail
      go_ret
      exact ⟨rfl, by go_grown⟩
  · obtain rfl : s1 = true := by rw [e1]; simp [d1]
    rw [if_neg d1] at hk
    by_cases d2 : bd = 0
    · obtain rfl : s2 = false := by rw [e2]; simp [d2]
      rw [if_pos d2] at hk
      subst hk
      clear e1 e2 A3 d1 d2
      go_enter Tryd.func27, Tryd.ntmps27
      go_wp2_with fail
      go_at_call 33
      refine ((H1.out _)).mono ?_
      rintro e w1 ⟨rfl, hw1⟩
      have cw1_0_0 : w1.cell? ⟨W.heap.size, 0, none⟩ = some (.int .u64 ah) := cell_gr hw1 (by go_simp)
      have cw1_0_1 : w1.cell? ⟨W.heap.size, 1, none⟩ = some (.int .u64 al) := cell_gr hw1 (by go_simp)
      have cw1_0_2 : w1.cell? ⟨W.heap.size, 2, none⟩ = some (.int .u64 ad) := cell_gr hw1 (by go_simp)
      have zw1_0 : W.heap.size < w1.heap.size := World.block_lt_of_cell? _ _ cw1_0_0
      have cw1_1_0 : w1.cell? ⟨W.heap.size + 1, 0, none⟩ = some (.int .u64 bh) := cell_gr hw1 (by go_simp)
      have cw1_1_1 : w1.cell? ⟨W.heap.size + 1, 1, none⟩ = some (.int .u64 bl) := cell_gr hw1 (by go_simp)
      have cw1_1_2 : w1.cell? ⟨W.heap.size + 1, 2, none⟩ = some (.int .u64 bd) := cell_gr hw1 (by go_simp)
      have zw1_1 : W.heap.size + 1 < w1.heap.size := World.block_lt_of_cell? _ _ cw1_1_0
      have gw1 : Gr W w1 := Gr.trans (by go_grown) hw1
      clear hw1
      go_wp2_with fail
      go_at_call 33
      refine ((H2.out _)).mono ?_
      rintro e w2 ⟨rfl, hw2⟩
      have cw2_0_0 : w2.cell? ⟨W.heap.size, 0, none⟩ = some (.int .u64 ah) := cell_gr hw2 (by go_simp)
      have cw2_0_1 : w2.cell? ⟨W.heap.size, 1, none⟩ = some (.int .u64 al) := cell_gr hw2 (by go_simp)
      have cw2_0_2 : w2.cell? ⟨W.heap.size, 2, none⟩ = some (.int .u64 ad) := cell_gr hw2 (by go_simp)
      have zw2_0 : W.heap.size < w2.heap.size := World.block_lt_of_cell? _ _ cw2_0_0
      have cw2_1_0 : w2.cell? ⟨W.heap.size + 1, 0, none⟩ = some (.int .u64 bh) := cell_gr hw2 (by go_simp)
      have cw2_1_1 : w2.cell? ⟨W.heap.size + 1, 1, none⟩ = some (.int .u64 bl) := cell_gr hw2 (by go_simp)
      have cw2_1_2 : w2.cell? ⟨W.heap.size + 1, 2, none⟩ = some (.int .u64 bd) := cell_gr hw2 (by go_simp)
      have zw2_1 : W.heap.size + 1 < w2.heap.size := World.block_lt_of_cell? _ _ cw2_1_0
      have gw2 : Gr W w2 := Gr.trans (by have gg := gw1; have gs := gg.size; go_grown) hw2
      clear hw2 gw1 zw1_0 cw1_0_0 cw1_0_1 cw1_0_2 zw1_1 cw1_1_0 cw1_1_1 cw1_1_2
      go_wp2_with fail
      go_at_call 33
      refine ((H1.out _)).mono ?_
      rintro e w3 ⟨rfl, hw3⟩
      have cw3_0_0 : w3.cell? ⟨W.heap.size, 0, none⟩ = some (.int .u64 ah) := cell_gr hw3 (by go_simp)
      have cw3_0_1 : w3.cell? ⟨W.heap.size, 1, none⟩ = some (.int .u64 al) := cell_gr hw3 (by go_simp)
      have cw3_0_2 : w3.cell? ⟨W.heap.size, 2, none⟩ = some (.int .u64 ad) := cell_gr hw3 (by go_simp)
      have zw3_0 : W.heap.size < w3.heap.size := World.block_lt_of_cell? _ _ cw3_0_0
      have cw3_1_0 : w3.cell? ⟨W.heap.size + 1, 0, none⟩ = some (.int .u64 bh) := cell_gr hw3 (by go_simp)
      have cw3_1_1 : w3.cell? ⟨W.heap.size + 1, 1, none⟩ = some (.int .u64 bl) := cell_gr hw3 (by go_simp)
      have cw3_1_2 : w3.cell? ⟨W.heap.size + 1, 2, none⟩ = some (.int .u64 bd) := cell_gr hw3 (by go_simp)
      have zw3_1 : W.heap.size + 1 < w3.heap.size := World.block_lt_of_cell? _ _ cw3_1_0
      have gw3 : Gr W w3 := Gr.trans (by have gg := gw2; have gs := gg.size; go_grown) hw3
      clear hw3 gw2 zw2_0 cw2_0_0 cw2_0_1 cw2_0_2 zw2_1 cw2_1_0 cw2_1_1 cw2_1_2
      go_wp2_with fail
      go_ret
      exact ⟨rfl, by go_grown⟩
    · obtain rfl : s2 = true := by rw [e2]; simp [d2]
      rw [if_neg d2] at hk
      rw [← hk] at A3
      have H3 := Lib.hid A3
      clear e1 e2 A3 d1 d2 hk
      go_enter Tryd.func27, Tryd.ntmps27
      go_wp2_with fail
      go_at_call 33
      refine ((H1.out _)).mono ?_
      rintro e w1 ⟨rfl, hw1⟩
      have cw1_0_0 : w1.cell? ⟨W.heap.size, 0, none⟩ = some (.int .u64 ah) := cell_gr hw1 (by go_simp)
      have cw1_0_1 : w1.cell? ⟨W.heap.size, 1, none⟩ = some (.int .u64 al) := cell_gr hw1 (by go_simp)
      have cw1_0_2 : w1.cell? ⟨W.heap.size, 2, none⟩ = some (.int .u64 ad) := cell_gr hw1 (by go_simp)
      have zw1_0 : W.heap.size < w1.heap.size := World.block_lt_of_cell? _ _ cw1_0_0
      have cw1_1_0 : w1.cell? ⟨W.heap.size + 1, 0, none⟩ = some (.int .u64 bh) := cell_gr hw1 (by go_simp)
      have cw1_1_1 : w1.cell? ⟨W.heap.size + 1, 1, none⟩ = some (.int .u64 bl) := cell_gr hw1 (by go_simp)
      have cw1_1_2 : w1.cell? ⟨W.heap.size + 1, 2, none⟩ = some (.int .u64 bd) := cell_gr hw1 (by go_simp)
      have zw1_1 : W.heap.size + 1 < w1.heap.size := World.block_lt_of_cell? _ _ cw1_1_0
      have gw1 : Gr W w1 := Gr.trans (by go_grown) hw1
      clear hw1
      go_wp2_with fail
      go_at_call 33
      refine ((H2.out _)).mono ?_
      rintro e w2 ⟨rfl, hw2⟩
      have cw2_0_0 : w2.cell? ⟨W.heap.size, 0, none⟩ = some (.int .u64 ah) := cell_gr hw2 (by go_simp)
      have cw2_0_1 : w2.cell? ⟨W.heap.size, 1, none⟩ = some (.int .u64 al) := cell_gr hw2 (by go_simp)
      have cw2_0_2 : w2.cell? ⟨W.heap.size, 2, none⟩ = some (.int .u64 ad) := cell_gr hw2 (by go_simp)
      have zw2_0 : W.heap.size < w2.heap.size := World.block_lt_of_cell? _ _ cw2_0_0
      have cw2_1_0 : w2.cell? ⟨W.heap.size + 1, 0, none⟩ = some (.int .u64 bh) := cell_gr hw2 (by go_simp)
      have cw2_1_1 : w2.cell? ⟨W.heap.size + 1, 1, none⟩ = some (.int .u64 bl) := cell_gr hw2 (by go_simp)
      have cw2_1_2 : w2.cell? ⟨W.heap.size + 1, 2, none⟩ = some (.int .u64 bd) := cell_gr hw2 (by go_simp)
      have zw2_1 : W.heap.size + 1 < w2.heap.size := World.block_lt_of_cell? _ _ cw2_1_0
      have gw2 : Gr W w2 := Gr.trans (by have gg := gw1; have gs := gg.size; go_grown) hw2
      clear hw2 gw1 zw1_0 cw1_0_0 cw1_0_1 cw1_0_2 zw1_1 cw1_1_0 cw1_1_1 cw1_1_2
      go_wp2_with fail
      go_wp2_with fail
      refine Hd.wp_region_tail 9 (by kernel_rfl) (by kernel_rfl) ?_
      intro KQ hKQ
      repeat (first | (refine Hd.wpG_skip (by decide) rfl ?_; simp only [Act.put, List.setIfInBounds_toArray, List.set_cons_zero, List.set_cons_succ]) | (refine Hd.wpG_want (by decide) rfl ?_; apply Exists.intro; refine ⟨?_, ?_⟩; (· intro wx gx; (obtain ⟨mx, rfl⟩ := gx); all_goals (apply Hd.gAt_of_quiet; intro K hK; go_big_quiet_op; first | exact hK _ rfl | (apply Exists.intro; refine ⟨fun _ => ?_, ?_⟩; (· (first | (go_at_call 57; first | ((with_reducible refine ((c_numerator _ _ _ _)).mono ?_); rintro e w' ⟨rfl, hg⟩; exact ⟨rfl, spread_gr hg⟩)) | (go_at_call 18; first | ((with_reducible refine ((H3.out _)).mono ?_); rintro e w' ⟨rfl, hg⟩; exact ⟨rfl, spread_gr hg⟩)))); exact hK _ rfl))); try simp only [Act.put, List.setIfInBounds_toArray, List.set_cons_zero, List.set_cons_succ]))
      refine Hd.wpG_nil (hKQ _ ?_)
      clear hKQ KQ
      intro w3 hhw3
      have hw3 := Hd.gr_of_spread hhw3
      have cw3_0_0 : w3.cell? ⟨W.heap.size, 0, none⟩ = some (.int .u64 ah) := cell_gr hw3 (by go_simp)
      have cw3_0_1 : w3.cell? ⟨W.heap.size, 1, none⟩ = some (.int .u64 al) := cell_gr hw3 (by go_simp)
      have cw3_0_2 : w3.cell? ⟨W.heap.size, 2, none⟩ = some (.int .u64 ad) := cell_gr hw3 (by go_simp)
      have zw3_0 : W.heap.size < w3.heap.size := World.block_lt_of_cell? _ _ cw3_0_0
      have cw3_1_0 : w3.cell? ⟨W.heap.size + 1, 0, none⟩ = some (.int .u64 bh) := cell_gr hw3 (by go_simp)
      have cw3_1_1 : w3.cell? ⟨W.heap.size + 1, 1, none⟩ = some (.int .u64 bl) := cell_gr hw3 (by go_simp)
      have cw3_1_2 : w3.cell? ⟨W.heap.size + 1, 2, none⟩ = some (.int .u64 bd) := cell_gr hw3 (by go_simp)
      have zw3_1 : W.heap.size + 1 < w3.heap.size := World.block_lt_of_cell? _ _ cw3_1_0
      have gw3 : Gr W w3 := Gr.trans (by have gg := gw2; have gs := gg.size; go_grown) hw3
      clear hw3 hhw3 gw2 zw2_0 cw2_0_0 cw2_0_1 cw2_0_2 zw2_1 cw2_1_0 cw2_1_1 cw2_1_2
      go_wp2_with fail
      go_ret
      exact ⟨rfl, by go_grown⟩
theorem c_cmpInt2 (a b : Int) (w : World) :
    Calls Tryd.prog 61 #[.int .i64 a, .int .i64 b] w fun e w' => e = .returned (.int .i64 (if a < b then -1 else if b < a then 1 else 0)) ∧ Gr w w' := by
  rcases Int.lt_trichotomy a b with h | h | h
  · rw [if_pos h]
    have h2 : ¬ b < a := by omega
    go_enter Tryd.func61, Tryd.ntmps61
    go_wp2
    go_ret
    exact ⟨rfl, by go_grown⟩
  · subst h
    rw [if_neg (by omega), if_neg (by omega)]
    go_enter Tryd.func61, Tryd.ntmps61
    go_wp2
    go_ret
    exact ⟨rfl, by go_grown⟩
  · rw [if_neg (by omega), if_pos h]
    have h2 : ¬ a < b := by omega
    go_enter Tryd.func61, Tryd.ntmps61
    go_wp2
    go_ret
    exact ⟨rfl, by go_grown⟩
set_option maxRecDepth 100000 in
theorem c_Is_nil (k : Int) (w : World) : Calls Tryd.prog 58 #[.nilIface, .iface 101 (.int .i64 k)] w fun e w' => e = .returned (.bool false) ∧ Gr w w' := by
  have hb : ∀ w, (binOp .eql 63 .nilIface (.iface 101 (.int .i64 k))).run Tryd.prog w = .ok (.bool false) w := fun _ => rfl
  go_enter Tryd.func58, Tryd.ntmps58
  go_wp2_with fail
  go_ret
  exact ⟨rfl, by go_grown⟩
/-- How two that are near stand. -/
def lessB (va da vb db : Nat) (i j : Int) : Bool := decide ((if cmpD va da vb db = 0 then (if i < j then -1 else if j < i then 1 else 0) else cmpD va da vb db) < 0)
set_option maxHeartbeats 1000000 in
set_option maxRecDepth 100000 in
theorem c_Less (ai bi : Int) (ah al ad bh bl bd : Nat) (h1 : Wd ah) (h2 : Wd al) (h3 : Wd ad) (h4 : Wd bh) (h5 : Wd bl) (h6 : Wd bd) (W : World) :
    Calls Tryd.prog 31 #[.agg #[.int .i64 ai, .int .u64 ah, .int .u64 al, .int .u64 ad], .agg #[.int .i64 bi, .int .u64 bh, .int .u64 bl, .int .u64 bd]] W fun e w' => e = .returned (.bool (lessB (val ah al) ad (val bh bl) bd ai bi)) ∧ Gr W w' := by
  have A1 := c_rtCompare ah al ad bh bl bd h1 h2 h3 h4 h5 h6
  have A2 := c_cmpInt2 ai bi
  obtain ⟨k, hk⟩ : ∃ k, k = cmpD (val ah al) ad (val bh bl) bd := ⟨_, rfl⟩
  obtain ⟨j, hj⟩ : ∃ j, j = (if ai < bi then -1 else if bi < ai then 1 else 0 : Int) := ⟨_, rfl⟩
  obtain ⟨z, hz⟩ : ∃ z, z = (if k = 0 then j else k) := ⟨_, rfl⟩
  unfold lessB
  rw [← hk] at A1 ⊢
  rw [← hj] at A2 ⊢
  have A3 := c_Or k j W
  rw [← hz] at A3 ⊢
  have H1 := Lib.hid A1
  have H2 := Lib.hid A2
  have H3 := Lib.hid A3
  clear A1 A2 A3 hk hj hz h1 h2 h3 h4 h5 h6
  go_enter Tryd.func31, Tryd.ntmps31
  go_wp2_with fail
  refine Hd.wp_region_tail 10 (by kernel_rfl) (by kernel_rfl) ?_
  intro KQ hKQ
  repeat (first | (refine Hd.wpG_skip (by decide) rfl ?_; simp only [Act.put, List.setIfInBounds_toArray, List.set_cons_zero, List.set_cons_succ]) | (refine Hd.wpG_want (by decide) rfl ?_; apply Exists.intro; refine ⟨?_, ?_⟩; (· intro wx gx; (obtain ⟨mx, rfl⟩ := gx); all_goals (apply Hd.gAt_of_quiet; intro K hK; go_big_quiet_op; first | exact hK _ rfl | (apply Exists.intro; refine ⟨fun _ => ?_, ?_⟩; (· (first | (go_at_call 27; first | ((with_reducible refine ((H1.out _)).mono ?_); rintro e w' ⟨rfl, hg⟩; exact ⟨rfl, spread_gr hg⟩)) | (go_at_call 61; first | ((with_reducible refine ((H2.out _)).mono ?_); rintro e w' ⟨rfl, hg⟩; exact ⟨rfl, spread_gr hg⟩)))); exact hK _ rfl))); try simp only [Act.put, List.setIfInBounds_toArray, List.set_cons_zero, List.set_cons_succ]))
  refine Hd.wpG_nil (hKQ _ ?_)
  clear hKQ KQ
  intro w1 hhw1
  have hw1 := Hd.gr_of_spread hhw1
  have cw1_0_0 : w1.cell? ⟨W.heap.size, 0, none⟩ = some (.int .i64 ai) := cell_gr hw1 (by go_simp)
  have cw1_0_1 : w1.cell? ⟨W.heap.size, 1, none⟩ = some (.int .u64 ah) := cell_gr hw1 (by go_simp)
  have cw1_0_2 : w1.cell? ⟨W.heap.size, 2, none⟩ = some (.int .u64 al) := cell_gr hw1 (by go_simp)
  have cw1_0_3 : w1.cell? ⟨W.heap.size, 3, none⟩ = some (.int .u64 ad) := cell_gr hw1 (by go_simp)
  have zw1_0 : W.heap.size < w1.heap.size := World.block_lt_of_cell? _ _ cw1_0_0
  have cw1_1_0 : w1.cell? ⟨W.heap.size + 1, 0, none⟩ = some (.int .i64 bi) := cell_gr hw1 (by go_simp)
  have cw1_1_1 : w1.cell? ⟨W.heap.size + 1, 1, none⟩ = some (.int .u64 bh) := cell_gr hw1 (by go_simp)
  have cw1_1_2 : w1.cell? ⟨W.heap.size + 1, 2, none⟩ = some (.int .u64 bl) := cell_gr hw1 (by go_simp)
  have cw1_1_3 : w1.cell? ⟨W.heap.size + 1, 3, none⟩ = some (.int .u64 bd) := cell_gr hw1 (by go_simp)
  have zw1_1 : W.heap.size + 1 < w1.heap.size := World.block_lt_of_cell? _ _ cw1_1_0
  have gw1 : Gr W w1 := Gr.trans (by go_grown) hw1
  clear hw1 hhw1
  go_wp2_with fail
  go_at_call 60
  refine ((H3.out _ _ (by go_simp) (by go_simp) (by go_simp))).mono ?_
  rintro e w2 ⟨rfl, hw2⟩
  have cw2_0_0 : w2.cell? ⟨W.heap.size, 0, none⟩ = some (.int .i64 ai) := cell_gr hw2 (by go_simp)
  have cw2_0_1 : w2.cell? ⟨W.heap.size, 1, none⟩ = some (.int .u64 ah) := cell_gr hw2 (by go_simp)
  have cw2_0_2 : w2.cell? ⟨W.heap.size, 2, none⟩ = some (.int .u64 al) := cell_gr hw2 (by go_simp)
  have cw2_0_3 : w2.cell? ⟨W.heap.size, 3, none⟩ = some (.int .u64 ad) := cell_gr hw2 (by go_simp)
  have zw2_0 : W.heap.size < w2.heap.size := World.block_lt_of_cell? _ _ cw2_0_0
  have cw2_1_0 : w2.cell? ⟨W.heap.size + 1, 0, none⟩ = some (.int .i64 bi) := cell_gr hw2 (by go_simp)
  have cw2_1_1 : w2.cell? ⟨W.heap.size + 1, 1, none⟩ = some (.int .u64 bh) := cell_gr hw2 (by go_simp)
  have cw2_1_2 : w2.cell? ⟨W.heap.size + 1, 2, none⟩ = some (.int .u64 bl) := cell_gr hw2 (by go_simp)
  have cw2_1_3 : w2.cell? ⟨W.heap.size + 1, 3, none⟩ = some (.int .u64 bd) := cell_gr hw2 (by go_simp)
  have zw2_1 : W.heap.size + 1 < w2.heap.size := World.block_lt_of_cell? _ _ cw2_1_0
  have gw2 : Gr W w2 := Gr.trans (by have gg := gw1; have gs := gg.size; go_grown) hw2
  clear hw2 gw1 zw1_0 cw1_0_0 cw1_0_1 cw1_0_2 cw1_0_3 zw1_1 cw1_1_0 cw1_1_1 cw1_1_2 cw1_1_3
  go_wp2_with fail
  go_ret
  exact ⟨rfl, by go_grown⟩
set_option maxHeartbeats 1000000 in
set_option maxRecDepth 100000 in
theorem text_core (h l d qh ql qd : Nat) (s t : ByteArray) (W : World) (hs : s.size ≤ 100) (ht : t.size ≤ 100)
    (A1 : ∀ w, Calls Tryd.prog 55 #[.agg #[.int .u64 h, .int .u64 l], .int .u64 d] w fun e w' => e = .returned (.tuple #[.agg #[.int .u64 qh, .int .u64 ql, .int .u64 qd], .nilIface]) ∧ Gr w w')
    (A2 : ∀ w, Gr W w → Calls Tryd.prog 23 #[.agg #[.int .u64 qh, .int .u64 ql]] w fun e w' => e = .returned (.string s) ∧ Gr w w')
    (A3 : ∀ w, Gr W w → Calls Tryd.prog 52 #[.int .u64 qd, .int .i64 10] w fun e w' => e = .returned (.string t) ∧ Gr w w') :
    Calls Tryd.prog 28 #[.agg #[.int .u64 h, .int .u64 l, .int .u64 d]] W fun e w' => e = .returned (.string (if qd = 1 then s else s ++ ((⟨#[47]⟩ : ByteArray) ++ t))) ∧ Gr W w' := by
  have H1 := Lib.hid A1
  have H2 := Lib.hid A2
  have H3 := Lib.hid A3
  clear A1 A2 A3
  go_enter Tryd.func28, Tryd.ntmps28
  go_wp2_with fail
  refine Hm.wp_region_made 10 8 9 3 #[.int .u64 0, .int .u64 0, .int .u64 0] #[.int .u64 qh, .int .u64 ql, .int .u64 qd] 47 (by kernel_rfl) (by simp only [List.getElem?_toArray, List.getElem?_cons_succ, List.getElem?_cons_zero] <;> rfl) (by simp only [List.getElem?_toArray, List.getElem?_cons_succ, List.getElem?_cons_zero] <;> rfl) (by kernel_rfl) (fun _ _ => ?_) ?_
  · unfold Oper.wp; go_simp
  intro KQ hKQ
  repeat (first | (refine Hm.wpG_sp (by decide) ?_ ?_; (· (try dsimp only); first | (rw [if_neg (by decide)]; trivial) | (rw [if_pos rfl]; (intro B w' g hB hw; have c0 : w'.cell? ⟨B, 0, none⟩ = some (.int .u64 0) := Hm.cell_of_heap hw 0; have f0 := Hm.frozen_of_heap hw 0; have c1 : w'.cell? ⟨B, 1, none⟩ = some (.int .u64 0) := Hm.cell_of_heap hw 1; have f1 := Hm.frozen_of_heap hw 1; have c2 : w'.cell? ⟨B, 2, none⟩ = some (.int .u64 0) := Hm.cell_of_heap hw 2; have f2 := Hm.frozen_of_heap hw 2; unfold Oper.wp; go_simp; exact ⟨(((g.setCell hB _).setCell hB _).setCell hB _), (Hm.heap_set_same (Hm.heap_set_same (Hm.heap_set_same hw)))⟩)))) | (refine Hm.wpG_skip (by decide) rfl ?_; simp only [Act.put, List.setIfInBounds_toArray, List.set_cons_zero, List.set_cons_succ]) | (refine Hm.wpG_want (by decide) rfl ?_; apply Exists.intro; refine ⟨?_, ?_⟩; (· intro wx gx; (obtain ⟨mx, rfl⟩ := spread_of_gr gx; clear gx); all_goals (apply Hd.gAt_of_quiet; intro K hK; go_big_quiet_op; first | exact hK _ rfl | (apply Exists.intro; refine ⟨fun _ => ?_, ?_⟩; (· (first | (go_at_call 57; first | ((with_reducible refine ((c_numerator _ _ _ _)).mono ?_); rintro e w' ⟨rfl, hg⟩; exact ⟨rfl, spread_gr hg⟩)) | (go_at_call 55; first | ((with_reducible refine ((H1.out _)).mono ?_); rintro e w' ⟨rfl, hg⟩; exact ⟨rfl, spread_gr hg⟩)))); exact hK _ rfl))); try simp only [Act.put, List.setIfInBounds_toArray, List.set_cons_zero, List.set_cons_succ]))
  refine Hm.wpG_nil (hKQ _ ?_)
  clear hKQ KQ
  intro B1 w1 hw1 hBw1 hhw1
  have cw1_0_0 : w1.cell? ⟨W.heap.size, 0, none⟩ = some (.int .u64 h) := cell_gr hw1 (by go_simp)
  have cw1_0_1 : w1.cell? ⟨W.heap.size, 1, none⟩ = some (.int .u64 l) := cell_gr hw1 (by go_simp)
  have cw1_0_2 : w1.cell? ⟨W.heap.size, 2, none⟩ = some (.int .u64 d) := cell_gr hw1 (by go_simp)
  have zw1_0 : W.heap.size < w1.heap.size := World.block_lt_of_cell? _ _ cw1_0_0
  have cw1_1_0 : w1.cell? ⟨B1, 0, none⟩ = some (.int .u64 qh) := Hm.cell_of_heap hhw1 0
  have cw1_1_1 : w1.cell? ⟨B1, 1, none⟩ = some (.int .u64 ql) := Hm.cell_of_heap hhw1 1
  have cw1_1_2 : w1.cell? ⟨B1, 2, none⟩ = some (.int .u64 qd) := Hm.cell_of_heap hhw1 2
  have zw1_1 : B1 < w1.heap.size := World.block_lt_of_cell? _ _ cw1_1_0
  have gw1 : Gr W w1 := Gr.trans (by go_grown) hw1
  clear hw1 hBw1 hhw1
  go_wp2_with fail
  go_at_call 58
  refine ((c_Is_nil _ _)).mono ?_
  rintro e w2 ⟨rfl, hw2⟩
  have cw2_0_0 : w2.cell? ⟨W.heap.size, 0, none⟩ = some (.int .u64 h) := cell_gr hw2 (by go_simp)
  have cw2_0_1 : w2.cell? ⟨W.heap.size, 1, none⟩ = some (.int .u64 l) := cell_gr hw2 (by go_simp)
  have cw2_0_2 : w2.cell? ⟨W.heap.size, 2, none⟩ = some (.int .u64 d) := cell_gr hw2 (by go_simp)
  have zw2_0 : W.heap.size < w2.heap.size := World.block_lt_of_cell? _ _ cw2_0_0
  have cw2_1_0 : w2.cell? ⟨B1, 0, none⟩ = some (.int .u64 qh) := cell_gr hw2 (by go_simp)
  have cw2_1_1 : w2.cell? ⟨B1, 1, none⟩ = some (.int .u64 ql) := cell_gr hw2 (by go_simp)
  have cw2_1_2 : w2.cell? ⟨B1, 2, none⟩ = some (.int .u64 qd) := cell_gr hw2 (by go_simp)
  have zw2_1 : B1 < w2.heap.size := World.block_lt_of_cell? _ _ cw2_1_0
  have gw2 : Gr W w2 := Gr.trans (by have gg := gw1; have gs := gg.size; go_grown) hw2
  clear hw2 gw1 zw1_0 cw1_0_0 cw1_0_1 cw1_0_2 zw1_1 cw1_1_0 cw1_1_1 cw1_1_2
  go_wp2_with fail
  go_at_call 57
  refine ((c_numerator _ _ _ _)).mono ?_
  rintro e w3 ⟨rfl, hw3⟩
  have cw3_0_0 : w3.cell? ⟨W.heap.size, 0, none⟩ = some (.int .u64 h) := cell_gr hw3 (by go_simp)
  have cw3_0_1 : w3.cell? ⟨W.heap.size, 1, none⟩ = some (.int .u64 l) := cell_gr hw3 (by go_simp)
  have cw3_0_2 : w3.cell? ⟨W.heap.size, 2, none⟩ = some (.int .u64 d) := cell_gr hw3 (by go_simp)
  have zw3_0 : W.heap.size < w3.heap.size := World.block_lt_of_cell? _ _ cw3_0_0
  have cw3_1_0 : w3.cell? ⟨B1, 0, none⟩ = some (.int .u64 qh) := cell_gr hw3 (by go_simp)
  have cw3_1_1 : w3.cell? ⟨B1, 1, none⟩ = some (.int .u64 ql) := cell_gr hw3 (by go_simp)
  have cw3_1_2 : w3.cell? ⟨B1, 2, none⟩ = some (.int .u64 qd) := cell_gr hw3 (by go_simp)
  have zw3_1 : B1 < w3.heap.size := World.block_lt_of_cell? _ _ cw3_1_0
  have gw3 : Gr W w3 := Gr.trans (by have gg := gw2; have gs := gg.size; go_grown) hw3
  clear hw3 gw2 zw2_0 cw2_0_0 cw2_0_1 cw2_0_2 zw2_1 cw2_1_0 cw2_1_1 cw2_1_2
  go_wp2_with fail
  go_at_call 23
  refine ((H2.out _ gw3)).mono ?_
  rintro e w4 ⟨rfl, hw4⟩
  have cw4_0_0 : w4.cell? ⟨W.heap.size, 0, none⟩ = some (.int .u64 h) := cell_gr hw4 (by go_simp)
  have cw4_0_1 : w4.cell? ⟨W.heap.size, 1, none⟩ = some (.int .u64 l) := cell_gr hw4 (by go_simp)
  have cw4_0_2 : w4.cell? ⟨W.heap.size, 2, none⟩ = some (.int .u64 d) := cell_gr hw4 (by go_simp)
  have zw4_0 : W.heap.size < w4.heap.size := World.block_lt_of_cell? _ _ cw4_0_0
  have cw4_1_0 : w4.cell? ⟨B1, 0, none⟩ = some (.int .u64 qh) := cell_gr hw4 (by go_simp)
  have cw4_1_1 : w4.cell? ⟨B1, 1, none⟩ = some (.int .u64 ql) := cell_gr hw4 (by go_simp)
  have cw4_1_2 : w4.cell? ⟨B1, 2, none⟩ = some (.int .u64 qd) := cell_gr hw4 (by go_simp)
  have zw4_1 : B1 < w4.heap.size := World.block_lt_of_cell? _ _ cw4_1_0
  have gw4 : Gr W w4 := Gr.trans (by have gg := gw3; have gs := gg.size; go_grown) hw4
  clear hw4 gw3 zw3_0 cw3_0_0 cw3_0_1 cw3_0_2 zw3_1 cw3_1_0 cw3_1_1 cw3_1_2
  have u1 : ¬ 9223372036854775807 < 1 + t.size := by omega
  have u2 : ¬ 9223372036854775807 < s.size + (1 + t.size) := by omega
  by_cases hq : qd = 1
  · have e1 : ((qd : Int) == 1) = true := by simp; omega
    have e2 : ((qd : Int) != 1) = false := by simp; omega
    go_wp2_with fail
    go_ret
    exact ⟨by first | rfl | simp [hq], by go_grown⟩
  · have e1 : ((qd : Int) == 1) = false := by simp; omega
    have e2 : ((qd : Int) != 1) = true := by simp; omega
    go_wp2_with fail
    go_at_call 52
    refine ((H3.out _ gw4)).mono ?_
    rintro e w5 ⟨rfl, hw5⟩
    have cw5_0_0 : w5.cell? ⟨W.heap.size, 0, none⟩ = some (.int .u64 h) := cell_gr hw5 (by go_simp)
    have cw5_0_1 : w5.cell? ⟨W.heap.size, 1, none⟩ = some (.int .u64 l) := cell_gr hw5 (by go_simp)
    have cw5_0_2 : w5.cell? ⟨W.heap.size, 2, none⟩ = some (.int .u64 d) := cell_gr hw5 (by go_simp)
    have zw5_0 : W.heap.size < w5.heap.size := World.block_lt_of_cell? _ _ cw5_0_0
    have cw5_1_0 : w5.cell? ⟨B1, 0, none⟩ = some (.int .u64 qh) := cell_gr hw5 (by go_simp)
    have cw5_1_1 : w5.cell? ⟨B1, 1, none⟩ = some (.int .u64 ql) := cell_gr hw5 (by go_simp)
    have cw5_1_2 : w5.cell? ⟨B1, 2, none⟩ = some (.int .u64 qd) := cell_gr hw5 (by go_simp)
    have zw5_1 : B1 < w5.heap.size := World.block_lt_of_cell? _ _ cw5_1_0
    have gw5 : Gr W w5 := Gr.trans (by have gg := gw4; have gs := gg.size; go_grown) hw5
    clear hw5 gw4 zw4_0 cw4_0_0 cw4_0_1 cw4_0_2 zw4_1 cw4_1_0 cw4_1_1 cw4_1_2
    go_wp2_with fail
    go_ret
    exact ⟨by first | rfl | simp [hq], by go_grown⟩
/-- What Text writes. -/
def txt (n d : Nat) : List UInt8 := if lowD n d = 1 then Lib.decDigits (lowN n d) else Lib.decDigits (lowN n d) ++ (47 :: Lib.decDigits (lowD n d))
theorem c_rtText (h l d : Nat) (h1 : Wd h) (h2 : Wd l) (h3 : Wd d) (hd : d ≠ 0) (W : World) (hp : Lib.TabIs Tryd.prog W "internal/strconv.uint64pow10" .u64 Lib.pow10Tab) :
    Calls Tryd.prog 28 #[.agg #[.int .u64 h, .int .u64 l, .int .u64 d]] W fun e w' => e = .returned (.string ⟨(txt (val h l) d).toArray⟩) ∧ Gr W w' := by
  have hn : val h l < 340282366920938463463374607431768211456 := by unfold val Wd at *; omega
  have A1 := c_Make h l d h1 h2 h3 hd
  have hN : lowN (val h l) d ≤ val h l := Nat.div_le_self _ _
  have hD : lowD (val h l) d ≤ d := Nat.div_le_self _ _
  unfold txt
  generalize lowN (val h l) d = n at *
  generalize lowD (val h l) d = m at *
  have hv := val_split n (by omega)
  have A2 : ∀ w, Gr W w → Calls Tryd.prog 23 #[.agg #[.int .u64 ((n / 18446744073709551616 : Nat) : Int), .int .u64 ((n % 18446744073709551616 : Nat) : Int)]] w fun e w' => e = .returned (.string ⟨(Lib.decDigits n).toArray⟩) ∧ Gr w w' := fun w g => by
    have := c_Text _ _ hv.2.1 hv.2.2 w (tab_below hp g)
    rw [hv.1] at this
    exact this
  have A3 : ∀ w, Gr W w → Calls Tryd.prog 52 #[.int .u64 m, .int .i64 10] w fun e w' => e = .returned (.string ⟨(Lib.decDigits m).toArray⟩) ∧ Gr w w' := fun w g => c_FormatUint m (by unfold Wd at *; omega) w (tab_below hp g)
  have s1 : (⟨(Lib.decDigits n).toArray⟩ : ByteArray).size ≤ 100 := by
    show (Lib.decDigits n).toArray.size ≤ 100
    rw [List.size_toArray, Lib.decDigits_length]
    have := nDig_le (r := n) (k := 39) (by omega) (by omega)
    omega
  have s2 : (⟨(Lib.decDigits m).toArray⟩ : ByteArray).size ≤ 100 := by
    show (Lib.decDigits m).toArray.size ≤ 100
    rw [List.size_toArray, Lib.decDigits_length]
    have := nDig_le (r := m) (k := 39) (by omega) (by unfold Wd at *; omega)
    omega
  refine (text_core h l d _ _ m _ _ W s1 s2 A1 A2 A3).mono fun e w' ⟨h1, h2⟩ => ⟨?_, h2⟩
  rw [h1]
  split
  · rfl
  · rw [show (⟨#[47]⟩ : ByteArray) ++ ⟨(Lib.decDigits m).toArray⟩ = ⟨(47 :: Lib.decDigits m).toArray⟩ from ba_append [47] _, ba_append]
end Go.Proofs.YthjhhnolkiejpaaDoor
