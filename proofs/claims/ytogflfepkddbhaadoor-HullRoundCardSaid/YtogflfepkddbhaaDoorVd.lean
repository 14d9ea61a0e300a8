/- the document's own CompareDist -/
import Derived.Test.YtogflfepkddbhaaDoorVb
import Derived.Test.YtogflfepkddbhaaDoorRb
namespace Go.Proofs.YtogflfepkddbhaaDoor
set_option linter.unusedVariables false
open Go.ChangeShapes Go.WideShapes Go.ChangeAt Go.RowKit

theorem c_rNum (h l d : Int) (w : World) : Calls Tryd.prog 42 #[.agg #[.int .u64 h, .int .u64 l, .int .u64 d]] w fun e w' => e = .returned (.agg #[.int .u64 h, .int .u64 l]) ∧ Gr w w' := by
  go_enter Tryd.func42, Tryd.ntmps42
  go_wp2
  go_returns
  exact ⟨rfl, by go_grown⟩
set_option maxHeartbeats 1000000 in
set_option maxRecDepth 100000 in
theorem rcd_core (ah al ad bh bl bd : Nat) (k r : Int) (W : World)
    (hc : (ad = 0 ∧ bd = 0 ∧ r = 0) ∨ (ad = 0 ∧ ((bd : Int) == 0) = false ∧ r = 1) ∨ (((ad : Int) == 0) = false ∧ bd = 0 ∧ r = -1) ∨ (((ad : Int) == 0) = false ∧ ((bd : Int) == 0) = false ∧ r = k))
    (A1 : ∀ w, Calls Tryd.prog 41 #[.agg #[.int .u64 ah, .int .u64 al], .int .u64 bd, .agg #[.int .u64 bh, .int .u64 bl], .int .u64 ad] w fun e w' => e = .returned (.int .i64 k) ∧ Gr w w') :
    Calls Tryd.prog 18 #[.agg #[.int .u64 ah, .int .u64 al, .int .u64 ad], .agg #[.int .u64 bh, .int .u64 bl, .int .u64 bd]] W fun e w' => e = .returned (.int .i64 r) ∧ Gr W w' := by
  have H1 := Lib.hid A1
  clear A1
  rcases hc with ⟨rfl, rfl, rfl⟩ | ⟨rfl, c2, rfl⟩ | ⟨c1, rfl, rfl⟩ | ⟨c1, c2, rfl⟩
  · go_enter Tryd.func18, Tryd.ntmps18
    go_wp2_with fail
    go_ret
    exact ⟨rfl, by go_grown⟩
  · go_enter Tryd.func18, Tryd.ntmps18
    go_wp2_with fail
    go_ret
    exact ⟨rfl, by go_grown⟩
  · go_enter Tryd.func18, Tryd.ntmps18
    go_wp2_with fail
    go_ret
    exact ⟨rfl, by go_grown⟩
  · go_enter Tryd.func18, Tryd.ntmps18
    go_wp2_with fail
    generalize hhw0 : ((W.alloc (.cells #[.int .u64 ah, .int .u64 al, .int .u64 ad] 37)).alloc (.cells #[.int .u64 bh, .int .u64 bl, .int .u64 bd] 37)) = w0
    have cw0_0_0 : w0.cell? ⟨W.heap.size, 0, none⟩ = some (.int .u64 ah) := by subst hhw0; go_simp
    have cw0_0_1 : w0.cell? ⟨W.heap.size, 1, none⟩ = some (.int .u64 al) := by subst hhw0; go_simp
    have cw0_0_2 : w0.cell? ⟨W.heap.size, 2, none⟩ = some (.int .u64 ad) := by subst hhw0; go_simp
    have zw0_0 : W.heap.size < w0.heap.size := World.block_lt_of_cell? _ _ cw0_0_0
    have cw0_1_0 : w0.cell? ⟨W.heap.size + 1, 0, none⟩ = some (.int .u64 bh) := by subst hhw0; go_simp
    have cw0_1_1 : w0.cell? ⟨W.heap.size + 1, 1, none⟩ = some (.int .u64 bl) := by subst hhw0; go_simp
    have cw0_1_2 : w0.cell? ⟨W.heap.size + 1, 2, none⟩ = some (.int .u64 bd) := by subst hhw0; go_simp
    have zw0_1 : W.heap.size + 1 < w0.heap.size := World.block_lt_of_cell? _ _ cw0_1_0
    have gw0 : Gr W w0 := by subst hhw0; go_grown
    clear hhw0
    go_wp2_with fail
    refine wp_region_spread (by kernel_rfl) (by kernel_rfl) ?_
    try simp only [List.append]
    repeat (first | go_big_quiet_skip | (go_big_quiet_want; go_big_quiet_op; (first | go_big_quiet_on | (apply Exists.intro; refine ⟨fun _ => ?_, ?_⟩; (· (first | (go_at_call 42; first | ((with_reducible refine ((c_rNum _ _ _ _)).mono ?_); rintro e w' ⟨rfl, hg⟩; exact ⟨rfl, spread_gr hg⟩)) | (go_at_call 41; first | ((with_reducible refine ((H1.out _)).mono ?_); rintro e w' ⟨rfl, hg⟩; exact ⟨rfl, spread_gr hg⟩)))); go_big_quiet_on))))
    refine wpQuiet_nil ?_
    intro wr hr
    obtain ⟨mr, rfl⟩ := hr
    go_wp2_with fail
    go_ret
    exact ⟨rfl, Gr.trans (by have gg := gw0; have gs := gg.size; go_grown) (gr_spread _ _)⟩
theorem c_rCompareDist (ah al ad bh bl bd : Nat) (h1 : Wd ah) (h2 : Wd al) (h3 : Wd ad) (h4 : Wd bh) (h5 : Wd bl) (h6 : Wd bd) (W : World) :
    Calls Tryd.prog 18 #[.agg #[.int .u64 ah, .int .u64 al, .int .u64 ad], .agg #[.int .u64 bh, .int .u64 bl, .int .u64 bd]] W fun e w' => e = .returned (.int .i64 (cmpD (val ah al) ad (val bh bl) bd)) ∧ Gr W w' := by
  refine rcd_core ah al ad bh bl bd _ _ W ?_ (c_rCompareProducts ah al bd bh bl ad h1 h2 h6 h4 h5 h3)
  unfold cmpD
  by_cases d1 : ad = 0
  · by_cases d2 : bd = 0
    · left; exact ⟨d1, d2, by rw [if_pos d1, if_pos d2]⟩
    · right; left; exact ⟨d1, by simpa using d2, by rw [if_pos d1, if_neg d2]⟩
  · by_cases d2 : bd = 0
    · right; right; left; exact ⟨by simpa using d1, d2, by rw [if_neg d1, if_pos d2]⟩
    · right; right; right; exact ⟨by simpa using d1, by simpa using d2, by rw [if_neg d1, if_neg d2]⟩
end Go.Proofs.YtogflfepkddbhaaDoor
