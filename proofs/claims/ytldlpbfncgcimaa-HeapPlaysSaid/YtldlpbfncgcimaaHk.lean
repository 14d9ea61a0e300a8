/- entries that come in; HeapLess -/
import Derived.Test.YtldlpbfncgcimaaHj
import Derived.Test.YtldlpbfncgcimaaS
import Derived.Deep.Slices
import Derived.Deep.Strs
namespace Go.Proofs.Ytldlpbfncgcimaa
set_option linter.unusedVariables false
open Go.ChangeShapes Go.WideShapes Go.ChangeAt Go.RowKit
section
variable {P : Program} {w : World} {r : Reach} {base : Nat} {t : TypeId} {v : Value}
theorem open_agg_cells {fs : Array Field} {us : List TypeId} {n : Nat} (ht : P.underlying t = some (.struct fs)) (hts : P.cellTypes P.depth t = some us) (hn : us.length = n) (hc : P.cellsOf t = n) (h : Value.okWide P w r base t v) :
    ∃ cs : Array Value, v = .agg cs ∧ cs.size = n ∧ ∀ (i : Nat) u, us[i]? = some u → ∃ c, cs[i]? = some c ∧ Cell.okWide P w r base u c := by
  simp only [Value.okWide, ht] at h
  obtain ⟨cs, rfl, hs, ts, hts', -, hall⟩ := h
  rw [hts] at hts'
  obtain rfl := Option.some.inj hts'
  refine ⟨cs, rfl, by rw [hs, hc], fun i u hu => ?_⟩
  have hlt : i < us.length := by
    rcases Nat.lt_or_ge i us.length with h | h
    · exact h
    · rw [List.getElem?_eq_none h] at hu; cases hu
  have hi : i < cs.size := by rw [hs, hc, ← hn]; exact hlt
  obtain ⟨u', hu', hok⟩ := hall i cs[i] (by simp [hi])
  rw [Nat.mod_eq_of_lt hlt, hu] at hu'
  obtain rfl := Option.some.inj hu'
  exact ⟨cs[i], by simp [hi], hok⟩
theorem cell_int {u : TypeId} {k : IntKind} {c : Value} (hk : P.underlying u = some (.int k)) (h : Cell.okWide P w r base u c) : ∃ z, c = .int k z ∧ k.has z := by
  simp only [Cell.okWide, hk] at h
  have h' : Cell.ok P w r base u c := by cases c <;> simp_all
  simp only [Cell.ok, hk] at h'
  cases c <;> simp only [] at h' <;> try exact h'.elim
  obtain ⟨rfl, hb⟩ := h'
  exact ⟨_, rfl, hb⟩
theorem cell_bool {u : TypeId} {c : Value} (hk : P.underlying u = some .bool) (h : Cell.okWide P w r base u c) : ∃ b, c = .bool b := by
  simp only [Cell.okWide, hk] at h
  have h' : Cell.ok P w r base u c := by cases c <;> simp_all
  simp only [Cell.ok, hk] at h'
  cases c <;> simp only [] at h' <;> try exact h'.elim
  exact ⟨_, rfl⟩
theorem open_ent {fs : Array Field} {ui uu ub : TypeId} (ht : P.underlying t = some (.struct fs)) (hts : P.cellTypes P.depth t = some [ui, uu, uu, uu, ub, ui]) (hc : P.cellsOf t = 6) (hi : P.underlying ui = some (.int .i64)) (hu : P.underlying uu = some (.int .u64)) (hb : P.underlying ub = some .bool) (h : Value.okWide P w r base t v) :
    ∃ e : En, v = .agg #[.int .i64 (e).id, .int .u64 (e).hi, .int .u64 (e).lo, .int .u64 (e).den, .bool (e).item, .int .i64 (e).node] ∧ e.ok := by
  obtain ⟨cs, rfl, hs, hall⟩ := open_agg_cells (n := 6) ht hts rfl hc h
  obtain ⟨c0, e0, h0⟩ := hall 0 ui rfl
  obtain ⟨c1, e1, h1⟩ := hall 1 uu rfl
  obtain ⟨c2, e2, h2⟩ := hall 2 uu rfl
  obtain ⟨c3, e3, h3⟩ := hall 3 uu rfl
  obtain ⟨c4, e4, h4⟩ := hall 4 ub rfl
  obtain ⟨c5, e5, h5⟩ := hall 5 ui rfl
  obtain ⟨z0, rfl, b0⟩ := cell_int hi h0
  obtain ⟨z1, rfl, b1⟩ := cell_int hu h1
  obtain ⟨z2, rfl, b2⟩ := cell_int hu h2
  obtain ⟨z3, rfl, b3⟩ := cell_int hu h3
  obtain ⟨z4, rfl⟩ := cell_bool hb h4
  obtain ⟨z5, rfl, b5⟩ := cell_int hi h5
  obtain ⟨x1, rfl, d1⟩ := u64_has b1
  obtain ⟨x2, rfl, d2⟩ := u64_has b2
  obtain ⟨x3, rfl, d3⟩ := u64_has b3
  refine ⟨⟨z0, x1, x2, x3, z4, z5⟩, ?_, i64_has b0, d1, d2, d3, i64_has b5⟩
  congr 1
  apply Array.ext_getElem?
  intro i
  match i with
  | 0 => exact e0
  | 1 => exact e1
  | 2 => exact e2
  | 3 => exact e3
  | 4 => exact e4
  | 5 => exact e5
  | k + 6 => rw [Array.getElem?_eq_none (by omega), Array.getElem?_eq_none (by simp)]
end
set_option maxHeartbeats 4000000 in
set_option maxRecDepth 100000 in
theorem less_core (ai ah al ad : Int) (ab : Bool) (an : Int) (bi bh bl bd : Int) (bb : Bool) (bn : Int) (p q : Bool) (W : World)
    (A1 : ∀ w, Calls Try.prog 30 #[.agg #[.int .i64 ai, .int .u64 ah, .int .u64 al, .int .u64 ad, .bool ab, .int .i64 an], .agg #[.int .i64 bi, .int .u64 bh, .int .u64 bl, .int .u64 bd, .bool bb, .int .i64 bn]] w fun e w' => e = .returned (.bool p) ∧ Gr w w')
    (A2 : ∀ w, Calls Try.prog 30 #[.agg #[.int .i64 bi, .int .u64 bh, .int .u64 bl, .int .u64 bd, .bool bb, .int .i64 bn], .agg #[.int .i64 ai, .int .u64 ah, .int .u64 al, .int .u64 ad, .bool ab, .int .i64 an]] w fun e w' => e = .returned (.bool q) ∧ Gr w w')
    (A3 : ∀ w, Calls Try.prog 31 #[.agg #[.int .i64 ai, .int .u64 ah, .int .u64 al, .int .u64 ad, .bool ab, .int .i64 an], .agg #[.int .i64 bi, .int .u64 bh, .int .u64 bl, .int .u64 bd, .bool bb, .int .i64 bn]] w fun e w' => e = .returned (.bool p) ∧ Gr w w')
    (A4 : ∀ w, Calls Try.prog 31 #[.agg #[.int .i64 bi, .int .u64 bh, .int .u64 bl, .int .u64 bd, .bool bb, .int .i64 bn], .agg #[.int .i64 ai, .int .u64 ah, .int .u64 al, .int .u64 ad, .bool ab, .int .i64 an]] w fun e w' => e = .returned (.bool q) ∧ Gr w w') :
    Calls Try.prog 7 #[.agg #[.int .i64 ai, .int .u64 ah, .int .u64 al, .int .u64 ad, .bool ab, .int .i64 an], .agg #[.int .i64 bi, .int .u64 bh, .int .u64 bl, .int .u64 bd, .bool bb, .int .i64 bn]] W fun e w' => e = .returned (.bool true) ∧ Gr W w' := by
  have t1 : (p == p) = true := by simp
  have t2 : (q == q) = true := by simp
  have H1 := Lib.hid A1
  have H2 := Lib.hid A2
  have H3 := Lib.hid A3
  have H4 := Lib.hid A4
  clear A1 A2 A3 A4
  go_enter Try.func7, Try.ntmps7
  go_wp2_with fail
  generalize hhw0 : (W.alloc (.cells #[.int .i64 ai, .int .u64 ah, .int .u64 al, .int .u64 ad, .bool ab, .int .i64 an] 46)).alloc (.cells #[.int .i64 bi, .int .u64 bh, .int .u64 bl, .int .u64 bd, .bool bb, .int .i64 bn] 46) = w0
  have cw0_0_0 : w0.cell? ⟨W.heap.size, 0, none⟩ = some (.int .i64 ai) := by subst hhw0; go_simp
  have cw0_0_1 : w0.cell? ⟨W.heap.size, 1, none⟩ = some (.int .u64 ah) := by subst hhw0; go_simp
  have cw0_0_2 : w0.cell? ⟨W.heap.size, 2, none⟩ = some (.int .u64 al) := by subst hhw0; go_simp
  have cw0_0_3 : w0.cell? ⟨W.heap.size, 3, none⟩ = some (.int .u64 ad) := by subst hhw0; go_simp
  have cw0_0_4 : w0.cell? ⟨W.heap.size, 4, none⟩ = some (.bool ab) := by subst hhw0; go_simp
  have cw0_0_5 : w0.cell? ⟨W.heap.size, 5, none⟩ = some (.int .i64 an) := by subst hhw0; go_simp
  have zw0_0 : W.heap.size < w0.heap.size := World.block_lt_of_cell? _ _ cw0_0_0
  have cw0_1_0 : w0.cell? ⟨W.heap.size + 1, 0, none⟩ = some (.int .i64 bi) := by subst hhw0; go_simp
  have cw0_1_1 : w0.cell? ⟨W.heap.size + 1, 1, none⟩ = some (.int .u64 bh) := by subst hhw0; go_simp
  have cw0_1_2 : w0.cell? ⟨W.heap.size + 1, 2, none⟩ = some (.int .u64 bl) := by subst hhw0; go_simp
  have cw0_1_3 : w0.cell? ⟨W.heap.size + 1, 3, none⟩ = some (.int .u64 bd) := by subst hhw0; go_simp
  have cw0_1_4 : w0.cell? ⟨W.heap.size + 1, 4, none⟩ = some (.bool bb) := by subst hhw0; go_simp
  have cw0_1_5 : w0.cell? ⟨W.heap.size + 1, 5, none⟩ = some (.int .i64 bn) := by subst hhw0; go_simp
  have zw0_1 : W.heap.size + 1 < w0.heap.size := World.block_lt_of_cell? _ _ cw0_1_0
  have gw0 : Gr W w0 := by subst hhw0; go_grown
  clear hhw0
  refine wp_region_spread (by kernel_rfl) (by kernel_rfl) ?_
  try simp only [List.append]
  repeat (first | go_big_quiet_skip | (go_big_quiet_want; go_big_quiet_op; (first | go_big_quiet_on | (apply Exists.intro; refine ⟨fun _ => ?_, ?_⟩; (· (first | (go_at_call 23; first | ((with_reducible refine ((c_made15 ai ah al ad ab an _)).mono ?_); rintro e w' ⟨rfl, hg⟩; exact ⟨rfl, spread_gr hg⟩) | ((with_reducible refine ((c_made15 bi bh bl bd bb bn _)).mono ?_); rintro e w' ⟨rfl, hg⟩; exact ⟨rfl, spread_gr hg⟩)) | (go_at_call 30; first | ((with_reducible refine ((H1.out _)).mono ?_); rintro e w' ⟨rfl, hg⟩; exact ⟨rfl, spread_gr hg⟩) | ((with_reducible refine ((H2.out _)).mono ?_); rintro e w' ⟨rfl, hg⟩; exact ⟨rfl, spread_gr hg⟩)) | (go_at_call 31; first | ((with_reducible refine ((H3.out _)).mono ?_); rintro e w' ⟨rfl, hg⟩; exact ⟨rfl, spread_gr hg⟩) | ((with_reducible refine ((H4.out _)).mono ?_); rintro e w' ⟨rfl, hg⟩; exact ⟨rfl, spread_gr hg⟩)) | (go_at_call 20; first | ((with_reducible refine ((p15_awake _)).mono ?_); rintro e w' ⟨rfl, hg⟩; exact ⟨rfl, spread_gr hg⟩)))); go_big_quiet_on))))
  refine wpQuiet_nil ?_
  intro wr hr
  obtain ⟨mr, rfl⟩ := hr
  go_wp2_with fail
  go_ret
  exact ⟨rfl, Gr.trans (by have gg := gw0; have gs := gg.size; go_grown) (gr_spread _ _)⟩
theorem walk_HeapLess (a b : En) (ha : a.ok) (hb : b.ok) (W : World) : Calls Try.prog 7 #[.agg #[.int .i64 (a).id, .int .u64 (a).hi, .int .u64 (a).lo, .int .u64 (a).den, .bool (a).item, .int .i64 (a).node], .agg #[.int .i64 (b).id, .int .u64 (b).hi, .int .u64 (b).lo, .int .u64 (b).den, .bool (b).item, .int .i64 (b).node]] W fun e w' => e = .returned (.bool true) ∧ Gr W w' :=
  less_core _ _ _ _ _ _ _ _ _ _ _ _ (ltE a b) (ltE b a) W (fun w => c_hLess a b ha hb w) (fun w => c_hLess b a hb ha w) (fun w => c_rLessEntry a b ha hb w) (fun w => c_rLessEntry b a hb ha w)
end Go.Proofs.Ytldlpbfncgcimaa
