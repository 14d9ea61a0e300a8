/- heap: Push -/
import Derived.Test.YtldlpbfncgcimaaHe
import Derived.Deep.LoopGhost
import Derived.Maps.AppendAt
namespace Go.Proofs.Ytldlpbfncgcimaa
set_option linter.unusedVariables false
open Go.ChangeShapes Go.WideShapes Go.ChangeAt Go.RowKit

theorem pair_set {w : World} {p : Nat} {T : TypeId} {a b c : Value} (h : w.heap[p]? = some (.cells #[a, b] T (0, 0))) : (w.setCell ⟨p, 0, none⟩ c).heap[p]? = some (.cells #[c, b] T (0, 0)) := by
  rw [heap_setCell_same w p 0 _ _ _ h]; rfl
theorem pair_set1 {w : World} {p : Nat} {T : TypeId} {a b c : Value} (h : w.heap[p]? = some (.cells #[a, b] T (0, 0))) : (w.setCell ⟨p, 1, none⟩ c).heap[p]? = some (.cells #[a, c] T (0, 0)) := by
  rw [heap_setCell_same w p 1 _ _ _ h]; rfl
theorem pair_cell {w : World} {p : Nat} {T : TypeId} {a b : Value} (h : w.heap[p]? = some (.cells #[a, b] T (0, 0))) : w.cell? ⟨p, 0, none⟩ = some a ∧ w.cell? ⟨p, 1, none⟩ = some b ∧ w.frozen? ⟨p, 0, none⟩ = false ∧ w.frozen? ⟨p, 1, none⟩ = false := by
  refine ⟨by rw [cell_of_row w p 0 _ _ _ h]; rfl, by rw [cell_of_row w p 1 _ _ _ h]; rfl, frozen_of_row w p 0 _ _ h, frozen_of_row w p 1 _ _ h⟩
theorem HeapAt.cells {w : World} {base p m : Nat} {v : Value} {L : List Nu} (h : HeapAt w base p v L m) : w.cell? ⟨p, 0, none⟩ = some v ∧ w.cell? ⟨p, 1, none⟩ = some (.int .i64 m) ∧ w.frozen? ⟨p, 0, none⟩ = false ∧ w.frozen? ⟨p, 1, none⟩ = false := pair_cell h.2.1
theorem nu_one (x : Nu) : ∀ u ∈ x.cs, u.oneCell' = true := by
  intro u hu
  simp only [Nu.cs, List.mem_cons, List.mem_nil_iff, or_false] at hu
  rcases hu with rfl | rfl | rfl | rfl | rfl | rfl | rfl <;> rfl
/-- An entry's seven cells. -/
theorem heapAt_entry {w : World} {base p g n cap m : Nat} {L : List Nu} (h : HeapAt w base p (.slice (some ⟨g, 0, none⟩) n cap) L m) (hn : n = L.length) (i : Nat) (hi : i < L.length) (x : Nu) (hx : L[i] = x) :
    w.cell? ⟨g, i * 7, none⟩ = some (.int .i64 x.e.id) ∧ w.cell? ⟨g, i * 7 + 1, none⟩ = some (.int .u64 x.e.hi) ∧ w.cell? ⟨g, i * 7 + 2, none⟩ = some (.int .u64 x.e.lo) ∧ w.cell? ⟨g, i * 7 + 3, none⟩ = some (.int .u64 x.e.den) ∧ w.cell? ⟨g, i * 7 + 4, none⟩ = some (.bool x.e.item) ∧ w.cell? ⟨g, i * 7 + 5, none⟩ = some (.int .i64 x.e.node) ∧ w.cell? ⟨g, i * 7 + 6, none⟩ = some (.int .i64 x.k) := by
  subst hn hx
  obtain ⟨h1, h2, h3, h4⟩ := h
  have cell : ∀ (c : Nat), c < 7 → w.cell? ⟨g, i * 7 + c, none⟩ = L[i].cs[c]? := fun c hc => by
    rw [World.ownsRow.cellAt h3 _ (by omega), flat_at L i c hi hc]
  exact ⟨cell 0 (by omega), cell 1 (by omega), cell 2 (by omega), cell 3 (by omega), cell 4 (by omega), cell 5 (by omega), cell 6 (by omega)⟩
/-- A heap with entries has a row. -/
theorem heapAt_row {w : World} {base p m : Nat} {v : Value} {L : List Nu} (h : HeapAt w base p v L m) (h0 : 0 < L.length) : ∃ g cap, v = .slice (some ⟨g, 0, none⟩) L.length cap ∧ base ≤ g ∧ g < w.heap.size ∧ L.length ≤ cap ∧ (cap : Int) ≤ 9223372036854775807 ∧ p ≠ g := by
  obtain ⟨h1, h2, h3, h4⟩ := h
  rcases h3.2 with ⟨-, h0'⟩ | ⟨g, cap, cur, rfl, hb, hg, hn, hc, hs, ht⟩
  · omega
  · exact ⟨g, cap, rfl, hb, (Array.getElem?_eq_some_iff.1 hg).1, hn, by unfold maxLen at hc; omega, fun e => h4 (by simp [Value.ownBlock, e])⟩
/-- The row's new slice is stored. -/
theorem heapAt_slice {w : World} {base p g n cap m : Nat} {o : Value} {L : List Nu} (h1 : w.ownsRow base 82 7 (.slice (some ⟨g, 0, none⟩) n cap) n (L.flatMap Nu.cs)) (hn : n = L.length) (hb : base ≤ p) (h2 : w.heap[p]? = some (.cells #[o, .int .i64 m] 64 (0, 0))) (hpg : p ≠ g) :
    HeapAt (w.setCell ⟨p, 0, none⟩ (.slice (some ⟨g, 0, none⟩) n cap)) base p (.slice (some ⟨g, 0, none⟩) n cap) L m ∧
      Fr w (w.setCell ⟨p, 0, none⟩ (.slice (some ⟨g, 0, none⟩) n cap)) p (.slice (some ⟨g, 0, none⟩) n cap) (.slice (some ⟨g, 0, none⟩) n cap) := by
  subst hn
  have ho : ∀ k, k ≠ p → (w.setCell ⟨p, 0, none⟩ (.slice (some ⟨g, 0, none⟩) L.length cap)).heap[k]? = w.heap[k]? := fun k hk => by
    rw [heap_setCell_other _ (⟨p, 0, none⟩ : Addr) k _ hk]
  have hs : (w.setCell ⟨p, 0, none⟩ (.slice (some ⟨g, 0, none⟩) L.length cap)).heap.size = w.heap.size := by simp
  refine ⟨⟨hb, pair_set h2, ?_, by simp [Value.ownBlock]; omega⟩, ⟨rfl, rfl, rfl, by rw [hs]; exact Nat.le_refl _⟩, fun k hk hkp _ => ho k hkp, fun k h => Or.inl h⟩
  refine h1.kept (row := some p) ⟨rfl, rfl, rfl, by rw [hs]; exact Nat.le_refl _, fun k hk hn => ho k (fun e => hn (by rw [e]))⟩ (Or.inr ?_)
  simp [Value.ownBlock]; omega
/-- How many were pushed is stored. -/
theorem heapAt_count {w : World} {base p m : Nat} {v : Value} {L : List Nu} (h : HeapAt w base p v L m) (m' : Nat) : HeapAt (w.setCell ⟨p, 1, none⟩ (.int .i64 m')) base p v L m' ∧ Fr w (w.setCell ⟨p, 1, none⟩ (.int .i64 m')) p v v := by
  obtain ⟨h1, h2, h3, h4⟩ := h
  have ho : ∀ k, k ≠ p → (w.setCell ⟨p, 1, none⟩ (.int .i64 m')).heap[k]? = w.heap[k]? := fun k hk => by
    rw [heap_setCell_other _ (⟨p, 1, none⟩ : Addr) k _ hk]
  have hs : (w.setCell ⟨p, 1, none⟩ (.int .i64 m')).heap.size = w.heap.size := by simp
  refine ⟨⟨h1, pair_set1 h2, ?_, h4⟩, ⟨rfl, rfl, rfl, by rw [hs]; exact Nat.le_refl _⟩, fun k hk hkp _ => ho k hkp, fun k h => Or.inl h⟩
  exact h3.kept (row := some p) ⟨rfl, rfl, rfl, by rw [hs]; exact Nat.le_refl _, fun k hk hn => ho k (fun e => hn (by rw [e]))⟩ (Or.inr h4)
theorem Fr.of_grown {a b : World} {p : Nat} {u v : Value} (h : Grown a b u v) : Fr a b p u v :=
  ⟨⟨h.1.os, h.1.tape, h.1.output, h.1.size⟩, fun k hk _ hn => h.1.block k hk hn, h.2⟩
theorem wraps_small {q : Nat} (h : q ≤ 100000) : wrap64 (q : Int) = (q : Int) ∧ IntKind.i64.wrap (q : Int) = (q : Int) := ⟨IntWalk.wrap64_in _ (by omega), IntWalk.i64_in _ (by omega)⟩
/-- What Push leaves behind its append. -/
def PushMid (base p : Nat) (v : Value) (L : List Nu) (m : Nat) (x : En) (W w' : World) : Prop :=
  ∃ g cap, HeapAt w' base p (.slice (some ⟨g, 0, none⟩) (L.length + 1) cap) (L ++ [⟨x, m⟩]) m ∧ Fr W w' p v (.slice (some ⟨g, 0, none⟩) (L.length + 1) cap)
/-- What Push leaves. -/
def PushAt (base p : Nat) (v : Value) (L : List Nu) (m : Nat) (x : En) (W w' : World) : Prop :=
  ∃ v' M, HeapAt w' base p v' M (m + 1) ∧ Fr W w' p v v' ∧ M.Perm (L ++ [⟨x, m⟩]) ∧ Hp.hp ltN M
theorem pushAt_gr {base p m : Nat} {v : Value} {L : List Nu} {x : En} {W a b : World} (h : PushAt base p v L m x W a) (g : Gr a b) : PushAt base p v L m x W b := by
  obtain ⟨v', M, h1, h2, h3, h4⟩ := h
  exact ⟨v', M, heapAt_gr h1 g, h2.trans (Fr.of_gr g), h3, h4⟩
set_option maxHeartbeats 8000000 in
set_option maxRecDepth 100000 in
theorem c_Push (L : List Nu) (x : En) (base p m : Nat) (v : Value) (hl : L.length ≤ 10000) (hm : m ≤ 100000) (W : World) (hb : base ≤ W.heap.size) (H : HeapAt W base p v L m) (hok : ∀ y ∈ L, y.e.ok) (hx : x.ok) (hhp : Hp.hp ltN L) :
    Calls Try.prog 22 #[.pointer (some ⟨p, 0, none⟩), .agg #[.int .i64 (x).id, .int .u64 (x).hi, .int .u64 (x).lo, .int .u64 (x).den, .bool (x).item, .int .i64 (x).node]] W fun e w' => e = .returned (.tuple #[]) ∧ PushAt base p v L m x W w' := by
  obtain ⟨i0, hi0, hz0, hz1, hz2⟩ := info_parts (P := Try.prog) (e := 82) (z := .agg #[.int .i64 0, .int .u64 0, .int .u64 0, .int .u64 0, .bool false, .int .i64 0, .int .i64 0]) (size := 7) (bytes := 56) (by kernel_rfl)
  have HI := Lib.hid hi0
  have HZ0 := Lib.hid hz0
  have HZ1 := Lib.hid hz1
  have HZ2 := Lib.hid hz2
  clear hi0 hz0 hz1 hz2
  have hpW : p < W.heap.size := (Array.getElem?_eq_some_iff.1 H.2.1).1
  obtain ⟨p0, p1, pf0, pf1⟩ := H.cells
  have HH := Lib.hid H
  have HOK := Lib.hid (And.intro hok (And.intro hx hhp))
  have wm : IntKind.i64.wrap ((m : Int) + 1) = ((m + 1 : Nat) : Int) := by rw [IntKind.wrap_i64]; omega
  clear H hok hx hhp
  go_enter Try.func22, Try.ntmps22
  go_upto_region 2 with fail
  go_wp2_with fail
  generalize hhw0 : W.alloc (.cells #[.int .i64 x.id, .int .u64 x.hi, .int .u64 x.lo, .int .u64 x.den, .bool x.item, .int .i64 x.node] 50) = w0
  have cw0_0_0 : w0.cell? ⟨p, 0, none⟩ = some (v) := by subst hhw0; go_simp
  have cw0_0_1 : w0.cell? ⟨p, 1, none⟩ = some (.int .i64 m) := by subst hhw0; go_simp
  have zw0_0 : p < w0.heap.size := World.block_lt_of_cell? _ _ cw0_0_0
  have cw0_1_0 : w0.cell? ⟨W.heap.size, 0, none⟩ = some (.int .i64 x.id) := by subst hhw0; go_simp
  have cw0_1_1 : w0.cell? ⟨W.heap.size, 1, none⟩ = some (.int .u64 x.hi) := by subst hhw0; go_simp
  have cw0_1_2 : w0.cell? ⟨W.heap.size, 2, none⟩ = some (.int .u64 x.lo) := by subst hhw0; go_simp
  have cw0_1_3 : w0.cell? ⟨W.heap.size, 3, none⟩ = some (.int .u64 x.den) := by subst hhw0; go_simp
  have cw0_1_4 : w0.cell? ⟨W.heap.size, 4, none⟩ = some (.bool x.item) := by subst hhw0; go_simp
  have cw0_1_5 : w0.cell? ⟨W.heap.size, 5, none⟩ = some (.int .i64 x.node) := by subst hhw0; go_simp
  have zw0_1 : W.heap.size < w0.heap.size := World.block_lt_of_cell? _ _ cw0_1_0
  have gw0 : Gr W w0 := by subst hhw0; go_grown
  clear hhw0
  clear p0 p1 pf0 pf1
  have OW := Lib.hid (heapAt_gr HH.out gw0).2.2.1
  have NP := Lib.hid (fun k (h : v.ownBlock = some k) (e : k = p) => HH.out.2.2.2 (by rw [h, e]))
  have hbw : base ≤ w0.heap.size := Nat.le_trans hb gw0.size
  have CN := Lib.hid (fun w => cells_new w #[.int .i64 x.id, .int .u64 x.hi, .int .u64 x.lo, .int .u64 x.den, .bool x.item, .int .i64 x.node, .int .i64 m] 82 (Nu.mk x m).cs rfl)
  have ON := Lib.hid (nu_one (Nu.mk x m))
  have PB := Lib.hid (fun o => ((World.grownBy_alloc w0 o none).block p (Nat.lt_of_lt_of_le hpW gw0.size) (by simp)).trans (heapAt_gr HH.out gw0).2.1)
  go_cut [4] from 7 to 21 (fun u wx => u = undef ∧ PushMid base p v L m x W wx)
  case first =>
   go_region_law (refine step_append_own2 rfl (.tmp 11) (.tmp 18) 62 rfl base 82 i0 (.agg #[.int .i64 0, .int .u64 0, .int .u64 0, .int .u64 0, .bool false, .int .i64 0, .int .i64 0]) 7 56 Try.underlying62 HI.out HZ0.out HZ1.out HZ2.out rfl (by decide) v L.length (L.flatMap Nu.cs) (by simp [Act.eval]) (World.ownsRow.drew (World.ownsRow.alloc OW.out _)) ⟨w0.heap.size, 0, none⟩ 1 1 (Nu.mk x m).cs (by simp [Act.eval]) rfl (CN.out w0) ON.out (by unfold maxLen; omega) (by omega) (by simp; omega) ?_; intro v1 w1 own1 gr1; obtain ⟨g1, cap1, rfl, hb1, hg1, hn1, hc1⟩ := row_form own1 (by omega); have bp := Grown.block gr1 (PB.out _) NP.out; have q0 := (pair_cell bp).1; have q1 := (pair_cell bp).2.2.1; have BP := Lib.hid bp; have O1 := Lib.hid own1; have G1 := Lib.hid gr1; clear own1 gr1 bp)
   all_goals
    have hg1 : p ≠ g1 := fun e => by
      rcases G1.out.at g1 rfl with h | h
      · exact NP.out _ h e.symm
      · simp at h; omega
    have F1 := Lib.hid (((Fr.of_gr (p := p) (v := v) gw0).trans (Fr.of_gr (p := p) (v := v) (show Gr w0 _ from ((Below.refl _ _).alloc (Nat.le_refl _) _).drew))).trans (Fr.of_grown G1.out))
    have O2 := Lib.hid (heapAt_slice (L := L ++ [Nu.mk x m]) (by simpa [List.flatMap_append, List.flatMap_cons] using O1.out) (by simp) HH.out.1 BP.out hg1)
    go_wp2_with fail
    go_meet
    exact ⟨rfl, _, _, O2.out.1, F1.out.trans O2.out.2⟩
  case rest =>
    obtain ⟨rfl, g, cap, hA, hF⟩ := hcut
    obtain ⟨n1, en⟩ : ∃ n1, n1 = L.length + 1 := ⟨_, rfl⟩
    obtain ⟨m1, em⟩ : ∃ m1, m1 = m + 1 := ⟨_, rfl⟩
    obtain ⟨j0, ej⟩ : ∃ j0, j0 = L.length := ⟨_, rfl⟩
    rw [← en] at hA hF
    have HA := Lib.hid hA
    have HF := Lib.hid hF
    obtain ⟨q0, q1, f0, f1⟩ := hA.cells
    have wm2 : IntKind.i64.wrap ((m : Int) + 1) = (m1 : Int) := by rw [IntKind.wrap_i64]; omega
    have wm3 : (m : Int) + 1 = (m1 : Int) := by omega
    have wl : (n1 : Int) - 1 = (j0 : Int) := by omega
    have hn1 : n1 ≤ 10001 := by omega
    obtain ⟨wl2, wl3⟩ := wraps_small (show j0 ≤ 100000 by omega)
    have WL := Lib.hid wl2
    have EN := Lib.hid (And.intro en (And.intro em ej))
    clear hA hF wm en em ej PB CN ON OW gw0 cw0_0_0 cw0_0_1 cw0_1_0 cw0_1_1 cw0_1_2 cw0_1_3 cw0_1_4 cw0_1_5 zw0_0 zw0_1 HI HZ0 HZ1 HZ2 NP HH hbw hpW
    have b3 := (pair_cell (pair_set1 (c := .int .i64 (m1 : Int)) HA.out.2.1)).1
    go_wp2_with fail
    obtain ⟨w3, hw3⟩ : ∃ w3, wc.setCell ⟨p, 1, none⟩ (.int .i64 (m1 : Int)) = w3 := ⟨_, rfl⟩
    have k1 := heapAt_count HA.out m1
    rw [hw3] at k1 ⊢
    have HA3 := Lib.hid k1.1
    have HF3 := Lib.hid (HF.out.trans k1.2)
    have hU : Hp.hpU ltN (L ++ [⟨x, m⟩]) j0 := by rw [EN.out.2.2]; exact Hp.hpU_push HOK.out.2.2 _
    have HU := Lib.hid hU
    clear k1 hw3 HA HF q0 q1 f0 f1 b3 hU wm2 wm3 wl wl2 wl3
    obtain ⟨s, es⟩ : ∃ s, s = Value.slice (some ⟨g, 0, none⟩) n1 cap := ⟨_, rfl⟩
    go_loopg [4] j0 (fun k i wr => ∃ (M : List Nu) (j : Nat), i = .int .i64 j ∧ k = j ∧ j < n1 ∧ HeapAt wr base p (.slice (some ⟨g, 0, none⟩) n1 cap) M m1 ∧ M.length = n1 ∧ Hp.hpU ltN M j ∧ M.Perm (L ++ [⟨x, m⟩]) ∧ Fr W wr p v (.slice (some ⟨g, 0, none⟩) n1 cap))
    case atStart =>
      have := EN.out
      exact ⟨_, j0, by first | rfl | rw [WL.out], rfl, by omega, HA3.out, by simp; omega, HU.out, List.Perm.refl _, HF3.out⟩
    case round =>
      obtain ⟨M, j, rfl, hk, hj, hA, hl', hU, hP, hF⟩ := hrel
      have hMok : ∀ y ∈ M, y.e.ok := fun y hy => by
        have := hP.mem_iff.1 hy
        simp at this
        rcases this with h | h
        · exact HOK.out.1 y h
        · subst h; exact HOK.out.2.1
      obtain ⟨q0, q1, f0, f1⟩ := hA.cells
      by_cases hj0 : j = 0
      · have t1 : decide ((0 : Int) < (j : Int)) = false := decide_eq_false (by omega)
        have t2 : decide (0 < j) = false := decide_eq_false (by omega)
        have HE := Lib.hid (show PushAt base p v L m x W wr from ⟨_, M, by rw [← EN.out.2.1]; exact hA, hF, hP, Hp.hpU_end hU (by omega) (Or.inl hj0)⟩)
        clear hA hU hP hF hMok q0 q1 f0 f1 hj0
        go_wp2_with fail
        refine wp_region_spread (by kernel_rfl) (by kernel_rfl) ?_
        try simp only [List.append]
        repeat (first | go_big_quiet_skip | (go_big_quiet_want; go_big_quiet_op; (first | go_big_quiet_on | (apply Exists.intro; refine ⟨fun _ => ?_, ?_⟩; (· fail); go_big_quiet_on))))
        refine wpQuiet_nil ?_
        intro wr hr
        obtain ⟨mr, rfl⟩ := hr
        go_wp2_with fail
        go_end0
        exact ⟨rfl, pushAt_gr HE.out (gr_spread _ _)⟩
      · obtain ⟨jm, ejm⟩ : ∃ jm, jm = j - 1 := ⟨_, rfl⟩
        obtain ⟨q, eq⟩ : ∃ q, q = (j - 1) / 2 := ⟨_, rfl⟩
        have hqM : q < M.length := by omega
        have hjM : j < M.length := by omega
        have hU' : Hp.hpU ltN M j := hU
        obtain ⟨x1, ex1⟩ : ∃ x1, x1 = M[j] := ⟨_, rfl⟩
        obtain ⟨x2, ex2⟩ : ∃ x2, x2 = M[q] := ⟨_, rfl⟩
        obtain ⟨a0, a1, a2, a3, a4, a5, a6⟩ := heapAt_entry hA hl'.symm j hjM x1 ex1.symm
        obtain ⟨b0, b1, b2, b3, b4, b5, b6⟩ := heapAt_entry hA hl'.symm q hqM x2 ex2.symm
        have A1 := Lib.hid (fun w => c_ahead x1 x2 (hMok x1 (by rw [ex1]; exact List.getElem_mem _)) (hMok x2 (by rw [ex2]; exact List.getElem_mem _)) w)
        have A2 := Lib.hid (fun w (h : HeapAt w base p (.slice (some ⟨g, 0, none⟩) n1 cap) M m1) => c_swap M j q hjM hqM base p m1 _ (by omega) w h)
        have t1 : decide ((0 : Int) < (j : Int)) = true := decide_eq_true (by omega)
        have t2 : decide (0 < j) = true := decide_eq_true (by omega)
        have d1 : (j : Int) - 1 = (jm : Int) := by omega
        have d2 : (jm : Int) / 2 = (q : Int) := by omega
        have d3 : (jm : Int).tdiv 2 = (q : Int) := by rw [Int.tdiv_eq_ediv_of_nonneg (by omega)]; omega
        have s1 : decide ((j : Int) < (n1 : Int)) = true := decide_eq_true (by omega)
        have s2 : decide ((q : Int) < (n1 : Int)) = true := decide_eq_true (by omega)
        have s3 : (q : Int) < (n1 : Int) := by omega
        have s4 : (j : Int) < (n1 : Int) := by omega
        have hqj : q < j := by omega
        have hqn : q < n1 := by omega
        have h0j : 0 < j := by omega
        have hm9 : q < gk := by omega
        have h5 : q ≤ 100000 := by omega
        have h6 : jm ≤ 100000 := by omega
        obtain ⟨d4, d5⟩ := wraps_small h5
        obtain ⟨d7, d6⟩ := wraps_small h6
        have d8 : IntKind.i64.wrap ((j : Int) - 1) = (jm : Int) := by rw [d1]; exact d6
        have HX := Lib.hid (And.intro hA (And.intro hU (And.intro hP (And.intro hF (And.intro ex1 (And.intro ex2 (And.intro eq ejm)))))))
        clear hA hU hU' hP hF hMok ex1 ex2 eq ejm hj0
        cases ht : ltN x1 x2 with
        | false =>
          rw [ht] at A1
          have HT := Lib.hid ht
          clear ht
          go_wp2_with fail
          refine wp_region_spread (by kernel_rfl) (by kernel_rfl) ?_
          try simp only [List.append]
          repeat (first | go_big_quiet_skip | (go_big_quiet_want; go_big_quiet_op; (first | go_big_quiet_on | (apply Exists.intro; refine ⟨fun _ => ?_, ?_⟩; (· (first | (go_at_call 36; first | ((with_reducible refine ((A1.out _)).mono ?_); rintro e w' ⟨rfl, hg⟩; exact ⟨rfl, spread_gr hg⟩)))); go_big_quiet_on))))
          refine wpQuiet_nil ?_
          intro wr hr
          obtain ⟨mr, rfl⟩ := hr
          go_wp2_with fail
          go_end0
          obtain ⟨hA, hU, hP, hF, ex1, ex2, eq, ejm⟩ := HX.out
          refine ⟨rfl, pushAt_gr ⟨_, M, by rw [← EN.out.2.1]; exact hA, hF, hP, Hp.hpU_end hU hjM (Or.inr ?_)⟩ (gr_spread _ _)⟩
          have := HT.out
          subst eq
          rw [← this, ex1, ex2]
        | true =>
          rw [ht] at A1
          have HT := Lib.hid ht
          clear ht
          go_wp2_with fail
          refine wp_region_spread (by kernel_rfl) (by kernel_rfl) ?_
          try simp only [List.append]
          repeat (first | go_big_quiet_skip | (go_big_quiet_want; go_big_quiet_op; (first | go_big_quiet_on | (apply Exists.intro; refine ⟨fun _ => ?_, ?_⟩; (· (first | (go_at_call 36; first | ((with_reducible refine ((A1.out _)).mono ?_); rintro e w' ⟨rfl, hg⟩; exact ⟨rfl, spread_gr hg⟩)))); go_big_quiet_on))))
          refine wpQuiet_nil ?_
          intro wr hr
          obtain ⟨mr, rfl⟩ := hr
          go_wp2_with fail
          go_at_call 37
          (with_reducible refine (A2.out _ (heapAt_gr HX.out.1 (gr_spread _ _))).mono ?_)
          rintro e w4 ⟨rfl, hs1, hs2⟩
          have HS := Lib.hid (And.intro hs1 hs2)
          clear hs1 hs2
          go_wp2_with fail
          go_roundg q
          case measure => exact hm9
          case rel =>
            obtain ⟨hA, hU, hP, hF, ex1, ex2, eq, ejm⟩ := HX.out
            refine ⟨_, q, rfl, rfl, hqn, HS.out.1, by rw [Hp.sw_len]; exact hl', ?_, (Hp.sw_perm _ _ _ _ _).trans hP, (hF.trans (Fr.of_gr (gr_spread _ _))).trans HS.out.2⟩
            have := HT.out
            subst eq
            exact Hp.hpU_step ltN_ord hU hjM h0j (by rw [← this, ex1, ex2])
end Go.Proofs.Ytldlpbfncgcimaa
