/- the document's page: Delete, Set, NewPage, Slots -/
import Derived.Test.YtilijbplfobneaaDoorMl
namespace Go.Proofs.YtilijbplfobneaaDoor
set_option linter.unusedVariables false
set_option linter.unusedSimpArgs false
open Go.ChangeShapes Go.WideShapes Go.ChangeAt Go.RowKit

section
variable {base q : Nat} {Z : Nat → Prop} {kd id : Int} {S : List Sl} {bv hv : Value} {xs : List Value}
theorem r_del_none (n : Int) (hh : hasS S n = false) (W : World) (h : RefP base W q Z kd id S bv hv xs) :
    Calls Tryd.prog 17 #[.pointer (some ⟨q, 0, none⟩), .int .i64 n] W fun e w' => e = .returned (.int .i64 15) ∧ Gr W w' := by
  have A1 := fun w (g : Gr W w) => r_is n w (refP_gr h g)
  rw [hh] at A1
  clear h hh
  have H1 := Lib.hid A1
  clear A1
  go_enter Tryd.func17, Tryd.ntmps17
  go_wp2_with fail
  go_at_call 50
  refine (H1.out _ (by go_grown)).mono ?_
  rintro e w1 ⟨rfl, g1⟩
  go_wp2_with fail
  go_ret
  exact ⟨rfl, g1⟩
theorem set_getD (S : List Sl) (n : Nat) (o : Sl) (hn : n < S.length) : (fun j => if j = n then o else S.getD j none) = fun j => (S.set n o).getD j none := by
  funext j
  rw [getD_set]
  by_cases e : j = n
  · rw [if_pos e, if_pos ⟨e.symm, by omega⟩]
  · rw [if_neg e, if_neg (fun h => e h.1.symm)]
theorem set_hasV (S : List Sl) (n : Nat) (o : Sl) : (hasV S).set n (.bool o.isSome) = hasV (S.set n o) := by
  unfold hasV
  rw [List.map_set]
set_option maxHeartbeats 1000000 in
set_option maxRecDepth 100000 in
theorem r_del (n : Nat) (hh : (S.getD n none).isSome = true) (W : World) (h : RefP base W q Z kd id S bv hv xs) (hz : ∀ k, Z k → k < W.heap.size) (hb : base ≤ W.heap.size) :
    Calls Tryd.prog 17 #[.pointer (some ⟨q, 0, none⟩), .int .i64 n] W fun e w' => e = .returned (.int .i64 0) ∧ RefTo base W q Z kd id (delS S n) w' := by
  have hlt := has_lt hh
  have A1 := fun w (g : Gr W w) => r_is (n : Int) w (refP_gr h g)
  rw [hasS_nat, hh] at A1
  have h60 := h.le
  have R0 := refR_of h hz hb
  obtain ⟨D, E, ha, ba, hc, bc, rfl, rfl, hp, l1, l2, m1, m2, -⟩ := refP_rows h
  obtain ⟨rfl, rfl, -, -⟩ := hp (by omega)
  have u2 : (n : Int) < (S.length : Int) := by omega
  have u3 : (0 : Int) ≤ (n : Int) := by omega
  have HR0 := Lib.hid R0
  have HL := Lib.hid (And.intro hlt h60)
  clear h hh hp R0
  obtain ⟨len, hlen⟩ : ∃ len, len = S.length := ⟨_, rfl⟩
  have HLE := Lib.hid hlen
  rw [← hlen] at u2 HR0 l1 l2 HL
  clear hlen hlt h60
  have H1 := Lib.hid A1
  clear A1
  go_enter Tryd.func17, Tryd.ntmps17
  go_wp2_with fail
  go_at_call 50
  refine (H1.out _ (by go_grown)).mono ?_
  rintro e w1 ⟨rfl, g1⟩
  have R1 := refR_gr HR0.out g1
  have R2 := refR_setH (k := n) (.bool false) R1
  have R3 := refR_setB (k := n) (s := none) (x := .slice none 0 0) HL.out.1 rfl R2
  obtain ⟨c2, c3, f2, f3⟩ := refR_cells R1
  obtain ⟨d2, d3, -, -⟩ := refR_cells R2
  have x1 := R1.has.cellAt n (by have := HL.out.1; omega)
  have x2 := R1.has.frozenAt n
  have sD := (World.ownsRow.lt R1.has D rfl).2
  rw [hasV_get S n (by rw [← HLE.out]; exact HL.out.1)] at x1
  have y1 := R2.row.cellAt n (by have := HL.out.1; omega)
  have y2 := R2.row.frozenAt n
  have sE := (World.ownsRow.lt R2.row E rfl).2
  obtain ⟨v0, ev, rv⟩ := R2.sl n HL.out.1
  rw [ev] at y1
  obtain ⟨va, vc, rfl⟩ := rSl_val rv
  have sq := refR_q R1
  have sq2 := refR_q R2
  have HR3 := Lib.hid R3
  clear R1 R2 R3 ev rv g1
  go_upto_region 4 with fail
  generalize w1.setCell ⟨D, n, none⟩ (.bool false) = w2 at *
  go_upto_region 5 with fail
  generalize w2.setCell ⟨E, n, none⟩ (.slice none 0 0) = w3 at HR3 ⊢
  have AT := r_trim (S.set n none) len D E hc bc (by rw [List.length_set, HLE.out]) HL.out.2 w3 (by
    have h := HR3.out
    rw [HLE.out, set_getD S n none (by rw [← HLE.out]; exact HL.out.1), show Value.bool false = Value.bool (none : Sl).isSome from rfl, set_hasV, ← HLE.out] at h
    exact h)
  have HAT := Lib.hid AT
  clear AT HR3 c2 c3 f2 f3 d2 d3 x1 x2 sD y1 y2 sE sq sq2
  go_wp2_with fail
  go_at_call 51
  refine (HAT.out).mono ?_
  rintro e w4 ⟨rfl, h4⟩
  have H4 := Lib.hid h4
  clear h4
  go_wp2_with fail
  go_ret
  exact ⟨rfl, by unfold delS; rw [← HLE.out]; exact H4.out⟩
theorem r_new (kd id : Int) (h : 0 ≤ kd ∧ kd ≤ 255 ∧ 0 ≤ id ∧ id ≤ 4294967295) (W : World) (hz : ∀ k, Z k → k < W.heap.size) (hb : base ≤ W.heap.size) : Calls Tryd.prog 8 #[.int .i64 kd, .int .i64 id] W fun e w' => ∃ q, e = .returned (.tuple #[.pointer (some ⟨q, 0, none⟩), .int .i64 0]) ∧ RefP base w' q Z kd id [] (.slice none 0 0) (.slice none 0 0) [] ∧ Gr W w' := by
  obtain ⟨h1, h2, h3, h4⟩ := h
  have t1 : decide (kd < 0) = false := decide_eq_false (by omega)
  have t2 : decide ((255 : Int) < kd) = false := decide_eq_false (by omega)
  have t3 : decide (id < 0) = false := decide_eq_false (by omega)
  have t4 : decide ((4294967295 : Int) < id) = false := decide_eq_false (by omega)
  go_enter Tryd.func8, Tryd.ntmps8
  go_wp2_with fail
  go_ret2
  exact ⟨W.heap.size, rfl, ⟨heap_alloc_new W _, by simp, World.ownsRow_nil _ _ _ _, World.ownsRow_nil _ _ _ _, fun j hj => absurd hj (by simp), ⟨fun hk => by have := hz _ hk; omega, hb⟩, fun k hk => (by cases hk), fun k hk => (by cases hk)⟩, by go_grown⟩
theorem r_new_no (kd id : Int) (h : ¬ (0 ≤ kd ∧ kd ≤ 255 ∧ 0 ≤ id ∧ id ≤ 4294967295)) (W : World) : Calls Tryd.prog 8 #[.int .i64 kd, .int .i64 id] W fun e w' => e = .returned (.tuple #[.pointer none, .int .i64 1]) ∧ Gr W w' := by
  have hq : kd < 0 ∨ (¬ kd < 0 ∧ 255 < kd) ∨ (¬ kd < 0 ∧ ¬ 255 < kd ∧ id < 0) ∨ (¬ kd < 0 ∧ ¬ 255 < kd ∧ ¬ id < 0 ∧ 4294967295 < id) := by omega
  clear h
  rcases hq with a1 | ⟨a1, a2⟩ | ⟨a1, a2, a3⟩ | ⟨a1, a2, a3, a4⟩
  · have t1 : decide (kd < 0) = true := decide_eq_true a1
    go_enter Tryd.func8, Tryd.ntmps8
    go_wp2_with fail
    go_ret2
    exact ⟨rfl, by go_grown⟩
  · have t1 : decide (kd < 0) = false := decide_eq_false a1
    have t2 : decide (255 < kd) = true := decide_eq_true a2
    go_enter Tryd.func8, Tryd.ntmps8
    go_wp2_with fail
    go_ret2
    exact ⟨rfl, by go_grown⟩
  · have t1 : decide (kd < 0) = false := decide_eq_false a1
    have t2 : decide (255 < kd) = false := decide_eq_false a2
    have t3 : decide (id < 0) = true := decide_eq_true a3
    go_enter Tryd.func8, Tryd.ntmps8
    go_wp2_with fail
    go_ret2
    exact ⟨rfl, by go_grown⟩
  · have t1 : decide (kd < 0) = false := decide_eq_false a1
    have t2 : decide (255 < kd) = false := decide_eq_false a2
    have t3 : decide (id < 0) = false := decide_eq_false a3
    have t4 : decide (4294967295 < id) = true := decide_eq_true a4
    go_enter Tryd.func8, Tryd.ntmps8
    go_wp2_with fail
    go_ret2
    exact ⟨rfl, by go_grown⟩
set_option maxHeartbeats 2000000 in
set_option maxRecDepth 100000 in
theorem r_slots (W : World) (h : RefP base W q Z kd id S bv hv xs) : Calls Tryd.prog 62 #[.pointer (some ⟨q, 0, none⟩)] W fun e w' => ∃ ad c, e = .returned (.slice ad (idxT S S.length).length c) ∧ w'.ownsRow W.heap.size 3 1 (.slice ad (idxT S S.length).length c) (idxT S S.length).length (intL (idxT S S.length)) ∧ Gr W w' := by
  obtain ⟨i0, hi0, hz0, hz1, hz2⟩ := info_parts (P := Tryd.prog) (e := 3) (z := .int .i64 0) (size := 1) (bytes := 8) (by kernel_rfl)
  have HI := Lib.hid (And.intro hi0 (And.intro hz0 (And.intro hz1 hz2)))
  clear hi0 hz0 hz1 hz2
  have h60 := h.le
  obtain ⟨sq, c0, c1, c2, c3, f2, f3⟩ := refP_cells h
  obtain ⟨D, E, ha, ba, hc, bc, rfl, rfl, hp, l1, l2, m1, m2, hcc⟩ := refP_rows h
  have hc' : ∀ j, j < S.length → W.cell? ⟨D, j, none⟩ = some (.bool (S.getD j none).isSome) := fun j hj => (hcc j hj).1
  have hp2 : 0 < S.length → ha = some ⟨D, 0, none⟩ := fun h => (hp h).1
  have hT : ∀ i, idxT S (i + 1) = idxT S i ++ (if (S.getD i none).isSome then [i] else []) := fun i => rfl
  have hT0 : idxT S 0 = [] := rfl
  have hTl := idxT_le S
  generalize idxT S = T at hT hT0 hTl ⊢
  clear hcc h hp
  generalize hq : (fun j => (S.getD j none).isSome) = qq at *
  have hqe : ∀ j, (S.getD j none).isSome = qq j := fun j => by rw [← hq]
  simp only [hqe] at hc' hT
  clear hq hqe
  generalize S.length = n at *
  have HC := Lib.hid hc'
  have HT := Lib.hid hT
  have HT0 := Lib.hid hT0
  have HTl := Lib.hid hTl
  clear hc' hT hT0 hTl c0 c1 c2 f2 f3
  go_enter Tryd.func62, Tryd.ntmps62
  go_wp2_with fail
  go_loopg [3, 4] n (fun k x y wr => ∃ (i : Nat) (ad : Option Addr) (c : Nat), x = .slice ad (T i).length c ∧ y = .int .i64 i ∧ i ≤ n ∧ k = n - i ∧ Hid (wr.ownsRow W.heap.size 3 1 (.slice ad (T i).length c) (T i).length (intL (T i))) ∧ Gr W wr)
  case atStart => exact ⟨0, none, 0, by rw [HT0.out]; rfl, rfl, by omega, by omega, Lib.hid (by rw [HT0.out]; exact World.ownsRow_nil _ _ _ _), by go_grown⟩
  case round =>
    obtain ⟨i, ad, c, rfl, rfl, hi, hk, HR, hg⟩ := hrel
    have q3 := cell_gr hg c3
    have s3 := World.block_lt_of_cell? _ _ q3
    by_cases hin : i < n
    · have ti : decide ((i : Int) < (n : Int)) = true := decide_eq_true (by omega)
      have ti2 : decide (i < n) = true := decide_eq_true hin
      have ti3 : (i : Int) < (n : Int) := by omega
      have ti4 : (i : Int) < (hc : Int) := by omega
      obtain rfl := hp2 (by omega)
      have k0 := HC.out i hin
      have q0 := cell_gr hg k0
      have sD := World.block_lt_of_cell? _ _ q0
      have hT1 := HT.out i
      have hle := HTl.out i
      have gs := hg.size
      generalize qq i = b at q0 hT1
      clear k0
      cases b with
      | false =>
        have e : T (i + 1) = T i := by rw [hT1]; simp
        clear hT1
        go_wp2_with fail
        go_roundg (n - (i + 1))
        case measure => omega
        case rel => exact ⟨i + 1, ad, c, by rw [e], by go_num, by omega, by omega, Lib.hid (by rw [e]; exact rowOwn_gr HR.out (by go_grown)), by go_grown⟩
      | true =>
        have e : T (i + 1) = T i ++ [i] := by rw [hT1]; simp
        have el : (T (i + 1)).length = (T i).length + 1 := by rw [e]; simp
        have ev : intL (T (i + 1)) = intL (T i) ++ [.int .i64 i] := by rw [e]; simp [intL]
        have HE := Lib.hid (And.intro el ev)
        clear hT1 e el ev
        generalize hl : (T i).length = l at *
        go_wp2_with (at_builtin; (refine wpList_append_own2 _ rfl (.tmp 21) (.tmp 23) 100 rfl W.heap.size 3 i0 (.int .i64 0) 1 8 Tryd.underlying100 HI.out.1 HI.out.2.1 HI.out.2.2.1 HI.out.2.2.2 rfl (by decide) (.slice ad l c) l (intL (T i)) rfl (rowOwn_gr HR.out (by go_grown)) ⟨wr.heap.size, 0, none⟩ 1 1 [.int .i64 i] rfl rfl (news1 (by go_simp)) (by intro u hu; simp only [List.mem_cons, List.not_mem_nil, or_false] at hu; subst hu; rfl) (by unfold maxLen; omega) (by omega) (by simp; omega) ?_); intro x2 w2 o2 g2; (have G2 : Gr W w2 := g2.gr (by go_grown) (fun k hk => (World.ownsRow.lt HR.out k hk).1)); (obtain ⟨gx, cx, rfl, -⟩ := row_form o2 (by omega)); (have HO2 := Lib.hid o2); clear o2)
        go_roundg (n - (i + 1))
        case measure => omega
        case rel => exact ⟨i + 1, some ⟨gx, 0, none⟩, cx, by rw [HE.out.1], by go_num, by omega, by omega, Lib.hid (by rw [HE.out.1, HE.out.2]; exact HO2.out), G2⟩
    · obtain rfl : i = n := by omega
      have ti : decide ((i : Int) < (i : Int)) = false := decide_eq_false (by omega)
      have ti3 : ¬ (i : Int) < (i : Int) := by omega
      go_wp2_with fail
      go_ret
      exact ⟨ad, c, rfl, HR.out, hg⟩
end
end Go.Proofs.YtilijbplfobneaaDoor
