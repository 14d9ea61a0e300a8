/- pool: New, Blank, and a page that is read for the first time -/
import Derived.Test.YtbjckoelgpbaaaaGreatDoorQa
import Derived.Test.YtbjckoelgpbaaaaGreatDoorNd
namespace Go.Proofs.YtbjckoelgpbaaaaGreatDoor
set_option linter.unusedVariables false
set_option linter.unusedSimpArgs false
open Go.ChangeShapes Go.WideShapes Go.ChangeAt Go.RowKit Go.Maps

section
variable {p g bm : Nat} {M : Option Nat} {d : Dk}
theorem pl_new (hn : d.n = 64) (W : World) (H : DiskS W p g bm M d) :
    Calls Tryz.prog 7 #[.pointer (some ⟨p, 0, none⟩), .int .i64 4, .int .i64 1] W fun e w' => ∃ q m, e = .returned (.tuple #[.pointer (some ⟨q, 0, none⟩), .nilIface]) ∧ W.heap.size ≤ q ∧ W.heap.size ≤ m ∧ q ≠ m ∧
      w'.heap[q]? = some (.cells #[.pointer (some ⟨p, 0, none⟩), .int .i64 4, .int .i64 1, .int .i64 0, .map (some m), .int .i64 0, .int .i64 0, .int .i64 0, .int .i64 0] 69 (0, 0)) ∧ w'.ownsMap Tryz.prog 3 heldE m 0 (.map []) ∧ Gr W w' := by
  have hmm := @run_makeMap Tryz.prog
  have AL0 : ∀ w, Gr W w → Calls Tryz.prog 35 #[.pointer (some ⟨p, 0, none⟩)] w fun e w' => e = .returned (.int .i64 64) ∧ Gr w w' := fun w G => by
    have := d_len w (diskS_gr H G)
    rw [hn] at this
    exact this
  have AL := Lib.hid AL0
  clear AL0 H hn
  go_enter Tryz.func7, Tryz.ntmps7
  go_wp2_with fail
  go_at_call 35
  refine (AL.out _ (Below.refl _ _)).mono ?_
  rintro e w1 ⟨rfl, g1⟩
  have G1 := Lib.hid g1
  have s1 := g1.size
  have hnw := heap_alloc_new (w1.alloc (.map #[] 0)) (.cells #[.pointer (some ⟨p, 0, none⟩), .int .i64 4, .int .i64 1, .int .i64 0, .map (some w1.heap.size), .int .i64 0, .int .i64 0, .int .i64 0, .int .i64 0] 69)
  have HN := Lib.hid hnw
  clear g1 hnw
  go_wp2_with fail
  go_ret2
  refine ⟨_, w1.heap.size, rfl, by first | omega | (simp; omega), s1, by first | omega | simp, ?_, (World.ownsMap_made w1 Tryz.prog 3 heldE).alloc _, Gr.trans G1.out (by go_grown)⟩
  have := HN.out
  simpa using this
end
theorem c_BlankZ {n : Nat} {v : Value} (W : World) (h : Row W v (List.replicate n 0)) (hn : n ≤ 1000000) : Calls Tryz.prog 59 #[v] W fun e w' => e = .returned (.bool true) ∧ Gr W w' := by
  obtain ⟨ad, cap, B, off, rfl, h1, h2, h3, h4⟩ := h
  have hz : ∀ i, i < n → W.cell? ⟨B, off + i, none⟩ = some (.int .u8 0) := fun i hi => by
    have := h4 i (by rw [List.length_replicate]; exact hi)
    rw [List.getElem_replicate] at this
    exact this
  clear h4
  rw [List.length_replicate] at h1 h3 ⊢
  have HX := Lib.hid (And.intro h3 hz)
  clear h3 hz
  go_enter Tryz.func59, Tryz.ntmps59
  go_wp2_with fail
  go_loopg [7] n (fun j x wq => ∃ i : Nat, x = .int .i64 i ∧ i ≤ n ∧ j = n - i ∧ Gr W wq)
  case atStart => exact ⟨0, rfl, by omega, by omega, by go_grown⟩
  case round =>
    obtain ⟨i, rfl, hi, hj, hg⟩ := hrel
    by_cases hin : i < n
    · have ti : decide ((i : Int) < (n : Int)) = true := decide_eq_true (by omega)
      have ti2 : decide (i < n) = true := decide_eq_true hin
      have ti3 : (i : Int) < (n : Int) := by omega
      have tn1 : (i : Int) < (cap : Int) := by omega
      have t0 : (0 : Int) ≤ (i : Int) := by omega
      obtain rfl := HX.out.1 (by omega)
      have c0 := cell_gr hg (HX.out.2 i hin)
      have zB := World.block_lt_of_cell? _ _ c0
      go_wp2_with fail
      go_roundg (n - (i + 1))
      case measure => omega
      case rel => exact ⟨i + 1, by go_num, by omega, rfl, hg⟩
    · obtain rfl : i = n := by omega
      have ti : decide ((i : Int) < (i : Int)) = false := decide_eq_false (by omega)
      have ti3 : ¬ (i : Int) < (i : Int) := by omega
      go_wp2_with fail
      go_ret
      exact ⟨rfl, hg⟩
theorem own_formQ {w : World} {b n size : Nat} {e : TypeId} {v : Value} {xs : List Value} (h : w.ownsRow b e size v n xs) : ∃ ad cap, v = .slice ad n cap := by
  rcases h.2 with ⟨e, h0⟩ | ⟨g, cap, cur, e, _⟩
  · exact ⟨none, 0, by rw [e, h0]⟩
  · exact ⟨_, _, e⟩
theorem wpList_make_0 (w : World) {ops : Array Oper} {rest : List Oper} {o : Oper} {a : Act} {Q : Exit → Act → World → Prop}
    (hg : o.guard = none) (l c : Operand) (hop : o.op = Op.makeSlice 109 l c) (i : TypeInfo) (h2 : Tryz.prog.info? 5 = some i) (h3 : i.zero = some (.int .u8 0)) (h4 : i.size = 1) (h5 : i.bytes = 1)
    (n base : Nat) (hb : base ≤ w.heap.size) (hl : a.eval l = .int .i64 0) (hc : a.eval c = .int .i64 (n : Int)) (hn : n ≤ 1000000)
    (hK : ∀ w', w'.ownsRow base 5 1 (.slice (some ⟨w.heap.size, 0, none⟩) 0 n) 0 [] → Gr w w' → wpList Tryz.prog ops Q rest (a.put o.dst (.slice (some ⟨w.heap.size, 0, none⟩) 0 n)) w') :
    wpList Tryz.prog ops Q (o :: rest) a w := by
  have hrun := run_make (P := Tryz.prog) w 109 5 i (.int .u8 0) Tryz.underlying109 h2 h3 .i64 .i64 0 (n : Int) (by omega) (by omega) (by rw [h5]; omega) (by omega)
  rw [Int.toNat_natCast, h4, Nat.mul_one] at hrun
  refine wpList_plain hg fun K hK' => ?_
  unfold Oper.wp
  simp [execOp, hop, hl, hc, hrun, Result.andThen]
  refine hK' _ _ (hK _ ?_ ((Below.refl _ _).alloc (Nat.le_refl _) _))
  exact World.ownsRow_made (base := base) (e := 5) (size := 1) w _ n hb (by unfold maxLen; omega) (by
    have := size_madeCells (z := (Value.int .u8 0).cells) (n := n)
    rw [Nat.mul_one]
    exact this)
section
variable {p g bm : Nat} {M : Option Nat} {d : Dk}
set_option maxHeartbeats 2000000 in
set_option maxRecDepth 100000 in
theorem pl_read (P : Nat) (hn : 8 ≤ d.n) (hz : ∀ k, k < 8 → d.read k = List.replicate 64 0) (W : World) (H : DiskS W p g bm M d) (c0 : W.cell? ⟨P, 0, none⟩ = some (.pointer (some ⟨p, 0, none⟩))) :
    Calls Tryz.prog 34 #[.pointer (some ⟨P, 0, none⟩), .int .i64 0] W fun e w' => ∃ B, e = .returned (.tuple #[.pointer (some ⟨B, 0, none⟩), .nilIface]) ∧ W.heap.size ≤ B ∧ PageS w' B none 0 0 [] ∧ Gr W w' := by
  obtain ⟨i0, hi0, hz0, hz1, hz2⟩ := info_parts (P := Tryz.prog) (e := 5) (z := .int .u8 0) (size := 1) (bytes := 1) (by kernel_rfl)
  have HI := Lib.hid (And.intro hi0 (And.intro hz0 (And.intro hz1 hz2)))
  clear hi0 hz0 hz1 hz2
  have AR0 : ∀ (k : Nat), k < 8 → ∀ w, Gr W w → Calls Tryz.prog 58 #[.pointer (some ⟨p, 0, none⟩), .int .i64 (k : Nat)] w fun e w' => ∃ ad c, e = .returned (.tuple #[.slice ad 64 c, .nilIface]) ∧ Row w' (.slice ad 64 c) (List.replicate 64 0) ∧ Gr w w' := fun k hk w G => by
    have := d_read k (by omega) w (diskS_gr H G)
    rw [hz k hk] at this
    refine this.mono ?_
    rintro e w' ⟨ad, c, rfl, o, g⟩
    exact ⟨ad, c, rfl, row_own o, g⟩
  have AR := Lib.hid AR0
  have HC0 := Lib.hid c0
  clear AR0 H hz hn c0
  go_enter Tryz.func34, Tryz.ntmps34
  go_wp2_with (at_make; (refine wpList_make_0 _ rfl _ _ rfl i0 HI.out.1 HI.out.2.1 HI.out.2.2.1 HI.out.2.2.2 512 W.heap.size (Nat.le_refl _) rfl rfl (by omega) ?_); intro w1 o1 g1; (have HO1 := Lib.hid (show w1.ownsRow W.heap.size 5 1 (.slice (some ⟨W.heap.size, 0, none⟩) 0 512) (0 * 64) ((List.replicate (0 * 64) 0).map bv) from o1)); (have HG1 := Lib.hid g1); clear o1 g1)
  go_loopg [6, 13] 8 (fun j b x wq => ∃ i : Nat, x = .int .i64 i ∧ i ≤ 8 ∧ j = 8 - i ∧ Hid (wq.ownsRow W.heap.size 5 1 b (i * 64) ((List.replicate (i * 64) 0).map bv)) ∧ Hid (Gr W wq))
  case atStart => exact ⟨0, rfl, by omega, by omega, HO1, HG1⟩
  case round =>
    obtain ⟨i, rfl, hi, hj, HO, HG⟩ := hrel
    have sW := HG.out.size
    by_cases hin : i < 8
    · have ti : decide ((i : Int) < 8) = true := decide_eq_true (by omega)
      have ti2 : decide (i < 8) = true := decide_eq_true hin
      have ti3 : (i : Int) < 8 := by omega
      have e1 : wrap64 (i : Int) = (i : Int) := wr_small (by omega)
      have e2 : IntKind.i64.wrap (i : Int) = (i : Int) := wk_small (by omega)
      have c0 := cell_gr HG.out HC0.out
      have zP := World.block_lt_of_cell? _ _ c0
      have AK := Lib.hid (AR.out i hin wr HG.out)
      obtain ⟨sa, sc, hu6⟩ := own_formQ HO.out
      subst hu6
      go_wp2_with fail
      go_at_call 58
      refine (AK.out).mono ?_
      rintro e w2 ⟨ad, c, rfl, hR, g2⟩
      obtain ⟨ad', cap', B, off, ee, h1, h2, h3, h4⟩ := hR
      have h5 : ∀ j, j < 64 → w2.cell? ⟨B, off + j, none⟩ = some (.int .u8 0) := fun j hj => by
        have := h4 j (by rw [List.length_replicate]; exact hj)
        rw [List.getElem_replicate] at this
        exact this
      clear h4
      rw [List.length_replicate] at ee h1 h3
      simp only [Value.slice.injEq, true_and] at ee
      obtain ⟨rfl, rfl⟩ := ee
      have hnews : ∀ j u, ((List.replicate 64 0).map bv)[j]? = some u → w2.cell? ⟨B, off + j, none⟩ = some u := fun j u hu => by
        have hj : j < 64 := by simpa using (List.getElem?_eq_some_iff.1 hu).1
        rw [h5 j hj]
        rw [List.getElem?_map, List.getElem?_replicate, if_pos hj] at hu
        exact hu
      have HR := Lib.hid (And.intro h3 hnews)
      have HO2 := Lib.hid (rowOwn_gr HO.out g2)
      have HG2 := Lib.hid (Gr.trans HG.out g2)
      have s2 := HG2.out.size
      clear h3 h5 hnews g2 AK c0 zP
      go_wp2_with (at_builtin; go_loud ((refine wpList_append_row rfl (.tmp 31) (.tmp 32) 109 rfl W.heap.size 5 i0 (.int .u8 0) 1 Tryz.underlying109 HI.out.1 HI.out.2.1 HI.out.2.2.1 HI.out.2.2.2 rfl (.slice sa (i * 64) sc) (i * 64) ((List.replicate (i * 64) 0).map bv) rfl HO2.out ad 64 c B off ((List.replicate 64 0).map bv) rfl (fun h => HR.out.1 h) (by simp) HR.out.2 (by intro u hu; simp at hu; rw [hu]; rfl) (by unfold maxLen; omega) (by omega) s2 ?_); intro x5 w5 o5 g5; (have G5 : Gr W w5 := g5.gr HG2.out (fun k hk => (World.ownsRow.lt HO2.out k hk).1)); (have HO5 : Hid (w5.ownsRow W.heap.size 5 1 x5 ((i + 1) * 64) ((List.replicate ((i + 1) * 64) 0).map bv)) := Lib.hid (by rw [Nat.add_mul, Nat.one_mul, ← List.replicate_append_replicate, List.map_append]; exact o5)); (have HG5 := Lib.hid G5); clear o5 g5 G5))
      go_roundg (8 - (i + 1))
      case measure => omega
      case rel => exact ⟨i + 1, by go_num, by omega, rfl, HO5, HG5⟩
    · obtain rfl : i = 8 := by omega
      have ti : decide (((8 : Nat) : Int) < 8) = false := by decide
      have HB := Lib.hid (c_BlankZ (n := 8 * 64) wr (row_own (show Own wr W.heap.size _ (List.replicate (8 * 64) 0) from (by show wr.ownsRow _ _ _ _ (List.replicate (8 * 64) 0).length _; rw [List.length_replicate]; exact HO.out))) (by decide))
      go_wp2_with fail
      go_at_call 59
      refine (HB.out).mono ?_
      rintro e w2 ⟨rfl, g2⟩
      have HG2 := Lib.hid (Gr.trans HG.out g2)
      have s2 := HG2.out.size
      clear g2
      go_wp2_with fail
      go_at_call 60
      refine (p_newS 0 0 (by decide) _).mono ?_
      rintro e w3 ⟨B, rfl, hB, hp, g3⟩
      have HP := Lib.hid hp
      clear hp
      go_wp2_with fail
      go_ret2
      exact ⟨B, rfl, Nat.le_trans s2 hB, HP.out, Gr.trans HG2.out g3⟩
end
end Go.Proofs.YtbjckoelgpbaaaaGreatDoor
