/- FrameLimit -/
import Derived.Test.YtldlpbfncgcimaaDoorFk
import Derived.Laws.OwnMore
namespace Go.Proofs.YtldlpbfncgcimaaDoor
set_option linter.unusedVariables false
open Go.ChangeShapes Go.WideShapes Go.ChangeAt Go.RowKit

/-- A row of zeros is made. -/
theorem wpList_make_bytes (w : World) {ops : Array Oper} {rest : List Oper} {o : Oper} {a : Act} {Q : Exit → Act → World → Prop}
    (hg : o.guard = none) (l c : Operand) (hop : o.op = Op.makeSlice 22 l c) (i : TypeInfo) (h2 : Tryd.prog.info? 5 = some i) (h3 : i.zero = some (.int .u8 0)) (h4 : i.size = 1) (h5 : i.bytes = 1)
    (n : Nat) (hl : a.eval l = .int .i64 (n : Int)) (hc : a.eval c = .int .i64 (n : Int)) (hn : n ≤ 100000)
    (hK : ∀ w', Row w' (.slice (some ⟨w.heap.size, 0, none⟩) n n) (List.replicate n 0) → Gr w w' → wpList Tryd.prog ops Q rest (a.put o.dst (.slice (some ⟨w.heap.size, 0, none⟩) n n)) w') :
    wpList Tryd.prog ops Q (o :: rest) a w := by
  have hrun := run_make (P := Tryd.prog) w 22 5 i (.int .u8 0) Tryd.underlying22 h2 h3 .i64 .i64 (n : Int) (n : Int) (by omega) (Int.le_refl _) (by rw [h5]; omega) (by omega)
  rw [Int.toNat_natCast, h4, Nat.mul_one] at hrun
  refine wpList_plain hg fun K hK' => ?_
  unfold Oper.wp
  simp [execOp, hop, hl, hc, hrun, Result.andThen]
  refine hK' _ _ (hK _ ?_ ((Below.refl _ _).alloc (Nat.le_refl _) _))
  refine ⟨some ⟨w.heap.size, 0, none⟩, n, w.heap.size, 0, by rw [List.length_replicate], by rw [List.length_replicate]; exact Nat.le_refl _, by omega, fun _ => rfl, fun j hj => ?_⟩
  rw [List.length_replicate] at hj
  rw [Nat.zero_add, cell_of_row _ w.heap.size j _ 5 (0, 0) (heap_alloc_new w _), ← Array.getElem?_toList]
  show (madeCells #[.int .u8 0] n).toList[j]? = _
  rw [toList_madeCells_one, List.getElem?_replicate, if_pos hj, List.getElem_replicate]
  rfl
set_option maxHeartbeats 4000000 in
set_option maxRecDepth 100000 in
theorem walk_FrameLimit (z : Int) (hz : -9223372036854775808 ≤ z ∧ z ≤ 9223372036854775807) (W : World) (hF : FT W) : Calls Tryd.prog 6 #[.int .i64 z] W fun e w' => e = .returned (.bool true) ∧ Gr W w' := by
  have AW := Lib.hid (fun w (g : Gr W w) => p9_awake w (ft_gr hF g))
  by_cases h1 : z < 0
  · have t1 : decide (z < 0) = true := decide_eq_true h1
    obtain ⟨z1, z2⟩ := hz
    clear hF
    go_enter Tryd.func6, Tryd.ntmps6
    go_wp2_with fail
    go_at_call 15
    (with_reducible refine (AW.out _ (by go_grown)).mono ?_)
    rintro e w1 ⟨rfl, g1⟩
    go_wp2_with fail
    go_ret
    exact ⟨rfl, g1⟩
  obtain ⟨n, rfl⟩ : ∃ n : Nat, z = (n : Int) := ⟨z.toNat, by omega⟩
  have t1 : decide ((n : Int) < 0) = false := decide_eq_false (by omega)
  by_cases h2 : 65541 < n
  · have t2 : decide ((65541 : Int) < (n : Int)) = true := decide_eq_true (by omega)
    have t3 : (65541 : Int) < (n : Int) := by omega
    clear hF
    go_enter Tryd.func6, Tryd.ntmps6
    go_wp2_with fail
    go_at_call 15
    (with_reducible refine (AW.out _ (by go_grown)).mono ?_)
    rintro e w1 ⟨rfl, g1⟩
    go_wp2_with fail
    go_ret
    exact ⟨rfl, g1⟩
  have t2 : decide ((65541 : Int) < (n : Int)) = false := decide_eq_false (by omega)
  have t3 : ¬ (65541 : Int) < (n : Int) := by omega
  have hn : (n : Int) ≤ 65541 := by omega
  have hn' : n ≤ 65541 := by omega
  obtain ⟨i0, hi0, hz0, hz1, hz2⟩ := info_parts (P := Tryd.prog) (e := 5) (z := .int .u8 0) (size := 1) (bytes := 1) (by kernel_rfl)
  have HI := Lib.hid (And.intro hi0 (And.intro hz0 (And.intro hz1 hz2)))
  have HF := Lib.hid hF
  clear hi0 hz0 hz1 hz2 hF hz
  by_cases h3 : 65536 < n
  · have t4 : decide ((65536 : Int) < (n : Int)) = true := decide_eq_true (by omega)
    have t5 : (65536 : Int) < (n : Int) := by omega
    have A1 := Lib.hid (fun ad w => c_PutNo ad n n w h3)
    go_enter Tryd.func6, Tryd.ntmps6
    go_wp2_with (first | (at_make; (refine wpList_make_bytes _ rfl _ _ rfl i0 HI.out.1 HI.out.2.1 HI.out.2.2.1 HI.out.2.2.2 n rfl rfl (by omega) ?_); intro w0 R0 g0))
    go_at_call 16
    (with_reducible refine (A1.out _ _).mono ?_)
    rintro e w1 ⟨B1, rfl, hFa, g1⟩
    have G1 := Gr.trans g0 g1
    have C1 := Lib.hid (fun w (g : Gr w1 w) => c_CodeF B1 13 (by decide) w (cell_gr g hFa.2.2))
    clear hFa g1 R0 g0
    go_wp2_with fail
    go_at_call 23
    (with_reducible refine (C1.out _ (Below.refl _ _)).mono ?_)
    rintro e w2 ⟨rfl, g2⟩
    have G2 := Gr.trans G1 g2
    go_wp2_with fail
    go_at_call 15
    (with_reducible refine (AW.out _ G2).mono ?_)
    rintro e w3 ⟨rfl, g3⟩
    go_wp2_with fail
    go_ret
    exact ⟨rfl, Gr.trans G2 g3⟩
  have t4 : decide ((65536 : Int) < (n : Int)) = false := decide_eq_false (by omega)
  have t5 : ¬ (65536 : Int) < (n : Int) := by omega
  have hk := fr_ok (List.replicate n 0) [] (by simp; omega)
  rw [List.append_nil, List.length_replicate] at hk
  have hfl : (fr (List.replicate n 0)).length ≤ 1000000 := by rw [fr_len, List.length_replicate]; omega
  have HK := Lib.hid (And.intro hk hfl)
  have k8 : ((n + 8 : Nat) : Int) = (n : Int) + 8 := by omega
  clear hk hfl
  go_enter Tryd.func6, Tryd.ntmps6
  go_wp2_with (first | (at_make; (refine wpList_make_bytes _ rfl _ _ rfl i0 HI.out.1 HI.out.2.1 HI.out.2.2.1 HI.out.2.2.2 n rfl rfl (by omega) ?_); intro w0 R0 g0))
  go_at_call 16
  (with_reducible refine (c_Put w0 (ft_gr HF.out g0) R0 (by simp; omega)).mono ?_)
  rintro e w1 ⟨b1, rfl, own1, g1⟩
  have G1 := Gr.trans g0 g1
  have R1 := Lib.hid (row_own own1)
  clear own1 g1 R0 g0
  go_wp2_with fail
  go_at_call 18
  (with_reducible refine (c_Next w1 (ft_gr HF.out G1) R1.out HK.out.2).mono ?_)
  rintro e w2 ⟨q, x, rfl, hr, he, g2⟩
  rw [HK.out.1.2.1] at hr
  rw [HK.out.1.1] at he
  rw [HK.out.1.2.2, k8]
  obtain ⟨ad2, cap2, B2, off2, rfl, -⟩ := hr
  obtain rfl : x = .nilIface := by
    rcases he with ⟨h, -⟩ | ⟨B, -, h, -⟩
    · exact h
    · omega
  rw [List.length_replicate]
  have G2 := Gr.trans G1 g2
  have s1 : ((n : Int) == (n : Int)) = true := by simp
  have s2 : ((n : Int) + 8 == (n : Int) + 8) = true := by simp
  clear he g2 k8
  go_wp2_with fail
  go_at_call 15
  (with_reducible refine (AW.out _ G2).mono ?_)
  rintro e w3 ⟨rfl, g3⟩
  go_wp2_with fail
  go_ret
  exact ⟨rfl, Gr.trans G2 g3⟩
end Go.Proofs.YtldlpbfncgcimaaDoor
