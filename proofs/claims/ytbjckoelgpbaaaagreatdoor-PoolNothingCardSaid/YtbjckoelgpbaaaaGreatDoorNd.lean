/- the document's disk: NewDisk -/
import Derived.Test.YtbjckoelgpbaaaaGreatDoorNb
namespace Go.Proofs.YtbjckoelgpbaaaaGreatDoor
set_option linter.unusedVariables false
set_option linter.unusedSimpArgs false
open Go.ChangeShapes Go.WideShapes Go.ChangeAt Go.RowKit Go.Maps

section
variable {base : Nat} {Z : Nat → Prop}
theorem rd_new_no (n : Int) (h : ¬ (1 ≤ n ∧ n ≤ 8192)) (W : World) : Calls Tryz.prog 76 #[.int .i64 n] W fun e w' => e = .returned (.tuple #[.pointer none, .int .i64 1]) ∧ Gr W w' := by
  by_cases h0 : n < 1
  · have t1 : decide (n < 1) = true := decide_eq_true h0
    clear h
    go_enter Tryz.func76, Tryz.ntmps76
    go_wp2_with fail
    go_ret2
    exact ⟨rfl, by go_grown⟩
  · have t1 : decide (n < 1) = false := decide_eq_false h0
    have t2 : decide ((8192 : Int) < n) = true := decide_eq_true (by omega)
    clear h
    go_enter Tryz.func76, Tryz.ntmps76
    go_wp2_with fail
    go_ret2
    exact ⟨rfl, by go_grown⟩
set_option maxHeartbeats 1000000 in
set_option maxRecDepth 100000 in
theorem rd_new (n : Nat) (h1 : 1 ≤ n) (h2 : n ≤ 8192) (W : World) (hz : ∀ k, Z k → k < W.heap.size) (hb : base ≤ W.heap.size) :
    Calls Tryz.prog 76 #[.int .i64 (n : Nat)] W fun e w' => ∃ q gv gs, e = .returned (.tuple #[.pointer (some ⟨q, 0, none⟩), .int .i64 0]) ∧ RefD base w' q Z (dk0 n (List.replicate (n * 64) 0)) gv (.slice none 0 0) (.slice none 0 0) gs [] 0 ∧ Gr W w' := by
  obtain ⟨i0, hi0, hz0, hz1, hz2⟩ := info_parts (P := Tryz.prog) (e := 109) (z := .slice none 0 0) (size := 1) (bytes := 24) (by kernel_rfl)
  have HI := Lib.hid (And.intro hi0 (And.intro hz0 (And.intro hz1 hz2)))
  clear hi0 hz0 hz1 hz2
  have t1 : decide ((n : Int) < 1) = false := decide_eq_false (by omega)
  have t2 : decide ((8192 : Int) < (n : Int)) = false := decide_eq_false (by omega)
  have t3 : ¬ (8192 : Int) < (n : Int) := by omega
  have n0 : (0 : Int) ≤ (n : Int) := by omega
  have hok : (dk0 n (List.replicate (n * 64) 0)).ok := dk0_ok h1 h2 List.length_replicate
  go_enter Tryz.func76, Tryz.ntmps76
  go_wp2_with (first | (at_make; (refine wpList_make_full _ rfl _ _ 182 rfl 0 109 i0 (.slice none 0 0) 1 Tryz.underlying182 HI.out.1 HI.out.2.1 HI.out.2.2.1 .i64 .i64 (n : Int) (n : Int) n rfl rfl rfl rfl (by rw [HI.out.2.2.2]; omega) (by unfold maxLen; omega) (Nat.zero_le _) ?_); intro w2 o2 g2; (have G2 : Gr W w2 := gr_of_grown (Below.refl _ W) g2 (fun k h => by cases h)); (have HO2 := Lib.hid o2); clear o2 g2))
  go_ret2
  have o2 := HO2.out
  rw [show (Value.slice none 0 0).cells = #[.slice none 0 0] from rfl, Nat.mul_one, toList_madeCells_one] at o2
  have sW := G2.size
  have GA : Gr w2 (w2.alloc (.cells #[.slice (some ⟨W.heap.size, 0, none⟩) n n, .slice none 0 0, .slice none 0 0, .int .i64 0, .bool false, .int .i64 0, .bool false] 184)) := (Below.refl _ _).alloc (Nat.le_refl _) _
  refine ⟨w2.heap.size, rfl, ⟨_, _, heap_alloc_new w2 _, hok, (fun e => by cases e), rowOwn_gr o2 GA, fun j hj => ?_, World.ownsRow_nil _ _ _ _, World.ownsRow_nil _ _ _ _, fun j hj => absurd hj (by simp [dk0]), ⟨fun hk => by have := hz _ hk; omega, by omega⟩, fun k hk => ?_, fun k hk => (by cases hk), fun k hk => (by cases hk)⟩, Gr.trans G2 GA⟩
  · exact ⟨.slice none 0 0, by rw [List.getElem?_replicate]; exact if_pos hj, Or.inl ⟨rfl, sec_zeros hj⟩⟩
  · obtain rfl : W.heap.size = k := by simpa [Value.ownBlock] using hk
    exact ⟨fun hk => by have := hz _ hk; omega, hb⟩
end
end Go.Proofs.YtbjckoelgpbaaaaGreatDoor
