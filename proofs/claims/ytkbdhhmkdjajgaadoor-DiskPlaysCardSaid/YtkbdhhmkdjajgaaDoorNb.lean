/- the document's disk: Cut; Write and Sync where they are refused -/
import Derived.Test.YtkbdhhmkdjajgaaDoorNa
namespace Go.Proofs.YtkbdhhmkdjajgaaDoor
set_option linter.unusedVariables false
set_option linter.unusedSimpArgs false
open Go.ChangeShapes Go.WideShapes Go.ChangeAt Go.RowKit Go.Maps

section
variable {base q : Nat} {Z : Nat → Prop} {d : Dk} {gv av nv : Value} {gs ns : List Value} {dl : Int}
theorem cutAt_ok (h : d.ok) (n : Int) (hn : -9223372036854775808 ≤ n ∧ n ≤ 9223372036854775807) : Dk.ok { d with cut := true, left := n } := ⟨h.n1, h.n2, h.len, h.nodup, h.lt, h.sz, h.ops, (fun e => by cases e), Lib.hid hn⟩
set_option maxHeartbeats 1000000 in
set_option maxRecDepth 100000 in
theorem rd_cut (n : Int) (hn : -9223372036854775808 ≤ n ∧ n ≤ 9223372036854775807) (W : World) (h : RefD base W q Z d gv av nv gs ns dl) : Calls Tryd.prog 19 #[.pointer (some ⟨q, 0, none⟩), .int .i64 n] W fun e w' => e = .returned (.tuple #[]) ∧ ROp base W w' q Z { d with cut := true, left := n } gv av nv gs ns := by
  obtain ⟨sq, -, -, -, -, c4, c5, -, fz⟩ := refD_cells h
  have f4 := fz 4
  have f5 := fz 5
  have hok := cutAt_ok h.ok n hn
  have H := Lib.hid (And.intro h hok)
  have fin : ∀ w', w' = (W.setCell ⟨q, 4, none⟩ (.bool true)).setCell ⟨q, 5, none⟩ (.int .i64 n) → ROp base W w' q Z { d with cut := true, left := n } gv av nv gs ns := by
    rintro w' rfl
    have K : Kx (fun k => k = q) W ((W.setCell ⟨q, 4, none⟩ (.bool true)).setCell ⟨q, 5, none⟩ (.int .i64 n)) := ((Kx.refl (S := fun k => k = q) W).setCell (p := ⟨q, 4, none⟩) rfl _).setCell (p := ⟨q, 5, none⟩) rfl _
    exact ⟨⟨n, refD_head H.out.1 K (Hm.heap_set_same (Hm.heap_set_same H.out.1.head)) H.out.2 rfl rfl rfl rfl (fun e => rfl)⟩, K⟩
  have HF := Lib.hid fin
  clear fin h hok fz hn
  go_enter Tryd.func19, Tryd.ntmps19
  go_wp2_with fail
  go_end0
  exact ⟨rfl, HF.out _ rfl⟩
set_option maxHeartbeats 1000000 in
set_option maxRecDepth 100000 in
theorem rd_write_no (z : Int) (hz : z < 0 ∨ (d.n : Int) ≤ z) (v : Value) (W : World) (h : RefD base W q Z d gv av nv gs ns dl) : Calls Tryd.prog 12 #[.pointer (some ⟨q, 0, none⟩), .int .i64 z, v] W fun e w' => e = .returned (.int .i64 2) ∧ Gr W w' := by
  obtain ⟨sq, c0, -⟩ := refD_cells h
  obtain ⟨D, ad, cap, rfl, a1, a2, a3, a4, a5⟩ := rowF h.good
  generalize d.n = n at *
  clear h a1 a2 a3 a4 a5
  by_cases h0 : z < 0
  · have t1 : decide (z < 0) = true := decide_eq_true h0
    go_enter Tryd.func12, Tryd.ntmps12
    go_wp2_with fail
    go_ret
    exact ⟨rfl, by go_grown⟩
  · have t1 : decide (z < 0) = false := decide_eq_false h0
    have t2 : decide ((n : Int) ≤ z) = true := decide_eq_true (by omega)
    go_enter Tryd.func12, Tryd.ntmps12
    go_wp2_with fail
    go_ret
    exact ⟨rfl, by go_grown⟩
set_option maxHeartbeats 1000000 in
set_option maxRecDepth 100000 in
theorem rd_write_len (k : Nat) (hk : k < d.n) (ad : Option Addr) (m c : Nat) (hm : m ≠ 64) (W : World) (h : RefD base W q Z d gv av nv gs ns dl) : Calls Tryd.prog 12 #[.pointer (some ⟨q, 0, none⟩), .int .i64 (k : Nat), .slice ad m c] W fun e w' => e = .returned (.int .i64 1) ∧ Gr W w' := by
  obtain ⟨sq, c0, -⟩ := refD_cells h
  obtain ⟨D, ga, gc, rfl, a1, a2, a3, a4, a5⟩ := rowF h.good
  generalize d.n = n at *
  clear h a1 a2 a3 a4 a5
  have t1 : decide ((k : Int) < 0) = false := decide_eq_false (by omega)
  have t2 : decide ((n : Int) ≤ (k : Int)) = false := decide_eq_false (by omega)
  have t3 : ¬ (n : Int) ≤ (k : Int) := by omega
  have t4 : ((m : Int) != 64) = true := by simp; omega
  have t5 : (m != 64) = true := by simp; omega
  clear hm
  go_enter Tryd.func12, Tryd.ntmps12
  go_wp2_with fail
  go_ret
  exact ⟨rfl, by go_grown⟩
set_option maxHeartbeats 1000000 in
set_option maxRecDepth 100000 in
theorem rd_write_off (k : Nat) (hk : k < d.n) (ho : ¬ d.on) (hn : d.ops < 1000000) (ad : Option Addr) (c : Nat) (W : World) (h : RefD base W q Z d gv av nv gs ns dl) : Calls Tryd.prog 12 #[.pointer (some ⟨q, 0, none⟩), .int .i64 (k : Nat), .slice ad 64 c] W fun e w' => e = .returned (.int .i64 9) ∧ ROp base W w' q Z d.opx gv av nv gs ns := by
  have AO := rd_op_off ho hn W h
  obtain ⟨sq, c0, -⟩ := refD_cells h
  obtain ⟨D, ga, gc, rfl, a1, a2, a3, a4, a5⟩ := rowF h.good
  have t1 : decide ((k : Int) < 0) = false := decide_eq_false (by omega)
  have t2 : decide ((d.n : Int) ≤ (k : Int)) = false := decide_eq_false (by omega)
  have t3 : ¬ (d.n : Int) ≤ (k : Int) := by omega
  obtain ⟨n, hn'⟩ : ∃ n, n = d.n := ⟨_, rfl⟩
  rw [← hn'] at c0 t2 t3
  have AO' : Hid (Calls Tryd.prog 32 #[.pointer (some ⟨q, 0, none⟩)] W fun e w' => e = .returned (.bool false) ∧ ROp base W w' q Z d.opx (.slice ga d.n gc) av nv gs ns) := Lib.hid AO
  clear h a1 a2 a3 a4 a5 AO ho hn hn' hk
  go_enter Tryd.func12, Tryd.ntmps12
  go_wp2_with fail
  go_at_call 32
  refine (AO'.out).mono ?_
  rintro e w1 ⟨rfl, h1⟩
  have H1 := Lib.hid h1
  clear h1 AO'
  go_wp2_with fail
  go_ret
  exact ⟨rfl, H1.out⟩
set_option maxHeartbeats 1000000 in
set_option maxRecDepth 100000 in
theorem rd_sync_off (ho : ¬ d.on) (hn : d.ops < 1000000) (W : World) (h : RefD base W q Z d gv av nv gs ns dl) : Calls Tryd.prog 14 #[.pointer (some ⟨q, 0, none⟩)] W fun e w' => e = .returned (.int .i64 9) ∧ ROp base W w' q Z d.opx gv av nv gs ns := by
  have AO := Lib.hid (rd_op_off ho hn W h)
  clear h ho hn
  go_enter Tryd.func14, Tryd.ntmps14
  go_wp2_with fail
  go_at_call 32
  refine (AO.out).mono ?_
  rintro e w1 ⟨rfl, h1⟩
  have H1 := Lib.hid h1
  clear h1 AO
  go_wp2_with fail
  go_ret
  exact ⟨rfl, H1.out⟩
end
end Go.Proofs.YtkbdhhmkdjajgaaDoor
