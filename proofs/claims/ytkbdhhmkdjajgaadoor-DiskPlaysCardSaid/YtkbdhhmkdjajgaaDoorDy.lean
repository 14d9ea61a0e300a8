/- the document's disk: Read, Cut -/
import Derived.Test.YtkbdhhmkdjajgaaDoorDx
import Derived.Test.YtkbdhhmkdjajgaaDoorDi
namespace Go.Proofs.YtkbdhhmkdjajgaaDoor
set_option linter.unusedVariables false
set_option linter.unusedSimpArgs false
open Go.ChangeShapes Go.WideShapes Go.ChangeAt Go.RowKit Go.Maps

theorem plc_cases (l : List Nat) (k : Nat) : (k ∉ l ∧ plc l k = -1) ∨ ∃ i : Nat, i < l.length ∧ l.getD i 0 = k ∧ k ∈ l ∧ plc l k = (i : Int) := by
  by_cases h : k ∈ l
  · right
    have hi := List.idxOf_lt_length_of_mem h
    refine ⟨l.idxOf k, hi, ?_, h, by unfold plc; rw [if_pos h]⟩
    rw [List.getD_eq_getElem?_getD, List.getElem?_eq_getElem hi]
    exact List.getElem_idxOf hi
  · exact Or.inl ⟨h, by unfold plc; rw [if_neg h]⟩
section
variable {base q : Nat} {Z : Nat → Prop} {d : Dk} {gv av nv : Value} {gs ns : List Value} {dl : Int}
theorem rd_full {L : List UInt8} {v : Value} (hl : L.length = 64) (W : World) (h : GSl W Z L v) : Calls Tryd.prog 35 #[v] W fun e w' => ∃ ad c, e = .returned (.slice ad 64 c) ∧ Row w' (.slice ad 64 c) L ∧ Gr W w' := by
  rcases h with ⟨rfl, rfl⟩ | h
  · obtain ⟨o, M1, M2⟩ := make64
    have HM := Lib.hid M2
    clear M2
    go_enter Tryd.func35, Tryd.ntmps35
    go_wp2_with fail
    go_ret
    exact ⟨_, _, rfl, row_own (HM.out _), by go_grown⟩
  · obtain ⟨ad, c, B, off, rfl, h1, h2, h3, h4⟩ := id h.1
    have HR := Lib.hid h.1
    rw [hl] at HR ⊢
    clear h h1 h2 h3 h4
    go_enter Tryd.func35, Tryd.ntmps35
    go_wp2_with fail
    go_ret
    exact ⟨_, _, rfl, HR.out, by go_grown⟩
set_option maxHeartbeats 1000000 in
set_option maxRecDepth 100000 in
theorem rd_read_no (z : Int) (hz : z < 0 ∨ (d.n : Int) ≤ z) (W : World) (h : RefD base W q Z d gv av nv gs ns dl) : Calls Tryd.prog 16 #[.pointer (some ⟨q, 0, none⟩), .int .i64 z] W fun e w' => e = .returned (.tuple #[.slice none 0 0, .int .i64 2]) ∧ Gr W w' := by
  obtain ⟨sq, c0, -⟩ := refD_cells h
  obtain ⟨D, ad, cap, rfl, a1, a2, a3, a4, a5⟩ := rowF h.good
  generalize d.n = n at *
  clear h a1 a2 a3 a4 a5
  by_cases h0 : z < 0
  · have t1 : decide (z < 0) = true := decide_eq_true h0
    go_enter Tryd.func16, Tryd.ntmps16
    go_wp2_with fail
    go_ret2
    exact ⟨rfl, by go_grown⟩
  · have t1 : decide (z < 0) = false := decide_eq_false h0
    have t2 : decide ((n : Int) ≤ z) = true := decide_eq_true (by omega)
    go_enter Tryd.func16, Tryd.ntmps16
    go_wp2_with fail
    go_ret2
    exact ⟨rfl, by go_grown⟩
set_option maxHeartbeats 1000000 in
set_option maxRecDepth 100000 in
theorem rd_read (k : Nat) (hk : k < d.n) (W : World) (h : RefD base W q Z d gv av nv gs ns dl) : Calls Tryd.prog 16 #[.pointer (some ⟨q, 0, none⟩), .int .i64 (k : Nat)] W fun e w' => ∃ ad c, e = .returned (.tuple #[.slice ad 64 c, .int .i64 0]) ∧ Row w' (.slice ad 64 c) (d.read k) ∧ Gr W w' := by
  obtain ⟨sq, c0, -, c2, -⟩ := refD_cells h
  obtain ⟨D, ga, gc, rfl, a1, a2, a3, a4, a5⟩ := rowF h.good
  obtain ⟨E, na, nc, rfl, b1, b2, b3, b4, b5⟩ := rowF h.new
  have AP := rd_place k W h
  obtain ⟨gvk, eg, rg⟩ := h.gsl k hk
  have g1 := (a5 k (by omega)).1
  rw [eg] at g1
  have AF := fun w (g : Gr W w) => rd_full (sec_len h.ok hk) w (gSl_kx (S := fun _ => False) rg (Kx.of_gr g) (fun _ h => h.elim))
  have hrd : d.read k = if k ∈ d.ord then d.F k else sec d.good k := rfl
  have t1 : decide ((k : Int) < 0) = false := decide_eq_false (by omega)
  have t2 : decide ((d.n : Int) ≤ (k : Int)) = false := decide_eq_false (by omega)
  have t3 : (k : Int) < (d.n : Int) := by omega
  rcases plc_cases d.ord k with ⟨hm, hp⟩ | ⟨i, hi, hgi, hm, hp⟩
  · rw [if_neg hm] at hrd
    rw [hp] at AP
    rw [hrd]
    obtain rfl := a1 (by omega)
    generalize sec d.good k = L at AF ⊢
    generalize d.n = n at *
    clear h a1 a2 a4 a5 b1 b2 b4 b5 eg rg hrd hm hp
    have HP := Lib.hid AP
    have HF := Lib.hid AF
    clear AP AF
    go_enter Tryd.func16, Tryd.ntmps16
    go_wp2_with fail
    go_at_call 33
    refine (HP.out).mono ?_
    rintro e w1 ⟨rfl, g1'⟩
    have y0 := cell_gr g1' c0
    have y1 := cell_gr g1' g1
    go_wp2_with fail
    go_at_call 35
    refine (HF.out _ g1').mono ?_
    rintro e w2 ⟨ad, c, rfl, hr, g2⟩
    have G2 := Gr.trans g1' g2
    go_wp2_with fail
    go_ret2
    exact ⟨_, _, rfl, hr, G2⟩
  · rw [if_pos hm] at hrd
    rw [hp] at AP
    rw [hrd]
    obtain ⟨v, en, rn⟩ := h.nsl i hi
    have n1 := (b5 i (by omega)).1
    rw [en] at n1
    rw [hgi] at rn
    have hFl := h.ok.sz k hm
    obtain ⟨va, vc, B, off, rfl, -⟩ := id rn.1
    have HR := Lib.hid rn.1
    rw [hFl] at n1 HR
    obtain rfl := b1 (by omega)
    generalize d.F k = L at HR ⊢
    generalize d.n = n at *
    generalize d.ord.length = m at *
    have t4 : decide ((0 : Int) ≤ (i : Int)) = true := decide_eq_true (by omega)
    have t5 : (i : Int) < (m : Int) := by omega
    clear h a1 a2 a4 a5 b1 b2 b4 b5 eg rg hrd hm hp hgi en rn g1 AF hFl
    have HP := Lib.hid AP
    clear AP
    go_enter Tryd.func16, Tryd.ntmps16
    go_wp2_with fail
    go_at_call 33
    refine (HP.out).mono ?_
    rintro e w1 ⟨rfl, g1'⟩
    have y0 := cell_gr g1' c2
    have y1 := cell_gr g1' n1
    go_wp2_with fail
    go_ret2
    exact ⟨_, _, rfl, row_gr HR.out g1', g1'⟩
end
end Go.Proofs.YtkbdhhmkdjajgaaDoor
