/- DiskCuts -/
import Derived.Test.YtcalleofndokaaaDoorDj
import Derived.Test.YtcalleofndokaaaDoorDz
namespace Go.Proofs.YtcalleofndokaaaDoor
set_option linter.unusedVariables false
set_option linter.unusedSimpArgs false
open Go.ChangeShapes Go.WideShapes Go.ChangeAt Go.RowKit Go.Maps

section
variable {p g bm : Nat} {M : Option Nat} {d : Dk}
set_option maxHeartbeats 1000000 in
theorem d_write_off (k : Nat) (hk : k < d.n) (ho : ¬ d.on) (hn : d.ops < 1000000) (ad : Option Addr) (cp : Nat) (W : World) (H : DiskS W p g bm M d) :
    Calls Tryd.prog 28 #[.pointer (some ⟨p, 0, none⟩), .int .i64 k, .slice ad 64 cp] W fun e w' => ∃ F, e = .returned (.iface 85 (.pointer (some ⟨F, 0, none⟩))) ∧ FaultAt w' F writeS k 9 ∧ DiskS w' p g bm M d.opx ∧ Kx (fun j => j = p) W w' := by
  have hn2 := H.ok.n2
  have A1 := fun w (G : Gr W w) => d_len w (diskS_gr H G)
  have A2 := fun w (G : Gr W w) => d_op_off ho hn w (diskS_gr H G)
  have t1 : decide ((k : Int) < 0) = false := decide_eq_false (by omega)
  have t2 : decide ((d.n : Int) ≤ (k : Int)) = false := decide_eq_false (by omega)
  have t3 : ¬ (d.n : Int) ≤ (k : Int) := by omega
  have H1 := Lib.hid A1
  have H2 := Lib.hid A2
  clear A1 A2
  clear H ho hn
  generalize d.n = n at *
  go_enter Tryd.func28, Tryd.ntmps28
  go_wp2_with fail
  go_at_call 68
  refine ((H1.out _ (by go_grown))).mono ?_
  rintro e w1 ⟨rfl, hw1⟩
  have gw1 : Gr W w1 := Gr.trans (by go_grown) hw1
  clear hw1
  go_wp2_with fail
  go_at_call 69
  refine (H2.out _ gw1).mono ?_
  rintro e w2 ⟨rfl, hd, k2⟩
  have K2 : Kx (fun j => j = p) W w2 := (Kx.of_gr gw1).trans k2
  have HD := Lib.hid hd
  clear hd k2 gw1
  go_wp2_with fail
  go_at_call 46
  refine (d_faultNew writeS k 9 _).mono ?_
  rintro e w3 ⟨F, rfl, hf, g3⟩
  have g23 : Gr w2 w3 := Gr.trans (by go_grown) g3
  clear g3
  go_wp2_with fail
  go_ret
  exact ⟨F, rfl, hf, diskS_gr HD.out g23, K2.trans (Kx.of_gr g23)⟩
theorem d_write_no (z : Int) (hz : (d.n : Int) ≤ z) (v : Value) (W : World) (H : DiskS W p g bm M d) :
    Calls Tryd.prog 28 #[.pointer (some ⟨p, 0, none⟩), .int .i64 z, v] W fun e w' => ∃ F, e = .returned (.iface 85 (.pointer (some ⟨F, 0, none⟩))) ∧ FaultAt w' F writeS z 2 ∧ Gr W w' := by
  have A1 := fun w (G : Gr W w) => d_len w (diskS_gr H G)
  have t1 : decide (z < 0) = false := decide_eq_false (by omega)
  have t2 : decide ((d.n : Int) ≤ z) = true := decide_eq_true hz
  have H1 := Lib.hid A1
  clear A1
  clear H
  generalize d.n = n at *
  go_enter Tryd.func28, Tryd.ntmps28
  go_wp2_with fail
  go_at_call 68
  refine ((H1.out _ (by go_grown))).mono ?_
  rintro e w1 ⟨rfl, hw1⟩
  have gw1 : Gr W w1 := Gr.trans (by go_grown) hw1
  clear hw1
  go_wp2_with fail
  go_at_call 46
  refine (d_faultNew writeS z 2 _).mono ?_
  rintro e w3 ⟨F, rfl, hf, g3⟩
  go_wp2_with fail
  go_ret
  exact ⟨F, rfl, hf, Gr.trans (by have gg := gw1; have gs := gg.size; go_grown) g3⟩
theorem d_write_none (k : Nat) (hk : k < d.n) (W : World) (H : DiskS W p g bm M d) :
    Calls Tryd.prog 28 #[.pointer (some ⟨p, 0, none⟩), .int .i64 k, .slice none 0 0] W fun e w' => ∃ F, e = .returned (.iface 85 (.pointer (some ⟨F, 0, none⟩))) ∧ FaultAt w' F writeS k 1 ∧ Gr W w' := by
  have hn2 := H.ok.n2
  have A1 := fun w (G : Gr W w) => d_len w (diskS_gr H G)
  have t1 : decide ((k : Int) < 0) = false := decide_eq_false (by omega)
  have t2 : decide ((d.n : Int) ≤ (k : Int)) = false := decide_eq_false (by omega)
  have t3 : ¬ (d.n : Int) ≤ (k : Int) := by omega
  have H1 := Lib.hid A1
  clear A1
  clear H
  generalize d.n = n at *
  go_enter Tryd.func28, Tryd.ntmps28
  go_wp2_with fail
  go_at_call 68
  refine ((H1.out _ (by go_grown))).mono ?_
  rintro e w1 ⟨rfl, hw1⟩
  have gw1 : Gr W w1 := Gr.trans (by go_grown) hw1
  clear hw1
  go_wp2_with fail
  go_at_call 46
  refine (d_faultNew writeS k 1 _).mono ?_
  rintro e w3 ⟨F, rfl, hf, g3⟩
  go_wp2_with fail
  go_ret
  exact ⟨F, rfl, hf, Gr.trans (by have gg := gw1; have gs := gg.size; go_grown) g3⟩
theorem wr_read (d : Dk) (k : Nat) (L : List UInt8) (j : Nat) : (d.wr k L).read j = if j = k then L else d.read j := by
  unfold Dk.read
  show (if j ∈ d.wrO k then (if j = k then L else d.F j) else sec d.good j) = _
  by_cases e : j = k
  · rw [if_pos e, if_pos e, if_pos (wrO_mem.2 (Or.inl e))]
  · rw [if_neg e, if_neg e]
    by_cases h : j ∈ d.ord
    · rw [if_pos h, if_pos (wrO_mem.2 (Or.inr h))]
    · rw [if_neg h, if_neg (fun h' => by rcases wrO_mem.1 h' with h' | h'; exact e h'; exact h h')]
end
theorem lawD_cut {W w : World} {p : Nat} {d : Dk} (h : LawD W w p d) (G : Gr W w) (z : Int) (hz : -9223372036854775808 ≤ z ∧ z ≤ 9223372036854775807) :
    Calls Tryd.prog 27 #[.pointer (some ⟨p, 0, none⟩), .int .i64 z] w fun e w' => e = .returned (.tuple #[]) ∧ LawD W w' p { d with cut := true, left := z } ∧ Gr W w' := by
  obtain ⟨q, bm, M, h1, h2⟩ := h
  refine (d_cut z hz w h1).mono ?_
  rintro e w' ⟨rfl, h3, h4⟩
  exact ⟨rfl, ⟨q, bm, M, h3, h2⟩, Kx.gr h4 G (fun j hj => by subst hj; exact h2 j (Or.inl rfl))⟩
theorem lawD_write_off {W w : World} {p k : Nat} {d : Dk} (h : LawD W w p d) (G : Gr W w) (hk : k < d.n) (ho : ¬ d.on) (hn : d.ops < 1000000) (ad : Option Addr) (cp : Nat) :
    Calls Tryd.prog 28 #[.pointer (some ⟨p, 0, none⟩), .int .i64 k, .slice ad 64 cp] w fun e w' => ∃ F, e = .returned (.iface 85 (.pointer (some ⟨F, 0, none⟩))) ∧ FaultAt w' F writeS k 9 ∧ LawD W w' p d.opx ∧ Gr W w' := by
  obtain ⟨q, bm, M, h1, h2⟩ := h
  refine (d_write_off k hk ho hn ad cp w h1).mono ?_
  rintro e w' ⟨F, rfl, hf, h3, h4⟩
  exact ⟨F, rfl, hf, ⟨q, bm, M, h3, h2⟩, Kx.gr h4 G (fun j hj => by subst hj; exact h2 j (Or.inl rfl))⟩
theorem lawD_write_no {W w : World} {p : Nat} {d : Dk} (h : LawD W w p d) (z : Int) (hz : (d.n : Int) ≤ z) (v : Value) :
    Calls Tryd.prog 28 #[.pointer (some ⟨p, 0, none⟩), .int .i64 z, v] w fun e w' => ∃ F, e = .returned (.iface 85 (.pointer (some ⟨F, 0, none⟩))) ∧ FaultAt w' F writeS z 2 ∧ Gr w w' := by
  obtain ⟨q, bm, M, h1, h2⟩ := h
  exact d_write_no z hz v w h1
theorem lawD_write_none {W w : World} {p : Nat} {d : Dk} (h : LawD W w p d) (k : Nat) (hk : k < d.n) :
    Calls Tryd.prog 28 #[.pointer (some ⟨p, 0, none⟩), .int .i64 k, .slice none 0 0] w fun e w' => ∃ F, e = .returned (.iface 85 (.pointer (some ⟨F, 0, none⟩))) ∧ FaultAt w' F writeS k 1 ∧ Gr w w' := by
  obtain ⟨q, bm, M, h1, h2⟩ := h
  exact d_write_none k hk w h1
/-- A disk of a hundred sectors that lets n ops through, i asked for. -/
structure Cuts (d : Dk) (n : Int) (i : Nat) : Prop where
  dn : d.n = 100
  cut : d.cut = true
  ops : d.ops = i
  st : (d.off = false ∧ d.left = n - i ∧ ((i : Int) ≤ n ∨ i = 0)) ∨ (d.off = true ∧ n < i)
  rd : ∀ k, k < 100 → d.read k = if (k : Int) < n ∧ k < i then blk (k : Nat) 64 else List.replicate 64 0
theorem cuts_on {d : Dk} {n : Int} {i : Nat} (h : Cuts d n i) (hi : (i : Int) < n) : d.on := by
  rcases h.st with ⟨h1, h2, -⟩ | ⟨-, h2⟩
  · exact ⟨h1, fun _ => by omega⟩
  · omega
theorem cuts_off {d : Dk} {n : Int} {i : Nat} (h : Cuts d n i) (hi : n ≤ (i : Int)) : ¬ d.on := by
  rintro ⟨h1, h2⟩
  rcases h.st with ⟨-, h3, h4⟩ | ⟨h3, -⟩
  · have := h2 h.cut; omega
  · rw [h1] at h3; cases h3
theorem cuts_wr {d : Dk} {n : Int} {i : Nat} (h : Cuts d n i) (hi : (i : Int) < n) : Cuts (d.opd.wr i (blk (i : Nat) 64)) n (i + 1) where
  dn := h.dn
  cut := h.cut
  ops := by show d.ops + 1 = i + 1; rw [h.ops]
  st := by
    rcases h.st with ⟨h1, h2, h3⟩ | ⟨-, h2⟩
    · exact Or.inl ⟨h1, by show d.left - 1 = _; omega, Or.inl (by omega)⟩
    · omega
  rd := fun k hk => by
    have e : d.opd.read k = d.read k := rfl
    rw [wr_read, e, h.rd k hk]
    by_cases ek : k = i
    · subst ek; rw [if_pos rfl, if_pos ⟨hi, by omega⟩]
    · rw [if_neg ek]
      by_cases h2 : (k : Int) < n ∧ k < i
      · rw [if_pos h2, if_pos ⟨h2.1, by omega⟩]
      · rw [if_neg h2, if_neg (fun h' => h2 ⟨h'.1, by omega⟩)]
theorem cuts_x {d : Dk} {n : Int} {i : Nat} (h : Cuts d n i) (hi : n ≤ (i : Int)) : Cuts d.opx n (i + 1) where
  dn := h.dn
  cut := h.cut
  ops := by show d.ops + 1 = i + 1; rw [h.ops]
  st := Or.inr ⟨rfl, by omega⟩
  rd := fun k hk => by
    have e : d.opx.read k = d.read k := rfl
    rw [e, h.rd k hk]
    by_cases h2 : (k : Int) < n ∧ k < i
    · rw [if_pos h2, if_pos ⟨h2.1, by omega⟩]
    · rw [if_neg h2, if_neg (fun h' => h2 ⟨h'.1, by omega⟩)]
theorem cuts_new (n : Int) : Cuts { dk0 100 (List.replicate (100 * 64) 0) with cut := true, left := n } n 0 where
  dn := rfl
  cut := rfl
  ops := rfl
  st := Or.inl ⟨rfl, by show n = n - ((0 : Nat) : Int); omega, Or.inr rfl⟩
  rd := fun k hk => by
    rw [if_neg (fun h => by omega)]
    have e : Dk.read { dk0 100 (List.replicate (100 * 64) 0) with cut := true, left := n } k = (dk0 100 (List.replicate (100 * 64) 0)).read k := rfl
    rw [e, dk0_read, sec_zeros hk]
set_option maxHeartbeats 8000000 in
set_option maxRecDepth 100000 in
theorem cuts_core (n : Int) (m : Nat) (hn : -5 ≤ n ∧ n ≤ 60) (hm : m ≤ 80) (W : World) (hE : ErrT W) : Calls Tryd.prog 5 #[.int .i64 n, .int .i64 m] W fun e w' => e = .returned (.bool true) ∧ Gr W w' := by
  have AN : ∀ w, Gr W w → Calls Tryd.prog 26 #[.int .i64 100] w fun e w' => ∃ p, e = .returned (.tuple #[.pointer (some ⟨p, 0, none⟩), .nilIface]) ∧ LawD W w' p (dk0 100 (List.replicate (100 * 64) 0)) ∧ Gr W w' := fun w g => lawD_new 100 (by decide) (by decide) g
  have AB : ∀ i : Nat, i ≤ 1000 → ∀ w, Calls Tryd.prog 11 #[.int .i64 64, .int .i64 (i : Nat)] w fun e w' => e = .returned (.slice (some ⟨w.heap.size, 0, none⟩) 64 64) ∧ Own w' w.heap.size (.slice (some ⟨w.heap.size, 0, none⟩) 64 64) (blk (i : Nat) 64) ∧ Gr w w' := fun i hi w => c_Block 64 (by decide) i (by omega) w
  have AK : ∀ i : Nat, i ≤ 1000 → ∀ w, Calls Tryd.prog 11 #[.int .i64 64, .int .i64 (i : Nat)] w fun e w' => ∃ B, e = .returned (.slice (some ⟨B, 0, none⟩) 64 64) ∧ Row w' (.slice (some ⟨B, 0, none⟩) 64 64) (blk (i : Nat) 64) ∧ Gr w w' := fun i hi w => by
    refine (AB i hi w).mono ?_
    rintro e w' ⟨rfl, o, g⟩
    exact ⟨_, rfl, row_own o, g⟩
  have HK := Lib.hid AK
  clear AK
  obtain ⟨o64, M1, M2⟩ := make64
  have HE := Lib.hid (fun w (g : Gr W w) => errT_gr hE g)
  have HM2 := Lib.hid M2
  have HN := Lib.hid AN
  have HB := Lib.hid AB
  clear AN AB
  clear M2 hE
  have t1 : decide (n < -5) = false := decide_eq_false (by omega)
  have t2 : decide ((60 : Int) < n) = false := decide_eq_false (by omega)
  have t3 : decide ((m : Int) < 0) = false := decide_eq_false (by omega)
  have t4 : decide ((80 : Int) < (m : Int)) = false := decide_eq_false (by omega)
  have t5 : ¬ n < -5 := by omega
  have t6 : ¬ (60 : Int) < n := by omega
  have t7 : ¬ (80 : Int) < (m : Int) := by omega
  go_enter Tryd.func5, Tryd.ntmps5
  go_wp2_with fail
  go_at_call 26
  refine (HN.out _ (by go_grown)).mono ?_
  rintro e w1 ⟨p, rfl, hd, G1⟩
  have AC := lawD_cut hd G1 n (by omega)
  have HC := Lib.hid AC
  clear AC hd
  go_wp2_with fail
  go_at_call 27
  refine (HC.out).mono ?_
  rintro e w2 ⟨rfl, hd, G2⟩
  have HD2 : Hid (∃ d, LawD W w2 p d ∧ Cuts d n 0) := Lib.hid ⟨_, hd, cuts_new n⟩
  clear hd HC G1
  go_wp2_with fail
  go_loopg [7] m (fun j x wr => ∃ i : Nat, x = .int .i64 i ∧ i ≤ m ∧ j = m - i ∧ Hid (∃ d, LawD W wr p d ∧ Cuts d n i) ∧ Gr W wr)
  case atStart => exact ⟨0, rfl, by omega, by omega, HD2, G2⟩
  case round =>
    obtain ⟨i, rfl, hi, hj, HD, hg⟩ := hrel
    by_cases him : i < m
    · have ti : decide ((i : Int) < (m : Int)) = true := decide_eq_true (by omega)
      have ti2 : decide (i < m) = true := decide_eq_true him
      have ti3 : (i : Int) < (m : Int) := by omega
      have ABi := Lib.hid (HB.out i (by omega))
      by_cases hin : (i : Int) < n
      · have u1 : decide (n ≤ (i : Int)) = false := decide_eq_false (by omega)
        have u2 : ¬ n ≤ (i : Int) := by omega
        go_wp2_with fail
        go_at_call 11
        refine (ABi.out _).mono ?_
        rintro e w3 ⟨rfl, o3, g3⟩
        have G3 : Gr W w3 := Gr.trans hg g3
        have AW : Calls Tryd.prog 28 #[.pointer (some ⟨p, 0, none⟩), .int .i64 (i : Nat), .slice (some ⟨wr.heap.size, 0, none⟩) 64 64] w3 fun e w' => e = .returned .nilIface ∧ (∃ d, LawD W w' p d ∧ Cuts d n (i + 1)) ∧ Gr W w' := by
          obtain ⟨d, hd, hp⟩ := HD.out
          refine (lawD_write (k := i) hd g3 G3 (by rw [hp.dn]; omega) (cuts_on hp hin) (by rw [hp.ops]; omega) (blk_len (i : Nat) 64) (rowOff_own o3 (fun k hk => hk))).mono ?_
          rintro e w' ⟨rfl, h, g⟩
          exact ⟨rfl, ⟨_, h, cuts_wr hp hin⟩, g⟩
        have HW := Lib.hid AW
        clear AW o3 g3
        go_wp2_with fail
        go_at_call 28
        refine (HW.out).mono ?_
        rintro e w4 ⟨rfl, hd4, G4⟩
        have HD4 := Lib.hid hd4
        clear hd4
        go_wp2_with fail
        go_at_call 10
        refine (c_AlIs_nil writeS _ _).mono ?_
        rintro e w5 ⟨rfl, g5⟩
        have HD5 : Hid (∃ d, LawD W w5 p d ∧ Cuts d n (i + 1)) := Lib.hid (by obtain ⟨d, hd, hp⟩ := HD4.out; exact ⟨d, lawD_gr hd g5, hp⟩)
        have G5 : Gr W w5 := Gr.trans G4 g5
        have AO : Calls Tryd.prog 29 #[.pointer (some ⟨p, 0, none⟩)] w5 fun e w' => e = .returned (.bool false) ∧ Gr w5 w' := by
          obtain ⟨d, hd, hp⟩ := HD5.out
          have := lawD_off hd
          rcases hp.st with ⟨h1, -, -⟩ | ⟨-, h2⟩
          · rw [h1] at this; exact this
          · omega
        have HO := Lib.hid AO
        clear AO HW HD4 g5 G4
        go_wp2_with fail
        go_at_call 29
        refine (HO.out).mono ?_
        rintro e w6 ⟨rfl, g6⟩
        have HD6 : Hid (∃ d, LawD W w6 p d ∧ Cuts d n (i + 1)) := Lib.hid (by obtain ⟨d, hd, hp⟩ := HD5.out; exact ⟨d, lawD_gr hd g6, hp⟩)
        have G6 : Gr W w6 := Gr.trans G5 g6
        clear g6 HO HD5 G5
        go_wp2_with fail
        go_roundg (m - (i + 1))
        case measure => omega
        case rel => exact ⟨i + 1, by go_num, by omega, by omega, HD6, G6⟩
      · have u1 : decide (n ≤ (i : Int)) = true := decide_eq_true (by omega)
        have u2 : n ≤ (i : Int) := by omega
        go_wp2_with fail
        go_at_call 11
        refine (ABi.out _).mono ?_
        rintro e w3 ⟨rfl, o3, g3⟩
        have G3 : Gr W w3 := Gr.trans hg g3
        have AW : Calls Tryd.prog 28 #[.pointer (some ⟨p, 0, none⟩), .int .i64 (i : Nat), .slice (some ⟨wr.heap.size, 0, none⟩) 64 64] w3 fun e w' => ∃ F, e = .returned (.iface 85 (.pointer (some ⟨F, 0, none⟩))) ∧ FaultAt w' F writeS i 9 ∧ (∃ d, LawD W w' p d ∧ Cuts d n (i + 1)) ∧ Gr W w' := by
          obtain ⟨d, hd, hp⟩ := HD.out
          refine (lawD_write_off (k := i) (lawD_gr hd g3) G3 (by rw [hp.dn]; omega) (cuts_off hp u2) (by rw [hp.ops]; omega) _ _).mono ?_
          rintro e w' ⟨F, rfl, hf, h, g⟩
          exact ⟨F, rfl, hf, ⟨_, h, cuts_x hp u2⟩, g⟩
        have HW := Lib.hid AW
        clear AW o3 g3
        go_wp2_with fail
        go_at_call 28
        refine (HW.out).mono ?_
        rintro e w4 ⟨F, rfl, hf, hd4, G4⟩
        have HD4 := Lib.hid hd4
        have HI4 := Lib.hid (c_AlIs_hit F writeS i 9 (by decide) w4 (HE.out w4 G4) hf)
        clear hd4 hf
        go_wp2_with fail
        go_at_call 10
        refine (HI4.out).mono ?_
        rintro e w5 ⟨rfl, g5⟩
        have HD5 : Hid (∃ d, LawD W w5 p d ∧ Cuts d n (i + 1)) := Lib.hid (by obtain ⟨d, hd, hp⟩ := HD4.out; exact ⟨d, lawD_gr hd g5, hp⟩)
        have G5 : Gr W w5 := Gr.trans G4 g5
        have AO : Calls Tryd.prog 29 #[.pointer (some ⟨p, 0, none⟩)] w5 fun e w' => e = .returned (.bool true) ∧ Gr w5 w' := by
          obtain ⟨d, hd, hp⟩ := HD5.out
          have := lawD_off hd
          rcases hp.st with ⟨h1, h2, h3⟩ | ⟨h1, h2⟩
          · omega
          · rw [h1] at this; exact this
        have HO := Lib.hid AO
        clear AO HW HD4 g5 G4 HI4
        go_wp2_with fail
        go_at_call 29
        refine (HO.out).mono ?_
        rintro e w6 ⟨rfl, g6⟩
        have HD6 : Hid (∃ d, LawD W w6 p d ∧ Cuts d n (i + 1)) := Lib.hid (by obtain ⟨d, hd, hp⟩ := HD5.out; exact ⟨d, lawD_gr hd g6, hp⟩)
        have G6 : Gr W w6 := Gr.trans G5 g6
        clear g6 HO HD5 G5
        go_wp2_with fail
        go_roundg (m - (i + 1))
        case measure => omega
        case rel => exact ⟨i + 1, by go_num, by omega, by omega, HD6, G6⟩
    · obtain rfl : i = m := by omega
      have ti : decide ((i : Int) < (i : Int)) = false := decide_eq_false (by omega)
      have ti3 : ¬ (i : Int) < (i : Int) := by omega
      obtain ⟨d, hd, hp⟩ := HD.out
      have HDD : Hid (LawD W wr p d ∧ Cuts d n i) := Lib.hid ⟨hd, hp⟩
      clear hd hp HD
      obtain ⟨wo, rfl⟩ : ∃ x, x = wr := ⟨wr, rfl⟩
      go_wp2_with fail
      go_loopg [10] i (fun j x wr => ∃ k : Nat, x = .int .i64 k ∧ k ≤ i ∧ j = i - k ∧ Gr wo wr)
      case atStart => exact ⟨0, rfl, by omega, by omega, Below.refl _ _⟩
      case round =>
        obtain ⟨k, rfl, hk, hkj, hg2⟩ := hrel
        by_cases hki : k < i
        · have ti : decide ((k : Int) < (i : Int)) = true := decide_eq_true (by omega)
          have ti2 : decide (k < i) = true := decide_eq_true hki
          have ti3 : (k : Int) < (i : Int) := by omega
          have ABk := Lib.hid (HK.out k (by omega))
          have AR : Calls Tryd.prog 30 #[.pointer (some ⟨p, 0, none⟩), .int .i64 k] wr fun e w' => ∃ ad c, e = .returned (.tuple #[.slice ad 64 c, .nilIface]) ∧ Row w' (.slice ad 64 c) (if (k : Int) < n ∧ k < i then blk (k : Nat) 64 else List.replicate 64 0) ∧ Gr wr w' := by
            have h := lawD_read (k := k) (lawD_gr HDD.out.1 hg2) (by rw [HDD.out.2.dn]; omega)
            rw [HDD.out.2.rd k (by omega)] at h
            exact h
          by_cases hkn : (k : Int) < n
          · have u1 : decide ((k : Int) < n) = true := decide_eq_true hkn
            rw [if_pos ⟨hkn, hki⟩] at AR
            have HR := Lib.hid AR
            clear AR
            go_wp2_with fail
            go_at_call 30
            refine (HR.out).mono ?_
            rintro e w3 ⟨rad, rc, rfl, hr3, g3⟩
            have HR3 := Lib.hid hr3
            have G3 : Gr wo w3 := Gr.trans hg2 g3
            clear hr3 HR g3
            go_wp2_with fail
            go_at_call 11
            refine (ABk.out _).mono ?_
            rintro e w4 ⟨B4, rfl, o4, g4⟩
            have G34 : Gr w3 w4 := Gr.trans ((Below.refl _ _).alloc (Nat.le_refl _) _) g4
            have HB4 := Lib.hid (bytes_same w4 (row_gr HR3.out G34) o4 (by rw [blk_len]; decide))
            clear o4 g4
            go_wp2_with fail
            go_at_call 21
            refine (HB4.out).mono ?_
            rintro e w5 ⟨rfl, g5⟩
            have G5 : Gr wo w5 := Gr.trans G3 (Gr.trans G34 g5)
            clear g5 HB4 HR3
            go_wp2_with fail
            go_roundg (i - (k + 1))
            case measure => omega
            case rel => exact ⟨k + 1, by go_num, by omega, by omega, G5⟩
          · have u1 : decide ((k : Int) < n) = false := decide_eq_false hkn
            rw [if_neg (fun h => hkn h.1)] at AR
            have HR := Lib.hid AR
            clear AR
            go_wp2_with fail
            go_at_call 30
            refine (HR.out).mono ?_
            rintro e w3 ⟨rad, rc, rfl, hr3, g3⟩
            have HR3 := Lib.hid hr3
            have G3 : Gr wo w3 := Gr.trans hg2 g3
            clear hr3 HR g3
            have HB4 := Lib.hid (bytes_same (w3.alloc o64) (row_gr HR3.out ((Below.refl _ _).alloc (Nat.le_refl _) _)) (row_own (HM2.out w3)) (by rw [List.length_replicate]; decide))
            go_wp2_with fail
            go_at_call 21
            refine (HB4.out).mono ?_
            rintro e w5 ⟨rfl, g5⟩
            have G5 : Gr wo w5 := Gr.trans G3 (Gr.trans ((Below.refl _ _).alloc (Nat.le_refl _) _) g5)
            clear g5 HB4 HR3
            go_wp2_with fail
            go_roundg (i - (k + 1))
            case measure => omega
            case rel => exact ⟨k + 1, by go_num, by omega, by omega, G5⟩
        · obtain rfl : k = i := by omega
          have ti : decide ((k : Int) < (k : Int)) = false := decide_eq_false (by omega)
          have ti3 : ¬ (k : Int) < (k : Int) := by omega
          have AW1 := Lib.hid (lawD_write_no (lawD_gr HDD.out.1 hg2) 200 (by rw [HDD.out.2.dn]; decide) (.slice none 0 0))
          go_wp2_with fail
          go_at_call 28
          refine (AW1.out).mono ?_
          rintro e w3 ⟨F3, rfl, hf3, g3⟩
          have HF3 := Lib.hid hf3
          have G3 : Gr wo w3 := Gr.trans hg2 g3
          clear hf3 g3 AW1
          go_wp2_with fail
          go_at_call 31
          refine (c_CodeF F3 2 (by decide) _ HF3.out.2.2).mono ?_
          rintro e w4 ⟨rfl, g4⟩
          have G4 : Gr wo w4 := Gr.trans G3 g4
          clear g4 HF3 G3
          have AW1 := Lib.hid (lawD_write_none (lawD_gr HDD.out.1 G4) 1 (by rw [HDD.out.2.dn]; decide))
          go_wp2_with fail
          go_at_call 28
          refine (AW1.out).mono ?_
          rintro e w5 ⟨F5, rfl, hf5, g5⟩
          have HF5 := Lib.hid hf5
          have G5 : Gr wo w5 := Gr.trans G4 g5
          clear hf5 g5 AW1 G4
          go_wp2_with fail
          go_at_call 31
          refine (c_CodeF F5 1 (by decide) _ HF5.out.2.2).mono ?_
          rintro e w6 ⟨rfl, g6⟩
          have G6 : Gr wo w6 := Gr.trans G5 g6
          clear g6 HF5 G5
          have AO : Calls Tryd.prog 32 #[.pointer (some ⟨p, 0, none⟩)] w6 fun e w' => e = .returned (.int .i64 (k : Nat)) ∧ Gr w6 w' := by
            have := lawD_ops (lawD_gr HDD.out.1 G6)
            rw [HDD.out.2.ops] at this
            exact this
          have HO := Lib.hid AO
          clear AO
          go_wp2_with fail
          go_at_call 32
          refine (HO.out).mono ?_
          rintro e w7 ⟨rfl, g7⟩
          have G7 : Gr wo w7 := Gr.trans G6 g7
          clear g7 G6 HO
          go_wp2_with fail
          go_at_call 25
          refine (p10_awake _).mono ?_
          rintro e w8 ⟨rfl, g8⟩
          go_wp2_with fail
          go_ret
          exact ⟨rfl, Gr.trans hg (Gr.trans G7 g8)⟩
set_option maxRecDepth 100000 in
theorem cuts_out (n o : Int) (h : ¬ (((-5 : Int) ≤ n ∧ n ≤ 60) ∧ 0 ≤ o ∧ o ≤ 80)) (W : World) : Calls Tryd.prog 5 #[.int .i64 n, .int .i64 o] W fun e w' => e = .returned (.bool true) ∧ Gr W w' := by
  by_cases h1 : n < -5
  · have t1 : decide (n < -5) = true := decide_eq_true h1
    go_enter Tryd.func5, Tryd.ntmps5
    go_wp2_with fail
    go_at_call 25
    refine ((p10_awake _)).mono ?_
    rintro e w1 ⟨rfl, hw1⟩
    have gw1 : Gr W w1 := Gr.trans (by go_grown) hw1
    clear hw1
    go_wp2_with fail
    go_ret
    exact ⟨rfl, gw1⟩
  · have t1 : decide (n < -5) = false := decide_eq_false h1
    by_cases h2 : (60 : Int) < n
    · have t2 : decide ((60 : Int) < n) = true := decide_eq_true h2
      go_enter Tryd.func5, Tryd.ntmps5
      go_wp2_with fail
      go_at_call 25
      refine ((p10_awake _)).mono ?_
      rintro e w1 ⟨rfl, hw1⟩
      have gw1 : Gr W w1 := Gr.trans (by go_grown) hw1
      clear hw1
      go_wp2_with fail
      go_ret
      exact ⟨rfl, gw1⟩
    · have t2 : decide ((60 : Int) < n) = false := decide_eq_false h2
      by_cases h3 : o < 0
      · have t3 : decide (o < 0) = true := decide_eq_true h3
        go_enter Tryd.func5, Tryd.ntmps5
        go_wp2_with fail
        go_at_call 25
        refine ((p10_awake _)).mono ?_
        rintro e w1 ⟨rfl, hw1⟩
        have gw1 : Gr W w1 := Gr.trans (by go_grown) hw1
        clear hw1
        go_wp2_with fail
        go_ret
        exact ⟨rfl, gw1⟩
      · have t3 : decide (o < 0) = false := decide_eq_false h3
        have h4 : (80 : Int) < o := by omega
        have t4 : decide ((80 : Int) < o) = true := decide_eq_true h4
        go_enter Tryd.func5, Tryd.ntmps5
        go_wp2_with fail
        go_at_call 25
        refine ((p10_awake _)).mono ?_
        rintro e w1 ⟨rfl, hw1⟩
        have gw1 : Gr W w1 := Gr.trans (by go_grown) hw1
        clear hw1
        go_wp2_with fail
        go_ret
        exact ⟨rfl, gw1⟩
theorem walk_DiskCuts (n o : Int) (hn : -9223372036854775808 ≤ n ∧ n ≤ 9223372036854775807) (ho : -9223372036854775808 ≤ o ∧ o ≤ 9223372036854775807) (W : World) (hE : ErrT W) : Calls Tryd.prog 5 #[.int .i64 n, .int .i64 o] W fun e w' => e = .returned (.bool true) ∧ Gr W w' := by
  by_cases h : ((-5 : Int) ≤ n ∧ n ≤ 60) ∧ 0 ≤ o ∧ o ≤ 80
  · obtain ⟨m, rfl⟩ : ∃ m : Nat, o = m := ⟨o.toNat, by omega⟩
    exact cuts_core n m h.1 (by omega) W hE
  · exact cuts_out n o h W
end Go.Proofs.YtcalleofndokaaaDoor
