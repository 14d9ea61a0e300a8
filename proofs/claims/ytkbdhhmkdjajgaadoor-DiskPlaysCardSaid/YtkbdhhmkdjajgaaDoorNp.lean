/- DiskPlays: the walk -/
import Derived.Test.YtkbdhhmkdjajgaaDoorNo
import Derived.Deep.CutBlock
namespace Go.Proofs.YtkbdhhmkdjajgaaDoor
set_option linter.unusedVariables false
set_option linter.unusedSimpArgs false
open Go.ChangeShapes Go.WideShapes Go.ChangeAt Go.RowKit Go.Maps

theorem off10_at {a b : World} {p : Nat} {v : Value} {L : List UInt8} (o : Own b a.heap.size v L) (hp : ∃ g bm M d, DiskS a p g bm M d) (g : Gr a b) : Off10 b p v L :=
  off10_new o hp (fun _ _ _ _ _ _ _ _ h1 h2 => diskS_uniq h1 h2) g
theorem off10_gr {a b : World} {p : Nat} {v : Value} {L : List UInt8} (h : Off10 a p v L) (hp : ∃ g bm M d, DiskS a p g bm M d) (g : Gr a b) : Off10 b p v L := fun g0 bm M d hd => by
  obtain ⟨g1, bm1, M1, d1, h1⟩ := hp
  exact rowOff_mono (rowOff_gr (h _ _ _ _ h1) g) (fun k hk => Or.inl (diskS_uniq hd (diskS_gr h1 g) k hk))
theorem mid10_disk {W w : World} {p q V : Nat} {d d2 : Dk} (h : Mid10 W w p q V d d2) : ∃ g bm M d, DiskS w p g bm M d := by
  obtain ⟨g, bm, M, h1, -⟩ := h
  exact ⟨g, bm, M, d, h1⟩
theorem midC_disk {W w : World} {p p' q V : Nat} {d : Dk} (h : MidC W w p p' q V d) : ∃ g bm M d, DiskS w p g bm M d := by
  obtain ⟨g, bm, M, _, _, _, h1, -⟩ := h
  exact ⟨g, bm, M, d, h1⟩
theorem mid10_V {W w : World} {p q V : Nat} {d d2 : Dk} (h : Mid10 W w p q V d d2) : W.heap.size ≤ V ∧ V < w.heap.size := by
  obtain ⟨_, _, _, _, _, _, _, h5, h6⟩ := h
  exact ⟨h6, h5⟩
theorem bools_kx {a b : World} {v : Value} {L : List Bool} {W : World} {V : Nat} (h : Bools W v L) (g : Gr W b) : Bools b v L := bools_gr h g
abbrev newS : ByteArray := ⟨#[110, 101, 119]⟩
theorem d_new_no (n : Int) (h : ¬ (1 ≤ n ∧ n ≤ 8192)) (W : World) : Calls Tryd.prog 6 #[.int .i64 n] W fun e w' => ∃ F, e = .returned (.tuple #[.pointer none, .iface 64 (.pointer (some ⟨F, 0, none⟩))]) ∧ FaultAt w' F newS n 1 ∧ Gr W w' := by
  by_cases h0 : n < 1
  · have t1 : decide (n < 1) = true := decide_eq_true h0
    clear h
    go_enter Tryd.func6, Tryd.ntmps6
    go_wp2_with fail
    go_at_call 25
    refine (d_faultNew newS n 1 _).mono ?_
    rintro e w3 ⟨F, rfl, hf, g3⟩
    go_wp2_with fail
    go_ret2
    exact ⟨F, rfl, hf, Gr.trans (by go_grown) g3⟩
  · have t1 : decide (n < 1) = false := decide_eq_false h0
    have t2 : decide ((8192 : Int) < n) = true := decide_eq_true (by omega)
    clear h
    go_enter Tryd.func6, Tryd.ntmps6
    go_wp2_with fail
    go_at_call 25
    refine (d_faultNew newS n 1 _).mono ?_
    rintro e w3 ⟨F, rfl, hf, g3⟩
    go_wp2_with fail
    go_ret2
    exact ⟨F, rfl, hf, Gr.trans (by go_grown) g3⟩
theorem c_Round10 (z : Int) (m : Nat) (hm : 0 < m) (hm2 : m ≤ 1000000) (h : -9223372036854775808 ≤ z ∧ z ≤ 9223372036854775807) (w : World) :
    Calls Tryd.prog 10 #[.int .i64 z, .int .i64 (m : Nat)] w fun e w' => ∃ k : Nat, k < m ∧ e = .returned (.int .i64 (k : Nat)) ∧ Gr w w' := by
  refine (c_RoundE z h.1 h.2 m hm hm2 w).mono ?_
  rintro e w' ⟨rfl, g⟩
  have h1 := Int.emod_nonneg z (show (m : Int) ≠ 0 by omega)
  have h2 := Int.emod_lt_of_pos z (show (0 : Int) < m by omega)
  exact ⟨(z % m).toNat, by omega, by rw [Int.toNat_of_nonneg h1], g⟩
theorem c_small10g {W : World} {v : Value} {n : Nat} {A E D : Nat → Int} {kv : Nat → Value} {K : Nat → List Bool} (h : Steps10 W v n A E D kv K) : ∀ w, Gr W w → Calls Tryd.prog 4 #[v] w fun e w' => Small10 n K e ∧ Gr w w' := fun w g => by
  obtain ⟨ad0, cap0, B0, off0, rfl, c1, c2, c3, c4, c5⟩ := h
  exact c_small10 w ⟨ad0, cap0, B0, off0, rfl, c1, c2, c3, fun k hk => by
    obtain ⟨a0, a1, a2, a3, a4⟩ := c4 k hk
    exact ⟨cell_gr g a0, cell_gr g a1, cell_gr g a2, cell_gr g a3, bools_gr a4 g⟩, c5⟩
/-- Both disks behind a step. -/
def MidZ (W w : World) (p q V i : Nat) : Prop := ∃ d, Mid10 W w p q V d d ∧ d.ops ≤ i
def PlayZ (W w : World) (p q i : Nat) : Prop := ∃ d, Play10 W w p q d ∧ d.ops ≤ i
theorem midZ_gr {W w w' : World} {p q V i : Nat} (h : MidZ W w p q V i) (g : Gr w w') : MidZ W w' p q V i := by
  obtain ⟨d, h1, h2⟩ := h
  exact ⟨d, mid10_gr h1 g, h2⟩
set_option maxHeartbeats 4000000 in
set_option maxRecDepth 100000 in
theorem plays10_core (W : World) (hE : ErrT W) (n0 : Nat) (hn1 : 1 ≤ n0) (hn2 : n0 ≤ 40) (v : Value) (n : Nat) (A E D : Nat → Int) (kv : Nat → Value) (K : Nat → List Bool) (h : Steps10 W v n A E D kv K) : Calls Tryd.prog 3 #[.int .i64 (n0 : Nat), v] W fun e w' => e = .returned (.bool true) ∧ Gr W w' := by
  have HS := Lib.hid (c_small10g h)
  obtain ⟨ad0, cap0, B0, off0, rfl, c1, c2, c3, c4, c5⟩ := h
  have HI0 := Lib.hid (And.intro c4 c5)
  have HT := Lib.hid hE
  have AIs : ∀ (op : ByteArray) (w : World), Gr W w → ∀ (u : Value) (z : Int) (c : Nat), UE w op u z c → Calls Tryd.prog 8 #[u, .int .i64 (c : Nat), .string op, .int .i64 z] w fun e w' => e = .returned (.bool true) ∧ Gr w w' := fun op w g u z c hU => c_IsUE w (errT_gr hE g) hU
  have HIs := Lib.hid AIs
  have AB : ∀ (m : Nat) (k : Int), m ≤ 1000 → (-9223372036854775808 ≤ k ∧ k ≤ 9223372036854775807) → ∀ w, Calls Tryd.prog 9 #[.int .i64 (m : Nat), .int .i64 k] w fun e w' => e = .returned (.slice (some ⟨w.heap.size, 0, none⟩) m m) ∧ Own w' w.heap.size (.slice (some ⟨w.heap.size, 0, none⟩) m m) (blk k m) ∧ Gr w w' := fun m k hm hk w => c_Block m hm k hk w
  have HBk := Lib.hid AB
  have t1 : decide ((40 : Int) < (n0 : Int)) = false := decide_eq_false (by omega)
  have AN := fun w => d_new n0 hn1 (by omega) w
  have AR := fun (p g bm : Nat) (w : World) (hz : ∀ k, dkZ p g bm none k → k < w.heap.size) (hb : W.heap.size ≤ w.heap.size) => rd_new (base := W.heap.size) (Z := dkZ p g bm none) n0 hn1 (by omega) w hz hb
  have AI := fun w => c_AlIs_nil newS (n0 : Int) w
  clear c2 c4 c5 AB hE AIs hn1 hn2
  have HN := Lib.hid AN
  have HR := Lib.hid AR
  have HI := Lib.hid AI
  clear AN AR AI
  go_enter Tryd.func3, Tryd.ntmps3
  go_wp2_with fail
  go_at_call 4
  refine (HS.out _ (by go_grown)).mono ?_
  rintro e w0 ⟨⟨b, rfl, hb⟩, g0⟩
  have G0 : Gr W w0 := g0
  clear g0
  rcases b with _ | _
  · clear hb
    go_wp2_with fail
    go_at_call 5
    refine (p10_awake _).mono ?_
    rintro e wa ⟨rfl, ga⟩
    go_wp2_with fail
    go_ret
    exact ⟨rfl, Gr.trans G0 ga⟩
  obtain ⟨hn, hK⟩ := hb rfl
  have HKL := Lib.hid hK
  clear hb hK
  go_wp2_with fail
  go_at_call 6
  refine (HN.out _).mono ?_
  rintro e w1 ⟨p, g, bm, rfl, hB, hd, g1⟩
  have HD1 := Lib.hid hd
  have HB1 := Lib.hid (fun k hk => Nat.le_trans G0.size (hB k hk))
  have G1 : Gr W w1 := Gr.trans G0 g1
  clear hd g1 hB
  go_wp2_with fail
  go_at_call 7
  refine (HR.out p g bm _ (diskS_zlt HD1.out) G1.size).mono ?_
  rintro e w2 ⟨q, gv, gs, rfl, hr, g2⟩
  have HX : Hid (PlayZ W w2 p q 0) := Lib.hid ⟨_, ⟨g, bm, none, diskS_gr HD1.out g2, ⟨_, _, _, _, _, _, hr⟩, HB1.out⟩, Nat.le_refl _⟩
  have G2 := Gr.trans G1 g2
  clear hr g2 HD1 HB1 G1
  go_wp2_with fail
  go_at_call 8
  refine (HI.out _).mono ?_
  rintro e w3 ⟨rfl, g3⟩
  have HX3 : Hid (PlayZ W w3 p q 0) := Lib.hid (by
    obtain ⟨d, h1, h2⟩ := HX.out
    exact ⟨d, play10_gr h1 g3, h2⟩)
  have G3 := Gr.trans G2 g3
  clear g3 HX G2
  go_wp2_with fail
  go_loopg [5, 7, 9] n (fun j x y z wr => ∃ (i p q : Nat), x = .pointer (some ⟨p, 0, none⟩) ∧ y = .pointer (some ⟨q, 0, none⟩) ∧ z = .int .i64 i ∧ i ≤ n ∧ j = n - i ∧ Hid (PlayZ W wr p q i) ∧ Gr W wr)
  case atStart => exact ⟨0, p, q, rfl, rfl, rfl, by omega, by omega, HX3, G3⟩
  case round =>
    obtain ⟨i, p, q, rfl, rfl, rfl, hi, hj, HD, hg⟩ := hrel
    by_cases hin : i < n
    · have ti : decide ((i : Int) < (n : Int)) = true := decide_eq_true (by omega)
      have ti2 : decide (i < n) = true := decide_eq_true hin
      have ti3 : (i : Int) < (n : Int) := by omega
      have ti4 : (i : Int) < (cap0 : Int) := by omega
      obtain rfl := c3 (by omega)
      obtain ⟨q0, q1, q2, q3, hbl⟩ := HI0.out.1 i hin
      have q0 := cell_gr hg q0
      have q1 := cell_gr hg q1
      have q2 := cell_gr hg q2
      have q3 := cell_gr hg q3
      have HBL := Lib.hid hbl
      have HKi := Lib.hid (HKL.out i hin)
      obtain ⟨kad, kcap, KB, koff, ek, -⟩ := hbl
      rw [ek] at q3 HBL
      have HBD := Lib.hid (And.intro (HI0.out.2 i).2.1 (HI0.out.2 i).2.2)
      generalize K i = keep at q3 HBL HKi
      generalize D i = nn at q2 HBD
      generalize E i = at_ at q1 HBD
      generalize A i = kn at q0
      have HY : Hid (MidZ W (wr.alloc (.cells #[.int .i64 kn, .int .i64 at_, .int .i64 nn, .slice kad keep.length kcap] 36)) p q wr.heap.size i) := Lib.hid (by
        obtain ⟨d, h1, h2⟩ := HD.out
        exact ⟨d, play10_mid h1 hg _, h2⟩)
      have GG : Gr W (wr.alloc (.cells #[.int .i64 kn, .int .i64 at_, .int .i64 nn, .slice kad keep.length kcap] 36)) := Gr.trans hg ((Below.refl _ _).alloc (Nat.le_refl _) _)
      have hVW : W.heap.size ≤ wr.heap.size := hg.size
      go_upto_region 13 with fail
      have k0 : (wr.alloc (.cells #[.int .i64 kn, .int .i64 at_, .int .i64 nn, .slice kad keep.length kcap] 36)).cell? ⟨wr.heap.size, 0, none⟩ = some (.int .i64 kn) := by go_simp
      have k1 : (wr.alloc (.cells #[.int .i64 kn, .int .i64 at_, .int .i64 nn, .slice kad keep.length kcap] 36)).cell? ⟨wr.heap.size, 1, none⟩ = some (.int .i64 at_) := by go_simp
      have k2 : (wr.alloc (.cells #[.int .i64 kn, .int .i64 at_, .int .i64 nn, .slice kad keep.length kcap] 36)).cell? ⟨wr.heap.size, 2, none⟩ = some (.int .i64 nn) := by go_simp
      have k3 : (wr.alloc (.cells #[.int .i64 kn, .int .i64 at_, .int .i64 nn, .slice kad keep.length kcap] 36)).cell? ⟨wr.heap.size, 3, none⟩ = some (.slice kad keep.length kcap) := by go_simp
      obtain ⟨V, hV⟩ : ∃ x, x = wr.heap.size := ⟨_, rfl⟩
      rw [← hV] at HY k0 k1 k2 k3 hVW ⊢
      clear hV
      generalize (wr.alloc (.cells #[.int .i64 kn, .int .i64 at_, .int .i64 nn, .slice kad keep.length kcap] 36)) = w5 at HY GG k0 k1 k2 k3 ⊢
      have G5 := GG
      clear q0 q1 q2 q3 GG HD hg
      go_upto_block 2 with fail
      go_cut [5, 7, 11, 12, 13, 14, 15, 16, 17] from 51 to 161 (fun x y ok _x12 _x13 _x14 _x15 _x16 _x17 wx => ∃ p' q', x = .pointer (some ⟨p', 0, none⟩) ∧ y = .pointer (some ⟨q', 0, none⟩) ∧ ok = .bool true ∧ Hid (MidZ W wx p' q' V (i + 1)) ∧ Gr W wx)
      case first =>
        obtain ⟨d, hM, hO⟩ := HY.out
        have HM : Hid (Mid10 W w5 p q V d d ∧ d.ops ≤ i) := Lib.hid ⟨hM, hO⟩
        have VV := mid10_V hM
        have VL := VV.2
        clear hM hO HY VV
        by_cases e1 : kn = 1
        · have x1 : (kn == 1) = true := by simpa using e1
          have x2 : (kn == 2) = false := by subst e1; rfl
          have HB := Lib.hid (HBk.out 64 nn (by decide) HBD.out.2)
          clear e1
          go_wp2_with fail
          go_at_call 9
          refine (HB.out _).mono ?_
          rintro e w8 ⟨rfl, o8, g8⟩
          have HR : Hid (Off10 w8 p (.slice (some ⟨w5.heap.size, 0, none⟩) 64 64) (blk nn 64)) := Lib.hid (off10_at o8 (mid10_disk HM.out.1) g8)
          have HM8 : Hid (Mid10 W w8 p q V d d ∧ d.ops ≤ i) := Lib.hid ⟨mid10_gr HM.out.1 g8, HM.out.2⟩
          have G8 := Gr.trans G5 g8
          have m0 := cell_gr g8 k0
          have m1 := cell_gr g8 k1
          have m2 := cell_gr g8 k2
          have m3 := cell_gr g8 k3
          have VL8 : V < w8.heap.size := Nat.lt_of_lt_of_le VL g8.size
          clear HM k0 k1 k2 k3 o8 g8 HB VL G5
          have HM := HM8
          generalize w5.heap.size = bb at HR ⊢
          have hlb : (64 : Nat) = (blk nn 64).length := (blk_len _ 64).symm
          generalize blk nn 64 = L at HR hlb
          have HLB := Lib.hid hlb
          clear hlb HM8
          obtain ⟨m, hm⟩ : ∃ m : Nat, m = 64 := ⟨_, rfl⟩
          rw [← hm] at HR HLB ⊢
          clear hm
          go_upto_region 20 with fail
          have gw8 := G8
          go_wp2_with fail
          try simp only [List.append]
          refine Oe.wp_region_ord (R := Kx (fun k => k ≠ V ∧ W.heap.size ≤ k)) [(0, false), (1, false), (2, false), (3, false), (5, false), (6, false), (7, false), (8, false), (10, false), (11, false), (4, true), (9, true), (12, true), (13, false)] (by kernel_rfl) (by kernel_rfl) ?_
          intro wa hwa KQ hKQ
          have hhwa := Kx.of_gr (S := (fun k => k ≠ V ∧ W.heap.size ≤ k)) hwa
          have cwa_0_0 : wa.cell? ⟨V, 0, none⟩ = some (.int .i64 kn) := cell_kx hhwa (by show ¬ (V ≠ V ∧ W.heap.size ≤ V); omega) (by go_simp)
          have cwa_0_1 : wa.cell? ⟨V, 1, none⟩ = some (.int .i64 at_) := cell_kx hhwa (by show ¬ (V ≠ V ∧ W.heap.size ≤ V); omega) (by go_simp)
          have cwa_0_2 : wa.cell? ⟨V, 2, none⟩ = some (.int .i64 nn) := cell_kx hhwa (by show ¬ (V ≠ V ∧ W.heap.size ≤ V); omega) (by go_simp)
          have cwa_0_3 : wa.cell? ⟨V, 3, none⟩ = some (.slice kad keep.length kcap) := cell_kx hhwa (by show ¬ (V ≠ V ∧ W.heap.size ≤ V); omega) (by go_simp)
          have zwa_0 : V < wa.heap.size := World.block_lt_of_cell? _ _ cwa_0_0
          have gwa : Gr W wa := Kx.gr hhwa (by have gg := gw8; have gs := gg.size; go_grown) (fun k hk => by have hk2 : k ≠ V ∧ W.heap.size ≤ k := hk; omega)
          have swa := hhwa.size
          clear gw8
          clear hhwa
          repeat (first | (refine Oe.wpO_skip (by simp only [List.getElem?_toArray, List.getElem?_cons_succ, List.getElem?_cons_zero] <;> rfl) rfl ?_; simp only [Act.put, List.setIfInBounds_toArray, List.set_cons_zero, List.set_cons_succ]) | (refine Oe.wpO_pure (by simp only [List.getElem?_toArray, List.getElem?_cons_succ, List.getElem?_cons_zero] <;> rfl) rfl ?_; apply Exists.intro; refine ⟨?_, ?_⟩; (· intro wx gx; have cx_0_0 : wx.cell? ⟨V, 0, none⟩ = some (.int .i64 kn) := cell_kx gx (by show ¬ (V ≠ V ∧ W.heap.size ≤ V); omega) cwa_0_0; have cx_0_1 : wx.cell? ⟨V, 1, none⟩ = some (.int .i64 at_) := cell_kx gx (by show ¬ (V ≠ V ∧ W.heap.size ≤ V); omega) cwa_0_1; have cx_0_2 : wx.cell? ⟨V, 2, none⟩ = some (.int .i64 nn) := cell_kx gx (by show ¬ (V ≠ V ∧ W.heap.size ≤ V); omega) cwa_0_2; have cx_0_3 : wx.cell? ⟨V, 3, none⟩ = some (.slice kad keep.length kcap) := cell_kx gx (by show ¬ (V ≠ V ∧ W.heap.size ≤ V); omega) cwa_0_3; have zx_0 : V < wx.heap.size := World.block_lt_of_cell? _ _ cx_0_0; clear gx; all_goals (apply Oe.pAt_of_quiet; intro K hK; go_big_quiet_op; first | exact hK _ rfl | (apply Exists.intro; refine ⟨fun _ => ?_, ?_⟩; (· fail); exact hK _ rfl))); try simp only [Act.put, List.setIfInBounds_toArray, List.set_cons_zero, List.set_cons_succ]))
          have MA := Lib.hid (And.intro (mid10_gr HM.out.1 hwa) (off10_gr HR.out (mid10_disk HM.out.1) hwa))
          refine Oe.wpO_call (by simp only [List.getElem?_toArray, List.getElem?_cons_succ, List.getElem?_cons_zero] <;> rfl) rfl ?_
          intro QS hQS
          go_wp2_with fail
          go_at_call 11
          (with_reducible refine ((x_write10 at_ m m (some ⟨bb, 0, none⟩) HLB.out (by have := HM.out.2; omega) MA.out.1 gwa MA.out.2)).mono ?_)
          rintro e wb ⟨u, c, d', rfl, hI, hd, hr6, hx6⟩
          have hhwb : Kx (fun k => k ≠ V ∧ W.heap.size ≤ k) wa wb := hx6
          go_wp2_with fail
          first | (apply Exists.intro; refine ⟨?_, hhwb, ?_⟩; (· simp only [Act.put, List.setIfInBounds_toArray, List.set_cons_zero, List.set_cons_succ]; rfl)) | (refine ⟨hhwb, ?_⟩)
          have cwb_0_0 : wb.cell? ⟨V, 0, none⟩ = some (.int .i64 kn) := cell_kx hhwb (by show ¬ (V ≠ V ∧ W.heap.size ≤ V); omega) (by go_simp)
          have cwb_0_1 : wb.cell? ⟨V, 1, none⟩ = some (.int .i64 at_) := cell_kx hhwb (by show ¬ (V ≠ V ∧ W.heap.size ≤ V); omega) (by go_simp)
          have cwb_0_2 : wb.cell? ⟨V, 2, none⟩ = some (.int .i64 nn) := cell_kx hhwb (by show ¬ (V ≠ V ∧ W.heap.size ≤ V); omega) (by go_simp)
          have cwb_0_3 : wb.cell? ⟨V, 3, none⟩ = some (.slice kad keep.length kcap) := cell_kx hhwb (by show ¬ (V ≠ V ∧ W.heap.size ≤ V); omega) (by go_simp)
          have zwb_0 : V < wb.heap.size := World.block_lt_of_cell? _ _ cwb_0_0
          have gwb : Gr W wb := Kx.gr hhwb gwa (fun k hk => by have hk2 : k ≠ V ∧ W.heap.size ≤ k := hk; omega)
          have swb := hhwb.size
          clear gwa zwa_0 cwa_0_0 cwa_0_1 cwa_0_2 cwa_0_3
          clear hhwb
          try simp only [Act.put, List.setIfInBounds_toArray, List.set_cons_zero, List.set_cons_succ]
          repeat (first | (refine Oe.wpO_skip (by simp only [List.getElem?_toArray, List.getElem?_cons_succ, List.getElem?_cons_zero] <;> rfl) rfl ?_; simp only [Act.put, List.setIfInBounds_toArray, List.set_cons_zero, List.set_cons_succ]) | (refine Oe.wpO_pure (by simp only [List.getElem?_toArray, List.getElem?_cons_succ, List.getElem?_cons_zero] <;> rfl) rfl ?_; apply Exists.intro; refine ⟨?_, ?_⟩; (· intro wx gx; have cx_0_0 : wx.cell? ⟨V, 0, none⟩ = some (.int .i64 kn) := cell_kx gx (by show ¬ (V ≠ V ∧ W.heap.size ≤ V); omega) cwb_0_0; have cx_0_1 : wx.cell? ⟨V, 1, none⟩ = some (.int .i64 at_) := cell_kx gx (by show ¬ (V ≠ V ∧ W.heap.size ≤ V); omega) cwb_0_1; have cx_0_2 : wx.cell? ⟨V, 2, none⟩ = some (.int .i64 nn) := cell_kx gx (by show ¬ (V ≠ V ∧ W.heap.size ≤ V); omega) cwb_0_2; have cx_0_3 : wx.cell? ⟨V, 3, none⟩ = some (.slice kad keep.length kcap) := cell_kx gx (by show ¬ (V ≠ V ∧ W.heap.size ≤ V); omega) cwb_0_3; have zx_0 : V < wx.heap.size := World.block_lt_of_cell? _ _ cx_0_0; clear gx; all_goals (apply Oe.pAt_of_quiet; intro K hK; go_big_quiet_op; first | exact hK _ rfl | (apply Exists.intro; refine ⟨fun _ => ?_, ?_⟩; (· fail); exact hK _ rfl))); try simp only [Act.put, List.setIfInBounds_toArray, List.set_cons_zero, List.set_cons_succ]))
          have HC := Lib.hid (And.intro hI (And.intro hd hr6))
          clear hI hd hr6 hx6 MA
          refine Oe.wpO_call (by simp only [List.getElem?_toArray, List.getElem?_cons_succ, List.getElem?_cons_zero] <;> rfl) rfl ?_
          intro QS hQS
          go_wp2_with fail
          go_at_call 12
          (with_reducible refine ((y_write10 HC.out.1 m m (some ⟨bb, 0, none⟩) HLB.out (by have := HM.out.2; omega) HC.out.2.1 gwb HC.out.2.2)).mono ?_)
          rintro e wc ⟨rfl, hd7, hx7⟩
          have hhwc : Kx (fun k => k ≠ V ∧ W.heap.size ≤ k) wb wc := hx7
          go_wp2_with fail
          first | (apply Exists.intro; refine ⟨?_, hhwc, ?_⟩; (· simp only [Act.put, List.setIfInBounds_toArray, List.set_cons_zero, List.set_cons_succ]; rfl)) | (refine ⟨hhwc, ?_⟩)
          have cwc_0_0 : wc.cell? ⟨V, 0, none⟩ = some (.int .i64 kn) := cell_kx hhwc (by show ¬ (V ≠ V ∧ W.heap.size ≤ V); omega) (by go_simp)
          have cwc_0_1 : wc.cell? ⟨V, 1, none⟩ = some (.int .i64 at_) := cell_kx hhwc (by show ¬ (V ≠ V ∧ W.heap.size ≤ V); omega) (by go_simp)
          have cwc_0_2 : wc.cell? ⟨V, 2, none⟩ = some (.int .i64 nn) := cell_kx hhwc (by show ¬ (V ≠ V ∧ W.heap.size ≤ V); omega) (by go_simp)
          have cwc_0_3 : wc.cell? ⟨V, 3, none⟩ = some (.slice kad keep.length kcap) := cell_kx hhwc (by show ¬ (V ≠ V ∧ W.heap.size ≤ V); omega) (by go_simp)
          have zwc_0 : V < wc.heap.size := World.block_lt_of_cell? _ _ cwc_0_0
          have gwc : Gr W wc := Kx.gr hhwc gwb (fun k hk => by have hk2 : k ≠ V ∧ W.heap.size ≤ k := hk; omega)
          have swc := hhwc.size
          clear gwb zwb_0 cwb_0_0 cwb_0_1 cwb_0_2 cwb_0_3
          clear hhwc
          try simp only [Act.put, List.setIfInBounds_toArray, List.set_cons_zero, List.set_cons_succ]
          repeat (first | (refine Oe.wpO_skip (by simp only [List.getElem?_toArray, List.getElem?_cons_succ, List.getElem?_cons_zero] <;> rfl) rfl ?_; simp only [Act.put, List.setIfInBounds_toArray, List.set_cons_zero, List.set_cons_succ]) | (refine Oe.wpO_pure (by simp only [List.getElem?_toArray, List.getElem?_cons_succ, List.getElem?_cons_zero] <;> rfl) rfl ?_; apply Exists.intro; refine ⟨?_, ?_⟩; (· intro wx gx; have cx_0_0 : wx.cell? ⟨V, 0, none⟩ = some (.int .i64 kn) := cell_kx gx (by show ¬ (V ≠ V ∧ W.heap.size ≤ V); omega) cwc_0_0; have cx_0_1 : wx.cell? ⟨V, 1, none⟩ = some (.int .i64 at_) := cell_kx gx (by show ¬ (V ≠ V ∧ W.heap.size ≤ V); omega) cwc_0_1; have cx_0_2 : wx.cell? ⟨V, 2, none⟩ = some (.int .i64 nn) := cell_kx gx (by show ¬ (V ≠ V ∧ W.heap.size ≤ V); omega) cwc_0_2; have cx_0_3 : wx.cell? ⟨V, 3, none⟩ = some (.slice kad keep.length kcap) := cell_kx gx (by show ¬ (V ≠ V ∧ W.heap.size ≤ V); omega) cwc_0_3; have zx_0 : V < wx.heap.size := World.block_lt_of_cell? _ _ cx_0_0; clear gx; all_goals (apply Oe.pAt_of_quiet; intro K hK; go_big_quiet_op; first | exact hK _ rfl | (apply Exists.intro; refine ⟨fun _ => ?_, ?_⟩; (· fail); exact hK _ rfl))); try simp only [Act.put, List.setIfInBounds_toArray, List.set_cons_zero, List.set_cons_succ]))
          have HD7 := Lib.hid hd7
          have HU7 := Lib.hid hd7.1
          clear hd7 hx7
          refine Oe.wpO_call (by simp only [List.getElem?_toArray, List.getElem?_cons_succ, List.getElem?_cons_zero] <;> rfl) rfl ?_
          intro QS hQS
          go_wp2_with fail
          go_at_call 8
          (with_reducible refine ((HIs.out writeS _ gwc _ _ _ HU7.out)).mono ?_)
          rintro e wd ⟨rfl, g8⟩
          have hhwd : Kx (fun k => k ≠ V ∧ W.heap.size ≤ k) wc wd := Kx.of_gr g8
          go_wp2_with fail
          first | (apply Exists.intro; refine ⟨?_, hhwd, ?_⟩; (· simp only [Act.put, List.setIfInBounds_toArray, List.set_cons_zero, List.set_cons_succ]; rfl)) | (refine ⟨hhwd, ?_⟩)
          have cwd_0_0 : wd.cell? ⟨V, 0, none⟩ = some (.int .i64 kn) := cell_kx hhwd (by show ¬ (V ≠ V ∧ W.heap.size ≤ V); omega) (by go_simp)
          have cwd_0_1 : wd.cell? ⟨V, 1, none⟩ = some (.int .i64 at_) := cell_kx hhwd (by show ¬ (V ≠ V ∧ W.heap.size ≤ V); omega) (by go_simp)
          have cwd_0_2 : wd.cell? ⟨V, 2, none⟩ = some (.int .i64 nn) := cell_kx hhwd (by show ¬ (V ≠ V ∧ W.heap.size ≤ V); omega) (by go_simp)
          have cwd_0_3 : wd.cell? ⟨V, 3, none⟩ = some (.slice kad keep.length kcap) := cell_kx hhwd (by show ¬ (V ≠ V ∧ W.heap.size ≤ V); omega) (by go_simp)
          have zwd_0 : V < wd.heap.size := World.block_lt_of_cell? _ _ cwd_0_0
          have gwd : Gr W wd := Kx.gr hhwd gwc (fun k hk => by have hk2 : k ≠ V ∧ W.heap.size ≤ k := hk; omega)
          have swd := hhwd.size
          clear gwc zwc_0 cwc_0_0 cwc_0_1 cwc_0_2 cwc_0_3
          clear hhwd
          try simp only [Act.put, List.setIfInBounds_toArray, List.set_cons_zero, List.set_cons_succ]
          repeat (first | (refine Oe.wpO_skip (by simp only [List.getElem?_toArray, List.getElem?_cons_succ, List.getElem?_cons_zero] <;> rfl) rfl ?_; simp only [Act.put, List.setIfInBounds_toArray, List.set_cons_zero, List.set_cons_succ]) | (refine Oe.wpO_pure (by simp only [List.getElem?_toArray, List.getElem?_cons_succ, List.getElem?_cons_zero] <;> rfl) rfl ?_; apply Exists.intro; refine ⟨?_, ?_⟩; (· intro wx gx; have cx_0_0 : wx.cell? ⟨V, 0, none⟩ = some (.int .i64 kn) := cell_kx gx (by show ¬ (V ≠ V ∧ W.heap.size ≤ V); omega) cwd_0_0; have cx_0_1 : wx.cell? ⟨V, 1, none⟩ = some (.int .i64 at_) := cell_kx gx (by show ¬ (V ≠ V ∧ W.heap.size ≤ V); omega) cwd_0_1; have cx_0_2 : wx.cell? ⟨V, 2, none⟩ = some (.int .i64 nn) := cell_kx gx (by show ¬ (V ≠ V ∧ W.heap.size ≤ V); omega) cwd_0_2; have cx_0_3 : wx.cell? ⟨V, 3, none⟩ = some (.slice kad keep.length kcap) := cell_kx gx (by show ¬ (V ≠ V ∧ W.heap.size ≤ V); omega) cwd_0_3; have zx_0 : V < wx.heap.size := World.block_lt_of_cell? _ _ cx_0_0; clear gx; all_goals (apply Oe.pAt_of_quiet; intro K hK; go_big_quiet_op; first | exact hK _ rfl | (apply Exists.intro; refine ⟨fun _ => ?_, ?_⟩; (· fail); exact hK _ rfl))); try simp only [Act.put, List.setIfInBounds_toArray, List.set_cons_zero, List.set_cons_succ]))
          have HYY : Hid (MidZ W wd p q V (i + 1)) := Lib.hid ⟨d', mid10_gr HD7.out.2 g8, by have := wrR_ops HC.out.1; have := HM.out.2; omega⟩
          clear g8 HD7 HC HU7
          refine Oe.wpO_nil (hKQ _ _ ?_)
          clear hKQ KQ
          have G8 := gwd
          go_wp2_with fail
          go_meet
          exact ⟨p, q, rfl, rfl, rfl, HYY, G8⟩
        · have x1 : (kn == 1) = false := by simpa using e1
          by_cases e2 : kn = 2
          · have x2 : (kn == 2) = true := by simpa using e2
            have HB := Lib.hid (HBk.out 64 nn (by decide) HBD.out.2)
            have HRn := Lib.hid (c_Round10 nn 100 (by decide) (by decide) HBD.out.2)
            clear e1 e2
            go_wp2_with fail
            go_at_call 9
            refine (HB.out _).mono ?_
            rintro e w6 ⟨rfl, o6, g6⟩
            have n0 := cell_gr g6 k0
            have n1 := cell_gr g6 k1
            have n2 := cell_gr g6 k2
            have n3 := cell_gr g6 k3
            have VL6 : V < w6.heap.size := Nat.lt_of_lt_of_le VL g6.size
            have HM6 : Hid (Mid10 W w6 p q V d d ∧ d.ops ≤ i) := Lib.hid ⟨mid10_gr HM.out.1 g6, HM.out.2⟩
            have G6 := Gr.trans G5 g6
            clear HM k0 k1 k2 k3 o6 g6 HB VL G5
            go_wp2_with fail
            go_at_call 10
            refine (HRn.out _).mono ?_
            rintro e w7 ⟨m, hm, rfl, g7⟩
            have HM7 : Hid (Mid10 W w7 p q V d d ∧ d.ops ≤ i) := Lib.hid ⟨mid10_gr HM6.out.1 g7, HM6.out.2⟩
            have G7 := Gr.trans G6 g7
            have o0 := cell_gr g7 n0
            have o1 := cell_gr g7 n1
            have o2 := cell_gr g7 n2
            have o3 := cell_gr g7 n3
            have VL7 : V < w7.heap.size := Nat.lt_of_lt_of_le VL6 g7.size
            have HB7 := Lib.hid (HBk.out m 1 (by omega) (by decide))
            clear HM6 n0 n1 n2 n3 g7 HRn VL6 G6 hm
            go_wp2_with fail
            go_at_call 9
            refine (HB7.out _).mono ?_
            rintro e w8 ⟨rfl, o8, g8⟩
            have HR : Hid (Off10 w8 p (.slice (some ⟨w7.heap.size, 0, none⟩) m m) (blk 1 m)) := Lib.hid (off10_at o8 (mid10_disk HM7.out.1) g8)
            have HM : Hid (Mid10 W w8 p q V d d ∧ d.ops ≤ i) := Lib.hid ⟨mid10_gr HM7.out.1 g8, HM7.out.2⟩
            have G8 := Gr.trans G7 g8
            have m0 := cell_gr g8 o0
            have m1 := cell_gr g8 o1
            have m2 := cell_gr g8 o2
            have m3 := cell_gr g8 o3
            have VL8 : V < w8.heap.size := Nat.lt_of_lt_of_le VL7 g8.size
            clear HM7 o0 o1 o2 o3 o8 g8 HB7 VL7 G7
            generalize w7.heap.size = bb at HR ⊢
            have hlb : m = (blk 1 m).length := (blk_len _ m).symm
            generalize blk 1 m = L at HR hlb
            have HLB := Lib.hid hlb
            clear hlb
            go_upto_region 20 with fail
            have gw8 := G8
            go_wp2_with fail
            try simp only [List.append]
            refine Oe.wp_region_ord (R := Kx (fun k => k ≠ V ∧ W.heap.size ≤ k)) [(0, false), (1, false), (2, false), (3, false), (5, false), (6, false), (7, false), (8, false), (10, false), (11, false), (4, true), (9, true), (12, true), (13, false)] (by kernel_rfl) (by kernel_rfl) ?_
            intro wa hwa KQ hKQ
            have hhwa := Kx.of_gr (S := (fun k => k ≠ V ∧ W.heap.size ≤ k)) hwa
            have cwa_0_0 : wa.cell? ⟨V, 0, none⟩ = some (.int .i64 kn) := cell_kx hhwa (by show ¬ (V ≠ V ∧ W.heap.size ≤ V); omega) (by go_simp)
            have cwa_0_1 : wa.cell? ⟨V, 1, none⟩ = some (.int .i64 at_) := cell_kx hhwa (by show ¬ (V ≠ V ∧ W.heap.size ≤ V); omega) (by go_simp)
            have cwa_0_2 : wa.cell? ⟨V, 2, none⟩ = some (.int .i64 nn) := cell_kx hhwa (by show ¬ (V ≠ V ∧ W.heap.size ≤ V); omega) (by go_simp)
            have cwa_0_3 : wa.cell? ⟨V, 3, none⟩ = some (.slice kad keep.length kcap) := cell_kx hhwa (by show ¬ (V ≠ V ∧ W.heap.size ≤ V); omega) (by go_simp)
            have zwa_0 : V < wa.heap.size := World.block_lt_of_cell? _ _ cwa_0_0
            have gwa : Gr W wa := Kx.gr hhwa (by have gg := gw8; have gs := gg.size; go_grown) (fun k hk => by have hk2 : k ≠ V ∧ W.heap.size ≤ k := hk; omega)
            have swa := hhwa.size
            clear gw8
            clear hhwa
            repeat (first | (refine Oe.wpO_skip (by simp only [List.getElem?_toArray, List.getElem?_cons_succ, List.getElem?_cons_zero] <;> rfl) rfl ?_; simp only [Act.put, List.setIfInBounds_toArray, List.set_cons_zero, List.set_cons_succ]) | (refine Oe.wpO_pure (by simp only [List.getElem?_toArray, List.getElem?_cons_succ, List.getElem?_cons_zero] <;> rfl) rfl ?_; apply Exists.intro; refine ⟨?_, ?_⟩; (· intro wx gx; have cx_0_0 : wx.cell? ⟨V, 0, none⟩ = some (.int .i64 kn) := cell_kx gx (by show ¬ (V ≠ V ∧ W.heap.size ≤ V); omega) cwa_0_0; have cx_0_1 : wx.cell? ⟨V, 1, none⟩ = some (.int .i64 at_) := cell_kx gx (by show ¬ (V ≠ V ∧ W.heap.size ≤ V); omega) cwa_0_1; have cx_0_2 : wx.cell? ⟨V, 2, none⟩ = some (.int .i64 nn) := cell_kx gx (by show ¬ (V ≠ V ∧ W.heap.size ≤ V); omega) cwa_0_2; have cx_0_3 : wx.cell? ⟨V, 3, none⟩ = some (.slice kad keep.length kcap) := cell_kx gx (by show ¬ (V ≠ V ∧ W.heap.size ≤ V); omega) cwa_0_3; have zx_0 : V < wx.heap.size := World.block_lt_of_cell? _ _ cx_0_0; clear gx; all_goals (apply Oe.pAt_of_quiet; intro K hK; go_big_quiet_op; first | exact hK _ rfl | (apply Exists.intro; refine ⟨fun _ => ?_, ?_⟩; (· fail); exact hK _ rfl))); try simp only [Act.put, List.setIfInBounds_toArray, List.set_cons_zero, List.set_cons_succ]))
            have MA := Lib.hid (And.intro (mid10_gr HM.out.1 hwa) (off10_gr HR.out (mid10_disk HM.out.1) hwa))
            refine Oe.wpO_call (by simp only [List.getElem?_toArray, List.getElem?_cons_succ, List.getElem?_cons_zero] <;> rfl) rfl ?_
            intro QS hQS
            go_wp2_with fail
            go_at_call 11
            (with_reducible refine ((x_write10 at_ m m (some ⟨bb, 0, none⟩) HLB.out (by have := HM.out.2; omega) MA.out.1 gwa MA.out.2)).mono ?_)
            rintro e wb ⟨u, c, d', rfl, hI, hd, hr6, hx6⟩
            have hhwb : Kx (fun k => k ≠ V ∧ W.heap.size ≤ k) wa wb := hx6
            go_wp2_with fail
            first | (apply Exists.intro; refine ⟨?_, hhwb, ?_⟩; (· simp only [Act.put, List.setIfInBounds_toArray, List.set_cons_zero, List.set_cons_succ]; rfl)) | (refine ⟨hhwb, ?_⟩)
            have cwb_0_0 : wb.cell? ⟨V, 0, none⟩ = some (.int .i64 kn) := cell_kx hhwb (by show ¬ (V ≠ V ∧ W.heap.size ≤ V); omega) (by go_simp)
            have cwb_0_1 : wb.cell? ⟨V, 1, none⟩ = some (.int .i64 at_) := cell_kx hhwb (by show ¬ (V ≠ V ∧ W.heap.size ≤ V); omega) (by go_simp)
            have cwb_0_2 : wb.cell? ⟨V, 2, none⟩ = some (.int .i64 nn) := cell_kx hhwb (by show ¬ (V ≠ V ∧ W.heap.size ≤ V); omega) (by go_simp)
            have cwb_0_3 : wb.cell? ⟨V, 3, none⟩ = some (.slice kad keep.length kcap) := cell_kx hhwb (by show ¬ (V ≠ V ∧ W.heap.size ≤ V); omega) (by go_simp)
            have zwb_0 : V < wb.heap.size := World.block_lt_of_cell? _ _ cwb_0_0
            have gwb : Gr W wb := Kx.gr hhwb gwa (fun k hk => by have hk2 : k ≠ V ∧ W.heap.size ≤ k := hk; omega)
            have swb := hhwb.size
            clear gwa zwa_0 cwa_0_0 cwa_0_1 cwa_0_2 cwa_0_3
            clear hhwb
            try simp only [Act.put, List.setIfInBounds_toArray, List.set_cons_zero, List.set_cons_succ]
            repeat (first | (refine Oe.wpO_skip (by simp only [List.getElem?_toArray, List.getElem?_cons_succ, List.getElem?_cons_zero] <;> rfl) rfl ?_; simp only [Act.put, List.setIfInBounds_toArray, List.set_cons_zero, List.set_cons_succ]) | (refine Oe.wpO_pure (by simp only [List.getElem?_toArray, List.getElem?_cons_succ, List.getElem?_cons_zero] <;> rfl) rfl ?_; apply Exists.intro; refine ⟨?_, ?_⟩; (· intro wx gx; have cx_0_0 : wx.cell? ⟨V, 0, none⟩ = some (.int .i64 kn) := cell_kx gx (by show ¬ (V ≠ V ∧ W.heap.size ≤ V); omega) cwb_0_0; have cx_0_1 : wx.cell? ⟨V, 1, none⟩ = some (.int .i64 at_) := cell_kx gx (by show ¬ (V ≠ V ∧ W.heap.size ≤ V); omega) cwb_0_1; have cx_0_2 : wx.cell? ⟨V, 2, none⟩ = some (.int .i64 nn) := cell_kx gx (by show ¬ (V ≠ V ∧ W.heap.size ≤ V); omega) cwb_0_2; have cx_0_3 : wx.cell? ⟨V, 3, none⟩ = some (.slice kad keep.length kcap) := cell_kx gx (by show ¬ (V ≠ V ∧ W.heap.size ≤ V); omega) cwb_0_3; have zx_0 : V < wx.heap.size := World.block_lt_of_cell? _ _ cx_0_0; clear gx; all_goals (apply Oe.pAt_of_quiet; intro K hK; go_big_quiet_op; first | exact hK _ rfl | (apply Exists.intro; refine ⟨fun _ => ?_, ?_⟩; (· fail); exact hK _ rfl))); try simp only [Act.put, List.setIfInBounds_toArray, List.set_cons_zero, List.set_cons_succ]))
            have HC := Lib.hid (And.intro hI (And.intro hd hr6))
            clear hI hd hr6 hx6 MA
            refine Oe.wpO_call (by simp only [List.getElem?_toArray, List.getElem?_cons_succ, List.getElem?_cons_zero] <;> rfl) rfl ?_
            intro QS hQS
            go_wp2_with fail
            go_at_call 12
            (with_reducible refine ((y_write10 HC.out.1 m m (some ⟨bb, 0, none⟩) HLB.out (by have := HM.out.2; omega) HC.out.2.1 gwb HC.out.2.2)).mono ?_)
            rintro e wc ⟨rfl, hd7, hx7⟩
            have hhwc : Kx (fun k => k ≠ V ∧ W.heap.size ≤ k) wb wc := hx7
            go_wp2_with fail
            first | (apply Exists.intro; refine ⟨?_, hhwc, ?_⟩; (· simp only [Act.put, List.setIfInBounds_toArray, List.set_cons_zero, List.set_cons_succ]; rfl)) | (refine ⟨hhwc, ?_⟩)
            have cwc_0_0 : wc.cell? ⟨V, 0, none⟩ = some (.int .i64 kn) := cell_kx hhwc (by show ¬ (V ≠ V ∧ W.heap.size ≤ V); omega) (by go_simp)
            have cwc_0_1 : wc.cell? ⟨V, 1, none⟩ = some (.int .i64 at_) := cell_kx hhwc (by show ¬ (V ≠ V ∧ W.heap.size ≤ V); omega) (by go_simp)
            have cwc_0_2 : wc.cell? ⟨V, 2, none⟩ = some (.int .i64 nn) := cell_kx hhwc (by show ¬ (V ≠ V ∧ W.heap.size ≤ V); omega) (by go_simp)
            have cwc_0_3 : wc.cell? ⟨V, 3, none⟩ = some (.slice kad keep.length kcap) := cell_kx hhwc (by show ¬ (V ≠ V ∧ W.heap.size ≤ V); omega) (by go_simp)
            have zwc_0 : V < wc.heap.size := World.block_lt_of_cell? _ _ cwc_0_0
            have gwc : Gr W wc := Kx.gr hhwc gwb (fun k hk => by have hk2 : k ≠ V ∧ W.heap.size ≤ k := hk; omega)
            have swc := hhwc.size
            clear gwb zwb_0 cwb_0_0 cwb_0_1 cwb_0_2 cwb_0_3
            clear hhwc
            try simp only [Act.put, List.setIfInBounds_toArray, List.set_cons_zero, List.set_cons_succ]
            repeat (first | (refine Oe.wpO_skip (by simp only [List.getElem?_toArray, List.getElem?_cons_succ, List.getElem?_cons_zero] <;> rfl) rfl ?_; simp only [Act.put, List.setIfInBounds_toArray, List.set_cons_zero, List.set_cons_succ]) | (refine Oe.wpO_pure (by simp only [List.getElem?_toArray, List.getElem?_cons_succ, List.getElem?_cons_zero] <;> rfl) rfl ?_; apply Exists.intro; refine ⟨?_, ?_⟩; (· intro wx gx; have cx_0_0 : wx.cell? ⟨V, 0, none⟩ = some (.int .i64 kn) := cell_kx gx (by show ¬ (V ≠ V ∧ W.heap.size ≤ V); omega) cwc_0_0; have cx_0_1 : wx.cell? ⟨V, 1, none⟩ = some (.int .i64 at_) := cell_kx gx (by show ¬ (V ≠ V ∧ W.heap.size ≤ V); omega) cwc_0_1; have cx_0_2 : wx.cell? ⟨V, 2, none⟩ = some (.int .i64 nn) := cell_kx gx (by show ¬ (V ≠ V ∧ W.heap.size ≤ V); omega) cwc_0_2; have cx_0_3 : wx.cell? ⟨V, 3, none⟩ = some (.slice kad keep.length kcap) := cell_kx gx (by show ¬ (V ≠ V ∧ W.heap.size ≤ V); omega) cwc_0_3; have zx_0 : V < wx.heap.size := World.block_lt_of_cell? _ _ cx_0_0; clear gx; all_goals (apply Oe.pAt_of_quiet; intro K hK; go_big_quiet_op; first | exact hK _ rfl | (apply Exists.intro; refine ⟨fun _ => ?_, ?_⟩; (· fail); exact hK _ rfl))); try simp only [Act.put, List.setIfInBounds_toArray, List.set_cons_zero, List.set_cons_succ]))
            have HD7 := Lib.hid hd7
            have HU7 := Lib.hid hd7.1
            clear hd7 hx7
            refine Oe.wpO_call (by simp only [List.getElem?_toArray, List.getElem?_cons_succ, List.getElem?_cons_zero] <;> rfl) rfl ?_
            intro QS hQS
            go_wp2_with fail
            go_at_call 8
            (with_reducible refine ((HIs.out writeS _ gwc _ _ _ HU7.out)).mono ?_)
            rintro e wd ⟨rfl, g8⟩
            have hhwd : Kx (fun k => k ≠ V ∧ W.heap.size ≤ k) wc wd := Kx.of_gr g8
            go_wp2_with fail
            first | (apply Exists.intro; refine ⟨?_, hhwd, ?_⟩; (· simp only [Act.put, List.setIfInBounds_toArray, List.set_cons_zero, List.set_cons_succ]; rfl)) | (refine ⟨hhwd, ?_⟩)
            have cwd_0_0 : wd.cell? ⟨V, 0, none⟩ = some (.int .i64 kn) := cell_kx hhwd (by show ¬ (V ≠ V ∧ W.heap.size ≤ V); omega) (by go_simp)
            have cwd_0_1 : wd.cell? ⟨V, 1, none⟩ = some (.int .i64 at_) := cell_kx hhwd (by show ¬ (V ≠ V ∧ W.heap.size ≤ V); omega) (by go_simp)
            have cwd_0_2 : wd.cell? ⟨V, 2, none⟩ = some (.int .i64 nn) := cell_kx hhwd (by show ¬ (V ≠ V ∧ W.heap.size ≤ V); omega) (by go_simp)
            have cwd_0_3 : wd.cell? ⟨V, 3, none⟩ = some (.slice kad keep.length kcap) := cell_kx hhwd (by show ¬ (V ≠ V ∧ W.heap.size ≤ V); omega) (by go_simp)
            have zwd_0 : V < wd.heap.size := World.block_lt_of_cell? _ _ cwd_0_0
            have gwd : Gr W wd := Kx.gr hhwd gwc (fun k hk => by have hk2 : k ≠ V ∧ W.heap.size ≤ k := hk; omega)
            have swd := hhwd.size
            clear gwc zwc_0 cwc_0_0 cwc_0_1 cwc_0_2 cwc_0_3
            clear hhwd
            try simp only [Act.put, List.setIfInBounds_toArray, List.set_cons_zero, List.set_cons_succ]
            repeat (first | (refine Oe.wpO_skip (by simp only [List.getElem?_toArray, List.getElem?_cons_succ, List.getElem?_cons_zero] <;> rfl) rfl ?_; simp only [Act.put, List.setIfInBounds_toArray, List.set_cons_zero, List.set_cons_succ]) | (refine Oe.wpO_pure (by simp only [List.getElem?_toArray, List.getElem?_cons_succ, List.getElem?_cons_zero] <;> rfl) rfl ?_; apply Exists.intro; refine ⟨?_, ?_⟩; (· intro wx gx; have cx_0_0 : wx.cell? ⟨V, 0, none⟩ = some (.int .i64 kn) := cell_kx gx (by show ¬ (V ≠ V ∧ W.heap.size ≤ V); omega) cwd_0_0; have cx_0_1 : wx.cell? ⟨V, 1, none⟩ = some (.int .i64 at_) := cell_kx gx (by show ¬ (V ≠ V ∧ W.heap.size ≤ V); omega) cwd_0_1; have cx_0_2 : wx.cell? ⟨V, 2, none⟩ = some (.int .i64 nn) := cell_kx gx (by show ¬ (V ≠ V ∧ W.heap.size ≤ V); omega) cwd_0_2; have cx_0_3 : wx.cell? ⟨V, 3, none⟩ = some (.slice kad keep.length kcap) := cell_kx gx (by show ¬ (V ≠ V ∧ W.heap.size ≤ V); omega) cwd_0_3; have zx_0 : V < wx.heap.size := World.block_lt_of_cell? _ _ cx_0_0; clear gx; all_goals (apply Oe.pAt_of_quiet; intro K hK; go_big_quiet_op; first | exact hK _ rfl | (apply Exists.intro; refine ⟨fun _ => ?_, ?_⟩; (· fail); exact hK _ rfl))); try simp only [Act.put, List.setIfInBounds_toArray, List.set_cons_zero, List.set_cons_succ]))
            have HYY : Hid (MidZ W wd p q V (i + 1)) := Lib.hid ⟨d', mid10_gr HD7.out.2 g8, by have := wrR_ops HC.out.1; have := HM.out.2; omega⟩
            clear g8 HD7 HC HU7
            refine Oe.wpO_nil (hKQ _ _ ?_)
            clear hKQ KQ
            have G8 := gwd
            go_wp2_with fail
            go_meet
            exact ⟨p, q, rfl, rfl, rfl, HYY, G8⟩
          · have x2 : (kn == 2) = false := by simpa using e2
            by_cases e3 : kn = 3
            · have x3 : (kn == 3) = true := by simpa using e3
              have AX := x_sync10 (by have := HM.out.2; omega) HM.out.1 G5
              have HAX := Lib.hid AX
              clear AX e1 e2 e3
              go_wp2_with fail
              go_at_call 13
              refine (HAX.out).mono ?_
              rintro e w6 ⟨u, c, d', rfl, hI, hd, hx6⟩
              have G6 := kxV10_gr hx6 G5
              have HC := Lib.hid hI
              have HY6 := Lib.hid (y_sync10 hI (by have := HM.out.2; omega) hd G6)
              clear hI hd hx6 HAX
              go_wp2_with fail
              go_at_call 14
              refine (HY6.out).mono ?_
              rintro e w7 ⟨rfl, hd7, hx7⟩
              have G7 := kxV10_gr hx7 G6
              have HI7 := Lib.hid (HIs.out syncS w7 G7 u _ c hd7.1)
              have HD7 := Lib.hid hd7
              clear hd7 hx7 HY6
              go_wp2_with fail
              go_at_call 8
              refine (HI7.out).mono ?_
              rintro e w8 ⟨rfl, g8⟩
              have G8 := Gr.trans G7 g8
              have HYY : Hid (MidZ W w8 p q V (i + 1)) := Lib.hid ⟨d', mid10_gr HD7.out.2 g8, by have := syR_ops HC.out; have := HM.out.2; omega⟩
              clear g8 HD7 HI7 HC
              go_wp2_with fail
              go_meet
              exact ⟨p, q, rfl, rfl, rfl, HYY, G8⟩
            · have x3 : (kn == 3) = false := by simpa using e3
              by_cases e4 : kn = 4
              · have x4 : (kn == 4) = true := by simpa using e4
                have AX := x_read10 at_ HM.out.1
                have HAX := Lib.hid AX
                clear AX e1 e2 e3 e4
                go_wp2_with fail
                go_at_call 15
                refine (HAX.out).mono ?_
                rintro e w6 ⟨u, c, L, ad, m, cp, rfl, hI, hU, hr, hl, g6⟩
                have G6 := Gr.trans G5 g6
                have n1 := cell_gr g6 k1
                have HY6 := Lib.hid (y_read10 hI (mid10_gr HM.out.1 g6))
                have HC := Lib.hid (And.intro hU (And.intro hr (And.intro hl g6)))
                clear hI hU hr hl g6 HAX k0 k1 k2 k3
                go_wp2_with fail
                go_at_call 16
                refine (HY6.out).mono ?_
                rintro e w7 ⟨ad7, m7, cp7, rfl, hr7, g7⟩
                have G7 := Gr.trans G6 g7
                have o1 := cell_gr g7 n1
                have HB7 := Lib.hid (bytes_same w7 (row_gr HC.out.2.1 g7) hr7 (by have := HC.out.2.2.1; omega))
                have HU7 := Lib.hid (uE_gr HC.out.1 g7)
                have HM7 : Hid (Mid10 W w7 p q V d d) := Lib.hid (mid10_gr (mid10_gr HM.out.1 HC.out.2.2.2) g7)
                clear hr7 g7 HC HY6 n1
                go_wp2_with fail
                go_at_call 17
                refine (HB7.out).mono ?_
                rintro e w8 ⟨rfl, g8⟩
                have G8 := Gr.trans G7 g8
                have m1 := cell_gr g8 o1
                have HI8 := Lib.hid (HIs.out readS w8 G8 _ _ _ (uE_gr HU7.out g8))
                have HM8 : Hid (Mid10 W w8 p q V d d) := Lib.hid (mid10_gr HM7.out g8)
                clear g8 HU7 HM7 HB7 o1
                go_wp2_with fail
                go_at_call 8
                refine (HI8.out).mono ?_
                rintro e w9 ⟨rfl, g9⟩
                have G9 := Gr.trans G8 g9
                have HYY : Hid (MidZ W w9 p q V (i + 1)) := Lib.hid ⟨d, mid10_gr HM8.out g9, by have := HM.out.2; omega⟩
                clear g9 HI8 HM8
                go_wp2_with fail
                go_meet
                exact ⟨p, q, rfl, rfl, rfl, HYY, G9⟩
              · have x4 : (kn == 4) = false := by simpa using e4
                by_cases e5 : kn = 5
                · have x5 : (kn == 5) = true := by simpa using e5
                  have AX := x_cut10 nn HBD.out.2 HM.out.1 G5
                  have HAX := Lib.hid AX
                  clear AX e1 e2 e3 e4 e5
                  go_wp2_with fail
                  go_at_call 18
                  refine (HAX.out).mono ?_
                  rintro e w6 ⟨rfl, hd, hx6⟩
                  have G6 := kxV10_gr hx6 G5
                  have n2 := cell_kx hx6 (fun e => e.1 rfl) k2
                  have HY6 := Lib.hid (y_cut10 nn HBD.out.2 hd G6)
                  clear hd hx6 HAX k0 k1 k2 k3
                  go_wp2_with fail
                  go_at_call 19
                  refine (HY6.out).mono ?_
                  rintro e w7 ⟨rfl, hd7, hx7⟩
                  have G7 := kxV10_gr hx7 G6
                  have HYY : Hid (MidZ W w7 p q V (i + 1)) := Lib.hid ⟨_, hd7, by have := HM.out.2; show d.ops ≤ i + 1; omega⟩
                  clear hd7 hx7 HY6 n2
                  go_wp2_with fail
                  go_meet
                  exact ⟨p, q, rfl, rfl, rfl, HYY, G7⟩
                · have x5 : (kn == 5) = false := by simpa using e5
                  by_cases e6 : kn = 6
                  · have x6 : (kn == 6) = true := by simpa using e6
                    have AX := x_crash10 keep (.slice kad keep.length kcap) nn HM.out.1 G5 (bools_gr HBL.out G5) (by have := HKi.out; omega)
                    have HAX := Lib.hid AX
                    clear AX e1 e2 e3 e4 e5 e6
                    go_wp2_with fail
                    go_at_call 20
                    refine (HAX.out).mono ?_
                    rintro e w6 ⟨p', rfl, hd, g6⟩
                    have G6 := Gr.trans G5 g6
                    have n2 := cell_gr g6 k2
                    have n3 := cell_gr g6 k3
                    have HY6 := Lib.hid (y_crash10 keep (.slice kad keep.length kcap) nn hd G6 (bools_gr HBL.out G6) (by have := HKi.out; omega))
                    clear hd g6 HAX k0 k1 k2 k3
                    go_wp2_with fail
                    go_at_call 21
                    refine (HY6.out).mono ?_
                    rintro e w7 ⟨q', rfl, hd7, g7⟩
                    have G7 := Gr.trans G6 g7
                    have HYY : Hid (MidZ W w7 p' q' V (i + 1)) := Lib.hid ⟨_, hd7, Nat.zero_le _⟩
                    clear hd7 g7 HY6 n2 n3
                    go_wp2_with fail
                    go_meet
                    exact ⟨p', q', rfl, rfl, rfl, HYY, G7⟩
                  · have x6 : (kn == 6) = false := by simpa using e6
                    by_cases e7 : kn = 7
                    · have x7 : (kn == 7) = true := by simpa using e7
                      have HAX := Lib.hid (x_copy10 HM.out.1 G5)
                      have HB := Lib.hid (HBk.out 64 99 (by decide) (by decide))
                      clear e1 e2 e3 e4 e5 e6 e7
                      go_wp2_with fail
                      go_at_call 22
                      refine (HAX.out).mono ?_
                      rintro e w6 ⟨p', rfl, hd, g6⟩
                      have G6 := Gr.trans G5 g6
                      have HD6 := Lib.hid hd
                      clear hd g6 HAX k0 k1 k2 k3
                      go_wp2_with fail
                      go_at_call 9
                      refine (HB.out _).mono ?_
                      rintro e w7 ⟨rfl, o7, g7⟩
                      have G7 := Gr.trans G6 g7
                      have HW7 := Lib.hid (x_wold10 0 64 64 (some ⟨w6.heap.size, 0, none⟩) (blk_len _ 64).symm (by have := HM.out.2; omega) (midC_gr HD6.out g7) G7 (off10_at o7 (midC_disk HD6.out) g7))
                      clear o7 g7 HD6 HB
                      go_wp2_with fail
                      go_at_call 11
                      refine (HW7.out).mono ?_
                      rintro e w8 ⟨u, rfl, hd8, hx8⟩
                      have G8 := kxV10_gr hx8 G7
                      have HYY : Hid (MidZ W w8 p' q V (i + 1)) := Lib.hid ⟨d, hd8, by have := HM.out.2; omega⟩
                      clear hd8 hx8 HW7
                      go_wp2_with fail
                      go_meet
                      exact ⟨p', q, rfl, rfl, rfl, HYY, G8⟩
                    · have x7 : (kn == 7) = false := by simpa using e7
                      have HYY : Hid (MidZ W w5 p q V (i + 1)) := Lib.hid ⟨d, HM.out.1, by have := HM.out.2; omega⟩
                      clear e1 e2 e3 e4 e5 e6 e7 HM
                      go_wp2_with fail
                      go_meet
                      exact ⟨p, q, rfl, rfl, rfl, HYY, G5⟩
      case rest =>
        obtain ⟨p', q', rfl, rfl, rfl, HY6, G6⟩ := hcut
        have AS := Lib.hid (show Calls Tryd.prog 23 #[.pointer (some ⟨p', 0, none⟩), .pointer (some ⟨q', 0, none⟩)] _ fun e w' => e = .returned (.bool true) ∧ Gr _ w' from by
          obtain ⟨d, ⟨g0, bm, M, h1, ⟨gv, av, nv, gs, ns, dl, h2⟩, -⟩, -⟩ := HY6.out
          exact c_dsame _ h1 h2)
        go_wp2_with fail
        go_at_call 23
        refine (AS.out).mono ?_
        rintro e w8 ⟨rfl, g8⟩
        have HX8 : Hid (PlayZ W w8 p' q' (i + 1)) := Lib.hid (by
          obtain ⟨d, h1, h2⟩ := HY6.out
          exact ⟨d, play10_gr (mid10_play h1) g8, h2⟩)
        have G8 : Gr W w8 := Gr.trans G6 g8
        clear HY6 AS
        go_wp2_with fail
        go_roundg (n - (i + 1))
        case measure => omega
        case rel => exact ⟨i + 1, p', q', rfl, rfl, by go_num, by omega, by omega, HX8, G8⟩
    · obtain rfl : i = n := by omega
      have ti : decide ((i : Int) < (i : Int)) = false := decide_eq_false (by omega)
      have ti3 : ¬ (i : Int) < (i : Int) := by omega
      go_wp2_with fail
      go_at_call 5
      refine (p10_awake _).mono ?_
      rintro e w3 ⟨rfl, g3⟩
      go_wp2_with fail
      go_ret
      exact ⟨rfl, Gr.trans hg g3⟩
set_option maxHeartbeats 1000000 in
set_option maxRecDepth 100000 in
theorem walk_DiskPlays (W : World) (z : Int) (v : Value) (n : Nat) (A E D : Nat → Int) (kv : Nat → Value) (K : Nat → List Bool) (_b1 : -9223372036854775808 ≤ z ∧ z ≤ 9223372036854775807) (h : Steps10 W v n A E D kv K) (hE : ErrT W) : Calls Tryd.prog 3 #[.int .i64 z, v] W fun e w' => e = .returned (.bool true) ∧ Gr W w' := by
  by_cases h40 : 40 < z
  · have HS := Lib.hid (c_small10g h)
    obtain ⟨ad0, cap0, B0, off0, rfl, -⟩ := h
    have t1 : decide ((40 : Int) < z) = true := decide_eq_true h40
    clear hE h40
    go_enter Tryd.func3, Tryd.ntmps3
    go_wp2_with fail
    go_at_call 4
    refine (HS.out _ (by go_grown)).mono ?_
    rintro e w0 ⟨⟨b, rfl, -⟩, g0⟩
    have G0 : Gr W w0 := g0
    clear g0
    rcases b with _ | _
    · skip
      go_wp2_with fail
      go_at_call 5
      refine (p10_awake _).mono ?_
      rintro e wa ⟨rfl, ga⟩
      go_wp2_with fail
      go_ret
      exact ⟨rfl, Gr.trans G0 ga⟩
    · skip
      go_wp2_with fail
      go_at_call 5
      refine (p10_awake _).mono ?_
      rintro e wa ⟨rfl, ga⟩
      go_wp2_with fail
      go_ret
      exact ⟨rfl, Gr.trans G0 ga⟩
  · by_cases h1 : 1 ≤ z
    · obtain ⟨n0, rfl⟩ : ∃ n0 : Nat, z = n0 := ⟨z.toNat, by omega⟩
      exact plays10_core W hE n0 (by omega) (by omega) v n A E D kv K h
    · have HS := Lib.hid (c_small10g h)
      obtain ⟨ad0, cap0, B0, off0, rfl, -⟩ := h
      have t1 : decide ((40 : Int) < z) = false := decide_eq_false h40
      have AN := fun w => d_new_no z (by omega) w
      have AR := fun w => rd_new_no z (by omega) w
      have AI := fun (F : Nat) (w : World) (g : Gr W w) (hf : FaultAt w F newS z 1) => c_AlIs_hit F newS z 1 (by decide) w (errT_gr hE g) hf
      clear hE h40 h1
      have HN := Lib.hid AN
      have HR := Lib.hid AR
      have HI := Lib.hid AI
      clear AN AR AI
      go_enter Tryd.func3, Tryd.ntmps3
      go_wp2_with fail
      go_at_call 4
      refine (HS.out _ (by go_grown)).mono ?_
      rintro e w0 ⟨⟨b, rfl, -⟩, g0⟩
      have G0 : Gr W w0 := g0
      clear g0
      rcases b with _ | _
      · skip
        go_wp2_with fail
        go_at_call 5
        refine (p10_awake _).mono ?_
        rintro e wa ⟨rfl, ga⟩
        go_wp2_with fail
        go_ret
        exact ⟨rfl, Gr.trans G0 ga⟩
      · go_wp2_with fail
        go_at_call 6
        refine (HN.out _).mono ?_
        rintro e w1 ⟨F, rfl, hf, g1⟩
        have G1 : Gr W w1 := Gr.trans G0 g1
        have HF1 := Lib.hid hf
        clear hf g1
        go_wp2_with fail
        go_at_call 7
        refine (HR.out _).mono ?_
        rintro e w2 ⟨rfl, g2⟩
        have HF2 : Hid (FaultAt w2 F newS z 1) := Lib.hid ⟨cell_gr g2 HF1.out.1, cell_gr g2 HF1.out.2.1, cell_gr g2 HF1.out.2.2⟩
        have G2 := Gr.trans G1 g2
        clear g2 HF1
        go_wp2_with fail
        go_at_call 8
        refine (HI.out F _ G2 HF2.out).mono ?_
        rintro e w3 ⟨rfl, g3⟩
        have G3 := Gr.trans G2 g3
        clear g3 HF2
        go_wp2_with fail
        go_at_call 5
        refine (p10_awake _).mono ?_
        rintro e wa ⟨rfl, ga⟩
        go_wp2_with fail
        go_ret
        exact ⟨rfl, Gr.trans G3 ga⟩
end Go.Proofs.YtkbdhhmkdjajgaaDoor
