/- DiskOrder: the walk -/
import Derived.Test.YtcalleofndokaaaDp
namespace Go.Proofs.Ytcalleofndokaaa
set_option linter.unusedVariables false
set_option linter.unusedSimpArgs false
open Go.ChangeShapes Go.WideShapes Go.ChangeAt Go.RowKit Go.Maps

theorem at_facts {n i : Nat} (hn : n ≤ 20) (hi : i < n) : ∃ a : Nat, a = n - 1 - i ∧ a < n ∧ wrap64 ((n : Int) - 1) = (n : Int) - 1 ∧ IntKind.i64.wrap ((n : Int) - 1) = (n : Int) - 1 ∧ (n : Int) - 1 - (i : Int) = (a : Nat) ∧ wrap64 (a : Int) = a ∧ IntKind.i64.wrap (a : Int) = a ∧ (a : Int) < (n : Int) ∧ (0 : Int) ≤ (a : Int) :=
  ⟨n - 1 - i, rfl, by omega, wr_small (by omega), wk_small (by omega), by omega, wr_small (by omega), wk_small (by omega), by omega, by omega⟩
set_option maxHeartbeats 2000000 in
set_option maxRecDepth 100000 in
theorem order_core (W : World) (n : Nat) (L1 : List Int) (v1 : Value) (kk : Int) (h1 : IntsR W v1 L1) (hk : -9223372036854775808 ≤ kk ∧ kk ≤ 9223372036854775807) (n1 : 1 ≤ n) (n2 : n ≤ 20) (l1 : L1.length ≤ 40) : Calls Try.prog 5 #[.int .i64 n, v1, .int .i64 kk] W fun e w' => e = .returned (.bool true) ∧ Gr W w' := by
  obtain ⟨i0, hi0, hz0, hz1, hz2⟩ := info_parts (P := Try.prog) (e := 30) (z := .slice none 0 0) (size := 1) (bytes := 24) (by kernel_rfl)
  have HI := Lib.hid (And.intro hi0 (And.intro hz0 (And.intro hz1 hz2)))
  clear hi0 hz0 hz1 hz2
  obtain ⟨i1, hi0, hz0, hz1, hz2⟩ := info_parts (P := Try.prog) (e := 4) (z := .bool false) (size := 1) (bytes := 1) (by kernel_rfl)
  have HJ := Lib.hid (And.intro hi0 (And.intro hz0 (And.intro hz1 hz2)))
  clear hi0 hz0 hz1 hz2
  obtain ⟨ad0, cap0, B0, off0, rfl, c1, c2, c3, c4, c5⟩ := h1
  have HI0 := Lib.hid (And.intro c4 c5)
  have AR : ∀ z : Int, (-9223372036854775808 ≤ z ∧ z ≤ 9223372036854775807) → ∀ w, Calls Try.prog 15 #[.int .i64 z, .int .i64 n] w fun e w' => ∃ k : Nat, k < n ∧ e = .returned (.int .i64 (k : Nat)) ∧ Gr w w' := fun z h w => c_RoundK z n (by omega) (by omega) h w
  have ARk := AR kk hk
  have AN : ∀ w, Gr W w → Calls Try.prog 22 #[.int .i64 n] w fun e w' => ∃ p, e = .returned (.tuple #[.pointer (some ⟨p, 0, none⟩), .nilIface]) ∧ LawD W w' p (dk0 n (List.replicate (n * 64) 0)) ∧ Gr W w' := fun w g => lawD_new n n1 (by omega) g
  have AB : ∀ i : Nat, i ≤ 1000 → ∀ w, Calls Try.prog 12 #[.int .i64 64, .int .i64 (i : Nat)] w fun e w' => e = .returned (.slice (some ⟨w.heap.size, 0, none⟩) 64 64) ∧ Own w' w.heap.size (.slice (some ⟨w.heap.size, 0, none⟩) 64 64) (blk (i : Nat) 64) ∧ Gr w w' := fun i hi w => c_Block 64 (by decide) i (by omega) w
  have HR := Lib.hid AR
  have HRk := Lib.hid ARk
  have HN := Lib.hid AN
  have HBk := Lib.hid AB
  clear AR ARk AN AB c2 c4 c5 hk
  obtain ⟨m, hm⟩ : ∃ m, m = L1.length := ⟨_, rfl⟩
  rw [← hm] at l1 c1 c3 ⊢
  have HL0 := Lib.hid hm
  clear hm
  have t1 : decide ((n : Int) < 1) = false := decide_eq_false (by omega)
  have t2 : decide ((20 : Int) < (n : Int)) = false := decide_eq_false (by omega)
  have t3 : decide ((40 : Int) < (m : Int)) = false := decide_eq_false (by omega)
  have t4 : ¬ (20 : Int) < (n : Int) := by omega
  have t5 : ¬ (40 : Int) < (m : Int) := by omega
  have n0 : (0 : Int) ≤ (n : Int) := by omega
  go_enter Try.func5, Try.ntmps5
  go_wp2_with fail
  go_at_call 22
  refine (HN.out _ (by go_grown)).mono ?_
  rintro e w1 ⟨p, rfl, hd, G1⟩
  have HD1 := Lib.hid hd
  clear hd
  go_wp2_with (first | (at_make; (refine wpList_make_full _ rfl _ _ 40 rfl 0 30 i0 (.slice none 0 0) 1 Try.underlying40 HI.out.1 HI.out.2.1 HI.out.2.2.1 .i64 .i64 (n : Int) (n : Int) n rfl rfl rfl rfl (by rw [HI.out.2.2.2]; omega) (by unfold maxLen; omega) (Nat.zero_le _) ?_); intro w2 o2 g2; (have G2 : Gr W w2 := gr_of_grown G1 g2 (fun k h => by cases h)); (have HO2 := Lib.hid (And.intro o2 (gr_of_grown (Below.refl _ w1) g2 (fun k h => by cases h)))); clear o2 g2))
  obtain ⟨C, hC⟩ : ∃ C, C = w1.heap.size := ⟨_, rfl⟩
  have HX : Hid (OrdX W w2 p C n 0 [] (fun _ => [])) := Lib.hid (by
    obtain ⟨o2, g12⟩ := HO2.out
    obtain ⟨q, bm, M, h3, h4⟩ := HD1.out
    rw [show (Value.slice none 0 0).cells = #[.slice none 0 0] from rfl, Nat.mul_one, toList_madeCells_one, ← hC] at o2
    have hz := diskS_zlt h3
    exact ⟨q, bm, M, _, _, diskS_gr h3 g12, h4, plain_new _ _, rfl, rfl, fun k hk => absurd hk List.not_mem_nil, ⟨o2, fun v hv => ⟨none, 0, 0, (List.mem_replicate.1 hv).2⟩⟩, fun hj => by have := hz C hj; omega, by rw [hC]; exact G1.size, fun k hk => absurd hk List.not_mem_nil⟩)
  clear HO2 HD1
  rw [← hC]
  clear hC
  go_wp2_with fail
  go_loopg [10] n (fun j x wr => ∃ i : Nat, x = .int .i64 i ∧ i ≤ n ∧ j = n - i ∧ Hid (∃ F, OrdX W wr p C n i (revs n i) F) ∧ Gr W wr)
  case atStart => exact ⟨0, rfl, by omega, by omega, Lib.hid ⟨_, HX.out⟩, G2⟩
  case round =>
    obtain ⟨i, rfl, hi, hj, HD, hg⟩ := hrel
    by_cases hin : i < n
    · have ti : decide ((i : Int) < (n : Int)) = true := decide_eq_true (by omega)
      have ti2 : decide (i < n) = true := decide_eq_true hin
      have ti3 : (i : Int) < (n : Int) := by omega
      have ABi := Lib.hid (HBk.out i (by omega))
      obtain ⟨a, ea, a1, a2, a3, a4, a5, a6, a7, a8⟩ := at_facts n2 hin
      have HA := Lib.hid (And.intro ea a1)
      clear ea
      go_wp2_with fail
      go_at_call 12
      refine (ABi.out _).mono ?_
      rintro e w3 ⟨rfl, o3, g3⟩
      have G3 : Gr W w3 := Gr.trans hg g3
      clear a2 a3 a4 a5 a6
      obtain ⟨⟨xa, xm, xc, e1⟩, e2, e3⟩ : (∃ a' m' c', w3.cell? ⟨C, a, none⟩ = some (.slice a' m' c')) ∧ w3.frozen? ⟨C, a, none⟩ = false ∧ C < w3.heap.size := by
        obtain ⟨F, hF⟩ := HD.out
        exact ordX_cell (ordX_gr hF g3) a1
      have AW : Calls Try.prog 23 #[.pointer (some ⟨p, 0, none⟩), .int .i64 (a : Nat), .slice (some ⟨wr.heap.size, 0, none⟩) 64 64] (w3.setCell ⟨C, a, none⟩ (.slice (some ⟨wr.heap.size, 0, none⟩) 64 64)) fun e w' => e = .returned .nilIface ∧ (∃ F, OrdX W w' p C n (i + 1) (revs n (i + 1)) F) ∧ Gr W w' := by
        obtain ⟨F, hF⟩ := HD.out
        refine (ord_step hF g3 G3 a1 (by omega) (blk_len (i : Nat) 64) o3).mono ?_
        rintro e w' ⟨rfl, h, g⟩
        rw [if_neg (by rw [HA.out.1]; exact revs_not hin)] at h
        exact ⟨rfl, ⟨fun j => if j = a then blk (i : Nat) 64 else F j, by rw [revs, ← HA.out.1]; exact h⟩, g⟩
      have HW := Lib.hid AW
      clear AW o3 g3
      go_wp2_with fail
      go_at_call 23
      refine (HW.out).mono ?_
      rintro e w4 ⟨rfl, hd4, G4⟩
      have HD4 := Lib.hid hd4
      clear hd4
      go_wp2_with fail
      go_roundg (n - (i + 1))
      case measure => omega
      case rel => exact ⟨i + 1, by go_num, by omega, by omega, HD4, G4⟩
    · obtain rfl : i = n := by omega
      have ti : decide ((i : Int) < (i : Int)) = false := decide_eq_false (by omega)
      have ti3 : ¬ (i : Int) < (i : Int) := by omega
      have HD2 : Hid (∃ cnt F, cnt ≤ i + 0 ∧ OrdX W wr p C i cnt (revs i i) F) := Lib.hid (by obtain ⟨F, hF⟩ := HD.out; exact ⟨i, F, by omega, hF⟩)
      clear HD
      obtain ⟨wo, rfl⟩ : ∃ x, x = wr := ⟨wr, rfl⟩
      go_wp2_with fail
      go_loopg [12] m (fun j x wr => ∃ k : Nat, x = .int .i64 k ∧ k ≤ m ∧ j = m - k ∧ Hid (∃ cnt F, cnt ≤ i + k ∧ OrdX W wr p C i cnt (revs i i) F) ∧ Gr W wr)
      case atStart => exact ⟨0, rfl, by omega, by omega, HD2, hg⟩
      case round =>
        obtain ⟨k, rfl, hk, hkj, HD, hg2⟩ := hrel
        by_cases hkm : k < m
        · have ti : decide ((k : Int) < (m : Int)) = true := decide_eq_true (by omega)
          have ti2 : decide (k < m) = true := decide_eq_true hkm
          have ti3 : (k : Int) < (m : Int) := by omega
          have ti4 : (k : Int) < (cap0 : Int) := by omega
          obtain rfl := c3 (by omega)
          have q0 := cell_gr hg2 (HI0.out.1 k (by rw [← HL0.out]; exact hkm))
          have ARi := Lib.hid (HR.out (L1.getD k 0) (HI0.out.2 k))
          generalize L1.getD k 0 = z at q0 ARi
          have AB5 := HBk.out (50 + k) (by omega)
          rw [show ((50 + k : Nat) : Int) = 50 + (k : Int) by omega] at AB5
          have ABi := Lib.hid AB5
          clear AB5
          obtain ⟨f1, f2⟩ : wrap64 (50 + (k : Int)) = 50 + (k : Int) ∧ IntKind.i64.wrap (50 + (k : Int)) = 50 + (k : Int) := ⟨wr_small (by omega), wk_small (by omega)⟩
          go_wp2_with fail
          go_at_call 15
          refine (ARi.out _).mono ?_
          rintro e w3 ⟨a, ha, rfl, g3⟩
          have a8 : (a : Int) < (i : Int) := Int.ofNat_lt.2 ha
          have a9 : (0 : Int) ≤ (a : Int) := Int.natCast_nonneg a
          have G23 : Gr wr w3 := g3
          clear g3
          go_wp2_with fail
          go_at_call 12
          refine (ABi.out _).mono ?_
          rintro e w4 ⟨rfl, o4, g4⟩
          have G4 : Gr W w4 := Gr.trans (Gr.trans hg2 G23) g4
          clear f1 f2
          obtain ⟨⟨xa, xm, xc, e1⟩, e2, e3⟩ : (∃ a' m' c', w4.cell? ⟨C, a, none⟩ = some (.slice a' m' c')) ∧ w4.frozen? ⟨C, a, none⟩ = false ∧ C < w4.heap.size := by
            obtain ⟨cnt, F, hc, hF⟩ := HD.out
            exact ordX_cell (ordX_gr hF (Gr.trans G23 g4)) ha
          have AW : Calls Try.prog 23 #[.pointer (some ⟨p, 0, none⟩), .int .i64 (a : Nat), .slice (some ⟨w3.heap.size, 0, none⟩) 64 64] (w4.setCell ⟨C, a, none⟩ (.slice (some ⟨w3.heap.size, 0, none⟩) 64 64)) fun e w' => e = .returned .nilIface ∧ (∃ cnt F, cnt ≤ i + (k + 1) ∧ OrdX W w' p C i cnt (revs i i) F) ∧ Gr W w' := by
            obtain ⟨cnt, F, hc, hF⟩ := HD.out
            refine (ord_step (ordX_gr hF G23) g4 G4 ha (by omega) (blk_len _ 64) o4).mono ?_
            rintro e w' ⟨rfl, h, g⟩
            rw [if_pos (revs_all ha)] at h
            exact ⟨rfl, ⟨_, _, by omega, h⟩, g⟩
          have HW := Lib.hid AW
          clear AW o4 g4
          go_wp2_with fail
          go_at_call 23
          refine (HW.out).mono ?_
          rintro e w5 ⟨rfl, hd5, G5⟩
          have HD5 := Lib.hid hd5
          clear hd5
          go_wp2_with fail
          go_roundg (m - (k + 1))
          case measure => omega
          case rel => exact ⟨k + 1, by go_num, by omega, by omega, HD5, G5⟩
        · obtain rfl : k = m := by omega
          have ti : decide ((k : Int) < (k : Int)) = false := decide_eq_false (by omega)
          have ti3 : ¬ (k : Int) < (k : Int) := by omega
          go_wp2_with fail
          go_at_call 15
          refine (HRk.out _).mono ?_
          rintro e w3 ⟨a, ha, rfl, g3⟩
          have a8 : (a : Int) < (i : Int) := by omega
          have a9 : (0 : Int) ≤ (a : Int) := by omega
          have HD3 : Hid (∃ cnt F, OrdX W w3 p C i cnt (revs i i) F) := Lib.hid (by obtain ⟨cnt, F, -, hF⟩ := HD.out; exact ⟨cnt, F, ordX_gr hF g3⟩)
          have G3 : Gr W w3 := Gr.trans hg2 g3
          clear HD g3
          go_wp2_with (first | (at_make; (refine wpList_make_full _ rfl _ _ 41 rfl 0 4 i1 (.bool false) 1 Try.underlying41 HJ.out.1 HJ.out.2.1 HJ.out.2.2.1 .i64 .i64 (i : Int) (i : Int) i rfl rfl rfl rfl (by rw [HJ.out.2.2.2]; omega) (by unfold maxLen; omega) (Nat.zero_le _) ?_); intro w4 o4 g4; (have g34 : Gr w3 w4 := gr_of_grown (Below.refl _ w3) g4 (fun k h => by cases h)); (rw [show (Value.bool false).cells = #[.bool false] from rfl, Nat.mul_one, toList_madeCells_one] at o4); (have x0 : w4.cell? ⟨w3.heap.size, a, none⟩ = some (.bool false) := by rw [o4.cellAt a (by omega), List.getElem?_replicate, if_pos ha]); (have y0 := o4.frozenAt a); (have HO4 := Lib.hid o4); clear o4 g4))
          have HB5 : Hid (Bools (w4.setCell ⟨w3.heap.size, a, none⟩ (.bool true)) (.slice (some ⟨w3.heap.size, 0, none⟩) i i) (oneF i a)) := Lib.hid (bools_own (by rw [← oneF_map]; exact (HO4.out.stored a (.bool true)).1) (oneF_len i a) (by omega))
          have g35 : Gr w3 (w4.setCell ⟨w3.heap.size, a, none⟩ (.bool true)) := Kx.gr (S := fun j => j = w3.heap.size) ((Kx.refl (S := fun j => j = w3.heap.size) w4).setCell (p := ⟨w3.heap.size, a, none⟩) rfl _) g34 (fun j h => by omega)
          obtain ⟨cnt, F, hF⟩ := HD3.out
          have AC := Lib.hid (ordX_crash (ordX_gr hF g35) (Gr.trans G3 g35) ha n2 HB5.out)
          have HF3 := Lib.hid hF
          clear HB5 HO4 hF HD3 x0 y0 g34
          generalize w4.setCell ⟨w3.heap.size, a, none⟩ (.bool true) = w5 at AC g35 ⊢
          go_at_call 24
          refine (AC.out).mono ?_
          rintro e w6 ⟨p6, X, rfl, hd6, hX, g6⟩
          have HX6 : Hid (LawD W w6 p6 (dk0 i X) ∧ (∀ j, j < i → sec X j = if j = i - 1 - a then F j else List.replicate 64 0) ∧ OrdX W w6 p C i cnt (revs i i) F ∧ Gr W w6) := Lib.hid ⟨hd6, hX, ordX_gr HF3.out (Gr.trans g35 g6), Gr.trans G3 (Gr.trans g35 g6)⟩
          obtain ⟨mo, hM, hMO⟩ := make64
          have HMO := Lib.hid hMO
          clear hMO hd6 hX g6 AC HF3 g35
          go_wp2_with fail
          go_loopg [16] i (fun j x wq => ∃ k : Nat, x = .int .i64 k ∧ k ≤ i ∧ j = i - k ∧ Gr w6 wq)
          case atStart => exact ⟨0, rfl, by omega, by omega, Below.refl _ _⟩
          case round =>
            obtain ⟨j, rfl, hj', hjj, hq⟩ := hrel
            by_cases hji : j < i
            · have s1 : decide ((j : Int) < (i : Int)) = true := decide_eq_true (by omega)
              have s2 : decide (j < i) = true := decide_eq_true hji
              have s3 : (j : Int) < (i : Int) := by omega
              have s4 : (0 : Int) ≤ (j : Int) := by omega
              have R1 := Lib.hid (lawD_read (k := j) (lawD_gr HX6.out.1 hq) hji)
              have hrs : Hid ((dk0 i X).read j = if j = i - 1 - a then F j else List.replicate 64 0) := Lib.hid (by rw [dk0_read]; exact HX6.out.2.1 j hji)
              obtain ⟨v, hv, hvr⟩ := ordX_want (ordX_gr HX6.out.2.2.1 hq) hji
              have hFl := ordX_len HX6.out.2.2.1 hji
              obtain ⟨VB, Vo, vc, rfl, -, -⟩ := row_addr hvr (by omega)
              rw [hFl] at hvr hv
              have HV := Lib.hid (And.intro hvr hFl)
              have sCq := World.block_lt_of_cell? _ _ hv
              by_cases hja : j = i - 1 - a
              · have hE := hrs.out
                rw [if_pos hja] at hE
                have HE := Lib.hid hE
                obtain ⟨b, eb, b1, b2, b3, b4, b5, b6, b7, b8⟩ := at_facts n2 ha
                have u1 : ((j : Int) == (b : Int)) = true := by rw [eb, ← hja]; simp
                have u2 : (j == b) = true := by rw [eb, ← hja]; simp
                clear hE hvr hFl hja eb
                go_wp2_with fail
                go_at_call 25
                refine (R1.out).mono ?_
                rintro e y1 ⟨a1, c1', rfl, r1, k1⟩
                rw [HE.out] at r1
                have hv1 := cell_gr k1 hv
                have H1 := Lib.hid (And.intro r1 k1)
                have Y1 := Lib.hid (fun w (g : Gr y1 w) => bytes_same w (row_gr r1 g) (row_gr HV.out.1 (Gr.trans k1 g)) (by rw [HV.out.2]; decide))
                have sC1 := World.block_lt_of_cell? _ _ hv1
                clear r1
                go_wp2_with fail
                go_at_call 20
                refine (Y1.out _ (by go_grown)).mono ?_
                rintro e y2 ⟨rfl, k2⟩
                have G6 : Gr w6 y2 := Gr.trans hq (Gr.trans k1 (Gr.trans (by go_grown) k2))
                clear b2 b3 b4 b5 b6
                go_wp2_with fail
                go_roundg (i - (j + 1))
                case measure => omega
                case rel => exact ⟨j + 1, by go_num, by omega, by omega, G6⟩
              · have hE := hrs.out
                rw [if_neg hja] at hE
                have HE := Lib.hid hE
                obtain ⟨b, eb, b1, b2, b3, b4, b5, b6, b7, b8⟩ := at_facts n2 ha
                have hjb : j ≠ b := by rw [eb]; exact hja
                have u1 : ((j : Int) == (b : Int)) = false := by
                  have : (j : Int) ≠ (b : Int) := fun h => hjb (Int.ofNat_inj.1 h)
                  exact beq_eq_false_iff_ne.2 this
                have u2 : (j == b) = false := by simpa using hjb
                clear hE hvr hFl hja eb hjb
                go_wp2_with fail
                go_at_call 25
                refine (R1.out).mono ?_
                rintro e y1 ⟨a1, c1', rfl, r1, k1⟩
                rw [HE.out] at r1
                have H1 := Lib.hid (And.intro r1 k1)
                have Y1 := Lib.hid (bytes_same (y1.alloc mo) (row_gr r1 (by go_grown)) (row_own (HMO.out y1)) (by rw [List.length_replicate]; decide))
                clear r1
                go_wp2_with fail
                go_at_call 20
                refine (Y1.out).mono ?_
                rintro e y2 ⟨rfl, k2⟩
                have G6 : Gr w6 y2 := Gr.trans hq (Gr.trans k1 (Gr.trans (by go_grown) k2))
                clear b2 b3 b4 b5 b6
                go_wp2_with fail
                go_roundg (i - (j + 1))
                case measure => omega
                case rel => exact ⟨j + 1, by go_num, by omega, by omega, G6⟩
            · obtain rfl : j = i := by omega
              have s1 : decide ((j : Int) < (j : Int)) = false := decide_eq_false (by omega)
              have s3 : ¬ (j : Int) < (j : Int) := by omega
              go_wp2_with fail
              go_at_call 21
              refine (p10_awake _).mono ?_
              rintro e y3 ⟨rfl, k3⟩
              go_wp2_with fail
              go_ret
              exact ⟨rfl, Gr.trans HX6.out.2.2.2 (Gr.trans hq k3)⟩
set_option maxRecDepth 100000 in
theorem walk_DiskOrder (W : World) (n : Int) (L1 : List Int) (v1 : Value) (kk : Int) (hn : -9223372036854775808 ≤ n ∧ n ≤ 9223372036854775807) (h1 : IntsR W v1 L1) (hk : -9223372036854775808 ≤ kk ∧ kk ≤ 9223372036854775807) : Calls Try.prog 5 #[.int .i64 n, v1, .int .i64 kk] W fun e w' => e = .returned (.bool true) ∧ Gr W w' := by
  by_cases hs : (1 ≤ n ∧ n ≤ 20) ∧ L1.length ≤ 40
  · obtain ⟨m, rfl⟩ : ∃ m : Nat, n = m := ⟨n.toNat, by omega⟩
    exact order_core W m L1 v1 kk h1 hk (by omega) (by omega) hs.2
  · obtain ⟨ad0, cap0, rfl⟩ := intsR_form h1
    have hq : n < 1 ∨ (¬ n < 1 ∧ 20 < n) ∨ (¬ n < 1 ∧ ¬ 20 < n ∧ 40 < L1.length) := by omega
    clear hn h1 hk hs
    rcases hq with h | ⟨h0, h⟩ | ⟨h0, h2, h⟩
    · have t1 : decide (n < 1) = true := decide_eq_true h
      go_enter Try.func5, Try.ntmps5
      go_wp2_with fail
      go_at_call 21
      refine (p10_awake _).mono ?_
      rintro e y3 ⟨rfl, k3⟩
      go_wp2_with fail
      go_ret
      exact ⟨rfl, Gr.trans (by go_grown) k3⟩
    · have t1 : decide (n < 1) = false := decide_eq_false h0
      have t2 : decide (20 < n) = true := decide_eq_true h
      go_enter Try.func5, Try.ntmps5
      go_wp2_with fail
      go_at_call 21
      refine (p10_awake _).mono ?_
      rintro e y3 ⟨rfl, k3⟩
      go_wp2_with fail
      go_ret
      exact ⟨rfl, Gr.trans (by go_grown) k3⟩
    · have t1 : decide (n < 1) = false := decide_eq_false h0
      have t2 : decide (20 < n) = false := decide_eq_false h2
      have t3 : decide ((40 : Int) < (L1.length : Int)) = true := decide_eq_true (by omega)
      have t4 : (40 : Int) < (L1.length : Int) := by omega
      go_enter Try.func5, Try.ntmps5
      go_wp2_with fail
      go_at_call 21
      refine (p10_awake _).mono ?_
      rintro e y3 ⟨rfl, k3⟩
      go_wp2_with fail
      go_ret
      exact ⟨rfl, Gr.trans (by go_grown) k3⟩
end Go.Proofs.Ytcalleofndokaaa
