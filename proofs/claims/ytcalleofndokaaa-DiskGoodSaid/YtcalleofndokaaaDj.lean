/- DiskAgain -/
import Derived.Test.YtcalleofndokaaaDi
namespace Go.Proofs.Ytcalleofndokaaa
set_option linter.unusedVariables false
set_option linter.unusedSimpArgs false
open Go.ChangeShapes Go.WideShapes Go.ChangeAt Go.RowKit Go.Maps

theorem c_RoundK (z : Int) (m : Nat) (hm : 0 < m) (hm2 : m ≤ 1000000) (h : -9223372036854775808 ≤ z ∧ z ≤ 9223372036854775807) (w : World) :
    Calls Try.prog 15 #[.int .i64 z, .int .i64 (m : Nat)] w fun e w' => ∃ k : Nat, k < m ∧ e = .returned (.int .i64 (k : Nat)) ∧ Gr w w' := by
  refine (c_RoundE z h.1 h.2 m hm hm2 w).mono ?_
  rintro e w' ⟨rfl, g⟩
  have h1 := Int.emod_nonneg z (show (m : Int) ≠ 0 by omega)
  have h2 := Int.emod_lt_of_pos z (show (0 : Int) < m by omega)
  exact ⟨(z % m).toNat, by omega, by rw [Int.toNat_of_nonneg h1], g⟩
/-- A disk that nobody cuts. -/
structure Plain (d : Dk) (n i : Nat) : Prop where
  n : d.n = n
  on : d.off = false
  cut : d.cut = false
  ops : d.ops = i
theorem plain_on {d : Dk} {n i : Nat} (h : Plain d n i) : d.on := ⟨h.on, fun e => by rw [h.cut] at e; cases e⟩
theorem plain_wr {d : Dk} {n i : Nat} (h : Plain d n i) (k : Nat) (L : List UInt8) : Plain (d.opd.wr k L) n (i + 1) :=
  ⟨h.n, h.on, h.cut, by show d.ops + 1 = i + 1; rw [h.ops]⟩
theorem plain_new (n : Nat) (L : List UInt8) : Plain (dk0 n L) n 0 := ⟨rfl, rfl, rfl, rfl⟩
theorem crG_none (n : Nat) (L : List UInt8) (f : Nat → Nat) : crG (dk0 n L) f (dk0 n L).ord.length = L := rfl
theorem crM_all (j : Nat) : crM [true] (-1) j = 2 := by
  unfold crM
  rw [if_neg (by omega), if_pos]
  refine ⟨by decide, ?_⟩
  rw [List.length_singleton, Nat.mod_one]
  rfl
/-- All kept is all written. -/
theorem crG_all {d : Dk} (h : d.ok) {k : Nat} (hk : k < d.n) : sec (crG d (crM [true] (-1)) d.ord.length) k = d.read k := by
  obtain ⟨h1, h2⟩ := crG_sec h (crM [true] (-1)) d.ord.length (Nat.le_refl _) k hk
  unfold Dk.read
  by_cases hin : k ∈ d.ord
  · rw [if_pos hin]
    obtain ⟨j, hj, e⟩ := List.getElem_of_mem hin
    rw [h1 j hj (by rw [List.getD_eq_getElem?_getD, List.getElem?_eq_getElem hj]; exact e), crM_all]
    rfl
  · rw [if_neg hin]
    refine h2 fun j hj e => hin ?_
    rw [← e]
    exact (ord_at h hj).1
theorem lawD_ops {W w : World} {p : Nat} {d : Dk} (h : LawD W w p d) : Calls Try.prog 26 #[.pointer (some ⟨p, 0, none⟩)] w fun e w' => e = .returned (.int .i64 (d.ops : Nat)) ∧ Gr w w' := by
  obtain ⟨q, bm, M, h1, h2⟩ := h; exact d_ops w h1
theorem lawD_off {W w : World} {p : Nat} {d : Dk} (h : LawD W w p d) : Calls Try.prog 27 #[.pointer (some ⟨p, 0, none⟩)] w fun e w' => e = .returned (.bool d.off) ∧ Gr w w' := by
  obtain ⟨q, bm, M, h1, h2⟩ := h; exact d_off w h1
theorem intsR_form {w : World} {v : Value} {L : List Int} (h : IntsR w v L) : ∃ ad cap, v = .slice ad L.length cap := by
  obtain ⟨ad, cap, _, _, e, _⟩ := h; exact ⟨ad, cap, e⟩
theorem bools_form {w : World} {v : Value} {L : List Bool} (h : Bools w v L) : ∃ ad cap, v = .slice ad L.length cap := by
  obtain ⟨ad, cap, _, _, e, _⟩ := h; exact ⟨ad, cap, e⟩
set_option maxHeartbeats 2000000 in
set_option maxRecDepth 100000 in
theorem again_core (W : World) (L0 : List Int) (v0 : Value) (L1 : List Bool) (v1 : Value) (torn : Int) (L3 : List Bool) (v3 : Value) (other : Int) (h0 : IntsR W v0 L0) (h1 : Bools W v1 L1) (h3 : Bools W v3 L3)
    (l0 : L0.length ≤ 40) (l1 : L1.length ≤ 40) (l3 : L3.length ≤ 40) : Calls Try.prog 6 #[v0, v1, .int .i64 torn, v3, .int .i64 other] W fun e w' => e = .returned (.bool true) ∧ Gr W w' := by
  have HB1 := Lib.hid h1
  have HB3 := Lib.hid h3
  obtain ⟨ad1, cap1, rfl⟩ := bools_form h1
  obtain ⟨ad3, cap3, rfl⟩ := bools_form h3
  obtain ⟨ad0, cap0, B0, off0, rfl, c1, c2, c3, c4, c5⟩ := h0
  have HI0 := Lib.hid (And.intro c4 c5)
  have AR : ∀ z : Int, (-9223372036854775808 ≤ z ∧ z ≤ 9223372036854775807) → ∀ w, Calls Try.prog 15 #[.int .i64 z, .int .i64 8] w fun e w' => ∃ k : Nat, k < 8 ∧ e = .returned (.int .i64 (k : Nat)) ∧ Gr w w' := fun z h w => c_RoundK z 8 (by decide) (by decide) h w
  have AN : ∀ w, Gr W w → Calls Try.prog 22 #[.int .i64 8] w fun e w' => ∃ p, e = .returned (.tuple #[.pointer (some ⟨p, 0, none⟩), .nilIface]) ∧ LawD W w' p (dk0 8 (List.replicate (8 * 64) 0)) ∧ Gr W w' := fun w g => lawD_new 8 (by decide) (by decide) g
  have AB : ∀ i : Nat, i ≤ 1000 → ∀ w, Calls Try.prog 12 #[.int .i64 64, .int .i64 (i : Nat)] w fun e w' => e = .returned (.slice (some ⟨w.heap.size, 0, none⟩) 64 64) ∧ Own w' w.heap.size (.slice (some ⟨w.heap.size, 0, none⟩) 64 64) (blk (i : Nat) 64) ∧ Gr w w' := fun i hi w => c_Block 64 (by decide) i (by omega) w
  have HR := Lib.hid AR
  have HN := Lib.hid AN
  have HBk := Lib.hid AB
  clear AR AN AB h1 h3 c2 c4 c5
  obtain ⟨n, hn⟩ : ∃ n, n = L0.length := ⟨_, rfl⟩
  rw [← hn] at l0 c1 c3 ⊢
  have HL0 := Lib.hid hn
  clear hn
  have t1 : decide ((40 : Int) < (n : Int)) = false := decide_eq_false (by omega)
  have t2 : decide ((40 : Int) < (L1.length : Int)) = false := decide_eq_false (by omega)
  have t3 : decide ((40 : Int) < (L3.length : Int)) = false := decide_eq_false (by omega)
  have t4 : ¬ (40 : Int) < (n : Int) := by omega
  have t5 : ¬ (40 : Int) < (L1.length : Int) := by omega
  have t6 : ¬ (40 : Int) < (L3.length : Int) := by omega
  go_enter Try.func6, Try.ntmps6
  go_wp2_with fail
  go_at_call 22
  refine (HN.out _ (by go_grown)).mono ?_
  rintro e w1 ⟨p, rfl, hd, G1⟩
  have HD1 : Hid (∃ d, LawD W w1 p d ∧ Plain d 8 0) := Lib.hid ⟨_, hd, plain_new _ _⟩
  clear hd
  go_wp2_with fail
  go_loopg [13] n (fun j x wr => ∃ i : Nat, x = .int .i64 i ∧ i ≤ n ∧ j = n - i ∧ Hid (∃ d, LawD W wr p d ∧ Plain d 8 i) ∧ Gr W wr)
  case atStart => exact ⟨0, rfl, by omega, by omega, HD1, G1⟩
  case round =>
    obtain ⟨i, rfl, hi, hj, HD, hg⟩ := hrel
    by_cases hin : i < n
    · have ti : decide ((i : Int) < (n : Int)) = true := decide_eq_true (by omega)
      have ti2 : decide (i < n) = true := decide_eq_true hin
      have ti3 : (i : Int) < (n : Int) := by omega
      have ti4 : (i : Int) < (cap0 : Int) := by omega
      obtain rfl := c3 (by omega)
      have q0 := cell_gr hg (HI0.out.1 i (by rw [← HL0.out]; exact hin))
      have ARi := Lib.hid (HR.out (L0.getD i 0) (HI0.out.2 i))
      generalize L0.getD i 0 = z at q0 ARi
      have ABi := Lib.hid (HBk.out i (by omega))
      go_wp2_with fail
      go_at_call 15
      refine (ARi.out _).mono ?_
      rintro e w2 ⟨k, hk, rfl, g2⟩
      have G2 : Gr wr w2 := g2
      clear g2
      go_wp2_with fail
      go_at_call 12
      refine (ABi.out _).mono ?_
      rintro e w3 ⟨rfl, o3, g3⟩
      have G3 : Gr W w3 := Gr.trans (Gr.trans hg G2) g3
      have AW : Calls Try.prog 23 #[.pointer (some ⟨p, 0, none⟩), .int .i64 (k : Nat), .slice (some ⟨w2.heap.size, 0, none⟩) 64 64] w3 fun e w' => e = .returned .nilIface ∧ (∃ d, LawD W w' p d ∧ Plain d 8 (i + 1)) ∧ Gr W w' := by
        obtain ⟨d, hd, hp⟩ := HD.out
        refine (lawD_write (k := k) (lawD_gr hd G2) g3 G3 (by rw [hp.n]; exact hk) (plain_on hp) (by rw [hp.ops]; omega) (blk_len (i : Nat) 64) (rowOff_own o3 (fun k hk => hk))).mono ?_
        rintro e w' ⟨rfl, h, g⟩
        exact ⟨rfl, ⟨_, h, plain_wr hp _ _⟩, g⟩
      have HW := Lib.hid AW
      clear AW o3 g3
      go_wp2_with fail
      go_at_call 23
      refine (HW.out).mono ?_
      rintro e w4 ⟨rfl, hd4, G4⟩
      have HD4 := Lib.hid hd4
      clear hd4
      go_wp2_with fail
      go_roundg (n - (i + 1))
      case measure => omega
      case rel => exact ⟨i + 1, by go_num, by omega, by omega, HD4, G4⟩
    · obtain rfl : i = n := by omega
      have ti : decide ((i : Int) < (i : Int)) = false := decide_eq_false (by omega)
      have ti3 : ¬ (i : Int) < (i : Int) := by omega
      obtain ⟨d, hd, hp⟩ := HD.out
      have hok := lawD_ok hd
      have en := hp.n
      have AC1 : Calls Try.prog 24 #[.pointer (some ⟨p, 0, none⟩), .slice ad1 L1.length cap1, .int .i64 torn] wr fun e w' => ∃ p', e = .returned (.pointer (some ⟨p', 0, none⟩)) ∧ LawD W w' p' (dk0 8 (crG d (crM L1 torn) d.ord.length)) ∧ Gr wr w' := by
        have := lawD_crash hd hg L1 torn (bools_gr HB1.out hg) (by omega)
        rw [en] at this
        exact this
      obtain ⟨G1', eG1⟩ : ∃ X, X = crG d (crM L1 torn) d.ord.length := ⟨_, rfl⟩
      rw [← eG1] at AC1
      have AC2 : ∀ p' w, LawD W w p' (dk0 8 G1') → Gr W w → Calls Try.prog 24 #[.pointer (some ⟨p', 0, none⟩), .slice ad3 L3.length cap3, .int .i64 other] w fun e w' => ∃ p', e = .returned (.pointer (some ⟨p', 0, none⟩)) ∧ LawD W w' p' (dk0 8 G1') ∧ Gr w w' := fun p' w h g => lawD_crash h g L3 other (bools_gr HB3.out g) (by omega)
      have AC3 : ∀ w, Gr wr w → ∀ B, w.cell? ⟨B, 0, none⟩ = some (.bool true) → Calls Try.prog 24 #[.pointer (some ⟨p, 0, none⟩), .slice (some ⟨B, 0, none⟩) 1 1, .int .i64 (-1)] w fun e w' => ∃ p', e = .returned (.pointer (some ⟨p', 0, none⟩)) ∧ LawD W w' p' (dk0 8 (crG d (crM [true] (-1)) d.ord.length)) ∧ Gr w w' := fun w g B hB => by
        have := lawD_crash (lawD_gr hd g) (Gr.trans hg g) [true] (-1) (bools_one true hB) (by decide)
        rw [en] at this
        exact this
      have HS : Hid (∀ k, k < 8 → sec (crG d (crM [true] (-1)) d.ord.length) k = d.read k) := Lib.hid (fun k hk => crG_all hok (by rw [en]; exact hk))
      have HEN := Lib.hid en
      have HD0 := Lib.hid hd
      have HC1 := Lib.hid AC1
      have HC2 := Lib.hid AC2
      have HC3 := Lib.hid AC3
      clear AC1 AC2 AC3 hd hp hok en eG1
      generalize crG d (crM [true] (-1)) d.ord.length = G2' at HS HC3
      go_wp2_with fail
      go_at_call 24
      refine (HC1.out).mono ?_
      rintro e w4 ⟨p4, rfl, hd4, g4⟩
      have HD4 := Lib.hid hd4
      clear hd4
      go_wp2_with fail
      go_at_call 24
      refine (HC2.out p4 w4 HD4.out (Gr.trans hg g4)).mono ?_
      rintro e w5 ⟨p5, rfl, hd5, g5⟩
      have HD5 := Lib.hid hd5
      clear hd5
      have g45 : Gr wr w5 := Gr.trans g4 g5
      go_wp2_with fail
      go_at_call 24
      refine (HC3.out _ (by have gs := g45.size; go_grown) _ (by go_simp)).mono ?_
      rintro e w6 ⟨p6, rfl, hd6, g6⟩
      have g56 : Gr w5 w6 := Gr.trans (by go_grown) g6
      have HX : Hid (LawD W w6 p4 (dk0 8 G1') ∧ LawD W w6 p5 (dk0 8 G1') ∧ LawD W w6 p6 (dk0 8 G2') ∧ LawD W w6 p d ∧ Gr W w6) := Lib.hid ⟨lawD_gr HD4.out (Gr.trans g5 g56), lawD_gr HD5.out g56, hd6, lawD_gr HD0.out (Gr.trans g45 g56), Gr.trans hg (Gr.trans g45 g56)⟩
      clear hd6 g6 g56 g45 g5 g4 HD4 HD5 HD0 HC1 HC2 HC3
      go_wp2_with fail
      go_loopg [17] 8 (fun j x wq => ∃ i : Nat, x = .int .i64 i ∧ i ≤ 8 ∧ j = 8 - i ∧ Gr w6 wq)
      case atStart => exact ⟨0, rfl, by omega, by omega, Below.refl _ _⟩
      case round =>
        obtain ⟨k, rfl, hk, hkj, hq⟩ := hrel
        by_cases hk8 : k < 8
        · have s1 : decide ((k : Int) < 8) = true := decide_eq_true (by omega)
          have s2 : decide (k < 8) = true := decide_eq_true hk8
          have s3 : (k : Int) < 8 := by omega
          have R1 := Lib.hid (fun w (g : Gr w6 w) => lawD_read (k := k) (lawD_gr HX.out.1 g) hk8)
          have R2 := Lib.hid (fun w (g : Gr w6 w) => lawD_read (k := k) (lawD_gr HX.out.2.1 g) hk8)
          have R3 := Lib.hid (fun w (g : Gr w6 w) => lawD_read (k := k) (lawD_gr HX.out.2.2.1 g) hk8)
          have R4 := Lib.hid (fun w (g : Gr w6 w) => lawD_read (k := k) (lawD_gr HX.out.2.2.2.1 g) (by rw [HEN.out]; exact hk8))
          have E3 : Hid ((dk0 8 G2').read k = d.read k) := Lib.hid (by rw [dk0_read]; exact HS.out k hk8)
          have hlen1 : Hid (((dk0 8 G1').read k).length ≤ 1000000000 ∧ (d.read k).length ≤ 1000000000) := Lib.hid (by
            have e1 := read_len (lawD_ok HX.out.1) (k := k) hk8
            have e2 := read_len (lawD_ok HX.out.2.2.2.1) (k := k) (by rw [HEN.out]; exact hk8)
            rw [e1, e2]
            exact ⟨by decide, by decide⟩)
          go_wp2_with fail
          go_at_call 25
          refine (R1.out _ hq).mono ?_
          rintro e y1 ⟨a1, b1, rfl, r1, k1⟩
          have h1 := Lib.hid (And.intro r1 (Gr.trans hq k1))
          clear r1 k1
          go_wp2_with fail
          go_at_call 25
          refine (R2.out _ h1.out.2).mono ?_
          rintro e y2 ⟨a2, b2, rfl, r2, k2⟩
          have h2 := Lib.hid (And.intro r2 (And.intro (Gr.trans h1.out.2 k2) (row_gr h1.out.1 k2)))
          clear r2 k2 h1
          go_wp2_with fail
          go_at_call 25
          refine (R3.out _ h2.out.2.1).mono ?_
          rintro e y3 ⟨a3, b3, rfl, r3, k3⟩
          rw [E3.out] at r3
          have h3 := Lib.hid (And.intro r3 (And.intro (Gr.trans h2.out.2.1 k3) (And.intro (row_gr h2.out.1 k3) (row_gr h2.out.2.2 k3))))
          clear r3 k3 h2
          go_wp2_with fail
          go_at_call 25
          refine (R4.out _ h3.out.2.1).mono ?_
          rintro e y4 ⟨a4, b4, rfl, r4, k4⟩
          have h4 := Lib.hid (And.intro r4 (And.intro (Gr.trans h3.out.2.1 k4) (And.intro (row_gr h3.out.1 k4) (And.intro (row_gr h3.out.2.2.1 k4) (row_gr h3.out.2.2.2 k4)))))
          clear r4 k4 h3
          have Y1 := Lib.hid (bytes_same y4 h4.out.2.2.2.2 h4.out.2.2.2.1 hlen1.out.1)
          have Y2 := Lib.hid (fun w (g : Gr y4 w) => bytes_same w (row_gr h4.out.2.2.1 g) (row_gr h4.out.1 g) hlen1.out.2)
          go_wp2_with fail
          go_at_call 20
          refine (Y1.out).mono ?_
          rintro e y5 ⟨rfl, k5⟩
          go_wp2_with fail
          go_at_call 20
          refine (Y2.out _ k5).mono ?_
          rintro e y6 ⟨rfl, k6⟩
          have G6 : Gr w6 y6 := Gr.trans h4.out.2.1 (Gr.trans k5 k6)
          go_wp2_with fail
          go_roundg (8 - (k + 1))
          case measure => omega
          case rel => exact ⟨k + 1, by go_num, by omega, by omega, G6⟩
        · obtain rfl : k = 8 := by omega
          have s1 : decide (((8 : Nat) : Int) < 8) = false := by decide
          have O1 := Lib.hid (lawD_ops (lawD_gr HX.out.2.1 hq))
          have O2 := Lib.hid (fun w (g : Gr w6 w) => lawD_off (lawD_gr HX.out.2.1 g))
          have e0 : (dk0 8 G1').ops = 0 := rfl
          have e1 : (dk0 8 G1').off = false := rfl
          rw [e0] at O1
          rw [e1] at O2
          clear e0 e1
          go_wp2_with fail
          go_at_call 26
          refine (O1.out).mono ?_
          rintro e y1 ⟨rfl, k1⟩
          have g1 := Gr.trans hq k1
          go_wp2_with fail
          go_at_call 27
          refine (O2.out _ g1).mono ?_
          rintro e y2 ⟨rfl, k2⟩
          go_wp2_with fail
          go_at_call 21
          refine (p10_awake _).mono ?_
          rintro e y3 ⟨rfl, k3⟩
          go_wp2_with fail
          go_ret
          exact ⟨rfl, Gr.trans HX.out.2.2.2.2 (Gr.trans g1 (Gr.trans k2 k3))⟩
set_option maxHeartbeats 1000000 in
set_option maxRecDepth 100000 in
theorem walk_DiskAgain (W : World) (L0 : List Int) (v0 : Value) (L1 : List Bool) (v1 : Value) (torn : Int) (L3 : List Bool) (v3 : Value) (other : Int) (h0 : IntsR W v0 L0) (h1 : Bools W v1 L1) (ht : -9223372036854775808 ≤ torn ∧ torn ≤ 9223372036854775807) (h3 : Bools W v3 L3) (ho : -9223372036854775808 ≤ other ∧ other ≤ 9223372036854775807) : Calls Try.prog 6 #[v0, v1, .int .i64 torn, v3, .int .i64 other] W fun e w' => e = .returned (.bool true) ∧ Gr W w' := by
  clear ht ho
  by_cases l0 : L0.length ≤ 40
  · by_cases l1 : L1.length ≤ 40
    · by_cases l3 : L3.length ≤ 40
      · exact again_core W L0 v0 L1 v1 torn L3 v3 other h0 h1 h3 l0 l1 l3
      · obtain ⟨ad1, cap1, rfl⟩ := bools_form h1
        obtain ⟨ad3, cap3, rfl⟩ := bools_form h3
        obtain ⟨ad0, cap0, rfl⟩ := intsR_form h0
        have t1 : decide ((40 : Int) < (L0.length : Int)) = false := decide_eq_false (by omega)
        have t2 : decide ((40 : Int) < (L1.length : Int)) = false := decide_eq_false (by omega)
        have t3 : decide ((40 : Int) < (L3.length : Int)) = true := decide_eq_true (by omega)
        have t4 : ¬ (40 : Int) < (L0.length : Int) := by omega
        have t5 : ¬ (40 : Int) < (L1.length : Int) := by omega
        have t6 : (40 : Int) < (L3.length : Int) := by omega
        clear h0 h1 h3
        go_enter Try.func6, Try.ntmps6
        go_wp2_with fail
        go_at_call 21
        refine (p10_awake _).mono ?_
        rintro e y3 ⟨rfl, k3⟩
        go_wp2_with fail
        go_ret
        exact ⟨rfl, Gr.trans (by go_grown) k3⟩
    · obtain ⟨ad1, cap1, rfl⟩ := bools_form h1
      obtain ⟨ad3, cap3, rfl⟩ := bools_form h3
      obtain ⟨ad0, cap0, rfl⟩ := intsR_form h0
      have t1 : decide ((40 : Int) < (L0.length : Int)) = false := decide_eq_false (by omega)
      have t2 : decide ((40 : Int) < (L1.length : Int)) = true := decide_eq_true (by omega)
      have t4 : ¬ (40 : Int) < (L0.length : Int) := by omega
      have t5 : (40 : Int) < (L1.length : Int) := by omega
      clear h0 h1 h3
      go_enter Try.func6, Try.ntmps6
      go_wp2_with fail
      go_at_call 21
      refine (p10_awake _).mono ?_
      rintro e y3 ⟨rfl, k3⟩
      go_wp2_with fail
      go_ret
      exact ⟨rfl, Gr.trans (by go_grown) k3⟩
  · obtain ⟨ad1, cap1, rfl⟩ := bools_form h1
    obtain ⟨ad3, cap3, rfl⟩ := bools_form h3
    obtain ⟨ad0, cap0, rfl⟩ := intsR_form h0
    have t1 : decide ((40 : Int) < (L0.length : Int)) = true := decide_eq_true (by omega)
    have t4 : (40 : Int) < (L0.length : Int) := by omega
    clear h0 h1 h3
    go_enter Try.func6, Try.ntmps6
    go_wp2_with fail
    go_at_call 21
    refine (p10_awake _).mono ?_
    rintro e y3 ⟨rfl, k3⟩
    go_wp2_with fail
    go_ret
    exact ⟨rfl, Gr.trans (by go_grown) k3⟩
end Go.Proofs.Ytcalleofndokaaa
