/- SlotsPlays: the walk -/
import Derived.Test.YtilijbplfobneaaDoorMt
import Derived.Test.YtilijbplfobneaaDoorSb
import Derived.Deep.CutBlock
namespace Go.Proofs.YtilijbplfobneaaDoor
set_option linter.unusedVariables false
set_option linter.unusedSimpArgs false
open Go.ChangeShapes Go.WideShapes Go.ChangeAt Go.RowKit Go.Maps

theorem c_RoundP (z : Int) (m : Nat) (hm : 0 < m) (hm2 : m ≤ 1000000) (h : -9223372036854775808 ≤ z ∧ z ≤ 9223372036854775807) (w : World) :
    Calls Tryd.prog 11 #[.int .i64 z, .int .i64 (m : Nat)] w fun e w' => ∃ k : Nat, k < m ∧ e = .returned (.int .i64 (k : Nat)) ∧ Gr w w' := by
  refine (c_RoundE z h.1 h.2 m hm hm2 w).mono ?_
  rintro e w' ⟨rfl, g⟩
  have h1 := Int.emod_nonneg z (show (m : Int) ≠ 0 by omega)
  have h2 := Int.emod_lt_of_pos z (show (0 : Int) < m by omega)
  exact ⟨(z % m).toNat, by omega, by rw [Int.toNat_of_nonneg h1], g⟩
theorem play_start {W w : World} {B q kd id : Nat} (h1 : PageS w B none kd id []) (h2 : RefP W.heap.size w q (pgZ B none) kd id [] (.slice none 0 0) (.slice none 0 0) []) (hB : W.heap.size ≤ B) : PlayX W w B q kd id :=
  ⟨none, [], h1, ⟨_, _, _, h2⟩, by decide, by simp [Trim], fun k hk => by rcases hk with rfl | hk; exact hB; cases hk⟩
/-- Both pages and the bytes that go in. -/
def MidX (W w : World) (B q V kd id : Nat) (vb : Value) (L : List UInt8) : Prop := ∃ C S, Mid W w B q V kd id C S S ∧ usS S ≤ 512 ∧ Trim S ∧ RowOff w (pgZ B C) vb L
/-- Both pages behind a step. -/
def MidY (W w : World) (B q V kd id : Nat) : Prop := ∃ C S, Mid W w B q V kd id C S S ∧ usS S ≤ 512 ∧ Trim S
theorem midX_new {W w a b : World} {B q V kd id : Nat} {vb : Value} {L : List UInt8} (h : MidY W w B q V kd id) (g : Gr w a) (o : Own b a.heap.size vb L) (g2 : Gr a b) : MidX W b B q V kd id vb L := by
  obtain ⟨C, S, h1, h2, h3⟩ := h
  have h4 := mid_gr h1 g
  exact ⟨C, S, mid_gr h4 g2, h2, h3, rowOff_own o (pageS_zlt h4.1)⟩
theorem midY_play {W w : World} {B q V kd id : Nat} (h : MidY W w B q V kd id) : PlayX W w B q kd id := by
  obtain ⟨C, S, h1, h2, h3⟩ := h
  exact mid_play h1 h2 h3
theorem midY_gr {W w w' : World} {B q V kd id : Nat} (h : MidY W w B q V kd id) (g : Gr w w') : MidY W w' B q V kd id := by
  obtain ⟨C, S, h1, h2⟩ := h
  exact ⟨C, S, mid_gr h1 g, h2⟩
theorem kxV_gr {W w w' : World} {V : Nat} (K : Kx (fun k => k ≠ V ∧ W.heap.size ≤ k) w w') (G : Gr W w) : Gr W w' := Kx.gr K G (fun k h => h.2)
set_option maxHeartbeats 4000000 in
set_option maxRecDepth 100000 in
theorem plays_core (W : World) (hE : ErrT W) (hF : FT W) (kd id : Nat) (hkd : kd ≤ 255) (hid : id ≤ 4294967295) (v : Value) (n : Nat) (A E D : Nat → Int) (h : Steps3 W v n A E D) (hn : n ≤ 150) : Calls Tryd.prog 3 #[.int .i64 (kd : Nat), .int .i64 (id : Nat), v] W fun e w' => e = .returned (.bool true) ∧ Gr W w' := by
  obtain ⟨ad0, cap0, B0, off0, rfl, c1, c2, c3, c4, c5⟩ := h
  have HI0 := Lib.hid (And.intro c4 c5)
  have HT := Lib.hid (And.intro hE hF)
  have AB : ∀ m i : Nat, m ≤ 1000 → i ≤ 1000 → ∀ w, Calls Tryd.prog 10 #[.int .i64 (m : Nat), .int .i64 (i : Nat)] w fun e w' => e = .returned (.slice (some ⟨w.heap.size, 0, none⟩) m m) ∧ Own w' w.heap.size (.slice (some ⟨w.heap.size, 0, none⟩) m m) (blk (i : Nat) m) ∧ Gr w w' := fun m i hm hi w => c_Block m (by omega) i (by omega) w
  have HBk := Lib.hid AB
  have t1 : decide ((150 : Int) < (n : Int)) = false := decide_eq_false (by omega)
  have t2 : ¬ (150 : Int) < (n : Int) := by omega
  have AN := fun w => p_newS (kd : Nat) (id : Nat) (by omega) w
  have AR := fun (B : Nat) (w : World) (hz : ∀ k, pgZ B none k → k < w.heap.size) (hb : W.heap.size ≤ w.heap.size) => r_new (base := W.heap.size) (Z := pgZ B none) (kd : Nat) (id : Nat) (by omega) w hz hb
  have AI := fun w => c_AlIs_nil pageS 0 w
  have HK := Lib.hid (And.intro hkd hid)
  clear c2 c4 c5 AB hE hF hkd hid
  have HN := Lib.hid AN
  have HR := Lib.hid AR
  have HI := Lib.hid AI
  clear AN AR AI
  go_enter Tryd.func3, Tryd.ntmps3
  go_wp2_with fail
  go_at_call 7
  refine (HN.out _).mono ?_
  rintro e w1 ⟨B, rfl, hB, hp, g1⟩
  have HP1 := Lib.hid hp
  have hB' : W.heap.size ≤ B := hB
  have G1 : Gr W w1 := g1
  clear hp g1 hB
  go_wp2_with fail
  go_at_call 8
  refine (HR.out B _ (pageS_zlt HP1.out) G1.size).mono ?_
  rintro e w2 ⟨q, rfl, hr, g2⟩
  have HX : Hid (PlayX W w2 B q kd id) := Lib.hid (play_start (pageS_gr HP1.out g2) hr hB')
  have G2 := Gr.trans G1 g2
  clear hr g2 HP1 hB' G1
  go_wp2_with fail
  go_at_call 9
  refine (HI.out _).mono ?_
  rintro e w3 ⟨rfl, g3⟩
  have HX3 : Hid (PlayX W w3 B q kd id) := Lib.hid (play_gr HX.out g3)
  have G3 := Gr.trans G2 g3
  clear g3 HX G2
  go_wp2_with fail
  go_loopg [7, 11] n (fun j x y wr => ∃ (i B : Nat), x = .pointer (some ⟨B, 0, none⟩) ∧ y = .int .i64 i ∧ i ≤ n ∧ j = n - i ∧ Hid (PlayX W wr B q kd id) ∧ Gr W wr)
  case atStart => exact ⟨0, B, rfl, rfl, by omega, by omega, HX3, G3⟩
  case round =>
    obtain ⟨i, B, rfl, rfl, hi, hj, HD, hg⟩ := hrel
    by_cases hin : i < n
    · have ti : decide ((i : Int) < (n : Int)) = true := decide_eq_true (by omega)
      have ti2 : decide (i < n) = true := decide_eq_true hin
      have ti3 : (i : Int) < (n : Int) := by omega
      have ti4 : (i : Int) < (cap0 : Int) := by omega
      obtain rfl := c3 (by omega)
      have q0 := cell_gr hg (HI0.out.1 i hin).1
      have q1 := cell_gr hg (HI0.out.1 i hin).2.1
      have q2 := cell_gr hg (HI0.out.1 i hin).2.2
      have ARm := Lib.hid (c_RoundP (D i) 500 (by decide) (by decide) (HI0.out.2 i).2.2)
      generalize D i = dz at q2 ARm
      generalize E i = es at q1
      generalize A i = kn at q0
      go_wp2_with fail
      go_at_call 11
      refine (ARm.out _).mono ?_
      rintro e w4 ⟨m, hm, rfl, g4⟩
      have ABi := Lib.hid (HBk.out m i (by omega) (by omega))
      have HY : Hid (MidY W (wr.alloc (.cells #[.int .i64 kn, .int .i64 es, .int .i64 dz] 34)) B q wr.heap.size kd id) := Lib.hid (play_mid HD.out hg _)
      have GG : Gr W (wr.alloc (.cells #[.int .i64 kn, .int .i64 es, .int .i64 dz] 34)) := Gr.trans hg ((Below.refl _ _).alloc (Nat.le_refl _) _)
      have k0 : w4.cell? ⟨wr.heap.size, 0, none⟩ = some (.int .i64 kn) := cell_gr g4 (by go_simp)
      have k1 : w4.cell? ⟨wr.heap.size, 1, none⟩ = some (.int .i64 es) := cell_gr g4 (by go_simp)
      have k2 : w4.cell? ⟨wr.heap.size, 2, none⟩ = some (.int .i64 dz) := cell_gr g4 (by go_simp)
      obtain ⟨V, hV⟩ : ∃ x, x = wr.heap.size := ⟨_, rfl⟩
      rw [← hV] at HY k0 k1 k2 ⊢
      clear hV
      generalize (wr.alloc (.cells #[.int .i64 kn, .int .i64 es, .int .i64 dz] 34)) = wv at HY GG g4
      have G4 := Gr.trans GG g4
      have hVW : W.heap.size ≤ V := by obtain ⟨C, S, hm, -⟩ := HY.out; exact hm.2.2.2.2.2
      clear ARm q0 q1 q2 GG HD hg
      go_wp2_with fail
      go_at_call 10
      refine (ABi.out _).mono ?_
      rintro e w5 ⟨rfl, o5, g5⟩
      have HL5 : Hid (MidX W w5 B q V kd id (.slice (some ⟨w4.heap.size, 0, none⟩) m m) (blk (i : Nat) m)) := Lib.hid (midX_new HY.out g4 o5 g5)
      have G5 := Gr.trans G4 g5
      have l0 := cell_gr g5 k0
      have l1 := cell_gr g5 k1
      have l2 := cell_gr g5 k2
      have lz := World.block_lt_of_cell? _ _ l0
      generalize w4.heap.size = bb at HL5 ⊢
      clear g5 o5 k0 k1 k2 G4 g4 HY ABi
      have hlb : m = (blk (i : Nat) m).length := (blk_len _ m).symm
      generalize blk (i : Nat) m = L at HL5 hlb
      have HLB := Lib.hid hlb
      clear hlb
      go_upto_block 2 with fail
      go_cut [7, 14] from 55 to 183 (fun p ok wx => ∃ B', p = .pointer (some ⟨B', 0, none⟩) ∧ ok = .bool true ∧ Hid (MidY W wx B' q V kd id) ∧ Gr W wx)
      case first =>
        obtain ⟨C, S, hM, hu, ht, hR⟩ := HL5.out
        have AIs : ∀ (w : World), Gr W w → ∀ (u : Value) (z : Int) (c : Nat), UErr w u z c → Calls Tryd.prog 9 #[u, .int .i64 (c : Nat), .string ⟨#[112, 97, 103, 101]⟩, .int .i64 z] w fun e w' => e = .returned (.bool true) ∧ Gr w w' := fun w g u z c hU => c_IsU w (errT_gr HT.out.1 g) hU
        have HIs := Lib.hid AIs
        clear AIs
        by_cases e1 : kn = 1
        · have x1 : (kn == 1) = true := by simpa using e1
          have AI := x_ins m m (some ⟨bb, 0, none⟩) HLB.out hM G5 hR
          have HAI := Lib.hid AI
          have HS := Lib.hid (And.intro hu ht)
          clear AI hM hu ht hR HL5 e1
          go_wp2_with fail
          go_at_call 12
          refine (HAI.out).mono ?_
          rintro e w6 ⟨k, u, c, S', rfl, hk1, hk2, hI, hd, hr6, hx6⟩
          have G6 := kxV_gr hx6 G5
          have HC := Lib.hid (And.intro hk1 (And.intro hk2 hI))
          have HY6 := Lib.hid (y_ins m m ⟨bb, 0, none⟩ HLB.out hI hd G6 hr6)
          clear hk1 hk2 hI hd hr6 hx6 HAI
          go_wp2_with fail
          go_at_call 13
          refine (HY6.out).mono ?_
          rintro e w7 ⟨rfl, hd7, hx7⟩
          have G7 := kxV_gr hx7 G6
          have HI7 := Lib.hid (HIs.out w7 G7 u _ c hd7.1)
          have HD7 := Lib.hid hd7
          clear hd7 hx7 HY6
          go_wp2_with fail
          go_at_call 9
          refine (HI7.out).mono ?_
          rintro e w8 ⟨rfl, g8⟩
          have G8 := Gr.trans G7 g8
          have HYY : Hid (MidY W w8 B q V kd id) := Lib.hid (by
            obtain ⟨C', hM'⟩ := HD7.out.2
            have := insR_ok HC.out.2.2 HS.out.1 HS.out.2
            exact ⟨C', S', mid_gr hM' g8, this⟩)
          clear g8 HD7 HI7 HS
          have hk1 := HC.out.1
          have hk2 := HC.out.2.1
          clear HC
          generalize lfS S = lf at hk1 ⊢
          cases c with
          | zero =>
            obtain rfl := hk1 rfl
            clear hk1 hk2
            have tb : ((k : Int) == (k : Int)) = true := by simp
            cases hk0 : ((k : Int) == 0) with
            | false =>
              go_wp2_with fail
              go_meet
              exact ⟨B, rfl, rfl, HYY, G8⟩
            | true =>
              go_wp2_with fail
              go_meet
              exact ⟨B, rfl, rfl, HYY, G8⟩
          | succ c1 =>
            obtain rfl := hk2 (by omega)
            clear hk1 hk2
            obtain ⟨cc, hcc⟩ : ∃ x, x = c1 + 1 := ⟨_, rfl⟩
            have tb : ((cc : Int) == 0) = false := by simp; omega
            have tb1 : ((cc : Int) != 0) = true := by simp; omega
            have tb2 : (cc == 0) = false := by simp; omega
            have tb3 : (cc != 0) = true := by simp; omega
            rw [← hcc]
            clear hcc
            go_wp2_with fail
            go_meet
            exact ⟨B, rfl, rfl, HYY, G8⟩
        · have x1 : (kn == 1) = false := by simpa using e1
          by_cases e2 : kn = 2
          · have x2 : (kn == 2) = true := by simpa using e2
            have HS := Lib.hid (And.intro hu (And.intro ht (And.intro hM hR)))
            clear hM hu ht hR HL5 e1 e2
            go_upto_region 21 with fail
            have gw5 := G5
            go_wp2_with fail
            try simp only [List.append]
            refine Oe.wp_region_ord (R := Kx (fun k => k ≠ V ∧ W.heap.size ≤ k)) [(0, false), (1, false), (2, false), (3, false), (5, false), (6, false), (7, false), (8, false), (10, false), (11, false), (4, true), (9, true), (12, true), (13, false)] (by kernel_rfl) (by kernel_rfl) ?_
            intro wa hwa KQ hKQ
            have hhwa := Kx.of_gr (S := (fun k => k ≠ V ∧ W.heap.size ≤ k)) hwa
            have cwa_0_0 : wa.cell? ⟨V, 0, none⟩ = some (.int .i64 kn) := cell_kx hhwa (by show ¬ (V ≠ V ∧ W.heap.size ≤ V); omega) (by go_simp)
            have cwa_0_1 : wa.cell? ⟨V, 1, none⟩ = some (.int .i64 es) := cell_kx hhwa (by show ¬ (V ≠ V ∧ W.heap.size ≤ V); omega) (by go_simp)
            have cwa_0_2 : wa.cell? ⟨V, 2, none⟩ = some (.int .i64 dz) := cell_kx hhwa (by show ¬ (V ≠ V ∧ W.heap.size ≤ V); omega) (by go_simp)
            have zwa_0 : V < wa.heap.size := World.block_lt_of_cell? _ _ cwa_0_0
            have gwa : Gr W wa := Kx.gr hhwa (by have gg := gw5; have gs := gg.size; go_grown) (fun k hk => by have hk2 : k ≠ V ∧ W.heap.size ≤ k := hk; omega)
            have swa := hhwa.size
            clear gw5
            clear hhwa
            repeat (first | (refine Oe.wpO_skip (by simp only [List.getElem?_toArray, List.getElem?_cons_succ, List.getElem?_cons_zero] <;> rfl) rfl ?_; simp only [Act.put, List.setIfInBounds_toArray, List.set_cons_zero, List.set_cons_succ]) | (refine Oe.wpO_pure (by simp only [List.getElem?_toArray, List.getElem?_cons_succ, List.getElem?_cons_zero] <;> rfl) rfl ?_; apply Exists.intro; refine ⟨?_, ?_⟩; (· intro wx gx; have cx_0_0 : wx.cell? ⟨V, 0, none⟩ = some (.int .i64 kn) := cell_kx gx (by show ¬ (V ≠ V ∧ W.heap.size ≤ V); omega) cwa_0_0; have cx_0_1 : wx.cell? ⟨V, 1, none⟩ = some (.int .i64 es) := cell_kx gx (by show ¬ (V ≠ V ∧ W.heap.size ≤ V); omega) cwa_0_1; have cx_0_2 : wx.cell? ⟨V, 2, none⟩ = some (.int .i64 dz) := cell_kx gx (by show ¬ (V ≠ V ∧ W.heap.size ≤ V); omega) cwa_0_2; have zx_0 : V < wx.heap.size := World.block_lt_of_cell? _ _ cx_0_0; clear gx; all_goals (apply Oe.pAt_of_quiet; intro K hK; go_big_quiet_op; first | exact hK _ rfl | (apply Exists.intro; refine ⟨fun _ => ?_, ?_⟩; (· fail); exact hK _ rfl))); try simp only [Act.put, List.setIfInBounds_toArray, List.set_cons_zero, List.set_cons_succ]))
            have MA := Lib.hid (And.intro (mid_gr HS.out.2.2.1 hwa) (rowOff_gr HS.out.2.2.2 hwa))
            refine Oe.wpO_call (by simp only [List.getElem?_toArray, List.getElem?_cons_succ, List.getElem?_cons_zero] <;> rfl) rfl ?_
            intro QS hQS
            go_wp2_with fail
            go_at_call 14
            (with_reducible refine ((x_set es m m (some ⟨bb, 0, none⟩) HLB.out MA.out.1 gwa MA.out.2)).mono ?_)
            rintro e wb ⟨u, c, S', rfl, hI, hd, hr6, hx6⟩
            have hhwb : Kx (fun k => k ≠ V ∧ W.heap.size ≤ k) wa wb := hx6
            go_wp2_with fail
            first | (apply Exists.intro; refine ⟨?_, hhwb, ?_⟩; (· simp only [Act.put, List.setIfInBounds_toArray, List.set_cons_zero, List.set_cons_succ]; rfl)) | (refine ⟨hhwb, ?_⟩)
            have cwb_0_0 : wb.cell? ⟨V, 0, none⟩ = some (.int .i64 kn) := cell_kx hhwb (by show ¬ (V ≠ V ∧ W.heap.size ≤ V); omega) (by go_simp)
            have cwb_0_1 : wb.cell? ⟨V, 1, none⟩ = some (.int .i64 es) := cell_kx hhwb (by show ¬ (V ≠ V ∧ W.heap.size ≤ V); omega) (by go_simp)
            have cwb_0_2 : wb.cell? ⟨V, 2, none⟩ = some (.int .i64 dz) := cell_kx hhwb (by show ¬ (V ≠ V ∧ W.heap.size ≤ V); omega) (by go_simp)
            have zwb_0 : V < wb.heap.size := World.block_lt_of_cell? _ _ cwb_0_0
            have gwb : Gr W wb := Kx.gr hhwb gwa (fun k hk => by have hk2 : k ≠ V ∧ W.heap.size ≤ k := hk; omega)
            have swb := hhwb.size
            clear gwa zwa_0 cwa_0_0 cwa_0_1 cwa_0_2
            clear hhwb
            try simp only [Act.put, List.setIfInBounds_toArray, List.set_cons_zero, List.set_cons_succ]
            repeat (first | (refine Oe.wpO_skip (by simp only [List.getElem?_toArray, List.getElem?_cons_succ, List.getElem?_cons_zero] <;> rfl) rfl ?_; simp only [Act.put, List.setIfInBounds_toArray, List.set_cons_zero, List.set_cons_succ]) | (refine Oe.wpO_pure (by simp only [List.getElem?_toArray, List.getElem?_cons_succ, List.getElem?_cons_zero] <;> rfl) rfl ?_; apply Exists.intro; refine ⟨?_, ?_⟩; (· intro wx gx; have cx_0_0 : wx.cell? ⟨V, 0, none⟩ = some (.int .i64 kn) := cell_kx gx (by show ¬ (V ≠ V ∧ W.heap.size ≤ V); omega) cwb_0_0; have cx_0_1 : wx.cell? ⟨V, 1, none⟩ = some (.int .i64 es) := cell_kx gx (by show ¬ (V ≠ V ∧ W.heap.size ≤ V); omega) cwb_0_1; have cx_0_2 : wx.cell? ⟨V, 2, none⟩ = some (.int .i64 dz) := cell_kx gx (by show ¬ (V ≠ V ∧ W.heap.size ≤ V); omega) cwb_0_2; have zx_0 : V < wx.heap.size := World.block_lt_of_cell? _ _ cx_0_0; clear gx; all_goals (apply Oe.pAt_of_quiet; intro K hK; go_big_quiet_op; first | exact hK _ rfl | (apply Exists.intro; refine ⟨fun _ => ?_, ?_⟩; (· fail); exact hK _ rfl))); try simp only [Act.put, List.setIfInBounds_toArray, List.set_cons_zero, List.set_cons_succ]))
            have HC := Lib.hid (And.intro hI (And.intro hd hr6))
            clear hI hd hr6 hx6 MA
            refine Oe.wpO_call (by simp only [List.getElem?_toArray, List.getElem?_cons_succ, List.getElem?_cons_zero] <;> rfl) rfl ?_
            intro QS hQS
            go_wp2_with fail
            go_at_call 15
            (with_reducible refine ((y_set m m ⟨bb, 0, none⟩ HLB.out HC.out.1 HC.out.2.1 gwb HC.out.2.2)).mono ?_)
            rintro e wc ⟨rfl, hd7, hx7⟩
            have hhwc : Kx (fun k => k ≠ V ∧ W.heap.size ≤ k) wb wc := hx7
            go_wp2_with fail
            first | (apply Exists.intro; refine ⟨?_, hhwc, ?_⟩; (· simp only [Act.put, List.setIfInBounds_toArray, List.set_cons_zero, List.set_cons_succ]; rfl)) | (refine ⟨hhwc, ?_⟩)
            have cwc_0_0 : wc.cell? ⟨V, 0, none⟩ = some (.int .i64 kn) := cell_kx hhwc (by show ¬ (V ≠ V ∧ W.heap.size ≤ V); omega) (by go_simp)
            have cwc_0_1 : wc.cell? ⟨V, 1, none⟩ = some (.int .i64 es) := cell_kx hhwc (by show ¬ (V ≠ V ∧ W.heap.size ≤ V); omega) (by go_simp)
            have cwc_0_2 : wc.cell? ⟨V, 2, none⟩ = some (.int .i64 dz) := cell_kx hhwc (by show ¬ (V ≠ V ∧ W.heap.size ≤ V); omega) (by go_simp)
            have zwc_0 : V < wc.heap.size := World.block_lt_of_cell? _ _ cwc_0_0
            have gwc : Gr W wc := Kx.gr hhwc gwb (fun k hk => by have hk2 : k ≠ V ∧ W.heap.size ≤ k := hk; omega)
            have swc := hhwc.size
            clear gwb zwb_0 cwb_0_0 cwb_0_1 cwb_0_2
            clear hhwc
            try simp only [Act.put, List.setIfInBounds_toArray, List.set_cons_zero, List.set_cons_succ]
            repeat (first | (refine Oe.wpO_skip (by simp only [List.getElem?_toArray, List.getElem?_cons_succ, List.getElem?_cons_zero] <;> rfl) rfl ?_; simp only [Act.put, List.setIfInBounds_toArray, List.set_cons_zero, List.set_cons_succ]) | (refine Oe.wpO_pure (by simp only [List.getElem?_toArray, List.getElem?_cons_succ, List.getElem?_cons_zero] <;> rfl) rfl ?_; apply Exists.intro; refine ⟨?_, ?_⟩; (· intro wx gx; have cx_0_0 : wx.cell? ⟨V, 0, none⟩ = some (.int .i64 kn) := cell_kx gx (by show ¬ (V ≠ V ∧ W.heap.size ≤ V); omega) cwc_0_0; have cx_0_1 : wx.cell? ⟨V, 1, none⟩ = some (.int .i64 es) := cell_kx gx (by show ¬ (V ≠ V ∧ W.heap.size ≤ V); omega) cwc_0_1; have cx_0_2 : wx.cell? ⟨V, 2, none⟩ = some (.int .i64 dz) := cell_kx gx (by show ¬ (V ≠ V ∧ W.heap.size ≤ V); omega) cwc_0_2; have zx_0 : V < wx.heap.size := World.block_lt_of_cell? _ _ cx_0_0; clear gx; all_goals (apply Oe.pAt_of_quiet; intro K hK; go_big_quiet_op; first | exact hK _ rfl | (apply Exists.intro; refine ⟨fun _ => ?_, ?_⟩; (· fail); exact hK _ rfl))); try simp only [Act.put, List.setIfInBounds_toArray, List.set_cons_zero, List.set_cons_succ]))
            have HD7 := Lib.hid hd7
            have HU7 := Lib.hid hd7.1
            clear hd7 hx7
            refine Oe.wpO_call (by simp only [List.getElem?_toArray, List.getElem?_cons_succ, List.getElem?_cons_zero] <;> rfl) rfl ?_
            intro QS hQS
            go_wp2_with fail
            go_at_call 9
            (with_reducible refine ((HIs.out _ gwc _ _ _ HU7.out)).mono ?_)
            rintro e wd ⟨rfl, g8⟩
            have hhwd : Kx (fun k => k ≠ V ∧ W.heap.size ≤ k) wc wd := Kx.of_gr g8
            go_wp2_with fail
            first | (apply Exists.intro; refine ⟨?_, hhwd, ?_⟩; (· simp only [Act.put, List.setIfInBounds_toArray, List.set_cons_zero, List.set_cons_succ]; rfl)) | (refine ⟨hhwd, ?_⟩)
            have cwd_0_0 : wd.cell? ⟨V, 0, none⟩ = some (.int .i64 kn) := cell_kx hhwd (by show ¬ (V ≠ V ∧ W.heap.size ≤ V); omega) (by go_simp)
            have cwd_0_1 : wd.cell? ⟨V, 1, none⟩ = some (.int .i64 es) := cell_kx hhwd (by show ¬ (V ≠ V ∧ W.heap.size ≤ V); omega) (by go_simp)
            have cwd_0_2 : wd.cell? ⟨V, 2, none⟩ = some (.int .i64 dz) := cell_kx hhwd (by show ¬ (V ≠ V ∧ W.heap.size ≤ V); omega) (by go_simp)
            have zwd_0 : V < wd.heap.size := World.block_lt_of_cell? _ _ cwd_0_0
            have gwd : Gr W wd := Kx.gr hhwd gwc (fun k hk => by have hk2 : k ≠ V ∧ W.heap.size ≤ k := hk; omega)
            have swd := hhwd.size
            clear gwc zwc_0 cwc_0_0 cwc_0_1 cwc_0_2
            clear hhwd
            try simp only [Act.put, List.setIfInBounds_toArray, List.set_cons_zero, List.set_cons_succ]
            repeat (first | (refine Oe.wpO_skip (by simp only [List.getElem?_toArray, List.getElem?_cons_succ, List.getElem?_cons_zero] <;> rfl) rfl ?_; simp only [Act.put, List.setIfInBounds_toArray, List.set_cons_zero, List.set_cons_succ]) | (refine Oe.wpO_pure (by simp only [List.getElem?_toArray, List.getElem?_cons_succ, List.getElem?_cons_zero] <;> rfl) rfl ?_; apply Exists.intro; refine ⟨?_, ?_⟩; (· intro wx gx; have cx_0_0 : wx.cell? ⟨V, 0, none⟩ = some (.int .i64 kn) := cell_kx gx (by show ¬ (V ≠ V ∧ W.heap.size ≤ V); omega) cwd_0_0; have cx_0_1 : wx.cell? ⟨V, 1, none⟩ = some (.int .i64 es) := cell_kx gx (by show ¬ (V ≠ V ∧ W.heap.size ≤ V); omega) cwd_0_1; have cx_0_2 : wx.cell? ⟨V, 2, none⟩ = some (.int .i64 dz) := cell_kx gx (by show ¬ (V ≠ V ∧ W.heap.size ≤ V); omega) cwd_0_2; have zx_0 : V < wx.heap.size := World.block_lt_of_cell? _ _ cx_0_0; clear gx; all_goals (apply Oe.pAt_of_quiet; intro K hK; go_big_quiet_op; first | exact hK _ rfl | (apply Exists.intro; refine ⟨fun _ => ?_, ?_⟩; (· fail); exact hK _ rfl))); try simp only [Act.put, List.setIfInBounds_toArray, List.set_cons_zero, List.set_cons_succ]))
            have HYY : Hid (MidY W wd B q V kd id) := Lib.hid (by
              obtain ⟨C', hM'⟩ := HD7.out.2
              have := setR_ok HC.out.1 HS.out.1 HS.out.2.1
              exact ⟨C', S', mid_gr hM' g8, this⟩)
            clear g8 HD7 HC HU7
            refine Oe.wpO_nil (hKQ _ _ ?_)
            clear hKQ KQ
            have G8 := gwd
            go_wp2_with fail
            go_meet
            exact ⟨B, rfl, rfl, HYY, G8⟩
          · have x2 : (kn == 2) = false := by simpa using e2
            by_cases e3 : kn = 3
            · have x3 : (kn == 3) = true := by simpa using e3
              have HS := Lib.hid (And.intro hu (And.intro ht hM))
              clear hM hu ht hR HL5 e1 e2 e3
              go_upto_region 23 with fail
              have gw5 := G5
              go_wp2_with fail
              try simp only [List.append]
              refine Oe.wp_region_ord (R := Kx (fun k => k ≠ V ∧ W.heap.size ≤ k)) [(0, false), (1, false), (2, false), (4, false), (5, false), (6, false), (8, false), (9, false), (3, true), (7, true), (10, true), (11, false)] (by kernel_rfl) (by kernel_rfl) ?_
              intro wa hwa KQ hKQ
              have hhwa := Kx.of_gr (S := (fun k => k ≠ V ∧ W.heap.size ≤ k)) hwa
              have cwa_0_0 : wa.cell? ⟨V, 0, none⟩ = some (.int .i64 kn) := cell_kx hhwa (by show ¬ (V ≠ V ∧ W.heap.size ≤ V); omega) (by go_simp)
              have cwa_0_1 : wa.cell? ⟨V, 1, none⟩ = some (.int .i64 es) := cell_kx hhwa (by show ¬ (V ≠ V ∧ W.heap.size ≤ V); omega) (by go_simp)
              have cwa_0_2 : wa.cell? ⟨V, 2, none⟩ = some (.int .i64 dz) := cell_kx hhwa (by show ¬ (V ≠ V ∧ W.heap.size ≤ V); omega) (by go_simp)
              have zwa_0 : V < wa.heap.size := World.block_lt_of_cell? _ _ cwa_0_0
              have gwa : Gr W wa := Kx.gr hhwa (by have gg := gw5; have gs := gg.size; go_grown) (fun k hk => by have hk2 : k ≠ V ∧ W.heap.size ≤ k := hk; omega)
              have swa := hhwa.size
              clear gw5
              clear hhwa
              repeat (first | (refine Oe.wpO_skip (by simp only [List.getElem?_toArray, List.getElem?_cons_succ, List.getElem?_cons_zero] <;> rfl) rfl ?_; simp only [Act.put, List.setIfInBounds_toArray, List.set_cons_zero, List.set_cons_succ]) | (refine Oe.wpO_pure (by simp only [List.getElem?_toArray, List.getElem?_cons_succ, List.getElem?_cons_zero] <;> rfl) rfl ?_; apply Exists.intro; refine ⟨?_, ?_⟩; (· intro wx gx; have cx_0_0 : wx.cell? ⟨V, 0, none⟩ = some (.int .i64 kn) := cell_kx gx (by show ¬ (V ≠ V ∧ W.heap.size ≤ V); omega) cwa_0_0; have cx_0_1 : wx.cell? ⟨V, 1, none⟩ = some (.int .i64 es) := cell_kx gx (by show ¬ (V ≠ V ∧ W.heap.size ≤ V); omega) cwa_0_1; have cx_0_2 : wx.cell? ⟨V, 2, none⟩ = some (.int .i64 dz) := cell_kx gx (by show ¬ (V ≠ V ∧ W.heap.size ≤ V); omega) cwa_0_2; have zx_0 : V < wx.heap.size := World.block_lt_of_cell? _ _ cx_0_0; clear gx; all_goals (apply Oe.pAt_of_quiet; intro K hK; go_big_quiet_op; first | exact hK _ rfl | (apply Exists.intro; refine ⟨fun _ => ?_, ?_⟩; (· fail); exact hK _ rfl))); try simp only [Act.put, List.setIfInBounds_toArray, List.set_cons_zero, List.set_cons_succ]))
              have MA := Lib.hid (mid_gr HS.out.2.2 hwa)
              refine Oe.wpO_call (by simp only [List.getElem?_toArray, List.getElem?_cons_succ, List.getElem?_cons_zero] <;> rfl) rfl ?_
              intro QS hQS
              go_wp2_with fail
              go_at_call 16
              (with_reducible refine ((x_del es MA.out gwa)).mono ?_)
              rintro e wb ⟨u, c, S', rfl, hI, hd, hx6⟩
              have hhwb : Kx (fun k => k ≠ V ∧ W.heap.size ≤ k) wa wb := hx6
              go_wp2_with fail
              first | (apply Exists.intro; refine ⟨?_, hhwb, ?_⟩; (· simp only [Act.put, List.setIfInBounds_toArray, List.set_cons_zero, List.set_cons_succ]; rfl)) | (refine ⟨hhwb, ?_⟩)
              have cwb_0_0 : wb.cell? ⟨V, 0, none⟩ = some (.int .i64 kn) := cell_kx hhwb (by show ¬ (V ≠ V ∧ W.heap.size ≤ V); omega) (by go_simp)
              have cwb_0_1 : wb.cell? ⟨V, 1, none⟩ = some (.int .i64 es) := cell_kx hhwb (by show ¬ (V ≠ V ∧ W.heap.size ≤ V); omega) (by go_simp)
              have cwb_0_2 : wb.cell? ⟨V, 2, none⟩ = some (.int .i64 dz) := cell_kx hhwb (by show ¬ (V ≠ V ∧ W.heap.size ≤ V); omega) (by go_simp)
              have zwb_0 : V < wb.heap.size := World.block_lt_of_cell? _ _ cwb_0_0
              have gwb : Gr W wb := Kx.gr hhwb gwa (fun k hk => by have hk2 : k ≠ V ∧ W.heap.size ≤ k := hk; omega)
              have swb := hhwb.size
              clear gwa zwa_0 cwa_0_0 cwa_0_1 cwa_0_2
              clear hhwb
              try simp only [Act.put, List.setIfInBounds_toArray, List.set_cons_zero, List.set_cons_succ]
              repeat (first | (refine Oe.wpO_skip (by simp only [List.getElem?_toArray, List.getElem?_cons_succ, List.getElem?_cons_zero] <;> rfl) rfl ?_; simp only [Act.put, List.setIfInBounds_toArray, List.set_cons_zero, List.set_cons_succ]) | (refine Oe.wpO_pure (by simp only [List.getElem?_toArray, List.getElem?_cons_succ, List.getElem?_cons_zero] <;> rfl) rfl ?_; apply Exists.intro; refine ⟨?_, ?_⟩; (· intro wx gx; have cx_0_0 : wx.cell? ⟨V, 0, none⟩ = some (.int .i64 kn) := cell_kx gx (by show ¬ (V ≠ V ∧ W.heap.size ≤ V); omega) cwb_0_0; have cx_0_1 : wx.cell? ⟨V, 1, none⟩ = some (.int .i64 es) := cell_kx gx (by show ¬ (V ≠ V ∧ W.heap.size ≤ V); omega) cwb_0_1; have cx_0_2 : wx.cell? ⟨V, 2, none⟩ = some (.int .i64 dz) := cell_kx gx (by show ¬ (V ≠ V ∧ W.heap.size ≤ V); omega) cwb_0_2; have zx_0 : V < wx.heap.size := World.block_lt_of_cell? _ _ cx_0_0; clear gx; all_goals (apply Oe.pAt_of_quiet; intro K hK; go_big_quiet_op; first | exact hK _ rfl | (apply Exists.intro; refine ⟨fun _ => ?_, ?_⟩; (· fail); exact hK _ rfl))); try simp only [Act.put, List.setIfInBounds_toArray, List.set_cons_zero, List.set_cons_succ]))
              have HC := Lib.hid (And.intro hI hd)
              clear hI hd hx6 MA
              refine Oe.wpO_call (by simp only [List.getElem?_toArray, List.getElem?_cons_succ, List.getElem?_cons_zero] <;> rfl) rfl ?_
              intro QS hQS
              go_wp2_with fail
              go_at_call 17
              (with_reducible refine ((y_del HC.out.1 HC.out.2 gwb)).mono ?_)
              rintro e wc ⟨rfl, hd7, hx7⟩
              have hhwc : Kx (fun k => k ≠ V ∧ W.heap.size ≤ k) wb wc := hx7
              go_wp2_with fail
              first | (apply Exists.intro; refine ⟨?_, hhwc, ?_⟩; (· simp only [Act.put, List.setIfInBounds_toArray, List.set_cons_zero, List.set_cons_succ]; rfl)) | (refine ⟨hhwc, ?_⟩)
              have cwc_0_0 : wc.cell? ⟨V, 0, none⟩ = some (.int .i64 kn) := cell_kx hhwc (by show ¬ (V ≠ V ∧ W.heap.size ≤ V); omega) (by go_simp)
              have cwc_0_1 : wc.cell? ⟨V, 1, none⟩ = some (.int .i64 es) := cell_kx hhwc (by show ¬ (V ≠ V ∧ W.heap.size ≤ V); omega) (by go_simp)
              have cwc_0_2 : wc.cell? ⟨V, 2, none⟩ = some (.int .i64 dz) := cell_kx hhwc (by show ¬ (V ≠ V ∧ W.heap.size ≤ V); omega) (by go_simp)
              have zwc_0 : V < wc.heap.size := World.block_lt_of_cell? _ _ cwc_0_0
              have gwc : Gr W wc := Kx.gr hhwc gwb (fun k hk => by have hk2 : k ≠ V ∧ W.heap.size ≤ k := hk; omega)
              have swc := hhwc.size
              clear gwb zwb_0 cwb_0_0 cwb_0_1 cwb_0_2
              clear hhwc
              try simp only [Act.put, List.setIfInBounds_toArray, List.set_cons_zero, List.set_cons_succ]
              repeat (first | (refine Oe.wpO_skip (by simp only [List.getElem?_toArray, List.getElem?_cons_succ, List.getElem?_cons_zero] <;> rfl) rfl ?_; simp only [Act.put, List.setIfInBounds_toArray, List.set_cons_zero, List.set_cons_succ]) | (refine Oe.wpO_pure (by simp only [List.getElem?_toArray, List.getElem?_cons_succ, List.getElem?_cons_zero] <;> rfl) rfl ?_; apply Exists.intro; refine ⟨?_, ?_⟩; (· intro wx gx; have cx_0_0 : wx.cell? ⟨V, 0, none⟩ = some (.int .i64 kn) := cell_kx gx (by show ¬ (V ≠ V ∧ W.heap.size ≤ V); omega) cwc_0_0; have cx_0_1 : wx.cell? ⟨V, 1, none⟩ = some (.int .i64 es) := cell_kx gx (by show ¬ (V ≠ V ∧ W.heap.size ≤ V); omega) cwc_0_1; have cx_0_2 : wx.cell? ⟨V, 2, none⟩ = some (.int .i64 dz) := cell_kx gx (by show ¬ (V ≠ V ∧ W.heap.size ≤ V); omega) cwc_0_2; have zx_0 : V < wx.heap.size := World.block_lt_of_cell? _ _ cx_0_0; clear gx; all_goals (apply Oe.pAt_of_quiet; intro K hK; go_big_quiet_op; first | exact hK _ rfl | (apply Exists.intro; refine ⟨fun _ => ?_, ?_⟩; (· fail); exact hK _ rfl))); try simp only [Act.put, List.setIfInBounds_toArray, List.set_cons_zero, List.set_cons_succ]))
              have HD7 := Lib.hid hd7
              have HU7 := Lib.hid hd7.1
              clear hd7 hx7
              refine Oe.wpO_call (by simp only [List.getElem?_toArray, List.getElem?_cons_succ, List.getElem?_cons_zero] <;> rfl) rfl ?_
              intro QS hQS
              go_wp2_with fail
              go_at_call 9
              (with_reducible refine ((HIs.out _ gwc _ _ _ HU7.out)).mono ?_)
              rintro e wd ⟨rfl, g8⟩
              have hhwd : Kx (fun k => k ≠ V ∧ W.heap.size ≤ k) wc wd := Kx.of_gr g8
              go_wp2_with fail
              first | (apply Exists.intro; refine ⟨?_, hhwd, ?_⟩; (· simp only [Act.put, List.setIfInBounds_toArray, List.set_cons_zero, List.set_cons_succ]; rfl)) | (refine ⟨hhwd, ?_⟩)
              have cwd_0_0 : wd.cell? ⟨V, 0, none⟩ = some (.int .i64 kn) := cell_kx hhwd (by show ¬ (V ≠ V ∧ W.heap.size ≤ V); omega) (by go_simp)
              have cwd_0_1 : wd.cell? ⟨V, 1, none⟩ = some (.int .i64 es) := cell_kx hhwd (by show ¬ (V ≠ V ∧ W.heap.size ≤ V); omega) (by go_simp)
              have cwd_0_2 : wd.cell? ⟨V, 2, none⟩ = some (.int .i64 dz) := cell_kx hhwd (by show ¬ (V ≠ V ∧ W.heap.size ≤ V); omega) (by go_simp)
              have zwd_0 : V < wd.heap.size := World.block_lt_of_cell? _ _ cwd_0_0
              have gwd : Gr W wd := Kx.gr hhwd gwc (fun k hk => by have hk2 : k ≠ V ∧ W.heap.size ≤ k := hk; omega)
              have swd := hhwd.size
              clear gwc zwc_0 cwc_0_0 cwc_0_1 cwc_0_2
              clear hhwd
              try simp only [Act.put, List.setIfInBounds_toArray, List.set_cons_zero, List.set_cons_succ]
              repeat (first | (refine Oe.wpO_skip (by simp only [List.getElem?_toArray, List.getElem?_cons_succ, List.getElem?_cons_zero] <;> rfl) rfl ?_; simp only [Act.put, List.setIfInBounds_toArray, List.set_cons_zero, List.set_cons_succ]) | (refine Oe.wpO_pure (by simp only [List.getElem?_toArray, List.getElem?_cons_succ, List.getElem?_cons_zero] <;> rfl) rfl ?_; apply Exists.intro; refine ⟨?_, ?_⟩; (· intro wx gx; have cx_0_0 : wx.cell? ⟨V, 0, none⟩ = some (.int .i64 kn) := cell_kx gx (by show ¬ (V ≠ V ∧ W.heap.size ≤ V); omega) cwd_0_0; have cx_0_1 : wx.cell? ⟨V, 1, none⟩ = some (.int .i64 es) := cell_kx gx (by show ¬ (V ≠ V ∧ W.heap.size ≤ V); omega) cwd_0_1; have cx_0_2 : wx.cell? ⟨V, 2, none⟩ = some (.int .i64 dz) := cell_kx gx (by show ¬ (V ≠ V ∧ W.heap.size ≤ V); omega) cwd_0_2; have zx_0 : V < wx.heap.size := World.block_lt_of_cell? _ _ cx_0_0; clear gx; all_goals (apply Oe.pAt_of_quiet; intro K hK; go_big_quiet_op; first | exact hK _ rfl | (apply Exists.intro; refine ⟨fun _ => ?_, ?_⟩; (· fail); exact hK _ rfl))); try simp only [Act.put, List.setIfInBounds_toArray, List.set_cons_zero, List.set_cons_succ]))
              have HYY : Hid (MidY W wd B q V kd id) := Lib.hid (by
                obtain ⟨C', hM'⟩ := HD7.out.2
                have := delR_ok HC.out.1 HS.out.1 HS.out.2.1
                exact ⟨C', S', mid_gr hM' g8, this⟩)
              clear g8 HD7 HC HU7
              refine Oe.wpO_nil (hKQ _ _ ?_)
              clear hKQ KQ
              have G8 := gwd
              go_wp2_with fail
              go_meet
              exact ⟨B, rfl, rfl, HYY, G8⟩
            · have x3 : (kn == 3) = false := by simpa using e3
              by_cases e4 : kn = 4
              · have x4 : (kn == 4) = true := by simpa using e4
                obtain ⟨bv, hv, xs, hRf⟩ := hM.2.1
                have AG := p_getAny es w5 hM.1
                have HAG := Lib.hid AG
                have HS := Lib.hid (And.intro hu (And.intro ht (And.intro hM hRf)))
                clear AG hM hu ht hR hRf HL5 e1 e2 e3 e4
                go_wp2_with fail
                go_at_call 18
                refine (HAG.out).mono ?_
                rintro e w6 ⟨u, c, L1, ad, z, cp, rfl, hI, hU, hr6, g6⟩
                have m1 := cell_gr g6 l1
                have G6 := Gr.trans G5 g6
                have HG := Lib.hid (r_getAny es hI w6 (refP_gr HS.out.2.2.2 g6))
                have HC := Lib.hid (And.intro hU (And.intro hr6 g6))
                clear hI hU hr6 g6 HAG
                go_wp2_with fail
                go_at_call 19
                refine (HG.out).mono ?_
                rintro e w7 ⟨ad7, z7, cp7, rfl, hr7, hl7, g7⟩
                have n1 := cell_gr g7 m1
                have G7 := Gr.trans G6 g7
                have HB7 := Lib.hid (c_BytesSame w7 (row_gr HC.out.2.1 g7) hr7 (by omega))
                have HU7 := Lib.hid (uErr_gr HC.out.1 g7)
                have HM7 := Lib.hid (mid_gr (mid_gr HS.out.2.2.1 HC.out.2.2) g7)
                clear g7 hr7 hl7 HG HC
                go_wp2_with fail
                go_at_call 20
                refine (HB7.out).mono ?_
                rintro e w8 ⟨rfl, g8⟩
                have o1 := cell_gr g8 n1
                have G8 := Gr.trans G7 g8
                have HI8 := Lib.hid (HIs.out w8 G8 _ _ _ (uErr_gr HU7.out g8))
                have HM8 := Lib.hid (mid_gr HM7.out g8)
                clear g8 HU7 HM7 HB7
                go_wp2_with fail
                go_at_call 9
                refine (HI8.out).mono ?_
                rintro e w9 ⟨rfl, g9⟩
                have G9 := Gr.trans G8 g9
                have HYY : Hid (MidY W w9 B q V kd id) := Lib.hid ⟨C, S, mid_gr HM8.out g9, HS.out.1, HS.out.2.1⟩
                clear g9 HI8 HM8
                go_wp2_with fail
                go_meet
                exact ⟨B, rfl, rfl, HYY, G9⟩
              · have x4 : (kn == 4) = false := by simpa using e4
                by_cases e5 : kn = 5
                · have x5 : (kn == 5) = true := by simpa using e5
                  have AB5 := p_bytesS kd id HK.out.1 HK.out.2 hu w5 (ft_gr HT.out.2 G5) hM.1
                  have HAB := Lib.hid AB5
                  have HS := Lib.hid (And.intro hu (And.intro ht hM))
                  clear AB5 hM hu ht hR HL5 e1 e2 e3 e4 e5
                  go_wp2_with fail
                  go_at_call 22
                  refine (HAB.out).mono ?_
                  rintro e w6 ⟨g, rfl, -, hF6, g6⟩
                  have G6 := Gr.trans G5 g6
                  have HP := Lib.hid (x_parse (P := pgB kd id S) HK.out.1 HK.out.2 (ft_gr HT.out.2 G6) (mid_gr HS.out.2.2 g6) G6 HS.out.1 HS.out.2.1 hF6)
                  clear hF6 g6 HAB
                  go_wp2_with fail
                  go_at_call 21
                  refine (HP.out).mono ?_
                  rintro e w7 ⟨B', C', rfl, hM7, g7⟩
                  have G7 := Gr.trans G6 g7
                  have HYY : Hid (MidY W w7 B' q V kd id) := Lib.hid ⟨C', S, hM7, HS.out.1, HS.out.2.1⟩
                  clear hM7 g7 HP
                  go_wp2_with fail
                  go_meet
                  exact ⟨B', rfl, rfl, HYY, G7⟩
                · have x5 : (kn == 5) = false := by simpa using e5
                  have HYY : Hid (MidY W w5 B q V kd id) := Lib.hid ⟨C, S, hM, hu, ht⟩
                  clear e1 e2 e3 e4 e5 hM hu ht hR HL5
                  go_wp2_with fail
                  go_meet
                  exact ⟨B, rfl, rfl, HYY, G5⟩
      case rest =>
        obtain ⟨B', rfl, rfl, HY6, G6⟩ := hcut
        obtain ⟨C, S, hM, hu, ht⟩ := HY6.out
        obtain ⟨bv', hv', xs', hR⟩ := hM.2.1
        have AS := Lib.hid (c_same kd id HK.out.1 HK.out.2 hu _ (ft_gr HT.out.2 G6) hM.1 hR)
        clear hM hu ht hR
        go_wp2_with fail
        go_at_call 23
        refine (AS.out).mono ?_
        rintro e w8 ⟨rfl, g8⟩
        have HX8 : Hid (PlayX W w8 B' q kd id) := Lib.hid (play_gr (midY_play HY6.out) g8)
        have G8 : Gr W w8 := Gr.trans G6 g8
        clear HY6 AS
        go_wp2_with fail
        go_roundg (n - (i + 1))
        case measure => omega
        case rel => exact ⟨i + 1, B', rfl, by go_num, by omega, by omega, HX8, G8⟩
    · obtain rfl : i = n := by omega
      have ti : decide ((i : Int) < (i : Int)) = false := decide_eq_false (by omega)
      have ti3 : ¬ (i : Int) < (i : Int) := by omega
      go_wp2_with fail
      go_at_call 6
      refine (p11_awake _).mono ?_
      rintro e w3 ⟨rfl, g3⟩
      go_wp2_with fail
      go_ret
      exact ⟨rfl, Gr.trans hg g3⟩
set_option maxHeartbeats 1000000 in
set_option maxRecDepth 100000 in
theorem walk_SlotsPlays (W : World) (kd id : Int) (v : Value) (n : Nat) (A E D : Nat → Int) (_b1 : -9223372036854775808 ≤ kd ∧ kd ≤ 9223372036854775807) (_b2 : -9223372036854775808 ≤ id ∧ id ≤ 9223372036854775807) (h : Steps3 W v n A E D) (hE : ErrT W) (hF : FT W) : Calls Tryd.prog 3 #[.int .i64 kd, .int .i64 id, v] W fun e w' => e = .returned (.bool true) ∧ Gr W w' := by
  by_cases hn : n ≤ 150
  · by_cases hok : 0 ≤ kd ∧ kd ≤ 255 ∧ 0 ≤ id ∧ id ≤ 4294967295
    · obtain ⟨h1, h2, h3, h4⟩ := hok
      have e1 : kd = (kd.toNat : Int) := by omega
      have e2 : id = (id.toNat : Int) := by omega
      rw [e1, e2]
      exact plays_core W hE hF kd.toNat id.toNat (by omega) (by omega) v n A E D h hn
    · obtain ⟨ad0, cap0, B0, off0, rfl, -, -, -, -, -⟩ := h
      have t1 : decide ((150 : Int) < (n : Int)) = false := decide_eq_false (by omega)
      have AN := fun w => p_new_no kd id hok w
      have AR := fun w => r_new_no kd id hok w
      have AI := fun (F : Nat) (w : World) (g : Gr W w) (hf : FaultAt w F pageS 0 1) => c_AlIs_hit F pageS 0 1 (by decide) w (errT_gr hE g) hf
      clear hE hF hok
      have HN := Lib.hid AN
      have HR := Lib.hid AR
      have HI := Lib.hid AI
      clear AN AR AI
      go_enter Tryd.func3, Tryd.ntmps3
      go_wp2_with fail
      go_at_call 7
      refine (HN.out _).mono ?_
      rintro e w1 ⟨F, rfl, hf, g1⟩
      have G1 : Gr W w1 := g1
      have HF1 := Lib.hid hf
      clear hf g1
      go_wp2_with fail
      go_at_call 8
      refine (HR.out _).mono ?_
      rintro e w2 ⟨rfl, g2⟩
      have HF2 : Hid (FaultAt w2 F pageS 0 1) := Lib.hid ⟨cell_gr g2 HF1.out.1, cell_gr g2 HF1.out.2.1, cell_gr g2 HF1.out.2.2⟩
      have G2 := Gr.trans G1 g2
      clear g2 HF1
      go_wp2_with fail
      go_at_call 9
      refine (HI.out F _ G2 HF2.out).mono ?_
      rintro e w3 ⟨rfl, g3⟩
      have G3 := Gr.trans G2 g3
      clear g3 HF2
      go_wp2_with fail
      go_at_call 6
      refine (p11_awake _).mono ?_
      rintro e w4 ⟨rfl, g4⟩
      go_wp2_with fail
      go_ret
      exact ⟨rfl, Gr.trans G3 g4⟩
  · obtain ⟨ad0, cap0, B0, off0, rfl, -, -, -, -, -⟩ := h
    have t1 : decide ((150 : Int) < (n : Int)) = true := decide_eq_true (by omega)
    go_enter Tryd.func3, Tryd.ntmps3
    go_wp2_with fail
    go_at_call 6
    refine (p11_awake _).mono ?_
    rintro e w3 ⟨rfl, g3⟩
    go_wp2_with fail
    go_ret
    have G3 : Gr W w3 := g3
    exact ⟨rfl, G3⟩
end Go.Proofs.YtilijbplfobneaaDoor
