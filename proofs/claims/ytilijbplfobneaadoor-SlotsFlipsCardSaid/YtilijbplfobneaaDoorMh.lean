/- SlotsFlips -/
import Derived.Test.YtilijbplfobneaaDoorMg
import Derived.Test.YtilijbplfobneaaDoorSi
namespace Go.Proofs.YtilijbplfobneaaDoor
set_option linter.unusedVariables false
set_option linter.unusedSimpArgs false
open Go.ChangeShapes Go.WideShapes Go.ChangeAt Go.RowKit Go.Maps

/-- One bit of a byte turned. -/
theorem flip8m {x j : Nat} (hx : x < 256) (hj : j < 8) : ∃ y : Nat, y < 256 ∧ y ≠ x ∧ bits BinOp.xor IntKind.u8 (x : Int) ((2 ^ j : Nat) : Int) = (y : Int) := by
  have hp : 2 ^ j < 256 := Nat.lt_of_lt_of_le (Nat.pow_lt_pow_right (by decide) hj) (by decide)
  refine ⟨x ^^^ 2 ^ j, Nat.xor_lt_two_pow (n := 8) hx hp, fun e => ?_, xor8 hx hp⟩
  have h0 : 0 < 2 ^ j := Nat.two_pow_pos j
  have h : 2 ^ j = 0 := by
    have h2 := congrArg (· ^^^ x) e
    simp only [Nat.xor_self] at h2
    rw [Nat.xor_comm x, Nat.xor_assoc, Nat.xor_self, Nat.xor_zero] at h2
    exact h2
  omega
theorem shl8m {j : Nat} (hj : j < 8) : IntKind.u8.wrap (1 * 2 ^ j) = ((2 ^ j : Nat) : Int) := by
  have hp : 2 ^ j < 256 := Nat.lt_of_lt_of_le (Nat.pow_lt_pow_right (by decide) hj) (by decide)
  rw [Int.one_mul, show ((2 : Int) ^ j) = ((2 ^ j : Nat) : Int) by rw [Int.natCast_pow]; rfl, wraps_u8', Nat.mod_eq_of_lt hp]
theorem c_RoundM (z : Int) (m : Nat) (hm : 0 < m) (hm2 : m ≤ 1000000) (h : -9223372036854775808 ≤ z ∧ z ≤ 9223372036854775807) (w : World) :
    Calls Tryd.prog 11 #[.int .i64 z, .int .i64 (m : Nat)] w fun e w' => ∃ k : Nat, k < m ∧ e = .returned (.int .i64 (k : Nat)) ∧ Gr w w' := by
  refine (c_RoundE z h.1 h.2 m hm hm2 w).mono ?_
  rintro e w' ⟨rfl, g⟩
  have h1 := Int.emod_nonneg z (show (m : Int) ≠ 0 by omega)
  have h2 := Int.emod_lt_of_pos z (show (0 : Int) < m by omega)
  exact ⟨(z % m).toNat, by omega, by rw [Int.toNat_of_nonneg h1], g⟩
theorem kxPg_grF {W w w' : World} {B : Nat} {C : Option Nat} (K : Kx (fun k => pgZ B C k ∨ w.heap.size ≤ k) w w') (G : Gr W w) (hn : ∀ k, pgZ B C k → W.heap.size ≤ k) : Gr W w' :=
  Kx.gr K G (fun k hk => by rcases hk with hk | hk; exact hn k hk; exact Nat.le_trans G.size hk)
/-- A page of the law's own, within its bytes. -/
def FlipP (W w : World) (B : Nat) : Prop := ∃ C S, PageS w B C 5 1000 S ∧ usS S ≤ 512 ∧ ∀ k, pgZ B C k → W.heap.size ≤ k
theorem flip_ins {W w : World} {B m : Nat} {ad : Option Addr} {k : Int} (h : FlipP W w B) (g : Gr W w) (o2 : ∀ C S, PageS w B C 5 1000 S → RowOff w (pgZ B C) (.slice ad m m) (blk k m)) :
    Calls Tryd.prog 12 #[.pointer (some ⟨B, 0, none⟩), .slice ad m m] w fun e w' => (∃ a b, e = .returned (.tuple #[a, b])) ∧ FlipP W w' B ∧ Gr W w' := by
  obtain ⟨C, S, h1, h2, h3⟩ := h
  by_cases he : reS S (lfS S) m = 0
  · refine (p_insertS (L := blk k m) m m ad (blk_len k m).symm (by rw [blk_len]; exact he) w h1 (o2 C S h1)).mono ?_
    rintro e w' ⟨rfl, hp⟩
    obtain ⟨D, p1, p2, p3⟩ := hp
    refine ⟨⟨_, _, rfl⟩, ⟨some D, _, p1, usS_put (lfS_le S) (by rw [blk_len]; exact he), fun j hj => ?_⟩, kxPg_grF p3 g h3⟩
    rcases hj with rfl | hj
    · exact h3 _ (Or.inl rfl)
    · obtain rfl := Option.some.inj hj
      rcases p2 with h | h
      · exact h3 _ (Or.inr h)
      · exact Nat.le_trans g.size h
  · obtain ⟨k1, hk1⟩ : ∃ k1, reS S (lfS S) m = k1 + 1 := ⟨reS S (lfS S) m - 1, by omega⟩
    refine (p_insert_no m m ad hk1 w h1).mono ?_
    rintro e w' ⟨F, rfl, -, g'⟩
    exact ⟨⟨_, _, rfl⟩, ⟨C, S, pageS_gr h1 g', h2, h3⟩, Gr.trans g g'⟩
/-- A page with one byte turned is none. -/
theorem flip_none {S : List Sl} (hu : usS S ≤ 512) (h60 : S.length ≤ 60) {q y : Nat} (hq : q < 512) (hy : y < 256) (hx : y ≠ rb (pgB 5 1000 S) q) : ¬ (RdOk ((pgB 5 1000 S).set q (UInt8.ofNat y)) ∧ pgB (rb ((pgB 5 1000 S).set q (UInt8.ofNat y)) 0) (wv (((pgB 5 1000 S).set q (UInt8.ofNat y)).drop 2)) (rdT ((pgB 5 1000 S).set q (UInt8.ofNat y)) (rb ((pgB 5 1000 S).set q (UInt8.ofNat y)) 1)) = (pgB 5 1000 S).set q (UInt8.ofNat y)) := by
  rintro ⟨hok, he⟩
  have hu' := hok.2.2.2.2
  have h60' : (rdT ((pgB 5 1000 S).set q (UInt8.ofNat y)) (rb ((pgB 5 1000 S).set q (UInt8.ofNat y)) 1)).length ≤ 60 := by rw [rdT_len]; exact hok.2.1
  generalize rb ((pgB 5 1000 S).set q (UInt8.ofNat y)) 0 = kd at he
  generalize wv (((pgB 5 1000 S).set q (UInt8.ofNat y)).drop 2) = id at he
  generalize rdT ((pgB 5 1000 S).set q (UInt8.ofNat y)) (rb ((pgB 5 1000 S).set q (UInt8.ofNat y)) 1) = T at he hu' h60'
  have h := seal_flip (M := layB 5 1000 S S.length) (M' := layB kd id T T.length) (layB_len 5 1000 hu h60 _ (Nat.le_refl _)) (layB_len kd id hu' h60' _ (Nat.le_refl _)) (fun j a b => layB_free 5 1000 hu h60 j a b _ (Nat.le_refl _)) (fun j a b => layB_free kd id hu' h60' j a b _ (Nat.le_refl _)) hq he
  apply hx
  unfold rb
  have h' : (pgB 5 1000 S)[q]? = some (UInt8.ofNat y) := h
  rw [List.getD_eq_getElem?_getD, h']
  show y = (UInt8.ofNat y).toNat
  rw [UInt8.toNat_ofNat']
  omega
set_option maxHeartbeats 4000000 in
set_option maxRecDepth 100000 in
theorem flips_core (W : World) (n z : Nat) (bit : Int) (hn : n ≤ 20) (hz : z ≤ 20) (hb : -9223372036854775808 ≤ bit ∧ bit ≤ 9223372036854775807) (hE : ErrT W) (hF : FT W) : Calls Tryd.prog 4 #[.int .i64 (n : Nat), .int .i64 (z : Nat), .int .i64 bit] W fun e w' => e = .returned (.bool true) ∧ Gr W w' := by
  have HF := Lib.hid hF
  have HE := Lib.hid hE
  have HR := Lib.hid (fun w => c_RoundM bit 4096 (by decide) (by decide) hb w)
  have AB := Lib.hid (fun (i : Nat) (hi : i ≤ 1000) w => c_Block z (by omega) (i : Nat) (by omega) w)
  have t1 : decide ((n : Int) < 0) = false := decide_eq_false (by omega)
  have t2 : decide ((20 : Int) < (n : Int)) = false := decide_eq_false (by omega)
  have t3 : decide ((z : Int) < 0) = false := decide_eq_false (by omega)
  have t4 : decide ((20 : Int) < (z : Int)) = false := decide_eq_false (by omega)
  have t5 : ¬ (20 : Int) < (n : Int) := by omega
  have t6 : ¬ (20 : Int) < (z : Int) := by omega
  clear hF hE hb
  go_enter Tryd.func4, Tryd.ntmps4
  go_wp2_with fail
  go_at_call 7
  refine (p_newS 5 1000 (by decide) _).mono ?_
  rintro e w1 ⟨B, rfl, hB, hp, g1⟩
  have G1 : Gr W w1 := Gr.trans (by go_grown) g1
  have HP : Hid (FlipP W w1 B) := Lib.hid ⟨none, [], hp, by decide, fun k hk => by rcases hk with rfl | hk; (simpa using hB); cases hk⟩
  clear hp g1
  go_wp2_with fail
  go_loopg [9] n (fun j x wr => ∃ i : Nat, x = .int .i64 i ∧ i ≤ n ∧ j = n - i ∧ Hid (FlipP W wr B) ∧ Gr W wr)
  case atStart => exact ⟨0, rfl, by omega, by omega, HP, G1⟩
  case round =>
    obtain ⟨i, rfl, hi, hj, HP, hg⟩ := hrel
    by_cases hin : i < n
    · have ti : decide ((i : Int) < (n : Int)) = true := decide_eq_true (by omega)
      have ti2 : decide (i < n) = true := decide_eq_true hin
      have ti3 : (i : Int) < (n : Int) := by omega
      have A1 := Lib.hid (AB.out i (by omega))
      go_wp2_with fail
      go_at_call 10
      (with_reducible refine (A1.out _).mono ?_)
      rintro e w2 ⟨rfl, o2, g2⟩
      have G2 : Gr W w2 := Gr.trans hg g2
      have AI := Lib.hid (flip_ins (k := (i : Nat)) (m := z) (ad := some ⟨wr.heap.size, 0, none⟩) (W := W) (w := w2) (B := B) (by obtain ⟨C, S, h1, h2, h3⟩ := HP.out; exact ⟨C, S, pageS_gr h1 g2, h2, h3⟩) G2 (fun C S h => by
        obtain ⟨C', S', h1, -, -⟩ := HP.out
        have hC : C = C' := by
          obtain ⟨sl, xs, p1, p2, -⟩ := h
          obtain ⟨sl', xs', p1', p2', -⟩ := pageS_gr h1 g2
          have := p1.2.2.2.1
          rw [p1'.2.2.2.1] at this
          rw [← p2, ← p2', Option.some.inj this]
        rw [hC]
        exact rowOff_own o2 (pageS_zlt h1)))
      clear o2 g2
      go_wp2_with fail
      go_at_call 12
      (with_reducible refine AI.out.mono ?_)
      rintro e w3 ⟨⟨ra, rb_, rfl⟩, hp, G3⟩
      have HP3 := Lib.hid hp
      clear hp AI
      go_wp2_with fail
      go_roundg (n - (i + 1))
      case measure => omega
      case rel => exact ⟨i + 1, by go_num, by omega, by omega, HP3, G3⟩
    · obtain rfl : i = n := by omega
      have ti : decide ((i : Int) < (i : Int)) = false := decide_eq_false (by omega)
      have ti3 : ¬ (i : Int) < (i : Int) := by omega
      obtain ⟨C, S, h1, h2, h3⟩ := HP.out
      have h60 : S.length ≤ 60 := by obtain ⟨_, _, _, _, _, h, _⟩ := h1; exact h
      have ABy := Lib.hid (p_bytesS 5 1000 (by decide) (by decide) h2 wr (ft_gr HF.out hg) h1)
      have HU := Lib.hid (And.intro h2 h60)
      obtain ⟨P, hP⟩ : ∃ P, P = pgB 5 1000 S := ⟨_, rfl⟩
      rw [← hP] at ABy
      have HPP := Lib.hid hP
      clear h1 h2 h3 h60 hP HP
      go_wp2_with fail
      go_at_call 22
      refine (ABy.out).mono ?_
      rintro e w4 ⟨g, rfl, hgs, hFu, g4⟩
      have G4 : Gr W w4 := Gr.trans hg g4
      have hgW : W.heap.size ≤ g := Nat.le_trans hg.size hgs
      have HFu := Lib.hid hFu
      clear hFu g4 ABy
      go_wp2_with fail
      go_at_call 11
      refine (HR.out _).mono ?_
      rintro e w5 ⟨k, hk, rfl, g5⟩
      have G5 : Gr W w5 := Gr.trans G4 g5
      have F5 := full_gr HFu.out g5
      obtain ⟨q, eq⟩ : ∃ q, q = k / 8 := ⟨_, rfl⟩
      obtain ⟨j, ej⟩ : ∃ j, j = k % 8 := ⟨_, rfl⟩
      obtain ⟨x, ex⟩ : ∃ x, x = rb P q := ⟨_, rfl⟩
      have hx : x < 256 := by rw [ex]; exact rb_lt _ _
      have hq : q < 512 := by omega
      have hj : j < 8 := by omega
      obtain ⟨y, hy, hyx, hbx⟩ := flip8m hx hj
      have hs := shl8m hj
      obtain ⟨pw, epw⟩ : ∃ pw, pw = 2 ^ j := ⟨_, rfl⟩
      have hpw : 2 ^ j < 256 := Nat.lt_of_lt_of_le (Nat.pow_lt_pow_right (by decide) hj) (by decide)
      have hs2 : (2 : Int) ^ j % 256 = (pw : Int) := by rw [show ((2 : Int) ^ j) = ((2 ^ j : Nat) : Int) by rw [Int.natCast_pow]; rfl, epw]; omega
      rw [← epw] at hbx hs
      clear hpw
      obtain ⟨c0, f0, hgz⟩ := full_cell F5 hq
      have hc0 : bv (P.getD q 0) = .int .u8 (x : Int) := by rw [ex]; rfl
      rw [hc0] at c0
      have k1 : Int.tdiv (k : Int) 8 = (q : Int) := by rw [Int.tdiv_eq_ediv_of_nonneg (by omega)]; omega
      have k2 : Int.tmod (k : Int) 8 = (j : Int) := by rw [Int.tmod_eq_emod_of_nonneg (by omega)]; omega
      have k3 : (k : Int) / 8 = (q : Int) := by omega
      have k4 : (k : Int) % 8 = (j : Int) := by omega
      have hj2 : (j : Int) < 8 := by omega
      have hqs : (q : Int) < 512 := by omega
      have hq0 : (0 : Int) ≤ (q : Int) := by omega
      have NX := flip_none HU.out.1 HU.out.2 hq hy (by rw [← HPP.out, ← ex]; exact hyx)
      rw [← HPP.out] at NX
      have FIN := Lib.hid (And.intro NX (And.intro hy F5))
      clear NX hyx ex epw ej eq hx hq hk hy hc0 F5 g5 HFu HPP HU
      go_wp2_with fail
      refine Hd.wp_region_tail 13 (by kernel_rfl) (by kernel_rfl) ?_
      intro KQ hKQ
      repeat (first | (refine Hd.wpG_skip (by decide) rfl ?_; simp only [Act.put, List.setIfInBounds_toArray, List.set_cons_zero, List.set_cons_succ]) | (refine Hd.wpG_want (by decide) rfl ?_; apply Exists.intro; refine ⟨?_, ?_⟩; (· intro wx gx; (obtain ⟨mx, rfl⟩ := gx); all_goals (apply Hd.gAt_of_quiet; intro K hK; go_big_quiet_op; first | exact hK _ rfl | (apply Exists.intro; refine ⟨fun _ => ?_, ?_⟩; (· fail); exact hK _ rfl))); try simp only [Act.put, List.setIfInBounds_toArray, List.set_cons_zero, List.set_cons_succ]))
      refine Hd.wpG_nil (hKQ _ ?_)
      clear hKQ KQ
      intro w6 hhw6
      have hw6 := Hd.gr_of_spread hhw6
      have c3 := cell_gr hw6 c0
      have f3 := frozen_gr hw6 c0 f0
      have F6 := Lib.hid (full_gr FIN.out.2.2 hw6)
      have G6 : Gr W w6 := Gr.trans G5 hw6
      have hgz3 : g < w6.heap.size := Nat.lt_of_lt_of_le hgz hw6.size
      clear c0 f0 hw6 hhw6 hgz
      go_wp2_with fail
      have F7 := full_set F6.out (k := q) (UInt8.ofNat y)
      rw [byte_eq FIN.out.2.1] at F7
      have G7 : Gr W (w6.setCell ⟨g, q, none⟩ (.int .u8 (y : Int))) := G6.setCell (p := ⟨g, q, none⟩) hgW _
      generalize w6.setCell ⟨g, q, none⟩ (.int .u8 (y : Int)) = w7 at F7 G7 ⊢
      have AP := Lib.hid (c_Parse w7 (ft_gr HF.out G7) (full_row F7) (by rw [F7.1]; decide))
      clear F7 F6 c3 f3 hgz3
      go_at_call 21
      refine (AP.out).mono ?_
      rintro e w8 ⟨hpp, g8⟩
      have G8 : Gr W w8 := Gr.trans G7 g8
      rcases hpp with ⟨h1, h2, -⟩ | ⟨-, F, rfl, hFa⟩
      · exact absurd ⟨h1, h2⟩ FIN.out.1
      · have AI := Lib.hid (c_AlIs_hit F pageS 0 10 (by decide) w8 (errT_gr HE.out G8) hFa)
        clear hFa AP FIN g8
        go_wp2_with fail
        go_at_call 9
        refine (AI.out).mono ?_
        rintro e w9 ⟨rfl, g9⟩
        have G9 : Gr W w9 := Gr.trans G8 g9
        go_wp2_with fail
        go_at_call 6
        refine (p11_awake _).mono ?_
        rintro e w10 ⟨rfl, g10⟩
        go_wp2_with fail
        go_ret
        exact ⟨rfl, Gr.trans G9 g10⟩
set_option maxRecDepth 100000 in
theorem walk_SlotsFlips (n z bit : Int) (hn : -9223372036854775808 ≤ n ∧ n ≤ 9223372036854775807) (hz : -9223372036854775808 ≤ z ∧ z ≤ 9223372036854775807) (hb : -9223372036854775808 ≤ bit ∧ bit ≤ 9223372036854775807) (W : World) (hE : ErrT W) (hF : FT W) : Calls Tryd.prog 4 #[.int .i64 n, .int .i64 z, .int .i64 bit] W fun e w' => e = .returned (.bool true) ∧ Gr W w' := by
  by_cases h : (0 ≤ n ∧ n ≤ 20) ∧ 0 ≤ z ∧ z ≤ 20
  · obtain ⟨a, rfl⟩ : ∃ a : Nat, n = a := ⟨n.toNat, by omega⟩
    obtain ⟨b, rfl⟩ : ∃ b : Nat, z = b := ⟨z.toNat, by omega⟩
    exact flips_core W a b bit (by omega) (by omega) hb hE hF
  · have hq : n < 0 ∨ (¬ n < 0 ∧ 20 < n) ∨ (¬ n < 0 ∧ ¬ 20 < n ∧ z < 0) ∨ (¬ n < 0 ∧ ¬ 20 < n ∧ ¬ z < 0 ∧ 20 < z) := by omega
    clear h hn hz hb hE hF
    rcases hq with a1 | ⟨a1, a2⟩ | ⟨a1, a2, a3⟩ | ⟨a1, a2, a3, a4⟩
    · have t1 : decide (n < 0) = true := decide_eq_true a1
      go_enter Tryd.func4, Tryd.ntmps4
      go_wp2_with fail
      go_at_call 6
      refine (p11_awake _).mono ?_
      rintro e w1 ⟨rfl, g1⟩
      go_wp2_with fail
      go_ret
      exact ⟨rfl, Gr.trans (by go_grown) g1⟩
    · have t1 : decide (n < 0) = false := decide_eq_false a1
      have t2 : decide (20 < n) = true := decide_eq_true a2
      go_enter Tryd.func4, Tryd.ntmps4
      go_wp2_with fail
      go_at_call 6
      refine (p11_awake _).mono ?_
      rintro e w1 ⟨rfl, g1⟩
      go_wp2_with fail
      go_ret
      exact ⟨rfl, Gr.trans (by go_grown) g1⟩
    · have t1 : decide (n < 0) = false := decide_eq_false a1
      have t2 : decide (20 < n) = false := decide_eq_false a2
      have t3 : decide (z < 0) = true := decide_eq_true a3
      go_enter Tryd.func4, Tryd.ntmps4
      go_wp2_with fail
      go_at_call 6
      refine (p11_awake _).mono ?_
      rintro e w1 ⟨rfl, g1⟩
      go_wp2_with fail
      go_ret
      exact ⟨rfl, Gr.trans (by go_grown) g1⟩
    · have t1 : decide (n < 0) = false := decide_eq_false a1
      have t2 : decide (20 < n) = false := decide_eq_false a2
      have t3 : decide (z < 0) = false := decide_eq_false a3
      have t4 : decide (20 < z) = true := decide_eq_true a4
      go_enter Tryd.func4, Tryd.ntmps4
      go_wp2_with fail
      go_at_call 6
      refine (p11_awake _).mono ?_
      rintro e w1 ⟨rfl, g1⟩
      go_wp2_with fail
      go_ret
      exact ⟨rfl, Gr.trans (by go_grown) g1⟩
end Go.Proofs.YtilijbplfobneaaDoor
