/- SlotsFull -/
import Derived.Test.YtcalleofndokaaaSh
namespace Go.Proofs.Ytcalleofndokaaa
set_option linter.unusedVariables false
set_option linter.unusedSimpArgs false
open Go.ChangeShapes Go.WideShapes Go.ChangeAt Go.RowKit

/-- A page of the law's own, without holes, of i slots. -/
def FullP (W w : World) (B z i : Nat) : Prop := ∃ C S, PageS w B C 1 1 S ∧ AllZ S z ∧ S.length = i ∧ W.heap.size ≤ B ∧ (∀ k, C = some k → W.heap.size ≤ k)
theorem putTo_gr {W0 w w' : World} {B : Nat} {C : Option Nat} {kd id : Int} {S : List Sl} (h : PutTo w B C kd id S w') (g : Gr W0 w) (hB : W0.heap.size ≤ B) (hC : ∀ k, C = some k → W0.heap.size ≤ k) : Gr W0 w' ∧ ∃ C', PageS w' B C' kd id S ∧ (∀ k, C' = some k → W0.heap.size ≤ k) := by
  obtain ⟨D, h1, h2, h3⟩ := h
  refine ⟨Kx.gr h3 g (fun k hk => ?_), some D, h1, fun k hk => ?_⟩
  · rcases hk with (rfl | hk) | hk
    · exact hB
    · exact hC k hk
    · exact Nat.le_trans g.size hk
  · obtain rfl := Option.some.inj hk
    rcases h2 with h2 | h2
    · exact hC _ h2
    · exact Nat.le_trans g.size h2
theorem c_CodeF8 (b : Nat) (w : World) (hc : w.cell? ⟨b, 2, none⟩ = some (.iface 60 (.int .i64 8))) :
    Calls Try.prog 13 #[.iface 77 (.pointer (some ⟨b, 0, none⟩))] w fun e w' => e = .returned (.int .i64 8) ∧ Gr w w' := c_CodeF b 8 (by decide) w hc
/-- The law's own bytes are put into its page. -/
theorem full_ins {W w0 w : World} {B z i : Nat} {k : Int} (h : FullP W w0 B z i) (g0 : Gr w0 w) (g : Gr W w) (hz : z ≤ 400) (hi : i < 60) (hf : (i + 1) * (z + 4) ≤ 496) {ad : Option Addr} (o : RowOff w (fun b => b < w0.heap.size) (.slice ad z z) (blk k z)) :
    Calls Try.prog 11 #[.pointer (some ⟨B, 0, none⟩), .slice ad z z] w fun e w' => e = .returned (.tuple #[.int .i64 i, .nilIface]) ∧ FullP W w' B z (i + 1) ∧ Gr W w' := by
  obtain ⟨C, S, h1, h2, h3, h4, h5⟩ := h
  have hr := re_all h2 hz (by omega) (by rw [h3]; exact hf)
  refine (p_insertS (L := blk k z) z z ad (blk_len k z).symm (by rw [blk_len]; exact hr) w (pageS_gr h1 g0) (rowOff_mono o (fun b hb => Or.inl (pageS_zlt h1 b hb)))).mono ?_
  rintro e w' ⟨rfl, hp⟩
  obtain ⟨G, C', p1, p2⟩ := putTo_gr hp g h4 h5
  have hi' := ins_all (L := blk k z) h2 (blk_len k z)
  exact ⟨by rw [lfS_all h2, h3], ⟨C', _, p1, hi'.1, by rw [hi'.2, h3], h4, p2⟩, G⟩
theorem full_no {W w : World} {B z i m cap : Nat} (h : FullP W w B z i) (hz : z ≤ 400) (hf : 60 ≤ i ∨ 496 < (i + 1) * (z + 4)) {ad : Option Addr} :
    Calls Try.prog 11 #[.pointer (some ⟨B, 0, none⟩), .slice ad z cap] w fun e w' => ∃ F, e = .returned (.tuple #[.int .i64 0, .iface 77 (.pointer (some ⟨F, 0, none⟩))]) ∧ w'.cell? ⟨F, 2, none⟩ = some (.iface 60 (.int .i64 8)) ∧ Gr w w' := by
  obtain ⟨C, S, h1, h2, h3, h4, h5⟩ := h
  refine (p_insert_no (k := 7) z cap ad (re_full h2 hz (by rw [h3]; exact hf)) w h1).mono ?_
  rintro e w' ⟨F, rfl, hF, g⟩
  exact ⟨F, rfl, hF.2.2, g⟩
theorem full_free {W0 W : World} {B z i P : Nat} (h : FullP W0 W B z i) (hP : P = i * (z + 4)) : Calls Try.prog 14 #[.pointer (some ⟨B, 0, none⟩)] W fun e w' => e = .returned (.int .i64 (496 - (P : Nat))) ∧ Gr W w' := by
  obtain ⟨C, S, h1, h2, h3, h4, h5⟩ := h
  refine (p_freeS W h1).mono ?_
  rintro e w' ⟨rfl, g⟩
  refine ⟨?_, g⟩
  rw [usS_all h2, h3, ← hP]
  congr 2
  omega
/-- One slot of the law's page is freed. -/
def HoleP (W w : World) (B z n k : Nat) : Prop := ∃ C S, PageS w B C 1 1 (delS S k) ∧ AllZ S z ∧ S.length = n ∧ W.heap.size ≤ B ∧ (∀ k, C = some k → W.heap.size ≤ k)
theorem full_del {W w : World} {B z n k : Nat} (h : FullP W w B z n) (g : Gr W w) (hk : k < n) :
    Calls Try.prog 16 #[.pointer (some ⟨B, 0, none⟩), .int .i64 k] w fun e w' => e = .returned .nilIface ∧ HoleP W w' B z n k ∧ Gr W w' := by
  obtain ⟨C, S, h1, h2, h3, h4, h5⟩ := h
  refine (p_deleteS k (h2 k (by omega)).1 w h1).mono ?_
  rintro e w' ⟨rfl, hp, hk'⟩
  refine ⟨rfl, ⟨C, S, hp, h2, h3, h4, h5⟩, Kx.gr hk' g (fun j hj => ?_)⟩
  rcases hj with (rfl | hj) | hj
  · exact h4
  · exact h5 j hj
  · exact Nat.le_trans g.size hj
theorem hole_ins {W w0 w : World} {B z n j : Nat} {k : Int} (h : HoleP W w0 B z n j) (g0 : Gr w0 w) (g : Gr W w) (hz : z ≤ 400) (hj : j < n) (hn : n ≤ 60) (hf : n * (z + 4) ≤ 496) {ad : Option Addr} (o : RowOff w (fun b => b < w0.heap.size) (.slice ad z z) (blk k z)) :
    Calls Try.prog 11 #[.pointer (some ⟨B, 0, none⟩), .slice ad z z] w fun e w' => e = .returned (.tuple #[.int .i64 j, .nilIface]) ∧ FullP W w' B z n ∧ Gr W w' := by
  obtain ⟨C, S, h1, h2, h3, h4, h5⟩ := h
  obtain ⟨e1, e2, e3, e4⟩ := re_hole (k := j) (L := blk k z) h2 hz (blk_len k z) (by omega) (by omega) (by rw [h3]; exact hf)
  refine (p_insertS (L := blk k z) z z ad (blk_len k z).symm (by rw [blk_len, e1]; exact e2) w (pageS_gr h1 g0) (rowOff_mono o (fun b hb => Or.inl (pageS_zlt h1 b hb)))).mono ?_
  rintro e w' ⟨rfl, hp⟩
  obtain ⟨G, C', p1, p2⟩ := putTo_gr hp g h4 h5
  exact ⟨by rw [e1], ⟨C', _, p1, e3, by rw [e4, h3], h4, p2⟩, G⟩
theorem full_slots {W w : World} {B z n : Nat} (h : FullP W w B z n) :
    Calls Try.prog 17 #[.pointer (some ⟨B, 0, none⟩)] w fun e w' => ∃ ad c, e = .returned (.slice ad n c) ∧ Gr w w' := by
  obtain ⟨C, S, h1, h2, h3, h4, h5⟩ := h
  refine (p_slotsS w h1).mono ?_
  rintro e w' ⟨ad, c, rfl, -, g⟩
  exact ⟨ad, c, by rw [idxT_all h2 _ (Nat.le_refl _), h3], g⟩
theorem fullP_gr {W a b : World} {B z i : Nat} (h : FullP W a B z i) (g : Gr a b) : FullP W b B z i := by
  obtain ⟨C, S, h1, r⟩ := h; exact ⟨C, S, pageS_gr h1 g, r⟩
theorem p_facts {P : Nat} (h : P ≤ 496) : wrap64 (P : Int) = P ∧ IntKind.i64.wrap (P : Int) = P ∧ wrap64 (496 - (P : Int)) = 496 - P ∧ IntKind.i64.wrap (496 - (P : Int)) = 496 - P :=
  ⟨wr_small (by omega), wk_small (by omega), wr_small (by omega), wk_small (by omega)⟩
set_option maxHeartbeats 1000000 in
set_option maxRecDepth 100000 in
theorem full_core (z : Nat) (out : Int) (hz : z ≤ 400) (ho : -9223372036854775808 ≤ out ∧ out ≤ 9223372036854775807) (W : World) : Calls Try.prog 3 #[.int .i64 (z : Nat), .int .i64 out] W fun e w' => e = .returned (.bool true) ∧ Gr W w' := by
  obtain ⟨f1, f2, f3, f4⟩ := fit_facts z hz
  have hq : Int.tdiv 496 ((z : Int) + 4) = ((496 / (z + 4) : Nat) : Int) := rfl
  have hmin : min ((496 / (z + 4) : Nat) : Int) 60 = (fitN z : Nat) := by unfold fitN; omega
  have hql : (496 / (z + 4) : Nat) ≤ 496 := Nat.div_le_self _ _
  generalize 496 / (z + 4) = q at hq hmin hql
  generalize fitN z = n at *
  have HF := Lib.hid (And.intro f3 f4)
  have AR : ∀ w, Calls Try.prog 15 #[.int .i64 out, .int .i64 n] w fun e w' => ∃ k : Nat, k < n ∧ e = .returned (.int .i64 k) ∧ Gr w w' := fun w => by
    refine (c_RoundE out ho.1 ho.2 n (by omega) (by omega) w).mono ?_
    rintro e w' ⟨rfl, g⟩
    have h1 := Int.emod_nonneg out (show (n : Int) ≠ 0 by omega)
    have h2 := Int.emod_lt_of_pos out (show (0 : Int) < n by omega)
    exact ⟨(out % n).toNat, by omega, by rw [Int.toNat_of_nonneg h1], g⟩
  have HR := Lib.hid AR
  have AB := Lib.hid (fun (k : Int) (h : -1000 ≤ k ∧ k ≤ 1000) w => c_Block z (by omega) k (by omega) w)
  clear AR ho f3 f4
  have t1 : decide ((z : Int) < 0) = false := decide_eq_false (by omega)
  have t2 : decide ((400 : Int) < (z : Int)) = false := decide_eq_false (by omega)
  have t3 : ¬ (400 : Int) < (z : Int) := by omega
  have a1 : wrap64 ((z : Int) + 4) = (z : Int) + 4 := wr_small (by omega)
  have a2 : IntKind.i64.wrap ((z : Int) + 4) = (z : Int) + 4 := wk_small (by omega)
  have a3 : (z : Int) + 4 ≠ 0 := by omega
  have a4 : (((z : Int) + 4) == 0) = false := by simp; omega
  have a5 : wrap64 (Int.tdiv 496 ((z : Int) + 4)) = q := by rw [hq]; exact wr_small (by omega)
  have a6 : IntKind.i64.wrap (Int.tdiv 496 ((z : Int) + 4)) = q := by rw [hq]; exact wk_small (by omega)
  have a7 : wrap64 (q : Int) = q := wr_small (by omega)
  have a8 : IntKind.i64.wrap (q : Int) = q := wk_small (by omega)
  have n1 : (n : Int) ≤ 60 := by omega
  have n2 : (1 : Int) ≤ (n : Int) := by omega
  have n3 : decide ((n : Int) < 1) = false := decide_eq_false (by omega)
  go_enter Try.func3, Try.ntmps3
  go_wp2_with fail
  go_at_call 10
  refine (p_newS 1 1 (by decide) _).mono ?_
  rintro e w1 ⟨B, rfl, hB, hp, g1⟩
  have G1 : Gr W w1 := Gr.trans (by go_grown) g1
  have HP : Hid (FullP W w1 B z 0) := Lib.hid ⟨none, [], hp, fun j hj => absurd hj (by simp), rfl, by simpa using hB, fun k hk => by cases hk⟩
  clear hp g1
  go_wp2_with fail
  go_loopg [8] n (fun j x wr => ∃ i : Nat, x = .int .i64 i ∧ i ≤ n ∧ j = n - i ∧ Hid (FullP W wr B z i) ∧ Gr W wr)
  case atStart => exact ⟨0, rfl, by omega, by omega, HP, G1⟩
  case round =>
    obtain ⟨i, rfl, hi, hj, HP, hg⟩ := hrel
    have sB : B < wr.heap.size := by obtain ⟨_, _, h, _⟩ := HP.out; exact pageS_lt h
    by_cases hin : i < n
    · have ti : decide ((i : Int) < (n : Int)) = true := decide_eq_true (by omega)
      have ti2 : decide (i < n) = true := decide_eq_true hin
      have ti3 : (i : Int) < (n : Int) := by omega
      have A1 := Lib.hid (AB.out i (by omega))
      have ne : ((i : Int) != (i : Int)) = false := by simp
      have ne2 : (i != i) = false := by simp
      go_wp2_with fail
      go_at_call 12
      (with_reducible refine (A1.out _).mono ?_)
      rintro e w2 ⟨rfl, o2, g2⟩
      have gs := hg.size
      have G2 : Gr W w2 := Gr.trans hg g2
      have AI := Lib.hid (full_ins (k := i) (ad := some ⟨wr.heap.size, 0, none⟩) HP.out g2 G2 hz (by omega) (by have := HF.out.1; have h2 : (i + 1) * (z + 4) ≤ n * (z + 4) := Nat.mul_le_mul_right _ (by omega); omega) (rowOff_own o2 (fun k hk => hk)))
      clear o2 g2
      go_wp2_with fail
      go_at_call 11
      (with_reducible refine AI.out.mono ?_)
      rintro e w3 ⟨rfl, hp, G3⟩
      have HP3 := Lib.hid hp
      clear hp AI
      go_wp2_with fail
      go_roundg (n - (i + 1))
      case measure => omega
      case rel => exact ⟨i + 1, by go_num, by omega, by omega, HP3, by first | exact G3 | go_grown⟩
    · obtain rfl : i = n := by omega
      have A1 := Lib.hid (AB.out 1 (by omega))
      have A7 := Lib.hid (AB.out 7 (by omega))
      obtain ⟨P, hP⟩ : ∃ P, P = i * (z + 4) := ⟨_, rfl⟩
      have hP4 : P ≤ 496 := by rw [hP]; exact HF.out.1
      have b1 : (i : Int) * ((z : Int) + 4) = (P : Nat) := by rw [hP]; simp
      obtain ⟨b2, b3, b4, b5⟩ := p_facts hP4
      have HPE := Lib.hid hP
      clear hP
      go_wp2_with fail
      go_at_call 12
      (with_reducible refine (A1.out _).mono ?_)
      rintro e w2 ⟨rfl, -, g2⟩
      have gs := hg.size
      have G2 : Gr W w2 := Gr.trans hg g2
      have HP2 := Lib.hid (fullP_gr HP.out g2)
      have AN := Lib.hid (full_no (m := 0) (cap := z) (ad := some ⟨wr.heap.size, 0, none⟩) HP2.out hz HF.out.2)
      clear g2
      go_wp2_with fail
      go_at_call 11
      (with_reducible refine AN.out.mono ?_)
      rintro e w3 ⟨F, rfl, hF, g3⟩
      have G3 : Gr W w3 := Gr.trans G2 g3
      have HP3 := Lib.hid (fullP_gr HP2.out g3)
      have AC := Lib.hid (c_CodeF8 F w3 hF)
      clear hF AN g3
      go_wp2_with fail
      go_at_call 13
      (with_reducible refine AC.out.mono ?_)
      rintro e w4 ⟨rfl, g4⟩
      have G4 : Gr W w4 := Gr.trans G3 g4
      have HP4 := Lib.hid (fullP_gr HP3.out g4)
      have AF := Lib.hid (full_free HP4.out HPE.out)
      clear g4 AC
      go_wp2_with fail
      go_at_call 14
      (with_reducible refine AF.out.mono ?_)
      rintro e w5 ⟨rfl, g5⟩
      have G5 : Gr W w5 := Gr.trans G4 g5
      have HP5 := Lib.hid (fullP_gr HP4.out g5)
      clear g5 AF
      go_wp2_with fail
      go_at_call 15
      (with_reducible refine (HR.out _).mono ?_)
      rintro e w6 ⟨k, hk, rfl, g6⟩
      have G6 : Gr W w6 := Gr.trans G5 g6
      have HP6 := Lib.hid (fullP_gr HP5.out g6)
      have AD := Lib.hid (full_del HP6.out G6 hk)
      clear g6
      go_wp2_with fail
      go_at_call 16
      (with_reducible refine AD.out.mono ?_)
      rintro e w7 ⟨rfl, hp7, G7⟩
      have HP7 := Lib.hid hp7
      clear hp7 AD
      go_wp2_with fail
      go_at_call 12
      (with_reducible refine (A7.out _).mono ?_)
      rintro e w8 ⟨rfl, o8, g8⟩
      have G8 : Gr W w8 := Gr.trans G7 g8
      have AI := Lib.hid (hole_ins (k := 7) (ad := some ⟨w7.heap.size, 0, none⟩) HP7.out g8 G8 hz hk (by omega) HF.out.1 (rowOff_own o8 (fun k hk => hk)))
      clear g8 o8
      go_wp2_with fail
      go_at_call 11
      (with_reducible refine AI.out.mono ?_)
      rintro e w9 ⟨rfl, hp9, G9⟩
      have AS := Lib.hid (full_slots hp9)
      clear hp9 AI
      go_wp2_with fail
      go_at_call 17
      (with_reducible refine AS.out.mono ?_)
      rintro e w10 ⟨sad, sc, rfl, g10⟩
      have G10 : Gr W w10 := Gr.trans G9 g10
      clear g10 AS
      go_wp2_with fail
      go_at_call 9
      refine (p11_awake _).mono ?_
      rintro e w11 ⟨rfl, g11⟩
      go_wp2_with fail
      go_ret
      exact ⟨rfl, Gr.trans G10 g11⟩
set_option maxRecDepth 100000 in
theorem walk_SlotsFull (size out : Int) (hs : -9223372036854775808 ≤ size ∧ size ≤ 9223372036854775807) (ho : -9223372036854775808 ≤ out ∧ out ≤ 9223372036854775807) (W : World) : Calls Try.prog 3 #[.int .i64 size, .int .i64 out] W fun e w' => e = .returned (.bool true) ∧ Gr W w' := by
  by_cases h : 0 ≤ size ∧ size ≤ 400
  · obtain ⟨z, rfl⟩ : ∃ z : Nat, size = z := ⟨size.toNat, by omega⟩
    exact full_core z out (by omega) ho W
  · have hq : size < 0 ∨ (¬ size < 0 ∧ 400 < size) := by omega
    clear hs ho h
    rcases hq with h | ⟨h0, h⟩
    · have t1 : decide (size < 0) = true := decide_eq_true h
      go_enter Try.func3, Try.ntmps3
      go_wp2_with fail
      go_at_call 9
      refine (p11_awake _).mono ?_
      rintro e w1 ⟨rfl, g1⟩
      go_wp2_with fail
      go_ret
      exact ⟨rfl, Gr.trans (by go_grown) g1⟩
    · have t1 : decide (size < 0) = false := decide_eq_false h0
      have t2 : decide (400 < size) = true := decide_eq_true h
      go_enter Try.func3, Try.ntmps3
      go_wp2_with fail
      go_at_call 9
      refine (p11_awake _).mono ?_
      rintro e w1 ⟨rfl, g1⟩
      go_wp2_with fail
      go_ret
      exact ⟨rfl, Gr.trans (by go_grown) g1⟩
end Go.Proofs.Ytcalleofndokaaa
