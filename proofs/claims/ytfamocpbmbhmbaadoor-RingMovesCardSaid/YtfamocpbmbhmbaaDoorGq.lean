/- RingMoves -/
import Derived.Test.YtfamocpbmbhmbaaDoorGl
import Derived.Test.YtfamocpbmbhmbaaDoorGe
import Derived.Test.YtfamocpbmbhmbaaDoorOd
import Derived.Test.YtfamocpbmbhmbaaDoorOp
import Derived.BigRegion
namespace Go.Proofs.YtfamocpbmbhmbaaDoor
set_option linter.unusedVariables false
set_option linter.unusedSimpArgs false
open Go.ChangeShapes Go.WideShapes Go.ChangeAt Go.RowKit

theorem c_AlIs_aerr {op : ByteArray} {v : Value} {id k : Nat} (W : World) (hE : ErrT W) (h : AErr op W v id k) : Calls Tryd.prog 13 #[v, .int .i64 k, .string op, .int .i64 id] W fun e w' => e = .returned (.bool true) ∧ Gr W w' := by
  rcases h with ⟨rfl, rfl⟩ | ⟨B, rfl, h1, h2, h3⟩
  · exact c_AlIs_nil op id W
  · exact c_AlIs_hit B op id k ⟨h1, h2⟩ W hE h3
theorem c_small5 (ad : Option Addr) (n cap : Nat) (W : World) : Calls Tryd.prog 8 #[.slice ad n cap] W fun e w' => e = .returned (.bool (decide (n ≤ 80))) ∧ Gr W w' := by
  go_enter Tryd.func8, Tryd.ntmps8
  go_wp2_with fail
  go_ret
  exact ⟨by simp; omega, by go_grown⟩
/-- What holds of the moved row. -/
def MovF (n : Nat) (X Y : Nat → Int) (x y : Int) (i : Nat) : Prop := ∀ k, k < i → nearB (X k) (Y k) = true ∧ nearB (X k + x) (Y k + y) = true
theorem movF_s {n : Nat} {X Y : Nat → Int} {x y : Int} {i : Nat} (h : MovF n X Y x y i) (h1 : nearB (X i) (Y i) = true) (h2 : nearB (X i + x) (Y i + y) = true) : MovF n X Y x y (i + 1) := fun k hk => by
  rcases Nat.lt_or_ge k i with c | c
  · exact h k c
  · obtain rfl : k = i := by omega
    exact ⟨h1, h2⟩
def PtAt (W : World) (x y : Int) (p : Value) (wx : World) : Prop := ∃ b : Nat, p = .pointer (some ⟨b, 0, none⟩) ∧ wx.cell? ⟨b, 0, none⟩ = some (.int .i64 x) ∧ wx.cell? ⟨b, 1, none⟩ = some (.int .i64 y) ∧ Gr W wx
set_option maxHeartbeats 16000000 in
set_option maxRecDepth 100000 in
theorem moves_in (W : World) {n : Nat} {X Y : Nat → Int} {v : Value} (h : Pts W v n X Y) (hn : n ≤ 80) (px py x y : Int) (hp : nearB px py = true) (hx : -2147483648 ≤ x ∧ x ≤ 2147483648) (hy : -2147483648 ≤ y ∧ y ≤ 2147483648) (hE : ErrT W) :
    Calls Tryd.prog 7 #[v, .agg #[.int .i64 px, .int .i64 py], .int .i64 x, .int .i64 y] W fun e w' => e = .returned (.bool true) ∧ Gr W w' := by
  have AW := Lib.hid (fun w (g : Gr W w) => g5_awake w (errT_gr hE g))
  have HE := Lib.hid hE
  have HL := Lib.hid h
  obtain ⟨i0, hi0, hz0, hz1, hz2⟩ := info_parts (P := Tryd.prog) (e := 24) (z := .agg #[.int .i64 0, .int .i64 0]) (size := 2) (bytes := 16) (by kernel_rfl)
  have HI := Lib.hid (And.intro hi0 (And.intro hz0 (And.intro hz1 hz2)))
  have t1 : decide (x < -2147483648) = false := decide_eq_false (by omega)
  have t2 : decide ((2147483648 : Int) < x) = false := decide_eq_false (by omega)
  have t3 : decide (y < -2147483648) = false := decide_eq_false (by omega)
  have t4 : decide ((2147483648 : Int) < y) = false := decide_eq_false (by omega)
  have u1 : ¬ x < -2147483648 := by omega
  have u2 : ¬ (2147483648 : Int) < x := by omega
  have u3 : ¬ y < -2147483648 := by omega
  have u4 : ¬ (2147483648 : Int) < y := by omega
  have C0 := c_rPoint px py
  rw [hp] at C0
  have H0 := Lib.hid C0
  have np := nearB_iff.1 hp
  have HPx := Lib.hid hp
  obtain ⟨ad, cap, B, off, rfl, h1, h2, h3, h4⟩ := h
  have CS := c_small5 ad n cap
  rw [decide_eq_true hn] at CS
  have HS := Lib.hid CS
  have H3 := Lib.hid h3
  have H4 := Lib.hid h4
  clear hE hi0 hz0 hz1 hz2 C0 hp CS h3 h4
  go_enter Tryd.func7, Tryd.ntmps7
  go_wp2_with fail
  go_at_call 8
  refine ((HS.out _)).mono ?_
  rintro e w1 ⟨rfl, hw1⟩
  have cw1_0_0 : w1.cell? ⟨W.heap.size, 0, none⟩ = some (.int .i64 px) := cell_gr hw1 (by go_simp)
  have cw1_0_1 : w1.cell? ⟨W.heap.size, 1, none⟩ = some (.int .i64 py) := cell_gr hw1 (by go_simp)
  have zw1_0 : W.heap.size < w1.heap.size := World.block_lt_of_cell? _ _ cw1_0_0
  have gw1 : Gr W w1 := Gr.trans (by go_grown) hw1
  clear hw1
  go_wp2_with fail
  go_at_call 28
  refine ((H0.out _)).mono ?_
  rintro e w2 ⟨rfl, hw2⟩
  have cw2_0_0 : w2.cell? ⟨W.heap.size, 0, none⟩ = some (.int .i64 px) := cell_gr hw2 (by go_simp)
  have cw2_0_1 : w2.cell? ⟨W.heap.size, 1, none⟩ = some (.int .i64 py) := cell_gr hw2 (by go_simp)
  have zw2_0 : W.heap.size < w2.heap.size := World.block_lt_of_cell? _ _ cw2_0_0
  have gw2 : Gr W w2 := Gr.trans (by have gg := gw1; have gs := gg.size; go_grown) hw2
  clear hw2 gw1 zw1_0 cw1_0_0 cw1_0_1
  clear HS H0 t1 t2 t3 t4 u1 u2 u3 u4
  go_wp2_with fail
  go_loopg [9, 10] n (fun k z u wr => ∃ i : Nat, u = .int .i64 i ∧ i ≤ n ∧ k = n - i ∧ MovF n X Y x y i ∧ wr.ownsRow w2.heap.size 24 2 z i (rowP (fun k => X k + x) (fun k => Y k + y) i) ∧ Gr w2 wr)
  case atStart => exact ⟨0, rfl, Nat.zero_le _, by omega, fun k hk => absurd hk (by omega), World.ownsRow_nil _ _ _ _, Below.refl _ _⟩
  case round =>
    obtain ⟨i, rfl, hi, hk, hM, hO, hg⟩ := hrel
    have HO := Lib.hid hO
    have HM := Lib.hid hM
    have gW : Gr W wr := Gr.trans gw2 hg
    have p0 := cell_gr hg cw2_0_0
    have p1 := cell_gr hg cw2_0_1
    have zp : W.heap.size < wr.heap.size := Nat.lt_of_lt_of_le zw2_0 hg.size
    have HG := Lib.hid hg
    clear hO hM hg gw2 cw2_0_0 cw2_0_1 zw2_0
    by_cases hlt : i < n
    · have ti : decide ((i : Int) < (n : Int)) = true := decide_eq_true (by omega)
      have ti2 : decide (i < n) = true := decide_eq_true hlt
      have ti3 : (i : Int) < (n : Int) := by omega
      have hii : (i : Int) ≤ 80 := by omega
      have hmm : n - (i + 1) < gk := by omega
      obtain ⟨k0, k1⟩ := H4.out i hlt
      obtain rfl := H3.out (by omega)
      have zB : B < wr.heap.size := Nat.lt_of_lt_of_le (World.block_lt_of_cell? _ _ k0) gW.size
      have s0 := cell_gr gW k0
      have s1 := cell_gr gW k1
      have C1 := c_rPoint (X i) (Y i)
      have C2 := c_rPoint (X i + x) (Y i + y)
      have hrw : rowP (fun k => X k + x) (fun k => Y k + y) (i + 1) = rowP (fun k => X k + x) (fun k => Y k + y) i ++ [.int .i64 (X i + x), .int .i64 (Y i + y)] := rfl
      have HR := Lib.hid hrw
      have HMs := Lib.hid (fun h1 h2 => movF_s (n := n) HM.out h1 h2)
      clear k0 k1 hk hrw HM
      by_cases c1 : nearB (X i) (Y i) = true
      · have nX := nearB_iff.1 c1
        have Hc1 := Lib.hid c1
        rw [c1] at C1
        have HC1 := Lib.hid C1
        clear C1 c1
        by_cases c2 : nearB (X i + x) (Y i + y) = true
        · have HMt := Lib.hid (HMs.out Hc1.out c2)
          rw [c2] at C2
          have HC2 := Lib.hid C2
          clear C2 c2 HMs Hc1
          generalize X i = xi at s0 nX HC1 HC2 HR
          generalize Y i = yi at s1 nX HC1 HC2 HR
          have e1 : IntKind.i64.wrap (xi + x) = xi + x := IntWalk.i64_in _ (by omega)
          have e2 : IntKind.i64.wrap (yi + y) = yi + y := IntWalk.i64_in _ (by omega)
          have e3 : wrap64 (xi + x) = xi + x := IntWalk.wrap64_in _ (by omega)
          have e4 : wrap64 (yi + y) = yi + y := IntWalk.wrap64_in _ (by omega)
          go_wp2_with fail
          go_at_call 28
          refine ((HC1.out _)).mono ?_
          rintro e w3 ⟨rfl, hw3⟩
          have cw3_0_0 : w3.cell? ⟨W.heap.size, 0, none⟩ = some (.int .i64 px) := cell_gr hw3 (by go_simp)
          have cw3_0_1 : w3.cell? ⟨W.heap.size, 1, none⟩ = some (.int .i64 py) := cell_gr hw3 (by go_simp)
          have zw3_0 : W.heap.size < w3.heap.size := World.block_lt_of_cell? _ _ cw3_0_0
          have gw3 : Gr wr w3 := Gr.trans (by go_grown) hw3
          clear hw3
          replace s0 := cell_gr gw3 s0
          replace s1 := cell_gr gw3 s1
          have zB3 : B < w3.heap.size := Nat.lt_of_lt_of_le zB gw3.size
          have G3 := Lib.hid gw3
          clear HC1 gw3 nX hx hy np
          go_upto_region 9 with fail
          go_cut [11] from 53 to 68 (fun q wx => PtAt w3 (xi + x) (yi + y) q wx)
          case first =>
            go_region
            all_goals (go_wp2_with fail; go_meet; exact ⟨_, rfl, by go_simp, by go_simp, by go_grown⟩)
          case rest =>
            obtain ⟨b9, rfl, q0, q1, g4⟩ := hcut
            have z9 := World.block_lt_of_cell? _ _ q0
            have G4 := Gr.trans G3.out g4
            clear e1 e2 e3 e4 s0 s1 g4 cw3_0_0 cw3_0_1 zw3_0
            go_wp2_with fail
            go_at_call 28
            refine (HC2.out _).mono ?_
            rintro e w5 ⟨rfl, g5⟩
            have G5 := Gr.trans G4 g5
            have r0 := cell_gr g5 q0
            have r1 := cell_gr g5 q1
            have HO5 := Lib.hid (rowOwn_gr HO.out G5)
            have hsz : w2.heap.size ≤ w5.heap.size := Nat.le_trans HG.out.size G5.size
            clear HC2 q0 q1 G4 g5 HO z9
            go_wp2_with (at_builtin; (refine wpList_append_own2 _ rfl (.tmp 72) (.tmp 74) 22 rfl w2.heap.size 24 i0 (.agg #[.int .i64 0, .int .i64 0]) 2 16 Tryd.underlying22 HI.out.1 HI.out.2.1 HI.out.2.2.1 HI.out.2.2.2 rfl (by decide) u9 i (rowP (fun k => X k + x) (fun k => Y k + y) i) rfl (World.ownsRow.alloc HO5.out _) ⟨w5.heap.size, 0, none⟩ 1 1 [.int .i64 (xi + x), .int .i64 (yi + y)] rfl rfl (cell_two_new _ _ _ _) (by intro u hu; (simp at hu); rcases hu with rfl | rfl <;> rfl) (by unfold maxLen; omega) (by omega) (by simp; omega) ?_); intro v7 w7 own7 gr7)
            have own8 : w7.ownsRow w2.heap.size 24 2 v7 (i + 1) (rowP (fun k => X k + x) (fun k => Y k + y) (i + 1)) := by rw [HR.out]; exact own7
            have G7 : Gr w2 w7 := gr7.gr (Gr.trans (Gr.trans HG.out G5) ((Below.refl _ _).alloc (Nat.le_refl _) _)) (fun k hk => (anyown_ltG HO5.out hk).2)
            go_wp2_with fail
            go_roundg (n - (i + 1))
            case measure => exact hmm
            case rel => exact ⟨i + 1, by go_num, hlt, rfl, HMt.out, own8, G7⟩
        · rw [show nearB (X i + x) (Y i + y) = false by simpa using c2] at C2
          have HC2 := Lib.hid C2
          clear C2 c2 HMs Hc1 HR
          generalize X i = xi at s0 nX HC1 HC2
          generalize Y i = yi at s1 nX HC1 HC2
          have e1 : IntKind.i64.wrap (xi + x) = xi + x := IntWalk.i64_in _ (by omega)
          have e2 : IntKind.i64.wrap (yi + y) = yi + y := IntWalk.i64_in _ (by omega)
          have e3 : wrap64 (xi + x) = xi + x := IntWalk.wrap64_in _ (by omega)
          have e4 : wrap64 (yi + y) = yi + y := IntWalk.wrap64_in _ (by omega)
          go_wp2_with fail
          go_at_call 28
          refine ((HC1.out _)).mono ?_
          rintro e w3 ⟨rfl, hw3⟩
          have cw3_0_0 : w3.cell? ⟨W.heap.size, 0, none⟩ = some (.int .i64 px) := cell_gr hw3 (by go_simp)
          have cw3_0_1 : w3.cell? ⟨W.heap.size, 1, none⟩ = some (.int .i64 py) := cell_gr hw3 (by go_simp)
          have zw3_0 : W.heap.size < w3.heap.size := World.block_lt_of_cell? _ _ cw3_0_0
          have gw3 : Gr wr w3 := Gr.trans (by go_grown) hw3
          clear hw3
          replace s0 := cell_gr gw3 s0
          replace s1 := cell_gr gw3 s1
          have zB3 : B < w3.heap.size := Nat.lt_of_lt_of_le zB gw3.size
          have G3 := Lib.hid gw3
          clear HC1 gw3 nX hx hy np
          go_upto_region 9 with fail
          go_cut [11] from 53 to 68 (fun q wx => PtAt w3 (xi + x) (yi + y) q wx)
          case first =>
            go_region
            all_goals (go_wp2_with fail; go_meet; exact ⟨_, rfl, by go_simp, by go_simp, by go_grown⟩)
          case rest =>
            obtain ⟨b9, rfl, q0, q1, g4⟩ := hcut
            have z9 := World.block_lt_of_cell? _ _ q0
            have G4 := Gr.trans G3.out g4
            clear e1 e2 e3 e4 s0 s1 g4 cw3_0_0 cw3_0_1 zw3_0
            go_wp2_with fail
            go_at_call 28
            refine (HC2.out _).mono ?_
            rintro e w5 ⟨rfl, g5⟩
            have G5 := Gr.trans (Gr.trans gW G4) g5
            go_wp2_with fail
            go_at_call 9
            refine (AW.out _ G5).mono ?_
            rintro e w6 ⟨rfl, g6⟩
            go_wp2_with fail
            go_ret
            exact ⟨rfl, Gr.trans G5 g6⟩
      · rw [show nearB (X i) (Y i) = false by simpa using c1] at C1
        have HC1 := Lib.hid C1
        clear C1 C2 c1 HMs HR hx hy np
        generalize X i = xi at s0 HC1
        generalize Y i = yi at s1 HC1
        go_wp2_with fail
        go_at_call 28
        refine ((HC1.out _)).mono ?_
        rintro e w3 ⟨rfl, hw3⟩
        have cw3_0_0 : w3.cell? ⟨W.heap.size, 0, none⟩ = some (.int .i64 px) := cell_gr hw3 (by go_simp)
        have cw3_0_1 : w3.cell? ⟨W.heap.size, 1, none⟩ = some (.int .i64 py) := cell_gr hw3 (by go_simp)
        have zw3_0 : W.heap.size < w3.heap.size := World.block_lt_of_cell? _ _ cw3_0_0
        have gw3 : Gr wr w3 := Gr.trans (by go_grown) hw3
        clear hw3
        go_wp2_with fail
        go_at_call 9
        refine ((AW.out _ (Gr.trans gW gw3))).mono ?_
        rintro e w4 ⟨rfl, hw4⟩
        have cw4_0_0 : w4.cell? ⟨W.heap.size, 0, none⟩ = some (.int .i64 px) := cell_gr hw4 (by go_simp)
        have cw4_0_1 : w4.cell? ⟨W.heap.size, 1, none⟩ = some (.int .i64 py) := cell_gr hw4 (by go_simp)
        have zw4_0 : W.heap.size < w4.heap.size := World.block_lt_of_cell? _ _ cw4_0_0
        have gw4 : Gr wr w4 := Gr.trans (by have gg := gw3; have gs := gg.size; go_grown) hw4
        clear hw4 gw3 zw3_0 cw3_0_0 cw3_0_1
        go_wp2_with fail
        go_ret
        exact ⟨rfl, Gr.trans gW gw4⟩
    · obtain rfl : i = n := by omega
      have ti : decide ((i : Int) < (i : Int)) = false := decide_eq_false (by omega)
      have ti2 : decide (i < i) = false := decide_eq_false (by omega)
      have hP := own_pts HO.out
      have HP := Lib.hid hP
      have hm1 : ∀ k, k < i → nearB (X k) (Y k) = true := fun k hk => (HM.out k hk).1
      have hm2 : ∀ k, k < i → nearB (X k + x) (Y k + y) = true := fun k hk => (HM.out k hk).2
      have er := Rg.mv_ring hm1 hm2
      have ec := Rg.mv_crS i X Y x y i
      have el : lfV i (fun k => X k + x) (fun k => Y k + y) = lfV i X Y := by unfold lfV sgZ; rw [er, ec]
      have et : twZ i (fun k => X k + x) (fun k => Y k + y) = twZ i X Y := by unfold twZ sgZ; rw [er, ec]
      have K1 : ∀ w, Gr wr w → Calls Tryd.prog 14 #[u9] w fun e w' => ∃ z, e = .returned z ∧ AErr ringS w' z (Rg.ringC i X Y).2 (Rg.ringC i X Y).1 ∧ Gr w w' := fun w g => by rw [← er]; exact c_ringCheck w (pts_gr hP g)
      have K2 : ∀ w, Gr wr w → Calls Tryd.prog 18 #[u9] w fun e w' => e = .returned (.bool (lfV i X Y)) ∧ Gr w w' := fun w g => by rw [← el]; exact c_Left w (pts_gr hP g)
      have K3 : ∀ w, Gr wr w → Calls Tryd.prog 18 #[.slice ad i cap] w fun e w' => e = .returned (.bool (lfV i X Y)) ∧ Gr w w' := fun w g => c_Left w (pts_gr HL.out (Gr.trans gW g))
      have K4 : ∀ w, Gr wr w → Calls Tryd.prog 16 #[u9] w fun e w' => e = .returned (.agg #[.int .u64 0, .int .u64 (twZ i X Y)]) ∧ Gr w w' := fun w g => by rw [← et]; exact c_Twice w (pts_gr hP g)
      have K5 : ∀ w, Gr wr w → Calls Tryd.prog 16 #[.slice ad i cap] w fun e w' => e = .returned (.agg #[.int .u64 0, .int .u64 (twZ i X Y)]) ∧ Gr w w' := fun w g => c_Twice w (pts_gr HL.out (Gr.trans gW g))
      have K6 : ∀ w, Gr wr w → Calls Tryd.prog 10 #[.slice ad i cap] w fun e w' => e = .returned (.tuple #[.int .i64 ((Rg.ringC i X Y).1 : Nat), .int .i64 ((Rg.ringC i X Y).2 : Nat)]) ∧ Gr w w' := fun w g => c_CheckRing w (pts_gr HL.out (Gr.trans gW g))
      have K7 : ∀ w, Gr wr w → Calls Tryd.prog 20 #[.slice ad i cap, .agg #[.int .i64 px, .int .i64 py]] w fun e w' => e = .returned (.bool (hsV i X Y px py)) ∧ Gr w w' := fun w g => c_Has w (pts_gr HL.out (Gr.trans gW g)) px py
      have K9 := c_rPoint (px + x) (py + y)
      have K8 : nearB (px + x) (py + y) = true → ∀ w, Gr wr w → Calls Tryd.prog 20 #[u9, .agg #[.int .i64 (px + x), .int .i64 (py + y)]] w fun e w' => e = .returned (.bool (hsV i X Y px py)) ∧ Gr w w' := fun hq w g => by
        have := c_Has w (pts_gr hP g) (px + x) (py + y)
        have e : hsV i (fun k => X k + x) (fun k => Y k + y) (px + x) (py + y) = hsV i X Y px py := by
          unfold hsV
          rw [er, hq, HPx.out, Rg.mv_has hm1 hm2 HPx.out hq]
        rwa [e] at this
      have e1 : IntKind.i64.wrap (px + x) = px + x := IntWalk.i64_in _ (by omega)
      have e2 : IntKind.i64.wrap (py + y) = py + y := IntWalk.i64_in _ (by omega)
      have e3 : wrap64 (px + x) = px + x := IntWalk.wrap64_in _ (by omega)
      have e4 : wrap64 (py + y) = py + y := IntWalk.wrap64_in _ (by omega)
      have AE := Lib.hid (fun (w : World) (z : Value) (g : Gr wr w) (hz : AErr ringS w z (Rg.ringC i X Y).2 (Rg.ringC i X Y).1) => c_AlIs_aerr w (errT_gr HE.out (Gr.trans gW g)) hz)
      have AW2 := Lib.hid (fun (w : World) (g : Gr wr w) => AW.out w (Gr.trans gW g))
      have GW0 := Lib.hid gW
      generalize lfV i X Y = lf at K2 K3
      generalize twZ i X Y = tw at K4 K5
      generalize hsV i X Y px py = hs at K7 K8
      generalize (Rg.ringC i X Y).1 = ck at K1 K6 AE
      generalize (Rg.ringC i X Y).2 = cid at K1 K6 AE
      have b0 : (lf == lf) = true := by simp
      have b1 : (hs == hs) = true := by simp
      have HK1 := Lib.hid K1
      have HK2 := Lib.hid K2
      have HK3 := Lib.hid K3
      have HK4 := Lib.hid K4
      have HK5 := Lib.hid K5
      have HK6 := Lib.hid K6
      have HK7 := Lib.hid K7
      obtain ⟨ad9, cap9, _, _, rfl, _⟩ := hP
      clear hk hlt H3 H4 HI K1 K2 K3 K4 K5 K6 K7 er ec el et hm1 hm2 HM HO HP HL HG gW hx hy np hn h1
      by_cases hq : nearB (px + x) (py + y) = true
      · have HK8 := Lib.hid (K8 hq)
        rw [hq] at K9
        have HK9 := Lib.hid K9
        clear K8 K9 hq
        go_wp2_with fail
        go_at_call 10
        refine ((HK6.out _ (by go_grown))).mono ?_
        rintro e w3 ⟨rfl, hw3⟩
        have cw3_0_0 : w3.cell? ⟨W.heap.size, 0, none⟩ = some (.int .i64 px) := cell_gr hw3 (by go_simp)
        have cw3_0_1 : w3.cell? ⟨W.heap.size, 1, none⟩ = some (.int .i64 py) := cell_gr hw3 (by go_simp)
        have zw3_0 : W.heap.size < w3.heap.size := World.block_lt_of_cell? _ _ cw3_0_0
        have cw3_1_0 : w3.cell? ⟨wr.heap.size, 0, none⟩ = some (.int .i64 (px + x)) := cell_gr hw3 (by go_simp)
        have cw3_1_1 : w3.cell? ⟨wr.heap.size, 1, none⟩ = some (.int .i64 (py + y)) := cell_gr hw3 (by go_simp)
        have zw3_1 : wr.heap.size < w3.heap.size := World.block_lt_of_cell? _ _ cw3_1_0
        have gw3 : Gr wr w3 := Gr.trans (by go_grown) hw3
        clear hw3
        clear e1 e2 e3 e4 HK6
        go_wp2_with fail
        try simp only [List.append]
        refine Od.wp_region_ord [(0, false), (2, false), (3, false), (1, true), (4, true), (5, false), (6, false), (8, false), (7, true), (9, true), (10, false), (11, false), (12, false), (13, false), (15, false), (14, true), (16, true), (17, false), (18, false), (19, false), (20, false), (21, true), (22, false), (23, false), (24, false), (25, false), (27, false), (28, false), (26, true), (29, true), (30, false), (31, false), (32, false), (33, false), (34, true), (35, false), (36, false)] (by kernel_rfl) (by kernel_rfl) ?_
        intro w4 hw4 KQ hKQ
        have cw4_0_0 : w4.cell? ⟨W.heap.size, 0, none⟩ = some (.int .i64 px) := cell_gr hw4 (by go_simp)
        have cw4_0_1 : w4.cell? ⟨W.heap.size, 1, none⟩ = some (.int .i64 py) := cell_gr hw4 (by go_simp)
        have zw4_0 : W.heap.size < w4.heap.size := World.block_lt_of_cell? _ _ cw4_0_0
        have cw4_1_0 : w4.cell? ⟨wr.heap.size, 0, none⟩ = some (.int .i64 (px + x)) := cell_gr hw4 (by go_simp)
        have cw4_1_1 : w4.cell? ⟨wr.heap.size, 1, none⟩ = some (.int .i64 (py + y)) := cell_gr hw4 (by go_simp)
        have zw4_1 : wr.heap.size < w4.heap.size := World.block_lt_of_cell? _ _ cw4_1_0
        have gw4 : Gr wr w4 := Gr.trans (by have gg := gw3; have gs := gg.size; go_grown) hw4
        clear gw3 zw3_0 cw3_0_0 cw3_0_1 zw3_1 cw3_1_0 cw3_1_1
        clear hw4
        repeat (first | (refine Od.wpO_skip (by simp only [List.getElem?_toArray, List.getElem?_cons_succ, List.getElem?_cons_zero] <;> rfl) rfl ?_; simp only [Act.put, List.setIfInBounds_toArray, List.set_cons_zero, List.set_cons_succ]) | (refine Od.wpO_pure (by simp only [List.getElem?_toArray, List.getElem?_cons_succ, List.getElem?_cons_zero] <;> rfl) rfl ?_; apply Exists.intro; refine ⟨?_, ?_⟩; (· intro wx gx; obtain ⟨mx, rfl⟩ := spread_of_gr gx; clear gx; all_goals (apply Od.pAt_of_quiet; intro K hK; go_big_quiet_op; first | exact hK _ rfl | (apply Exists.intro; refine ⟨fun _ => ?_, ?_⟩; (· fail); exact hK _ rfl))); try simp only [Act.put, List.setIfInBounds_toArray, List.set_cons_zero, List.set_cons_succ]))
        refine Od.wpO_call (by simp only [List.getElem?_toArray, List.getElem?_cons_succ, List.getElem?_cons_zero] <;> rfl) rfl ?_
        intro QS hQS
        go_wp2_with fail
        go_at_call 14
        (with_reducible refine ((HK1.out _ gw4)).mono ?_)
        rintro e w5 ⟨z5, rfl, hz5, hw5⟩
        go_wp2_with fail
        apply Exists.intro
        refine ⟨?_, hw5, ?_⟩
        · simp only [Act.put, List.setIfInBounds_toArray, List.set_cons_zero, List.set_cons_succ]; rfl
        have cw5_0_0 : w5.cell? ⟨W.heap.size, 0, none⟩ = some (.int .i64 px) := cell_gr hw5 (by go_simp)
        have cw5_0_1 : w5.cell? ⟨W.heap.size, 1, none⟩ = some (.int .i64 py) := cell_gr hw5 (by go_simp)
        have zw5_0 : W.heap.size < w5.heap.size := World.block_lt_of_cell? _ _ cw5_0_0
        have cw5_1_0 : w5.cell? ⟨wr.heap.size, 0, none⟩ = some (.int .i64 (px + x)) := cell_gr hw5 (by go_simp)
        have cw5_1_1 : w5.cell? ⟨wr.heap.size, 1, none⟩ = some (.int .i64 (py + y)) := cell_gr hw5 (by go_simp)
        have zw5_1 : wr.heap.size < w5.heap.size := World.block_lt_of_cell? _ _ cw5_1_0
        have gw5 : Gr wr w5 := Gr.trans (by have gg := gw4; have gs := gg.size; go_grown) hw5
        clear gw4 zw4_0 cw4_0_0 cw4_0_1 zw4_1 cw4_1_0 cw4_1_1
        clear hw5
        try simp only [Act.put, List.setIfInBounds_toArray, List.set_cons_zero, List.set_cons_succ]
        repeat (first | (refine Od.wpO_skip (by simp only [List.getElem?_toArray, List.getElem?_cons_succ, List.getElem?_cons_zero] <;> rfl) rfl ?_; simp only [Act.put, List.setIfInBounds_toArray, List.set_cons_zero, List.set_cons_succ]) | (refine Od.wpO_pure (by simp only [List.getElem?_toArray, List.getElem?_cons_succ, List.getElem?_cons_zero] <;> rfl) rfl ?_; apply Exists.intro; refine ⟨?_, ?_⟩; (· intro wx gx; obtain ⟨mx, rfl⟩ := spread_of_gr gx; clear gx; all_goals (apply Od.pAt_of_quiet; intro K hK; go_big_quiet_op; first | exact hK _ rfl | (apply Exists.intro; refine ⟨fun _ => ?_, ?_⟩; (· fail); exact hK _ rfl))); try simp only [Act.put, List.setIfInBounds_toArray, List.set_cons_zero, List.set_cons_succ]))
        refine Od.wpO_call (by simp only [List.getElem?_toArray, List.getElem?_cons_succ, List.getElem?_cons_zero] <;> rfl) rfl ?_
        intro QS hQS
        go_wp2_with fail
        go_at_call 13
        (with_reducible refine ((AE.out _ _ gw5 hz5)).mono ?_)
        rintro e w6 ⟨rfl, hw6⟩
        go_wp2_with fail
        apply Exists.intro
        refine ⟨?_, hw6, ?_⟩
        · simp only [Act.put, List.setIfInBounds_toArray, List.set_cons_zero, List.set_cons_succ]; rfl
        have cw6_0_0 : w6.cell? ⟨W.heap.size, 0, none⟩ = some (.int .i64 px) := cell_gr hw6 (by go_simp)
        have cw6_0_1 : w6.cell? ⟨W.heap.size, 1, none⟩ = some (.int .i64 py) := cell_gr hw6 (by go_simp)
        have zw6_0 : W.heap.size < w6.heap.size := World.block_lt_of_cell? _ _ cw6_0_0
        have cw6_1_0 : w6.cell? ⟨wr.heap.size, 0, none⟩ = some (.int .i64 (px + x)) := cell_gr hw6 (by go_simp)
        have cw6_1_1 : w6.cell? ⟨wr.heap.size, 1, none⟩ = some (.int .i64 (py + y)) := cell_gr hw6 (by go_simp)
        have zw6_1 : wr.heap.size < w6.heap.size := World.block_lt_of_cell? _ _ cw6_1_0
        have gw6 : Gr wr w6 := Gr.trans (by have gg := gw5; have gs := gg.size; go_grown) hw6
        clear gw5 zw5_0 cw5_0_0 cw5_0_1 zw5_1 cw5_1_0 cw5_1_1
        clear hw6
        try simp only [Act.put, List.setIfInBounds_toArray, List.set_cons_zero, List.set_cons_succ]
        repeat (first | (refine Od.wpO_skip (by simp only [List.getElem?_toArray, List.getElem?_cons_succ, List.getElem?_cons_zero] <;> rfl) rfl ?_; simp only [Act.put, List.setIfInBounds_toArray, List.set_cons_zero, List.set_cons_succ]) | (refine Od.wpO_pure (by simp only [List.getElem?_toArray, List.getElem?_cons_succ, List.getElem?_cons_zero] <;> rfl) rfl ?_; apply Exists.intro; refine ⟨?_, ?_⟩; (· intro wx gx; obtain ⟨mx, rfl⟩ := spread_of_gr gx; clear gx; all_goals (apply Od.pAt_of_quiet; intro K hK; go_big_quiet_op; first | exact hK _ rfl | (apply Exists.intro; refine ⟨fun _ => ?_, ?_⟩; (· fail); exact hK _ rfl))); try simp only [Act.put, List.setIfInBounds_toArray, List.set_cons_zero, List.set_cons_succ]))
        refine Od.wpO_call (by simp only [List.getElem?_toArray, List.getElem?_cons_succ, List.getElem?_cons_zero] <;> rfl) rfl ?_
        intro QS hQS
        go_wp2_with fail
        go_at_call 18
        (with_reducible refine ((HK2.out _ gw6)).mono ?_)
        rintro e w7 ⟨rfl, hw7⟩
        go_wp2_with fail
        apply Exists.intro
        refine ⟨?_, hw7, ?_⟩
        · simp only [Act.put, List.setIfInBounds_toArray, List.set_cons_zero, List.set_cons_succ]; rfl
        have cw7_0_0 : w7.cell? ⟨W.heap.size, 0, none⟩ = some (.int .i64 px) := cell_gr hw7 (by go_simp)
        have cw7_0_1 : w7.cell? ⟨W.heap.size, 1, none⟩ = some (.int .i64 py) := cell_gr hw7 (by go_simp)
        have zw7_0 : W.heap.size < w7.heap.size := World.block_lt_of_cell? _ _ cw7_0_0
        have cw7_1_0 : w7.cell? ⟨wr.heap.size, 0, none⟩ = some (.int .i64 (px + x)) := cell_gr hw7 (by go_simp)
        have cw7_1_1 : w7.cell? ⟨wr.heap.size, 1, none⟩ = some (.int .i64 (py + y)) := cell_gr hw7 (by go_simp)
        have zw7_1 : wr.heap.size < w7.heap.size := World.block_lt_of_cell? _ _ cw7_1_0
        have gw7 : Gr wr w7 := Gr.trans (by have gg := gw6; have gs := gg.size; go_grown) hw7
        clear gw6 zw6_0 cw6_0_0 cw6_0_1 zw6_1 cw6_1_0 cw6_1_1
        clear hw7
        try simp only [Act.put, List.setIfInBounds_toArray, List.set_cons_zero, List.set_cons_succ]
        repeat (first | (refine Od.wpO_skip (by simp only [List.getElem?_toArray, List.getElem?_cons_succ, List.getElem?_cons_zero] <;> rfl) rfl ?_; simp only [Act.put, List.setIfInBounds_toArray, List.set_cons_zero, List.set_cons_succ]) | (refine Od.wpO_pure (by simp only [List.getElem?_toArray, List.getElem?_cons_succ, List.getElem?_cons_zero] <;> rfl) rfl ?_; apply Exists.intro; refine ⟨?_, ?_⟩; (· intro wx gx; obtain ⟨mx, rfl⟩ := spread_of_gr gx; clear gx; all_goals (apply Od.pAt_of_quiet; intro K hK; go_big_quiet_op; first | exact hK _ rfl | (apply Exists.intro; refine ⟨fun _ => ?_, ?_⟩; (· fail); exact hK _ rfl))); try simp only [Act.put, List.setIfInBounds_toArray, List.set_cons_zero, List.set_cons_succ]))
        refine Od.wpO_call (by simp only [List.getElem?_toArray, List.getElem?_cons_succ, List.getElem?_cons_zero] <;> rfl) rfl ?_
        intro QS hQS
        go_wp2_with fail
        go_at_call 18
        (with_reducible refine ((HK3.out _ gw7)).mono ?_)
        rintro e w8 ⟨rfl, hw8⟩
        go_wp2_with fail
        apply Exists.intro
        refine ⟨?_, hw8, ?_⟩
        · simp only [Act.put, List.setIfInBounds_toArray, List.set_cons_zero, List.set_cons_succ]; rfl
        have cw8_0_0 : w8.cell? ⟨W.heap.size, 0, none⟩ = some (.int .i64 px) := cell_gr hw8 (by go_simp)
        have cw8_0_1 : w8.cell? ⟨W.heap.size, 1, none⟩ = some (.int .i64 py) := cell_gr hw8 (by go_simp)
        have zw8_0 : W.heap.size < w8.heap.size := World.block_lt_of_cell? _ _ cw8_0_0
        have cw8_1_0 : w8.cell? ⟨wr.heap.size, 0, none⟩ = some (.int .i64 (px + x)) := cell_gr hw8 (by go_simp)
        have cw8_1_1 : w8.cell? ⟨wr.heap.size, 1, none⟩ = some (.int .i64 (py + y)) := cell_gr hw8 (by go_simp)
        have zw8_1 : wr.heap.size < w8.heap.size := World.block_lt_of_cell? _ _ cw8_1_0
        have gw8 : Gr wr w8 := Gr.trans (by have gg := gw7; have gs := gg.size; go_grown) hw8
        clear gw7 zw7_0 cw7_0_0 cw7_0_1 zw7_1 cw7_1_0 cw7_1_1
        clear hw8
        try simp only [Act.put, List.setIfInBounds_toArray, List.set_cons_zero, List.set_cons_succ]
        repeat (first | (refine Od.wpO_skip (by simp only [List.getElem?_toArray, List.getElem?_cons_succ, List.getElem?_cons_zero] <;> rfl) rfl ?_; simp only [Act.put, List.setIfInBounds_toArray, List.set_cons_zero, List.set_cons_succ]) | (refine Od.wpO_pure (by simp only [List.getElem?_toArray, List.getElem?_cons_succ, List.getElem?_cons_zero] <;> rfl) rfl ?_; apply Exists.intro; refine ⟨?_, ?_⟩; (· intro wx gx; obtain ⟨mx, rfl⟩ := spread_of_gr gx; clear gx; all_goals (apply Od.pAt_of_quiet; intro K hK; go_big_quiet_op; first | exact hK _ rfl | (apply Exists.intro; refine ⟨fun _ => ?_, ?_⟩; (· fail); exact hK _ rfl))); try simp only [Act.put, List.setIfInBounds_toArray, List.set_cons_zero, List.set_cons_succ]))
        refine Od.wpO_call (by simp only [List.getElem?_toArray, List.getElem?_cons_succ, List.getElem?_cons_zero] <;> rfl) rfl ?_
        intro QS hQS
        go_wp2_with fail
        go_at_call 16
        (with_reducible refine ((HK4.out _ gw8)).mono ?_)
        rintro e w9 ⟨rfl, hw9⟩
        go_wp2_with fail
        apply Exists.intro
        refine ⟨?_, hw9, ?_⟩
        · simp only [Act.put, List.setIfInBounds_toArray, List.set_cons_zero, List.set_cons_succ]; rfl
        have cw9_0_0 : w9.cell? ⟨W.heap.size, 0, none⟩ = some (.int .i64 px) := cell_gr hw9 (by go_simp)
        have cw9_0_1 : w9.cell? ⟨W.heap.size, 1, none⟩ = some (.int .i64 py) := cell_gr hw9 (by go_simp)
        have zw9_0 : W.heap.size < w9.heap.size := World.block_lt_of_cell? _ _ cw9_0_0
        have cw9_1_0 : w9.cell? ⟨wr.heap.size, 0, none⟩ = some (.int .i64 (px + x)) := cell_gr hw9 (by go_simp)
        have cw9_1_1 : w9.cell? ⟨wr.heap.size, 1, none⟩ = some (.int .i64 (py + y)) := cell_gr hw9 (by go_simp)
        have zw9_1 : wr.heap.size < w9.heap.size := World.block_lt_of_cell? _ _ cw9_1_0
        have gw9 : Gr wr w9 := Gr.trans (by have gg := gw8; have gs := gg.size; go_grown) hw9
        clear gw8 zw8_0 cw8_0_0 cw8_0_1 zw8_1 cw8_1_0 cw8_1_1
        clear hw9
        try simp only [Act.put, List.setIfInBounds_toArray, List.set_cons_zero, List.set_cons_succ]
        repeat (first | (refine Od.wpO_skip (by simp only [List.getElem?_toArray, List.getElem?_cons_succ, List.getElem?_cons_zero] <;> rfl) rfl ?_; simp only [Act.put, List.setIfInBounds_toArray, List.set_cons_zero, List.set_cons_succ]) | (refine Od.wpO_pure (by simp only [List.getElem?_toArray, List.getElem?_cons_succ, List.getElem?_cons_zero] <;> rfl) rfl ?_; apply Exists.intro; refine ⟨?_, ?_⟩; (· intro wx gx; obtain ⟨mx, rfl⟩ := spread_of_gr gx; clear gx; all_goals (apply Od.pAt_of_quiet; intro K hK; go_big_quiet_op; first | exact hK _ rfl | (apply Exists.intro; refine ⟨fun _ => ?_, ?_⟩; (· fail); exact hK _ rfl))); try simp only [Act.put, List.setIfInBounds_toArray, List.set_cons_zero, List.set_cons_succ]))
        refine Od.wpO_call (by simp only [List.getElem?_toArray, List.getElem?_cons_succ, List.getElem?_cons_zero] <;> rfl) rfl ?_
        intro QS hQS
        go_wp2_with fail
        go_at_call 16
        (with_reducible refine ((HK5.out _ gw9)).mono ?_)
        rintro e w10 ⟨rfl, hw10⟩
        go_wp2_with fail
        apply Exists.intro
        refine ⟨?_, hw10, ?_⟩
        · simp only [Act.put, List.setIfInBounds_toArray, List.set_cons_zero, List.set_cons_succ]; rfl
        have cw10_0_0 : w10.cell? ⟨W.heap.size, 0, none⟩ = some (.int .i64 px) := cell_gr hw10 (by go_simp)
        have cw10_0_1 : w10.cell? ⟨W.heap.size, 1, none⟩ = some (.int .i64 py) := cell_gr hw10 (by go_simp)
        have zw10_0 : W.heap.size < w10.heap.size := World.block_lt_of_cell? _ _ cw10_0_0
        have cw10_1_0 : w10.cell? ⟨wr.heap.size, 0, none⟩ = some (.int .i64 (px + x)) := cell_gr hw10 (by go_simp)
        have cw10_1_1 : w10.cell? ⟨wr.heap.size, 1, none⟩ = some (.int .i64 (py + y)) := cell_gr hw10 (by go_simp)
        have zw10_1 : wr.heap.size < w10.heap.size := World.block_lt_of_cell? _ _ cw10_1_0
        have gw10 : Gr wr w10 := Gr.trans (by have gg := gw9; have gs := gg.size; go_grown) hw10
        clear gw9 zw9_0 cw9_0_0 cw9_0_1 zw9_1 cw9_1_0 cw9_1_1
        clear hw10
        try simp only [Act.put, List.setIfInBounds_toArray, List.set_cons_zero, List.set_cons_succ]
        repeat (first | (refine Od.wpO_skip (by simp only [List.getElem?_toArray, List.getElem?_cons_succ, List.getElem?_cons_zero] <;> rfl) rfl ?_; simp only [Act.put, List.setIfInBounds_toArray, List.set_cons_zero, List.set_cons_succ]) | (refine Od.wpO_pure (by simp only [List.getElem?_toArray, List.getElem?_cons_succ, List.getElem?_cons_zero] <;> rfl) rfl ?_; apply Exists.intro; refine ⟨?_, ?_⟩; (· intro wx gx; obtain ⟨mx, rfl⟩ := spread_of_gr gx; clear gx; all_goals (apply Od.pAt_of_quiet; intro K hK; go_big_quiet_op; first | exact hK _ rfl | (apply Exists.intro; refine ⟨fun _ => ?_, ?_⟩; (· fail); exact hK _ rfl))); try simp only [Act.put, List.setIfInBounds_toArray, List.set_cons_zero, List.set_cons_succ]))
        refine Od.wpO_call (by simp only [List.getElem?_toArray, List.getElem?_cons_succ, List.getElem?_cons_zero] <;> rfl) rfl ?_
        intro QS hQS
        go_wp2_with fail
        go_at_call 28
        (with_reducible refine ((HK9.out _)).mono ?_)
        rintro e w11 ⟨rfl, hw11⟩
        go_wp2_with fail
        apply Exists.intro
        refine ⟨?_, hw11, ?_⟩
        · simp only [Act.put, List.setIfInBounds_toArray, List.set_cons_zero, List.set_cons_succ]; rfl
        have cw11_0_0 : w11.cell? ⟨W.heap.size, 0, none⟩ = some (.int .i64 px) := cell_gr hw11 (by go_simp)
        have cw11_0_1 : w11.cell? ⟨W.heap.size, 1, none⟩ = some (.int .i64 py) := cell_gr hw11 (by go_simp)
        have zw11_0 : W.heap.size < w11.heap.size := World.block_lt_of_cell? _ _ cw11_0_0
        have cw11_1_0 : w11.cell? ⟨wr.heap.size, 0, none⟩ = some (.int .i64 (px + x)) := cell_gr hw11 (by go_simp)
        have cw11_1_1 : w11.cell? ⟨wr.heap.size, 1, none⟩ = some (.int .i64 (py + y)) := cell_gr hw11 (by go_simp)
        have zw11_1 : wr.heap.size < w11.heap.size := World.block_lt_of_cell? _ _ cw11_1_0
        have gw11 : Gr wr w11 := Gr.trans (by have gg := gw10; have gs := gg.size; go_grown) hw11
        clear gw10 zw10_0 cw10_0_0 cw10_0_1 zw10_1 cw10_1_0 cw10_1_1
        clear hw11
        try simp only [Act.put, List.setIfInBounds_toArray, List.set_cons_zero, List.set_cons_succ]
        repeat (first | (refine Od.wpO_skip (by simp only [List.getElem?_toArray, List.getElem?_cons_succ, List.getElem?_cons_zero] <;> rfl) rfl ?_; simp only [Act.put, List.setIfInBounds_toArray, List.set_cons_zero, List.set_cons_succ]) | (refine Od.wpO_pure (by simp only [List.getElem?_toArray, List.getElem?_cons_succ, List.getElem?_cons_zero] <;> rfl) rfl ?_; apply Exists.intro; refine ⟨?_, ?_⟩; (· intro wx gx; obtain ⟨mx, rfl⟩ := spread_of_gr gx; clear gx; all_goals (apply Od.pAt_of_quiet; intro K hK; go_big_quiet_op; first | exact hK _ rfl | (apply Exists.intro; refine ⟨fun _ => ?_, ?_⟩; (· fail); exact hK _ rfl))); try simp only [Act.put, List.setIfInBounds_toArray, List.set_cons_zero, List.set_cons_succ]))
        refine Od.wpO_call (by simp only [List.getElem?_toArray, List.getElem?_cons_succ, List.getElem?_cons_zero] <;> rfl) rfl ?_
        intro QS hQS
        go_wp2_with fail
        go_at_call 20
        (with_reducible refine ((HK8.out _ gw11)).mono ?_)
        rintro e w12 ⟨rfl, hw12⟩
        go_wp2_with fail
        apply Exists.intro
        refine ⟨?_, hw12, ?_⟩
        · simp only [Act.put, List.setIfInBounds_toArray, List.set_cons_zero, List.set_cons_succ]; rfl
        have cw12_0_0 : w12.cell? ⟨W.heap.size, 0, none⟩ = some (.int .i64 px) := cell_gr hw12 (by go_simp)
        have cw12_0_1 : w12.cell? ⟨W.heap.size, 1, none⟩ = some (.int .i64 py) := cell_gr hw12 (by go_simp)
        have zw12_0 : W.heap.size < w12.heap.size := World.block_lt_of_cell? _ _ cw12_0_0
        have cw12_1_0 : w12.cell? ⟨wr.heap.size, 0, none⟩ = some (.int .i64 (px + x)) := cell_gr hw12 (by go_simp)
        have cw12_1_1 : w12.cell? ⟨wr.heap.size, 1, none⟩ = some (.int .i64 (py + y)) := cell_gr hw12 (by go_simp)
        have zw12_1 : wr.heap.size < w12.heap.size := World.block_lt_of_cell? _ _ cw12_1_0
        have gw12 : Gr wr w12 := Gr.trans (by have gg := gw11; have gs := gg.size; go_grown) hw12
        clear gw11 zw11_0 cw11_0_0 cw11_0_1 zw11_1 cw11_1_0 cw11_1_1
        clear hw12
        try simp only [Act.put, List.setIfInBounds_toArray, List.set_cons_zero, List.set_cons_succ]
        repeat (first | (refine Od.wpO_skip (by simp only [List.getElem?_toArray, List.getElem?_cons_succ, List.getElem?_cons_zero] <;> rfl) rfl ?_; simp only [Act.put, List.setIfInBounds_toArray, List.set_cons_zero, List.set_cons_succ]) | (refine Od.wpO_pure (by simp only [List.getElem?_toArray, List.getElem?_cons_succ, List.getElem?_cons_zero] <;> rfl) rfl ?_; apply Exists.intro; refine ⟨?_, ?_⟩; (· intro wx gx; obtain ⟨mx, rfl⟩ := spread_of_gr gx; clear gx; all_goals (apply Od.pAt_of_quiet; intro K hK; go_big_quiet_op; first | exact hK _ rfl | (apply Exists.intro; refine ⟨fun _ => ?_, ?_⟩; (· fail); exact hK _ rfl))); try simp only [Act.put, List.setIfInBounds_toArray, List.set_cons_zero, List.set_cons_succ]))
        refine Od.wpO_call (by simp only [List.getElem?_toArray, List.getElem?_cons_succ, List.getElem?_cons_zero] <;> rfl) rfl ?_
        intro QS hQS
        go_wp2_with fail
        go_at_call 20
        (with_reducible refine ((HK7.out _ gw12)).mono ?_)
        rintro e w13 ⟨rfl, hw13⟩
        go_wp2_with fail
        apply Exists.intro
        refine ⟨?_, hw13, ?_⟩
        · simp only [Act.put, List.setIfInBounds_toArray, List.set_cons_zero, List.set_cons_succ]; rfl
        have cw13_0_0 : w13.cell? ⟨W.heap.size, 0, none⟩ = some (.int .i64 px) := cell_gr hw13 (by go_simp)
        have cw13_0_1 : w13.cell? ⟨W.heap.size, 1, none⟩ = some (.int .i64 py) := cell_gr hw13 (by go_simp)
        have zw13_0 : W.heap.size < w13.heap.size := World.block_lt_of_cell? _ _ cw13_0_0
        have cw13_1_0 : w13.cell? ⟨wr.heap.size, 0, none⟩ = some (.int .i64 (px + x)) := cell_gr hw13 (by go_simp)
        have cw13_1_1 : w13.cell? ⟨wr.heap.size, 1, none⟩ = some (.int .i64 (py + y)) := cell_gr hw13 (by go_simp)
        have zw13_1 : wr.heap.size < w13.heap.size := World.block_lt_of_cell? _ _ cw13_1_0
        have gw13 : Gr wr w13 := Gr.trans (by have gg := gw12; have gs := gg.size; go_grown) hw13
        clear gw12 zw12_0 cw12_0_0 cw12_0_1 zw12_1 cw12_1_0 cw12_1_1
        clear hw13
        try simp only [Act.put, List.setIfInBounds_toArray, List.set_cons_zero, List.set_cons_succ]
        repeat (first | (refine Od.wpO_skip (by simp only [List.getElem?_toArray, List.getElem?_cons_succ, List.getElem?_cons_zero] <;> rfl) rfl ?_; simp only [Act.put, List.setIfInBounds_toArray, List.set_cons_zero, List.set_cons_succ]) | (refine Od.wpO_pure (by simp only [List.getElem?_toArray, List.getElem?_cons_succ, List.getElem?_cons_zero] <;> rfl) rfl ?_; apply Exists.intro; refine ⟨?_, ?_⟩; (· intro wx gx; obtain ⟨mx, rfl⟩ := spread_of_gr gx; clear gx; all_goals (apply Od.pAt_of_quiet; intro K hK; go_big_quiet_op; first | exact hK _ rfl | (apply Exists.intro; refine ⟨fun _ => ?_, ?_⟩; (· fail); exact hK _ rfl))); try simp only [Act.put, List.setIfInBounds_toArray, List.set_cons_zero, List.set_cons_succ]))
        refine Od.wpO_call (by simp only [List.getElem?_toArray, List.getElem?_cons_succ, List.getElem?_cons_zero] <;> rfl) rfl ?_
        intro QS hQS
        go_wp2_with fail
        go_at_call 9
        (with_reducible refine ((AW2.out _ gw13)).mono ?_)
        rintro e w14 ⟨rfl, hw14⟩
        go_wp2_with fail
        apply Exists.intro
        refine ⟨?_, hw14, ?_⟩
        · simp only [Act.put, List.setIfInBounds_toArray, List.set_cons_zero, List.set_cons_succ]; rfl
        have cw14_0_0 : w14.cell? ⟨W.heap.size, 0, none⟩ = some (.int .i64 px) := cell_gr hw14 (by go_simp)
        have cw14_0_1 : w14.cell? ⟨W.heap.size, 1, none⟩ = some (.int .i64 py) := cell_gr hw14 (by go_simp)
        have zw14_0 : W.heap.size < w14.heap.size := World.block_lt_of_cell? _ _ cw14_0_0
        have cw14_1_0 : w14.cell? ⟨wr.heap.size, 0, none⟩ = some (.int .i64 (px + x)) := cell_gr hw14 (by go_simp)
        have cw14_1_1 : w14.cell? ⟨wr.heap.size, 1, none⟩ = some (.int .i64 (py + y)) := cell_gr hw14 (by go_simp)
        have zw14_1 : wr.heap.size < w14.heap.size := World.block_lt_of_cell? _ _ cw14_1_0
        have gw14 : Gr wr w14 := Gr.trans (by have gg := gw13; have gs := gg.size; go_grown) hw14
        clear gw13 zw13_0 cw13_0_0 cw13_0_1 zw13_1 cw13_1_0 cw13_1_1
        clear hw14
        try simp only [Act.put, List.setIfInBounds_toArray, List.set_cons_zero, List.set_cons_succ]
        repeat (first | (refine Od.wpO_skip (by simp only [List.getElem?_toArray, List.getElem?_cons_succ, List.getElem?_cons_zero] <;> rfl) rfl ?_; simp only [Act.put, List.setIfInBounds_toArray, List.set_cons_zero, List.set_cons_succ]) | (refine Od.wpO_pure (by simp only [List.getElem?_toArray, List.getElem?_cons_succ, List.getElem?_cons_zero] <;> rfl) rfl ?_; apply Exists.intro; refine ⟨?_, ?_⟩; (· intro wx gx; obtain ⟨mx, rfl⟩ := spread_of_gr gx; clear gx; all_goals (apply Od.pAt_of_quiet; intro K hK; go_big_quiet_op; first | exact hK _ rfl | (apply Exists.intro; refine ⟨fun _ => ?_, ?_⟩; (· fail); exact hK _ rfl))); try simp only [Act.put, List.setIfInBounds_toArray, List.set_cons_zero, List.set_cons_succ]))
        refine Od.wpO_nil (hKQ _ _ ?_)
        clear hKQ KQ
        go_wp2_with fail
        go_ret
        exact ⟨rfl, Gr.trans GW0.out gw14⟩
      · rw [show nearB (px + x) (py + y) = false by simpa using hq] at K9
        have HK9 := Lib.hid K9
        clear K8 K9 hq
        go_wp2_with fail
        go_at_call 10
        refine ((HK6.out _ (by go_grown))).mono ?_
        rintro e w3 ⟨rfl, hw3⟩
        have cw3_0_0 : w3.cell? ⟨W.heap.size, 0, none⟩ = some (.int .i64 px) := cell_gr hw3 (by go_simp)
        have cw3_0_1 : w3.cell? ⟨W.heap.size, 1, none⟩ = some (.int .i64 py) := cell_gr hw3 (by go_simp)
        have zw3_0 : W.heap.size < w3.heap.size := World.block_lt_of_cell? _ _ cw3_0_0
        have cw3_1_0 : w3.cell? ⟨wr.heap.size, 0, none⟩ = some (.int .i64 (px + x)) := cell_gr hw3 (by go_simp)
        have cw3_1_1 : w3.cell? ⟨wr.heap.size, 1, none⟩ = some (.int .i64 (py + y)) := cell_gr hw3 (by go_simp)
        have zw3_1 : wr.heap.size < w3.heap.size := World.block_lt_of_cell? _ _ cw3_1_0
        have gw3 : Gr wr w3 := Gr.trans (by go_grown) hw3
        clear hw3
        clear e1 e2 e3 e4 HK6
        go_wp2_with fail
        try simp only [List.append]
        refine Od.wp_region_ord [(0, false), (2, false), (3, false), (1, true), (4, true), (5, false), (6, false), (8, false), (7, true), (9, true), (10, false), (11, false), (12, false), (13, false), (15, false), (14, true), (16, true), (17, false), (18, false), (19, false), (20, false), (21, true), (22, false), (23, false), (24, false), (25, false), (27, false), (28, false), (26, true), (29, true), (30, false), (31, false), (32, false), (33, false), (34, true), (35, false), (36, false)] (by kernel_rfl) (by kernel_rfl) ?_
        intro w4 hw4 KQ hKQ
        have cw4_0_0 : w4.cell? ⟨W.heap.size, 0, none⟩ = some (.int .i64 px) := cell_gr hw4 (by go_simp)
        have cw4_0_1 : w4.cell? ⟨W.heap.size, 1, none⟩ = some (.int .i64 py) := cell_gr hw4 (by go_simp)
        have zw4_0 : W.heap.size < w4.heap.size := World.block_lt_of_cell? _ _ cw4_0_0
        have cw4_1_0 : w4.cell? ⟨wr.heap.size, 0, none⟩ = some (.int .i64 (px + x)) := cell_gr hw4 (by go_simp)
        have cw4_1_1 : w4.cell? ⟨wr.heap.size, 1, none⟩ = some (.int .i64 (py + y)) := cell_gr hw4 (by go_simp)
        have zw4_1 : wr.heap.size < w4.heap.size := World.block_lt_of_cell? _ _ cw4_1_0
        have gw4 : Gr wr w4 := Gr.trans (by have gg := gw3; have gs := gg.size; go_grown) hw4
        clear gw3 zw3_0 cw3_0_0 cw3_0_1 zw3_1 cw3_1_0 cw3_1_1
        clear hw4
        repeat (first | (refine Od.wpO_skip (by simp only [List.getElem?_toArray, List.getElem?_cons_succ, List.getElem?_cons_zero] <;> rfl) rfl ?_; simp only [Act.put, List.setIfInBounds_toArray, List.set_cons_zero, List.set_cons_succ]) | (refine Od.wpO_pure (by simp only [List.getElem?_toArray, List.getElem?_cons_succ, List.getElem?_cons_zero] <;> rfl) rfl ?_; apply Exists.intro; refine ⟨?_, ?_⟩; (· intro wx gx; obtain ⟨mx, rfl⟩ := spread_of_gr gx; clear gx; all_goals (apply Od.pAt_of_quiet; intro K hK; go_big_quiet_op; first | exact hK _ rfl | (apply Exists.intro; refine ⟨fun _ => ?_, ?_⟩; (· fail); exact hK _ rfl))); try simp only [Act.put, List.setIfInBounds_toArray, List.set_cons_zero, List.set_cons_succ]))
        refine Od.wpO_call (by simp only [List.getElem?_toArray, List.getElem?_cons_succ, List.getElem?_cons_zero] <;> rfl) rfl ?_
        intro QS hQS
        go_wp2_with fail
        go_at_call 14
        (with_reducible refine ((HK1.out _ gw4)).mono ?_)
        rintro e w5 ⟨z5, rfl, hz5, hw5⟩
        go_wp2_with fail
        apply Exists.intro
        refine ⟨?_, hw5, ?_⟩
        · simp only [Act.put, List.setIfInBounds_toArray, List.set_cons_zero, List.set_cons_succ]; rfl
        have cw5_0_0 : w5.cell? ⟨W.heap.size, 0, none⟩ = some (.int .i64 px) := cell_gr hw5 (by go_simp)
        have cw5_0_1 : w5.cell? ⟨W.heap.size, 1, none⟩ = some (.int .i64 py) := cell_gr hw5 (by go_simp)
        have zw5_0 : W.heap.size < w5.heap.size := World.block_lt_of_cell? _ _ cw5_0_0
        have cw5_1_0 : w5.cell? ⟨wr.heap.size, 0, none⟩ = some (.int .i64 (px + x)) := cell_gr hw5 (by go_simp)
        have cw5_1_1 : w5.cell? ⟨wr.heap.size, 1, none⟩ = some (.int .i64 (py + y)) := cell_gr hw5 (by go_simp)
        have zw5_1 : wr.heap.size < w5.heap.size := World.block_lt_of_cell? _ _ cw5_1_0
        have gw5 : Gr wr w5 := Gr.trans (by have gg := gw4; have gs := gg.size; go_grown) hw5
        clear gw4 zw4_0 cw4_0_0 cw4_0_1 zw4_1 cw4_1_0 cw4_1_1
        clear hw5
        try simp only [Act.put, List.setIfInBounds_toArray, List.set_cons_zero, List.set_cons_succ]
        repeat (first | (refine Od.wpO_skip (by simp only [List.getElem?_toArray, List.getElem?_cons_succ, List.getElem?_cons_zero] <;> rfl) rfl ?_; simp only [Act.put, List.setIfInBounds_toArray, List.set_cons_zero, List.set_cons_succ]) | (refine Od.wpO_pure (by simp only [List.getElem?_toArray, List.getElem?_cons_succ, List.getElem?_cons_zero] <;> rfl) rfl ?_; apply Exists.intro; refine ⟨?_, ?_⟩; (· intro wx gx; obtain ⟨mx, rfl⟩ := spread_of_gr gx; clear gx; all_goals (apply Od.pAt_of_quiet; intro K hK; go_big_quiet_op; first | exact hK _ rfl | (apply Exists.intro; refine ⟨fun _ => ?_, ?_⟩; (· fail); exact hK _ rfl))); try simp only [Act.put, List.setIfInBounds_toArray, List.set_cons_zero, List.set_cons_succ]))
        refine Od.wpO_call (by simp only [List.getElem?_toArray, List.getElem?_cons_succ, List.getElem?_cons_zero] <;> rfl) rfl ?_
        intro QS hQS
        go_wp2_with fail
        go_at_call 13
        (with_reducible refine ((AE.out _ _ gw5 hz5)).mono ?_)
        rintro e w6 ⟨rfl, hw6⟩
        go_wp2_with fail
        apply Exists.intro
        refine ⟨?_, hw6, ?_⟩
        · simp only [Act.put, List.setIfInBounds_toArray, List.set_cons_zero, List.set_cons_succ]; rfl
        have cw6_0_0 : w6.cell? ⟨W.heap.size, 0, none⟩ = some (.int .i64 px) := cell_gr hw6 (by go_simp)
        have cw6_0_1 : w6.cell? ⟨W.heap.size, 1, none⟩ = some (.int .i64 py) := cell_gr hw6 (by go_simp)
        have zw6_0 : W.heap.size < w6.heap.size := World.block_lt_of_cell? _ _ cw6_0_0
        have cw6_1_0 : w6.cell? ⟨wr.heap.size, 0, none⟩ = some (.int .i64 (px + x)) := cell_gr hw6 (by go_simp)
        have cw6_1_1 : w6.cell? ⟨wr.heap.size, 1, none⟩ = some (.int .i64 (py + y)) := cell_gr hw6 (by go_simp)
        have zw6_1 : wr.heap.size < w6.heap.size := World.block_lt_of_cell? _ _ cw6_1_0
        have gw6 : Gr wr w6 := Gr.trans (by have gg := gw5; have gs := gg.size; go_grown) hw6
        clear gw5 zw5_0 cw5_0_0 cw5_0_1 zw5_1 cw5_1_0 cw5_1_1
        clear hw6
        try simp only [Act.put, List.setIfInBounds_toArray, List.set_cons_zero, List.set_cons_succ]
        repeat (first | (refine Od.wpO_skip (by simp only [List.getElem?_toArray, List.getElem?_cons_succ, List.getElem?_cons_zero] <;> rfl) rfl ?_; simp only [Act.put, List.setIfInBounds_toArray, List.set_cons_zero, List.set_cons_succ]) | (refine Od.wpO_pure (by simp only [List.getElem?_toArray, List.getElem?_cons_succ, List.getElem?_cons_zero] <;> rfl) rfl ?_; apply Exists.intro; refine ⟨?_, ?_⟩; (· intro wx gx; obtain ⟨mx, rfl⟩ := spread_of_gr gx; clear gx; all_goals (apply Od.pAt_of_quiet; intro K hK; go_big_quiet_op; first | exact hK _ rfl | (apply Exists.intro; refine ⟨fun _ => ?_, ?_⟩; (· fail); exact hK _ rfl))); try simp only [Act.put, List.setIfInBounds_toArray, List.set_cons_zero, List.set_cons_succ]))
        refine Od.wpO_call (by simp only [List.getElem?_toArray, List.getElem?_cons_succ, List.getElem?_cons_zero] <;> rfl) rfl ?_
        intro QS hQS
        go_wp2_with fail
        go_at_call 18
        (with_reducible refine ((HK2.out _ gw6)).mono ?_)
        rintro e w7 ⟨rfl, hw7⟩
        go_wp2_with fail
        apply Exists.intro
        refine ⟨?_, hw7, ?_⟩
        · simp only [Act.put, List.setIfInBounds_toArray, List.set_cons_zero, List.set_cons_succ]; rfl
        have cw7_0_0 : w7.cell? ⟨W.heap.size, 0, none⟩ = some (.int .i64 px) := cell_gr hw7 (by go_simp)
        have cw7_0_1 : w7.cell? ⟨W.heap.size, 1, none⟩ = some (.int .i64 py) := cell_gr hw7 (by go_simp)
        have zw7_0 : W.heap.size < w7.heap.size := World.block_lt_of_cell? _ _ cw7_0_0
        have cw7_1_0 : w7.cell? ⟨wr.heap.size, 0, none⟩ = some (.int .i64 (px + x)) := cell_gr hw7 (by go_simp)
        have cw7_1_1 : w7.cell? ⟨wr.heap.size, 1, none⟩ = some (.int .i64 (py + y)) := cell_gr hw7 (by go_simp)
        have zw7_1 : wr.heap.size < w7.heap.size := World.block_lt_of_cell? _ _ cw7_1_0
        have gw7 : Gr wr w7 := Gr.trans (by have gg := gw6; have gs := gg.size; go_grown) hw7
        clear gw6 zw6_0 cw6_0_0 cw6_0_1 zw6_1 cw6_1_0 cw6_1_1
        clear hw7
        try simp only [Act.put, List.setIfInBounds_toArray, List.set_cons_zero, List.set_cons_succ]
        repeat (first | (refine Od.wpO_skip (by simp only [List.getElem?_toArray, List.getElem?_cons_succ, List.getElem?_cons_zero] <;> rfl) rfl ?_; simp only [Act.put, List.setIfInBounds_toArray, List.set_cons_zero, List.set_cons_succ]) | (refine Od.wpO_pure (by simp only [List.getElem?_toArray, List.getElem?_cons_succ, List.getElem?_cons_zero] <;> rfl) rfl ?_; apply Exists.intro; refine ⟨?_, ?_⟩; (· intro wx gx; obtain ⟨mx, rfl⟩ := spread_of_gr gx; clear gx; all_goals (apply Od.pAt_of_quiet; intro K hK; go_big_quiet_op; first | exact hK _ rfl | (apply Exists.intro; refine ⟨fun _ => ?_, ?_⟩; (· fail); exact hK _ rfl))); try simp only [Act.put, List.setIfInBounds_toArray, List.set_cons_zero, List.set_cons_succ]))
        refine Od.wpO_call (by simp only [List.getElem?_toArray, List.getElem?_cons_succ, List.getElem?_cons_zero] <;> rfl) rfl ?_
        intro QS hQS
        go_wp2_with fail
        go_at_call 18
        (with_reducible refine ((HK3.out _ gw7)).mono ?_)
        rintro e w8 ⟨rfl, hw8⟩
        go_wp2_with fail
        apply Exists.intro
        refine ⟨?_, hw8, ?_⟩
        · simp only [Act.put, List.setIfInBounds_toArray, List.set_cons_zero, List.set_cons_succ]; rfl
        have cw8_0_0 : w8.cell? ⟨W.heap.size, 0, none⟩ = some (.int .i64 px) := cell_gr hw8 (by go_simp)
        have cw8_0_1 : w8.cell? ⟨W.heap.size, 1, none⟩ = some (.int .i64 py) := cell_gr hw8 (by go_simp)
        have zw8_0 : W.heap.size < w8.heap.size := World.block_lt_of_cell? _ _ cw8_0_0
        have cw8_1_0 : w8.cell? ⟨wr.heap.size, 0, none⟩ = some (.int .i64 (px + x)) := cell_gr hw8 (by go_simp)
        have cw8_1_1 : w8.cell? ⟨wr.heap.size, 1, none⟩ = some (.int .i64 (py + y)) := cell_gr hw8 (by go_simp)
        have zw8_1 : wr.heap.size < w8.heap.size := World.block_lt_of_cell? _ _ cw8_1_0
        have gw8 : Gr wr w8 := Gr.trans (by have gg := gw7; have gs := gg.size; go_grown) hw8
        clear gw7 zw7_0 cw7_0_0 cw7_0_1 zw7_1 cw7_1_0 cw7_1_1
        clear hw8
        try simp only [Act.put, List.setIfInBounds_toArray, List.set_cons_zero, List.set_cons_succ]
        repeat (first | (refine Od.wpO_skip (by simp only [List.getElem?_toArray, List.getElem?_cons_succ, List.getElem?_cons_zero] <;> rfl) rfl ?_; simp only [Act.put, List.setIfInBounds_toArray, List.set_cons_zero, List.set_cons_succ]) | (refine Od.wpO_pure (by simp only [List.getElem?_toArray, List.getElem?_cons_succ, List.getElem?_cons_zero] <;> rfl) rfl ?_; apply Exists.intro; refine ⟨?_, ?_⟩; (· intro wx gx; obtain ⟨mx, rfl⟩ := spread_of_gr gx; clear gx; all_goals (apply Od.pAt_of_quiet; intro K hK; go_big_quiet_op; first | exact hK _ rfl | (apply Exists.intro; refine ⟨fun _ => ?_, ?_⟩; (· fail); exact hK _ rfl))); try simp only [Act.put, List.setIfInBounds_toArray, List.set_cons_zero, List.set_cons_succ]))
        refine Od.wpO_call (by simp only [List.getElem?_toArray, List.getElem?_cons_succ, List.getElem?_cons_zero] <;> rfl) rfl ?_
        intro QS hQS
        go_wp2_with fail
        go_at_call 16
        (with_reducible refine ((HK4.out _ gw8)).mono ?_)
        rintro e w9 ⟨rfl, hw9⟩
        go_wp2_with fail
        apply Exists.intro
        refine ⟨?_, hw9, ?_⟩
        · simp only [Act.put, List.setIfInBounds_toArray, List.set_cons_zero, List.set_cons_succ]; rfl
        have cw9_0_0 : w9.cell? ⟨W.heap.size, 0, none⟩ = some (.int .i64 px) := cell_gr hw9 (by go_simp)
        have cw9_0_1 : w9.cell? ⟨W.heap.size, 1, none⟩ = some (.int .i64 py) := cell_gr hw9 (by go_simp)
        have zw9_0 : W.heap.size < w9.heap.size := World.block_lt_of_cell? _ _ cw9_0_0
        have cw9_1_0 : w9.cell? ⟨wr.heap.size, 0, none⟩ = some (.int .i64 (px + x)) := cell_gr hw9 (by go_simp)
        have cw9_1_1 : w9.cell? ⟨wr.heap.size, 1, none⟩ = some (.int .i64 (py + y)) := cell_gr hw9 (by go_simp)
        have zw9_1 : wr.heap.size < w9.heap.size := World.block_lt_of_cell? _ _ cw9_1_0
        have gw9 : Gr wr w9 := Gr.trans (by have gg := gw8; have gs := gg.size; go_grown) hw9
        clear gw8 zw8_0 cw8_0_0 cw8_0_1 zw8_1 cw8_1_0 cw8_1_1
        clear hw9
        try simp only [Act.put, List.setIfInBounds_toArray, List.set_cons_zero, List.set_cons_succ]
        repeat (first | (refine Od.wpO_skip (by simp only [List.getElem?_toArray, List.getElem?_cons_succ, List.getElem?_cons_zero] <;> rfl) rfl ?_; simp only [Act.put, List.setIfInBounds_toArray, List.set_cons_zero, List.set_cons_succ]) | (refine Od.wpO_pure (by simp only [List.getElem?_toArray, List.getElem?_cons_succ, List.getElem?_cons_zero] <;> rfl) rfl ?_; apply Exists.intro; refine ⟨?_, ?_⟩; (· intro wx gx; obtain ⟨mx, rfl⟩ := spread_of_gr gx; clear gx; all_goals (apply Od.pAt_of_quiet; intro K hK; go_big_quiet_op; first | exact hK _ rfl | (apply Exists.intro; refine ⟨fun _ => ?_, ?_⟩; (· fail); exact hK _ rfl))); try simp only [Act.put, List.setIfInBounds_toArray, List.set_cons_zero, List.set_cons_succ]))
        refine Od.wpO_call (by simp only [List.getElem?_toArray, List.getElem?_cons_succ, List.getElem?_cons_zero] <;> rfl) rfl ?_
        intro QS hQS
        go_wp2_with fail
        go_at_call 16
        (with_reducible refine ((HK5.out _ gw9)).mono ?_)
        rintro e w10 ⟨rfl, hw10⟩
        go_wp2_with fail
        apply Exists.intro
        refine ⟨?_, hw10, ?_⟩
        · simp only [Act.put, List.setIfInBounds_toArray, List.set_cons_zero, List.set_cons_succ]; rfl
        have cw10_0_0 : w10.cell? ⟨W.heap.size, 0, none⟩ = some (.int .i64 px) := cell_gr hw10 (by go_simp)
        have cw10_0_1 : w10.cell? ⟨W.heap.size, 1, none⟩ = some (.int .i64 py) := cell_gr hw10 (by go_simp)
        have zw10_0 : W.heap.size < w10.heap.size := World.block_lt_of_cell? _ _ cw10_0_0
        have cw10_1_0 : w10.cell? ⟨wr.heap.size, 0, none⟩ = some (.int .i64 (px + x)) := cell_gr hw10 (by go_simp)
        have cw10_1_1 : w10.cell? ⟨wr.heap.size, 1, none⟩ = some (.int .i64 (py + y)) := cell_gr hw10 (by go_simp)
        have zw10_1 : wr.heap.size < w10.heap.size := World.block_lt_of_cell? _ _ cw10_1_0
        have gw10 : Gr wr w10 := Gr.trans (by have gg := gw9; have gs := gg.size; go_grown) hw10
        clear gw9 zw9_0 cw9_0_0 cw9_0_1 zw9_1 cw9_1_0 cw9_1_1
        clear hw10
        try simp only [Act.put, List.setIfInBounds_toArray, List.set_cons_zero, List.set_cons_succ]
        repeat (first | (refine Od.wpO_skip (by simp only [List.getElem?_toArray, List.getElem?_cons_succ, List.getElem?_cons_zero] <;> rfl) rfl ?_; simp only [Act.put, List.setIfInBounds_toArray, List.set_cons_zero, List.set_cons_succ]) | (refine Od.wpO_pure (by simp only [List.getElem?_toArray, List.getElem?_cons_succ, List.getElem?_cons_zero] <;> rfl) rfl ?_; apply Exists.intro; refine ⟨?_, ?_⟩; (· intro wx gx; obtain ⟨mx, rfl⟩ := spread_of_gr gx; clear gx; all_goals (apply Od.pAt_of_quiet; intro K hK; go_big_quiet_op; first | exact hK _ rfl | (apply Exists.intro; refine ⟨fun _ => ?_, ?_⟩; (· fail); exact hK _ rfl))); try simp only [Act.put, List.setIfInBounds_toArray, List.set_cons_zero, List.set_cons_succ]))
        refine Od.wpO_call (by simp only [List.getElem?_toArray, List.getElem?_cons_succ, List.getElem?_cons_zero] <;> rfl) rfl ?_
        intro QS hQS
        go_wp2_with fail
        go_at_call 28
        (with_reducible refine ((HK9.out _)).mono ?_)
        rintro e w11 ⟨rfl, hw11⟩
        go_wp2_with fail
        apply Exists.intro
        refine ⟨?_, hw11, ?_⟩
        · simp only [Act.put, List.setIfInBounds_toArray, List.set_cons_zero, List.set_cons_succ]; rfl
        have cw11_0_0 : w11.cell? ⟨W.heap.size, 0, none⟩ = some (.int .i64 px) := cell_gr hw11 (by go_simp)
        have cw11_0_1 : w11.cell? ⟨W.heap.size, 1, none⟩ = some (.int .i64 py) := cell_gr hw11 (by go_simp)
        have zw11_0 : W.heap.size < w11.heap.size := World.block_lt_of_cell? _ _ cw11_0_0
        have cw11_1_0 : w11.cell? ⟨wr.heap.size, 0, none⟩ = some (.int .i64 (px + x)) := cell_gr hw11 (by go_simp)
        have cw11_1_1 : w11.cell? ⟨wr.heap.size, 1, none⟩ = some (.int .i64 (py + y)) := cell_gr hw11 (by go_simp)
        have zw11_1 : wr.heap.size < w11.heap.size := World.block_lt_of_cell? _ _ cw11_1_0
        have gw11 : Gr wr w11 := Gr.trans (by have gg := gw10; have gs := gg.size; go_grown) hw11
        clear gw10 zw10_0 cw10_0_0 cw10_0_1 zw10_1 cw10_1_0 cw10_1_1
        clear hw11
        try simp only [Act.put, List.setIfInBounds_toArray, List.set_cons_zero, List.set_cons_succ]
        repeat (first | (refine Od.wpO_skip (by simp only [List.getElem?_toArray, List.getElem?_cons_succ, List.getElem?_cons_zero] <;> rfl) rfl ?_; simp only [Act.put, List.setIfInBounds_toArray, List.set_cons_zero, List.set_cons_succ]) | (refine Od.wpO_pure (by simp only [List.getElem?_toArray, List.getElem?_cons_succ, List.getElem?_cons_zero] <;> rfl) rfl ?_; apply Exists.intro; refine ⟨?_, ?_⟩; (· intro wx gx; obtain ⟨mx, rfl⟩ := spread_of_gr gx; clear gx; all_goals (apply Od.pAt_of_quiet; intro K hK; go_big_quiet_op; first | exact hK _ rfl | (apply Exists.intro; refine ⟨fun _ => ?_, ?_⟩; (· fail); exact hK _ rfl))); try simp only [Act.put, List.setIfInBounds_toArray, List.set_cons_zero, List.set_cons_succ]))
        refine Od.wpO_call (by simp only [List.getElem?_toArray, List.getElem?_cons_succ, List.getElem?_cons_zero] <;> rfl) rfl ?_
        intro QS hQS
        go_wp2_with fail
        go_at_call 9
        (with_reducible refine ((AW2.out _ gw11)).mono ?_)
        rintro e w14 ⟨rfl, hw14⟩
        go_wp2_with fail
        apply Exists.intro
        refine ⟨?_, hw14, ?_⟩
        · simp only [Act.put, List.setIfInBounds_toArray, List.set_cons_zero, List.set_cons_succ]; rfl
        have cw14_0_0 : w14.cell? ⟨W.heap.size, 0, none⟩ = some (.int .i64 px) := cell_gr hw14 (by go_simp)
        have cw14_0_1 : w14.cell? ⟨W.heap.size, 1, none⟩ = some (.int .i64 py) := cell_gr hw14 (by go_simp)
        have zw14_0 : W.heap.size < w14.heap.size := World.block_lt_of_cell? _ _ cw14_0_0
        have cw14_1_0 : w14.cell? ⟨wr.heap.size, 0, none⟩ = some (.int .i64 (px + x)) := cell_gr hw14 (by go_simp)
        have cw14_1_1 : w14.cell? ⟨wr.heap.size, 1, none⟩ = some (.int .i64 (py + y)) := cell_gr hw14 (by go_simp)
        have zw14_1 : wr.heap.size < w14.heap.size := World.block_lt_of_cell? _ _ cw14_1_0
        have gw14 : Gr wr w14 := Gr.trans (by have gg := gw11; have gs := gg.size; go_grown) hw14
        clear gw11 zw11_0 cw11_0_0 cw11_0_1 zw11_1 cw11_1_0 cw11_1_1
        clear hw14
        try simp only [Act.put, List.setIfInBounds_toArray, List.set_cons_zero, List.set_cons_succ]
        repeat (first | (refine Od.wpO_skip (by simp only [List.getElem?_toArray, List.getElem?_cons_succ, List.getElem?_cons_zero] <;> rfl) rfl ?_; simp only [Act.put, List.setIfInBounds_toArray, List.set_cons_zero, List.set_cons_succ]) | (refine Od.wpO_pure (by simp only [List.getElem?_toArray, List.getElem?_cons_succ, List.getElem?_cons_zero] <;> rfl) rfl ?_; apply Exists.intro; refine ⟨?_, ?_⟩; (· intro wx gx; obtain ⟨mx, rfl⟩ := spread_of_gr gx; clear gx; all_goals (apply Od.pAt_of_quiet; intro K hK; go_big_quiet_op; first | exact hK _ rfl | (apply Exists.intro; refine ⟨fun _ => ?_, ?_⟩; (· fail); exact hK _ rfl))); try simp only [Act.put, List.setIfInBounds_toArray, List.set_cons_zero, List.set_cons_succ]))
        refine Od.wpO_nil (hKQ _ _ ?_)
        clear hKQ KQ
        go_wp2_with fail
        go_ret
        exact ⟨rfl, Gr.trans GW0.out gw14⟩
theorem walk_RingMoves (W : World) (v : Value) (px py x y : Int) (h : ∃ (n : Nat) (X Y : Nat → Int), Pts W v n X Y) {p1 : Prop} (_ : p1) (hx : -9223372036854775808 ≤ x ∧ x ≤ 9223372036854775807) (hy : -9223372036854775808 ≤ y ∧ y ≤ 9223372036854775807) (hE : ErrT W) :
    Calls Tryd.prog 7 #[v, .agg #[.int .i64 px, .int .i64 py], .int .i64 x, .int .i64 y] W fun e w' => e = .returned (.bool true) ∧ Gr W w' := by
  obtain ⟨n, X, Y, h⟩ := h
  by_cases c : n ≤ 80 ∧ (-2147483648 ≤ x ∧ x ≤ 2147483648) ∧ (-2147483648 ≤ y ∧ y ≤ 2147483648) ∧ nearB px py = true
  · exact moves_in W h c.1 px py x y c.2.2.2 c.2.1 c.2.2.1 hE
  · have AW := Lib.hid (fun w (g : Gr W w) => g5_awake w (errT_gr hE g))
    obtain ⟨ad, cap, B, off, rfl, _⟩ := h
    have CS := c_small5 ad n cap
    have CP := c_rPoint px py
    by_cases c1 : n ≤ 80
    · rw [decide_eq_true c1] at CS
      have HS := Lib.hid CS
      rcases (by omega : x < -2147483648 ∨ (¬ x < -2147483648 ∧ (2147483648 < x ∨ (¬ 2147483648 < x ∧ (y < -2147483648 ∨ (¬ y < -2147483648 ∧ (2147483648 < y ∨ ¬ 2147483648 < y))))))) with d | ⟨a1, d | ⟨a2, d | ⟨a3, d | a4⟩⟩⟩
      · have t0 : decide (x < -2147483648) = true := decide_eq_true d
        clear CS CP c c1
        go_enter Tryd.func7, Tryd.ntmps7
        go_wp2_with fail
        go_at_call 8
        refine ((HS.out _)).mono ?_
        rintro e w1 ⟨rfl, hw1⟩
        have cw1_0_0 : w1.cell? ⟨W.heap.size, 0, none⟩ = some (.int .i64 px) := cell_gr hw1 (by go_simp)
        have cw1_0_1 : w1.cell? ⟨W.heap.size, 1, none⟩ = some (.int .i64 py) := cell_gr hw1 (by go_simp)
        have zw1_0 : W.heap.size < w1.heap.size := World.block_lt_of_cell? _ _ cw1_0_0
        have gw1 : Gr W w1 := Gr.trans (by go_grown) hw1
        clear hw1
        go_wp2_with fail
        go_at_call 9
        refine ((AW.out _ gw1)).mono ?_
        rintro e w3 ⟨rfl, hw3⟩
        have cw3_0_0 : w3.cell? ⟨W.heap.size, 0, none⟩ = some (.int .i64 px) := cell_gr hw3 (by go_simp)
        have cw3_0_1 : w3.cell? ⟨W.heap.size, 1, none⟩ = some (.int .i64 py) := cell_gr hw3 (by go_simp)
        have zw3_0 : W.heap.size < w3.heap.size := World.block_lt_of_cell? _ _ cw3_0_0
        have gw3 : Gr W w3 := Gr.trans (by have gg := gw1; have gs := gg.size; go_grown) hw3
        clear hw3 gw1 zw1_0 cw1_0_0 cw1_0_1
        go_wp2_with fail
        go_ret
        exact ⟨rfl, gw3⟩
      · have t0 : decide (x < -2147483648) = false := decide_eq_false a1
        have t1 : decide (2147483648 < x) = true := decide_eq_true d
        clear CS CP c c1
        go_enter Tryd.func7, Tryd.ntmps7
        go_wp2_with fail
        go_at_call 8
        refine ((HS.out _)).mono ?_
        rintro e w1 ⟨rfl, hw1⟩
        have cw1_0_0 : w1.cell? ⟨W.heap.size, 0, none⟩ = some (.int .i64 px) := cell_gr hw1 (by go_simp)
        have cw1_0_1 : w1.cell? ⟨W.heap.size, 1, none⟩ = some (.int .i64 py) := cell_gr hw1 (by go_simp)
        have zw1_0 : W.heap.size < w1.heap.size := World.block_lt_of_cell? _ _ cw1_0_0
        have gw1 : Gr W w1 := Gr.trans (by go_grown) hw1
        clear hw1
        go_wp2_with fail
        go_at_call 9
        refine ((AW.out _ gw1)).mono ?_
        rintro e w3 ⟨rfl, hw3⟩
        have cw3_0_0 : w3.cell? ⟨W.heap.size, 0, none⟩ = some (.int .i64 px) := cell_gr hw3 (by go_simp)
        have cw3_0_1 : w3.cell? ⟨W.heap.size, 1, none⟩ = some (.int .i64 py) := cell_gr hw3 (by go_simp)
        have zw3_0 : W.heap.size < w3.heap.size := World.block_lt_of_cell? _ _ cw3_0_0
        have gw3 : Gr W w3 := Gr.trans (by have gg := gw1; have gs := gg.size; go_grown) hw3
        clear hw3 gw1 zw1_0 cw1_0_0 cw1_0_1
        go_wp2_with fail
        go_ret
        exact ⟨rfl, gw3⟩
      · have t0 : decide (x < -2147483648) = false := decide_eq_false a1
        have t1 : decide (2147483648 < x) = false := decide_eq_false a2
        have t2 : decide (y < -2147483648) = true := decide_eq_true d
        clear CS CP c c1
        go_enter Tryd.func7, Tryd.ntmps7
        go_wp2_with fail
        go_at_call 8
        refine ((HS.out _)).mono ?_
        rintro e w1 ⟨rfl, hw1⟩
        have cw1_0_0 : w1.cell? ⟨W.heap.size, 0, none⟩ = some (.int .i64 px) := cell_gr hw1 (by go_simp)
        have cw1_0_1 : w1.cell? ⟨W.heap.size, 1, none⟩ = some (.int .i64 py) := cell_gr hw1 (by go_simp)
        have zw1_0 : W.heap.size < w1.heap.size := World.block_lt_of_cell? _ _ cw1_0_0
        have gw1 : Gr W w1 := Gr.trans (by go_grown) hw1
        clear hw1
        go_wp2_with fail
        go_at_call 9
        refine ((AW.out _ gw1)).mono ?_
        rintro e w3 ⟨rfl, hw3⟩
        have cw3_0_0 : w3.cell? ⟨W.heap.size, 0, none⟩ = some (.int .i64 px) := cell_gr hw3 (by go_simp)
        have cw3_0_1 : w3.cell? ⟨W.heap.size, 1, none⟩ = some (.int .i64 py) := cell_gr hw3 (by go_simp)
        have zw3_0 : W.heap.size < w3.heap.size := World.block_lt_of_cell? _ _ cw3_0_0
        have gw3 : Gr W w3 := Gr.trans (by have gg := gw1; have gs := gg.size; go_grown) hw3
        clear hw3 gw1 zw1_0 cw1_0_0 cw1_0_1
        go_wp2_with fail
        go_ret
        exact ⟨rfl, gw3⟩
      · have t0 : decide (x < -2147483648) = false := decide_eq_false a1
        have t1 : decide (2147483648 < x) = false := decide_eq_false a2
        have t2 : decide (y < -2147483648) = false := decide_eq_false a3
        have t3 : decide (2147483648 < y) = true := decide_eq_true d
        clear CS CP c c1
        go_enter Tryd.func7, Tryd.ntmps7
        go_wp2_with fail
        go_at_call 8
        refine ((HS.out _)).mono ?_
        rintro e w1 ⟨rfl, hw1⟩
        have cw1_0_0 : w1.cell? ⟨W.heap.size, 0, none⟩ = some (.int .i64 px) := cell_gr hw1 (by go_simp)
        have cw1_0_1 : w1.cell? ⟨W.heap.size, 1, none⟩ = some (.int .i64 py) := cell_gr hw1 (by go_simp)
        have zw1_0 : W.heap.size < w1.heap.size := World.block_lt_of_cell? _ _ cw1_0_0
        have gw1 : Gr W w1 := Gr.trans (by go_grown) hw1
        clear hw1
        go_wp2_with fail
        go_at_call 9
        refine ((AW.out _ gw1)).mono ?_
        rintro e w3 ⟨rfl, hw3⟩
        have cw3_0_0 : w3.cell? ⟨W.heap.size, 0, none⟩ = some (.int .i64 px) := cell_gr hw3 (by go_simp)
        have cw3_0_1 : w3.cell? ⟨W.heap.size, 1, none⟩ = some (.int .i64 py) := cell_gr hw3 (by go_simp)
        have zw3_0 : W.heap.size < w3.heap.size := World.block_lt_of_cell? _ _ cw3_0_0
        have gw3 : Gr W w3 := Gr.trans (by have gg := gw1; have gs := gg.size; go_grown) hw3
        clear hw3 gw1 zw1_0 cw1_0_0 cw1_0_1
        go_wp2_with fail
        go_ret
        exact ⟨rfl, gw3⟩
      · have t0 : decide (x < -2147483648) = false := decide_eq_false a1
        have t1 : decide (2147483648 < x) = false := decide_eq_false a2
        have t2 : decide (y < -2147483648) = false := decide_eq_false a3
        have t3 : decide (2147483648 < y) = false := decide_eq_false a4
        have hq : nearB px py = false := by
          cases hp : nearB px py
          · rfl
          · exact absurd ⟨c1, by omega, by omega, hp⟩ c
        rw [hq] at CP
        have HP := Lib.hid CP
        clear hq
        clear CS CP c c1
        go_enter Tryd.func7, Tryd.ntmps7
        go_wp2_with fail
        go_at_call 8
        refine ((HS.out _)).mono ?_
        rintro e w1 ⟨rfl, hw1⟩
        have cw1_0_0 : w1.cell? ⟨W.heap.size, 0, none⟩ = some (.int .i64 px) := cell_gr hw1 (by go_simp)
        have cw1_0_1 : w1.cell? ⟨W.heap.size, 1, none⟩ = some (.int .i64 py) := cell_gr hw1 (by go_simp)
        have zw1_0 : W.heap.size < w1.heap.size := World.block_lt_of_cell? _ _ cw1_0_0
        have gw1 : Gr W w1 := Gr.trans (by go_grown) hw1
        clear hw1
        go_wp2_with fail
        go_at_call 28
        refine ((HP.out _)).mono ?_
        rintro e w2 ⟨rfl, hw2⟩
        have cw2_0_0 : w2.cell? ⟨W.heap.size, 0, none⟩ = some (.int .i64 px) := cell_gr hw2 (by go_simp)
        have cw2_0_1 : w2.cell? ⟨W.heap.size, 1, none⟩ = some (.int .i64 py) := cell_gr hw2 (by go_simp)
        have zw2_0 : W.heap.size < w2.heap.size := World.block_lt_of_cell? _ _ cw2_0_0
        have gw2 : Gr W w2 := Gr.trans (by have gg := gw1; have gs := gg.size; go_grown) hw2
        clear hw2 gw1 zw1_0 cw1_0_0 cw1_0_1
        go_wp2_with fail
        go_at_call 9
        refine ((AW.out _ gw2)).mono ?_
        rintro e w3 ⟨rfl, hw3⟩
        have cw3_0_0 : w3.cell? ⟨W.heap.size, 0, none⟩ = some (.int .i64 px) := cell_gr hw3 (by go_simp)
        have cw3_0_1 : w3.cell? ⟨W.heap.size, 1, none⟩ = some (.int .i64 py) := cell_gr hw3 (by go_simp)
        have zw3_0 : W.heap.size < w3.heap.size := World.block_lt_of_cell? _ _ cw3_0_0
        have gw3 : Gr W w3 := Gr.trans (by have gg := gw2; have gs := gg.size; go_grown) hw3
        clear hw3 gw2 zw2_0 cw2_0_0 cw2_0_1
        go_wp2_with fail
        go_ret
        exact ⟨rfl, gw3⟩
    · rw [decide_eq_false c1] at CS
      have HS := Lib.hid CS
      clear CS CP c c1
      go_enter Tryd.func7, Tryd.ntmps7
      go_wp2_with fail
      go_at_call 8
      refine ((HS.out _)).mono ?_
      rintro e w1 ⟨rfl, hw1⟩
      have cw1_0_0 : w1.cell? ⟨W.heap.size, 0, none⟩ = some (.int .i64 px) := cell_gr hw1 (by go_simp)
      have cw1_0_1 : w1.cell? ⟨W.heap.size, 1, none⟩ = some (.int .i64 py) := cell_gr hw1 (by go_simp)
      have zw1_0 : W.heap.size < w1.heap.size := World.block_lt_of_cell? _ _ cw1_0_0
      have gw1 : Gr W w1 := Gr.trans (by go_grown) hw1
      clear hw1
      go_wp2_with fail
      go_at_call 9
      refine ((AW.out _ gw1)).mono ?_
      rintro e w3 ⟨rfl, hw3⟩
      have cw3_0_0 : w3.cell? ⟨W.heap.size, 0, none⟩ = some (.int .i64 px) := cell_gr hw3 (by go_simp)
      have cw3_0_1 : w3.cell? ⟨W.heap.size, 1, none⟩ = some (.int .i64 py) := cell_gr hw3 (by go_simp)
      have zw3_0 : W.heap.size < w3.heap.size := World.block_lt_of_cell? _ _ cw3_0_0
      have gw3 : Gr W w3 := Gr.trans (by have gg := gw1; have gs := gg.size; go_grown) hw3
      clear hw3 gw1 zw1_0 cw1_0_0 cw1_0_1
      go_wp2_with fail
      go_ret
      exact ⟨rfl, gw3⟩
end Go.Proofs.YtfamocpbmbhmbaaDoor
