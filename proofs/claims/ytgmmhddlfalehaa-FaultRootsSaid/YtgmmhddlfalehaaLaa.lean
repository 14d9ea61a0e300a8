/- FaultRoots -/
import Derived.Test.YtgmmhddlfalehaaLz
namespace Go.Proofs.Ytgmmhddlfalehaa
set_option linter.unusedVariables false
set_option linter.unusedSimpArgs false
open Go.ChangeShapes Go.WideShapes Go.ChangeAt Go.RowKit

def Nd.inK : Nd → Bool
  | .nil => false
  | .mk k _ _ _ _ => decide (1 ≤ k ∧ k ≤ 6)
/-- Does one go on? -/
def Nd.goes : Nd → Bool
  | .nil => false
  | .mk k _ _ n kids => (decide (k = 2) || decide (k = 6)) && decide (0 < n) && (kids 0).inK
def Nd.rt : Nd → Nd
  | .nil => .nil
  | .mk k N op n kids => if (Nd.mk k N op n kids).goes = true then (kids 0).rt else .mk k N op n kids
def Nd.dp : Nd → Nat
  | .nil => 0
  | .mk k N op n kids => if (Nd.mk k N op n kids).goes = true then 1 + (kids 0).dp else 0
theorem mv_isNil {Z : Nat → Prop} {w : World} {T : Nd} {E : Er} {v : Value} (h : MV Z w T E v) : E.isNil = !T.inK := by
  cases T with
  | nil => exact h.elim
  | mk kind N op n kids =>
    show E.isNil = !decide (1 ≤ kind ∧ kind ≤ 6)
    rcases h with ⟨hk, rfl, rfl⟩ | ⟨hk, F, u, e, rfl, rfl, h3, h4, h5⟩ | ⟨hk, es, P, ad, cap, B, off, rfl, rfl, h3, h4, h5, h6, h7, h8⟩ | ⟨hk, P, rfl, rfl, h3, h4⟩ | ⟨hk, rfl, rfl⟩ | ⟨hk, P, u, e, rfl, rfl, h3, h4, h5⟩ | ⟨hk, rfl, rfl⟩
    · rw [decide_eq_true (by omega)]; rfl
    · rw [decide_eq_true (by omega)]; rfl
    · rw [decide_eq_true (by omega)]; rfl
    · rw [decide_eq_true (by omega)]; rfl
    · rw [decide_eq_true (by omega)]; rfl
    · rw [decide_eq_true (by omega)]; rfl
    · rw [decide_eq_false (by omega)]; rfl
theorem nd_rt_no {T : Nd} (h : T.goes = false) : T.rt = T ∧ T.dp = 0 := by
  cases T with
  | nil => exact ⟨rfl, rfl⟩
  | mk k N op n kids => exact ⟨if_neg (by rw [h]; decide), if_neg (by rw [h]; decide)⟩
theorem nd_rt_yes {k N : Int} {op : ByteArray} {n : Nat} {kids : Nat → Nd} (h : (Nd.mk k N op n kids).goes = true) : (Nd.mk k N op n kids).rt = (kids 0).rt ∧ (Nd.mk k N op n kids).dp = 1 + (kids 0).dp := ⟨if_pos h, if_pos h⟩
theorem nd_dp_le : ∀ T : Nd, T.dp ≤ T.cnt := by
  intro T
  induction T with
  | nil => exact Nat.le_refl _
  | mk k N op n kids ih =>
    show (if (Nd.mk k N op n kids).goes = true then 1 + (kids 0).dp else 0) ≤ 1 + erSum (fun i => (kids i).cnt) n
    split
    · rename_i hg
      have hn : 0 < n := by
        unfold Nd.goes at hg
        simp only [Bool.and_eq_true, decide_eq_true_eq] at hg
        exact hg.1.2
      have a := ih 0
      have b : (kids 0).cnt ≤ erSum (fun i => (kids i).cnt) n := erSum_le (fun i => (kids i).cnt) n 0 hn
      omega
    · omega
theorem mv_root {Z : Nat → Prop} {w : World} : ∀ (T : Nd) {E : Er} {v : Value}, MV Z w T E v → (∃ v', MV Z w T.rt E.root v') ∧ E.deep = T.dp := by
  intro T
  induction T with
  | nil => intro E v h; exact h.elim
  | mk kind N op n kids ih =>
    intro E v h
    have h0 := h
    have stop : (Nd.mk kind N op n kids).goes = false → E.root = E → E.deep = 0 → (∃ v', MV Z w (Nd.mk kind N op n kids).rt E.root v') ∧ E.deep = (Nd.mk kind N op n kids).dp := fun hg h1 h2 => by
      obtain ⟨a, b⟩ := nd_rt_no hg
      rw [a, b, h1]
      exact ⟨⟨v, h0⟩, h2⟩
    have gno : ¬ (kind = 2 ∨ kind = 6) → (Nd.mk kind N op n kids).goes = false := fun h => by
      show ((decide (kind = 2) || decide (kind = 6)) && decide (0 < n) && (kids 0).inK) = false
      rw [decide_eq_false (fun e => h (Or.inl e)), decide_eq_false (fun e => h (Or.inr e))]
      rfl
    have kid : ∀ e u, (kind = 2 ∨ kind = 6) → ((0 < n ∧ MV Z w (kids 0) e u) ∨ (n = 0 ∧ e = .nil ∧ u = .nilIface)) → (E.root = if e.isNil then E else e.root) → (E.deep = if e.isNil then 0 else 1 + e.deep) → (∃ v', MV Z w (Nd.mk kind N op n kids).rt E.root v') ∧ E.deep = (Nd.mk kind N op n kids).dp := fun e u hk h5 hr hd => by
      have hkk : (decide (kind = 2) || decide (kind = 6)) = true := by rcases hk with h | h <;> simp [h]
      rcases h5 with ⟨hn, hm⟩ | ⟨hn, rfl, -⟩
      · have hi := mv_isNil hm
        have hg : (Nd.mk kind N op n kids).goes = (kids 0).inK := by
          show ((decide (kind = 2) || decide (kind = 6)) && decide (0 < n) && (kids 0).inK) = _
          rw [hkk, decide_eq_true hn]
          rfl
        cases hin : (kids 0).inK with
        | true =>
          rw [hin] at hi hg
          rw [hi] at hr hd
          obtain ⟨a, b⟩ := nd_rt_yes hg
          obtain ⟨⟨v', hv⟩, hdd⟩ := ih 0 hm
          rw [a, b, hr, hd]
          exact ⟨⟨v', hv⟩, by simp [hdd]⟩
        | false =>
          rw [hin] at hi hg
          rw [hi] at hr hd
          exact stop hg (by simpa using hr) (by simpa using hd)
      · refine stop ?_ (by simpa [Er.isNil] using hr) (by simpa [Er.isNil] using hd)
        show ((decide (kind = 2) || decide (kind = 6)) && decide (0 < n) && (kids 0).inK) = false
        rw [hn, decide_eq_false (Nat.lt_irrefl 0), Bool.and_false, Bool.false_and]
    rcases h with ⟨hk, rfl, rfl⟩ | ⟨hk, F, u, e, rfl, rfl, h3, h4, h5⟩ | ⟨hk, es, P, ad, cap, B, off, rfl, rfl, h3, h4, h5, h6, h7, h8⟩ | ⟨hk, P, rfl, rfl, h3, h4⟩ | ⟨hk, rfl, rfl⟩ | ⟨hk, P, u, e, rfl, rfl, h3, h4, h5⟩ | ⟨hk, rfl, rfl⟩
    · exact stop (gno (by omega)) rfl rfl
    · exact kid e u (by omega) h5 rfl rfl
    · exact stop (gno (by omega)) rfl rfl
    · exact stop (gno (by omega)) rfl rfl
    · exact stop (gno (by omega)) rfl rfl
    · exact kid e u (by omega) h5 rfl rfl
    · exact stop (gno (by omega)) rfl rfl
theorem mv_one {Z : Nat → Prop} {w : World} {N : Int} {op : ByteArray} {n : Nat} {kids : Nat → Nd} {E : Er} {v : Value} (h : MV Z w (.mk 1 N op n kids) E v) : E = .num N := by
  rcases h with ⟨hk, rfl, rfl⟩ | ⟨hk, _⟩ | ⟨hk, _⟩ | ⟨hk, _⟩ | ⟨hk, _⟩ | ⟨hk, _⟩ | ⟨hk, _⟩
  · rfl
  all_goals omega
theorem mv_four {Z : Nat → Prop} {w : World} {N : Int} {op : ByteArray} {n : Nat} {kids : Nat → Nd} {E : Er} {v : Value} (h : MV Z w (.mk 4 N op n kids) E v) : ∃ P, E = .plain 45 (.pointer (some ⟨P, 0, none⟩)) ∧ w.cell? ⟨P, 0, none⟩ = some (.string op) := by
  rcases h with ⟨hk, _⟩ | ⟨hk, _⟩ | ⟨hk, _⟩ | ⟨hk, P, rfl, rfl, h3, h4⟩ | ⟨hk, _⟩ | ⟨hk, _⟩ | ⟨hk, _⟩
  case inr.inr.inr.inl => exact ⟨P, rfl, h4⟩
  all_goals omega
theorem ta_isP (v : Value) (xT : TypeId) (w : World) : (Instr.typeAssert (.iface 45 v) xT 45 true).run Try.prog w = .ok (.tuple #[v, .bool true]) w := by
  simp [Instr.typeAssert, run_underlying Try.underlying45]
/-- Where the law's own way stands. -/
def RS (W w1 w : World) (M : Nat) (T : Nd) (k : Nat) (T' : Nd) : Prop := (∃ c0 c1 c2 c3, w.heap[M]? = some (.cells #[c0, c1, c2, c3] 24 (0, 0)) ∧ NdAt W T' [c0, c1, c2, c3]) ∧ T.rt = T'.rt ∧ T.dp = k + T'.dp ∧ Gr w1 w
theorem goes_false {kd Nn : Int} {o : ByteArray} {nn : Nat} {kk : Nat → Nd} (h : (Nd.mk kd Nn o nn kk).goes = false) : (kd ≠ 2 ∧ kd ≠ 6) ∨ ((kd = 2 ∨ kd = 6) ∧ (nn = 0 ∨ (0 < nn ∧ (kk 0).inK = false))) := by
  by_cases h1 : kd = 2 ∨ kd = 6
  · refine Or.inr ⟨h1, ?_⟩
    by_cases hn : 0 < nn
    · refine Or.inr ⟨hn, ?_⟩
      have hkk : (decide (kd = 2) || decide (kd = 6)) = true := by rcases h1 with h | h <;> simp [h]
      have h' : ((decide (kd = 2) || decide (kd = 6)) && decide (0 < nn) && (kk 0).inK) = false := h
      rw [hkk, decide_eq_true hn] at h'
      exact h'
    · exact Or.inl (by omega)
  · exact Or.inl ⟨fun e => h1 (Or.inl e), fun e => h1 (Or.inr e)⟩
theorem goes_true {kd Nn : Int} {o : ByteArray} {nn : Nat} {kk : Nat → Nd} (h : (Nd.mk kd Nn o nn kk).goes = true) : (kd = 2 ∨ kd = 6) ∧ 0 < nn ∧ (kk 0).inK = true := by
  have h' : ((decide (kd = 2) || decide (kd = 6)) && decide (0 < nn) && (kk 0).inK) = true := h
  simp only [Bool.and_eq_true, Bool.or_eq_true, decide_eq_true_eq] at h'
  exact ⟨h'.1.1, h'.1.2, h'.2⟩
set_option maxHeartbeats 4000000 in
set_option maxRecDepth 100000 in
theorem roots_core (T : Nd) (c0 c1 c2 c3 : Value) (W : World) (h : NdAt W T [c0, c1, c2, c3]) : Calls Try.prog 4 #[.agg #[c0, c1, c2, c3]] W fun e w' => e = .returned (.bool true) ∧ Gr W w' := by
  have AW := Lib.hid (fun w (g : Gr W w) => c_weight T w c0 c1 c2 c3 0 (by decide) (by decide) (ndAt_gr g h))
  have HN := Lib.hid h
  have hform : ∃ (kind N : Int) (op : ByteArray) (n : Nat) (ad : Option Addr) (cap : Nat), c0 = .int .i64 kind ∧ c1 = .int .i64 N ∧ c2 = .string op ∧ c3 = .slice ad n cap := by
    cases T with
    | nil => exact h.elim
    | mk kind N op n kids =>
      obtain ⟨ad, cap, B, off, e, -⟩ := h
      simp only [List.cons.injEq, and_true] at e
      exact ⟨kind, N, op, n, ad, cap, e⟩
  obtain ⟨kind, N, op, n, ad, cap, rfl, rfl, rfl, rfl⟩ := hform
  clear h
  go_enter Try.func4, Try.ntmps4
  go_wp2_with fail
  go_at_call 7
  refine (AW.out _ (by go_grown)).mono ?_
  rintro e w1 ⟨r, rfl, hr1, hr2, g1⟩
  have b0 : w1.cell? ⟨W.heap.size, 0, none⟩ = some (.int .i64 kind) := cell_gr g1 (by go_simp)
  have b1 : w1.cell? ⟨W.heap.size, 1, none⟩ = some (.int .i64 N) := cell_gr g1 (by go_simp)
  have b2 : w1.cell? ⟨W.heap.size, 2, none⟩ = some (.string op) := cell_gr g1 (by go_simp)
  have b3 : w1.cell? ⟨W.heap.size, 3, none⟩ = some (.slice ad n cap) := cell_gr g1 (by go_simp)
  have zb := World.block_lt_of_cell? _ _ b0
  have GW1 : Gr W w1 := Gr.trans (by go_grown) g1
  clear g1
  by_cases hw : 500 < r
  · have tr : decide ((500 : Int) < (r : Int)) = true := decide_eq_true (by omega)
    have tr2 : decide (500 < r) = true := decide_eq_true hw
    have tr3 : (500 : Int) < (r : Int) := by omega
    go_wp2_with fail
    go_at_call 8
    refine (p7_awake _).mono ?_
    rintro e w2 ⟨rfl, g2⟩
    go_wp2_with fail
    go_ret
    exact ⟨rfl, Gr.trans GW1 g2⟩
  have tr : decide ((500 : Int) < (r : Int)) = false := decide_eq_false (by omega)
  have tr2 : decide (500 < r) = false := decide_eq_false (by omega)
  have tr3 : ¬ (500 : Int) < (r : Int) := by omega
  have hcnt : T.cnt ≤ 500 := Nat.le_trans (hr2 (by omega)) (by omega)
  clear hr1 hr2
  go_wp2_with fail
  -- LOOP
  obtain ⟨M, hM⟩ : ∃ M, M = w1.heap.size := ⟨_, rfl⟩
  have HR0 : Hid (RS W w1 (w1.alloc (.cells #[.int .i64 kind, .int .i64 N, .string op, .slice ad n cap] 24)) M T 0 T) := Lib.hid ⟨⟨_, _, _, _, by rw [hM]; exact heap_alloc_new w1 _, HN.out⟩, rfl, by omega, al_grw _ _⟩
  rw [← hM]
  have hMb : w1.heap.size ≤ M := by omega
  have HB := Lib.hid (And.intro b0 (And.intro b1 (And.intro b2 b3)))
  have HC := Lib.hid hcnt
  have HGW := Lib.hid GW1
  have hdT := nd_dp_le T
  clear hM b0 b1 b2 b3 AW
  generalize w1.alloc (.cells #[.int .i64 kind, .int .i64 N, .string op, .slice ad n cap] 24) = wA at HR0 ⊢
  go_loopg [3] T.dp (fun j x wq => ∃ (k : Nat) (T' : Nd), x = .int .i64 k ∧ j = T'.dp ∧ Hid (RS W w1 wq M T k T'))
  case atStart => exact ⟨0, T, rfl, rfl, HR0⟩
  case round =>
    obtain ⟨k, T', rfl, hj, HRS⟩ := hrel
    obtain ⟨⟨d0, d1, d2, d3, hM, hN⟩, hrt, hdp, hg1⟩ := HRS.out
    cases T' with
    | nil => exact hN.elim
    | mk kd Nn o nn kk =>
      obtain ⟨ad', cp, B, off, e, -, -, -, hcp, -, hB, hK⟩ := hN
      simp only [List.cons.injEq, and_true] at e
      obtain ⟨rfl, rfl, rfl, rfl⟩ := e
      have m0 : wr.cell? ⟨M, 0, none⟩ = some (.int .i64 kd) := Hm.cell_of_heap hM 0
      have m1 : wr.cell? ⟨M, 1, none⟩ = some (.int .i64 Nn) := Hm.cell_of_heap hM 1
      have m2 : wr.cell? ⟨M, 2, none⟩ = some (.string o) := Hm.cell_of_heap hM 2
      have m3 : wr.cell? ⟨M, 3, none⟩ = some (.slice ad' nn cp) := Hm.cell_of_heap hM 3
      have f0 := Hm.frozen_of_heap hM 0
      have f1 := Hm.frozen_of_heap hM 1
      have f2 := Hm.frozen_of_heap hM 2
      have f3 := Hm.frozen_of_heap hM 3
      have zM := (Array.getElem?_eq_some_iff.1 hM).1
      have HHM := Lib.hid hM
      have hk500 : k ≤ 500 := by have := HC.out; omega
      have GW : Gr W wr := Gr.trans HGW.out hg1
      cases hgo : (Nd.mk kd Nn o nn kk).goes with
      | true =>
        obtain ⟨h26, hnn, hin⟩ := goes_true hgo
        obtain ⟨hr2, hd2⟩ := nd_rt_yes hgo
        obtain rfl := hB hnn
        obtain ⟨x0, x1, x2, x3, n0, n1, n2, n3, hk0⟩ := hK 0 hnn
        simp only [Nat.zero_mul, Nat.add_zero] at n0 n1 n2 n3
        cases hkk : kk 0 with
        | nil => rw [hkk] at hin; cases hin
        | mk qk qN qo qn qkids =>
          rw [hkk] at hk0 hin hr2 hd2
          have HK0 := Lib.hid hk0
          obtain ⟨qad, qcp, qB, qoff, e, -⟩ := hk0
          simp only [List.cons.injEq, and_true] at e
          obtain ⟨rfl, rfl, rfl, rfl⟩ := e
          have hq : 1 ≤ qk ∧ qk ≤ 6 := of_decide_eq_true hin
          have tq1 : decide ((1 : Int) ≤ qk) = true := decide_eq_true hq.1
          have tq2 : decide (qk ≤ (6 : Int)) = true := decide_eq_true hq.2
          obtain ⟨q1, q2⟩ := hq
          have tn1 : decide ((0 : Int) < (nn : Int)) = true := decide_eq_true (by omega)
          have tn2 : decide (0 < nn) = true := decide_eq_true hnn
          have tn3 : (0 : Int) < (nn : Int) := by omega
          have tn4 : (0 : Int) < (cp : Int) := by omega
          have y0 := cell_gr GW n0
          have y1 := cell_gr GW n1
          have y2 := cell_gr GW n2
          have y3 := cell_gr GW n3
          have zB := World.block_lt_of_cell? _ _ y0
          have HRR := Lib.hid (And.intro (hrt.trans hr2) (show T.dp = (k + 1) + (Nd.mk qk qN qo qn qkids).dp by omega))
          have HG1 := Lib.hid hg1
          have hlt : (Nd.mk qk qN qo qn qkids).dp < gk := by omega
          clear hrt hdp hg1 hr2 hd2 hK hB n0 n1 n2 n3 hin hkk hgo hM hj GW
          rcases h26 with rfl | rfl
          all_goals
            go_wp2_with fail
            go_roundg ((Nd.mk qk qN qo qn qkids).dp)
            case measure => exact hlt
            case rel => exact ⟨k + 1, _, by go_num, rfl, Lib.hid ⟨⟨_, _, _, _, Hm.heap_set_same (i := 3) (v := .slice qad qn qcp) (Hm.heap_set_same (i := 2) (v := .string qo) (Hm.heap_set_same (i := 1) (v := .int .i64 qN) (Hm.heap_set_same (i := 0) (v := .int .i64 qk) HHM.out))), HK0.out⟩, HRR.out.1, HRR.out.2, Below.setCell (Below.setCell (Below.setCell (Below.setCell HG1.out hMb _) hMb _) hMb _) hMb _⟩⟩
      | false =>
        obtain ⟨ert, edp⟩ := nd_rt_no hgo
        rw [ert] at hrt
        have hdk : T.dp = k := by omega
        have HRT := Lib.hid (And.intro hrt hdk)
        have AM := Lib.hid (fun w (g : Gr W w) => c_made T (Nat.le_trans HC.out (by decide)) w _ _ _ _ (ndAt_gr g HN.out))
        have b0 := cell_gr hg1 HB.out.1
        have b1 := cell_gr hg1 HB.out.2.1
        have b2 := cell_gr hg1 HB.out.2.2.1
        have b3 := cell_gr hg1 HB.out.2.2.2
        have hgf := goes_false hgo
        have HGWr := Lib.hid GW
        have tkk : ((k : Int) != (k : Int)) = false := bne_self_eq_false _
        have tkk2 : ((k : Int) == (k : Int)) = true := beq_self_eq_true _
        have tz2 := ba_eqL o
        have tN : (Nn == Nn) = true := beq_self_eq_true _
        clear hrt hdp hdk ert edp hgo hj hM
        rcases hgf with ⟨hn2, hn6⟩ | ⟨h26, hkid⟩
        · have e2 : (kd == 2) = false := by simpa using hn2
          have e6 : (kd == 6) = false := by simpa using hn6
          by_cases hk1 : kd = 1
          · subst hk1
            go_wp2_with fail
            go_at_call 9
            refine (AM.out _ HGWr.out).mono ?_
            rintro e w2 ⟨E, v, rfl, hm, g2⟩
            have hE := mv_erT _ hm
            obtain ⟨⟨v', hr⟩, hd⟩ := mv_root _ hm
            rw [HRT.out.1] at hr
            rw [HRT.out.2] at hd
            have hsz : E.size ≤ 400000 := by have := mv_size _ hm; have := HC.out; omega
            have AR := Lib.hid (c_fRoot w2 hE hsz)
            have AD0 : ∀ w, Gr w2 w → Calls Try.prog 16 #[v] w fun e w' => e = .returned (.int .i64 (k : Nat)) ∧ Gr w w' := fun w g => by
              have := c_fDeep w (erT_gr g hE) hsz
              rw [hd] at this
              exact this
            have AD := Lib.hid AD0
            have G2 := Lib.hid g2
            have HNL := Lib.hid (mv_one hr)
            clear AD0 hE hm hr hd hsz g2
            go_wp2_with fail
            go_at_call 15
            refine (AR.out).mono ?_
            rintro e w3 ⟨u, rfl, hu, g3⟩
            rw [HNL.out] at hu
            obtain rfl : u = .iface 30 (.int .i64 Nn) := hu
            have ht := ta_isE (.int .i64 Nn)
            have gw3 : Gr W w3 := Gr.trans HGWr.out (Gr.trans G2.out g3)
            have Gr3 : Gr wr w3 := Gr.trans G2.out g3
            have r0 := cell_gr Gr3 m0
            have r1 := cell_gr Gr3 m1
            have r2 := cell_gr Gr3 m2
            have zM3 := World.block_lt_of_cell? _ _ r0
            have HG3 := Lib.hid g3
            clear g3 Gr3 AR m0 m1 m2 m3 f0 f1 f2 f3 b0 b1 b2 b3 zM
            go_wp2_with fail
            try simp only [List.append]
            refine Od.wp_region_ord [(0, false), (2, false), (1, true), (3, false), (4, false), (5, false), (6, false), (7, false), (8, false), (9, false), (10, false), (11, false), (12, false), (13, false), (14, false), (15, false), (16, false)] (by kernel_rfl) (by kernel_rfl) ?_
            intro w4 hw4 KQ hKQ
            have cw4_0_0 : w4.cell? ⟨M, 0, none⟩ = some (.int .i64 1) := cell_gr hw4 (by go_simp)
            have cw4_0_1 : w4.cell? ⟨M, 1, none⟩ = some (.int .i64 Nn) := cell_gr hw4 (by go_simp)
            have cw4_0_2 : w4.cell? ⟨M, 2, none⟩ = some (.string o) := cell_gr hw4 (by go_simp)
            have zw4_0 : M < w4.heap.size := World.block_lt_of_cell? _ _ cw4_0_0
            have gw4 : Gr w3 w4 := Gr.trans (by go_grown) hw4
            skip
            clear hw4
            repeat (first | (refine Od.wpO_skip (by simp only [List.getElem?_toArray, List.getElem?_cons_succ, List.getElem?_cons_zero] <;> rfl) rfl ?_; simp only [Act.put, List.setIfInBounds_toArray, List.set_cons_zero, List.set_cons_succ]) | (refine Od.wpO_pure (by simp only [List.getElem?_toArray, List.getElem?_cons_succ, List.getElem?_cons_zero] <;> rfl) rfl ?_; apply Exists.intro; refine ⟨?_, ?_⟩; (· intro wx gx; obtain ⟨mx, rfl⟩ := spread_of_gr gx; clear gx; all_goals (apply Od.pAt_of_quiet; intro K hK; go_big_quiet_op; first | exact hK _ rfl | (apply Exists.intro; refine ⟨fun _ => ?_, ?_⟩; (· fail); exact hK _ rfl))); try simp only [Act.put, List.setIfInBounds_toArray, List.set_cons_zero, List.set_cons_succ]))
            refine Od.wpO_call (by simp only [List.getElem?_toArray, List.getElem?_cons_succ, List.getElem?_cons_zero] <;> rfl) rfl ?_
            intro QS hQS
            go_wp2_with fail
            go_at_call 16
            (with_reducible refine ((AD.out _ (Gr.trans HG3.out gw4))).mono ?_)
            rintro e w5 ⟨rfl, hw5⟩
            go_wp2_with fail
            apply Exists.intro
            refine ⟨?_, hw5, ?_⟩
            · simp only [Act.put, List.setIfInBounds_toArray, List.set_cons_zero, List.set_cons_succ]; rfl
            have cw5_0_0 : w5.cell? ⟨M, 0, none⟩ = some (.int .i64 1) := cell_gr hw5 (by go_simp)
            have cw5_0_1 : w5.cell? ⟨M, 1, none⟩ = some (.int .i64 Nn) := cell_gr hw5 (by go_simp)
            have cw5_0_2 : w5.cell? ⟨M, 2, none⟩ = some (.string o) := cell_gr hw5 (by go_simp)
            have zw5_0 : M < w5.heap.size := World.block_lt_of_cell? _ _ cw5_0_0
            have gw5 : Gr w3 w5 := Gr.trans (by have gg := gw4; have gs := gg.size; go_grown) hw5
            clear gw4 zw4_0 cw4_0_0 cw4_0_1 cw4_0_2
            clear hw5
            try simp only [Act.put, List.setIfInBounds_toArray, List.set_cons_zero, List.set_cons_succ]
            repeat (first | (refine Od.wpO_skip (by simp only [List.getElem?_toArray, List.getElem?_cons_succ, List.getElem?_cons_zero] <;> rfl) rfl ?_; simp only [Act.put, List.setIfInBounds_toArray, List.set_cons_zero, List.set_cons_succ]) | (refine Od.wpO_pure (by simp only [List.getElem?_toArray, List.getElem?_cons_succ, List.getElem?_cons_zero] <;> rfl) rfl ?_; apply Exists.intro; refine ⟨?_, ?_⟩; (· intro wx gx; obtain ⟨mx, rfl⟩ := spread_of_gr gx; clear gx; all_goals (apply Od.pAt_of_quiet; intro K hK; go_big_quiet_op; first | exact hK _ rfl | (apply Exists.intro; refine ⟨fun _ => ?_, ?_⟩; (· fail); exact hK _ rfl))); try simp only [Act.put, List.setIfInBounds_toArray, List.set_cons_zero, List.set_cons_succ]))
            refine Od.wpO_nil (hKQ _ _ ?_)
            clear hKQ KQ
            go_wp2_with fail
            go_at_call 8
            refine (p7_awake _).mono ?_
            rintro e w6 ⟨rfl, g6⟩
            go_wp2_with fail
            go_ret
            exact ⟨rfl, Gr.trans gw3 (Gr.trans gw5 g6)⟩
          by_cases hk4 : kd = 4
          · subst hk4
            go_wp2_with fail
            go_at_call 9
            refine (AM.out _ HGWr.out).mono ?_
            rintro e w2 ⟨E, v, rfl, hm, g2⟩
            have hE := mv_erT _ hm
            obtain ⟨⟨v', hr⟩, hd⟩ := mv_root _ hm
            rw [HRT.out.1] at hr
            rw [HRT.out.2] at hd
            have hsz : E.size ≤ 400000 := by have := mv_size _ hm; have := HC.out; omega
            have AR := Lib.hid (c_fRoot w2 hE hsz)
            have AD0 : ∀ w, Gr w2 w → Calls Try.prog 16 #[v] w fun e w' => e = .returned (.int .i64 (k : Nat)) ∧ Gr w w' := fun w g => by
              have := c_fDeep w (erT_gr g hE) hsz
              rw [hd] at this
              exact this
            have AD := Lib.hid AD0
            have G2 := Lib.hid g2
            obtain ⟨Pp, hp1, hp2⟩ := mv_four hr
            have HNL := Lib.hid hp1
            clear AD0 hE hm hr hd hsz g2
            go_wp2_with fail
            go_at_call 15
            refine (AR.out).mono ?_
            rintro e w3 ⟨u, rfl, hu, g3⟩
            rw [HNL.out] at hu
            obtain ⟨rfl, -⟩ := hu
            have ht := ta_isP (.pointer (some ⟨Pp, 0, none⟩))
            have p3 := cell_gr g3 hp2
            have zp3 := World.block_lt_of_cell? _ _ p3
            clear hp2
            have gw3 : Gr W w3 := Gr.trans HGWr.out (Gr.trans G2.out g3)
            have Gr3 : Gr wr w3 := Gr.trans G2.out g3
            have r0 := cell_gr Gr3 m0
            have r1 := cell_gr Gr3 m1
            have r2 := cell_gr Gr3 m2
            have zM3 := World.block_lt_of_cell? _ _ r0
            have HG3 := Lib.hid g3
            clear g3 Gr3 AR m0 m1 m2 m3 f0 f1 f2 f3 b0 b1 b2 b3 zM
            go_wp2_with fail
            try simp only [List.append]
            refine Od.wp_region_ord [(0, false), (2, false), (1, true), (3, false), (4, false), (5, false), (6, false), (7, false), (8, false), (9, false), (10, false), (11, false), (12, false), (13, false), (14, false), (15, false), (16, false)] (by kernel_rfl) (by kernel_rfl) ?_
            intro w4 hw4 KQ hKQ
            have cw4_0_0 : w4.cell? ⟨M, 0, none⟩ = some (.int .i64 4) := cell_gr hw4 (by go_simp)
            have cw4_0_1 : w4.cell? ⟨M, 1, none⟩ = some (.int .i64 Nn) := cell_gr hw4 (by go_simp)
            have cw4_0_2 : w4.cell? ⟨M, 2, none⟩ = some (.string o) := cell_gr hw4 (by go_simp)
            have zw4_0 : M < w4.heap.size := World.block_lt_of_cell? _ _ cw4_0_0
            have cw4_1_0 : w4.cell? ⟨Pp, 0, none⟩ = some (.string o) := cell_gr hw4 (by go_simp)
            have zw4_1 : Pp < w4.heap.size := World.block_lt_of_cell? _ _ cw4_1_0
            have gw4 : Gr w3 w4 := Gr.trans (by go_grown) hw4
            skip
            clear hw4
            repeat (first | (refine Od.wpO_skip (by simp only [List.getElem?_toArray, List.getElem?_cons_succ, List.getElem?_cons_zero] <;> rfl) rfl ?_; simp only [Act.put, List.setIfInBounds_toArray, List.set_cons_zero, List.set_cons_succ]) | (refine Od.wpO_pure (by simp only [List.getElem?_toArray, List.getElem?_cons_succ, List.getElem?_cons_zero] <;> rfl) rfl ?_; apply Exists.intro; refine ⟨?_, ?_⟩; (· intro wx gx; obtain ⟨mx, rfl⟩ := spread_of_gr gx; clear gx; all_goals (apply Od.pAt_of_quiet; intro K hK; go_big_quiet_op; first | exact hK _ rfl | (apply Exists.intro; refine ⟨fun _ => ?_, ?_⟩; (· fail); exact hK _ rfl))); try simp only [Act.put, List.setIfInBounds_toArray, List.set_cons_zero, List.set_cons_succ]))
            refine Od.wpO_call (by simp only [List.getElem?_toArray, List.getElem?_cons_succ, List.getElem?_cons_zero] <;> rfl) rfl ?_
            intro QS hQS
            go_wp2_with fail
            go_at_call 16
            (with_reducible refine ((AD.out _ (Gr.trans HG3.out gw4))).mono ?_)
            rintro e w5 ⟨rfl, hw5⟩
            go_wp2_with fail
            apply Exists.intro
            refine ⟨?_, hw5, ?_⟩
            · simp only [Act.put, List.setIfInBounds_toArray, List.set_cons_zero, List.set_cons_succ]; rfl
            have cw5_0_0 : w5.cell? ⟨M, 0, none⟩ = some (.int .i64 4) := cell_gr hw5 (by go_simp)
            have cw5_0_1 : w5.cell? ⟨M, 1, none⟩ = some (.int .i64 Nn) := cell_gr hw5 (by go_simp)
            have cw5_0_2 : w5.cell? ⟨M, 2, none⟩ = some (.string o) := cell_gr hw5 (by go_simp)
            have zw5_0 : M < w5.heap.size := World.block_lt_of_cell? _ _ cw5_0_0
            have cw5_1_0 : w5.cell? ⟨Pp, 0, none⟩ = some (.string o) := cell_gr hw5 (by go_simp)
            have zw5_1 : Pp < w5.heap.size := World.block_lt_of_cell? _ _ cw5_1_0
            have gw5 : Gr w3 w5 := Gr.trans (by have gg := gw4; have gs := gg.size; go_grown) hw5
            clear gw4 zw4_0 cw4_0_0 cw4_0_1 cw4_0_2 zw4_1 cw4_1_0
            clear hw5
            try simp only [Act.put, List.setIfInBounds_toArray, List.set_cons_zero, List.set_cons_succ]
            repeat (first | (refine Od.wpO_skip (by simp only [List.getElem?_toArray, List.getElem?_cons_succ, List.getElem?_cons_zero] <;> rfl) rfl ?_; simp only [Act.put, List.setIfInBounds_toArray, List.set_cons_zero, List.set_cons_succ]) | (refine Od.wpO_pure (by simp only [List.getElem?_toArray, List.getElem?_cons_succ, List.getElem?_cons_zero] <;> rfl) rfl ?_; apply Exists.intro; refine ⟨?_, ?_⟩; (· intro wx gx; obtain ⟨mx, rfl⟩ := spread_of_gr gx; clear gx; all_goals (apply Od.pAt_of_quiet; intro K hK; go_big_quiet_op; first | exact hK _ rfl | (apply Exists.intro; refine ⟨fun _ => ?_, ?_⟩; (· fail); exact hK _ rfl))); try simp only [Act.put, List.setIfInBounds_toArray, List.set_cons_zero, List.set_cons_succ]))
            refine Od.wpO_nil (hKQ _ _ ?_)
            clear hKQ KQ
            go_upto_region 17 with fail
            go_wp2_with fail
            try simp only [List.append]
            refine Od.wp_region_ord [(0, false), (1, false), (2, false), (3, false), (4, false), (5, false), (6, false), (7, false), (8, false), (9, false), (10, false), (11, false), (12, false), (13, false), (14, false), (15, true), (16, false), (17, false)] (by kernel_rfl) (by kernel_rfl) ?_
            intro w6 hw6 KQ hKQ
            have cw6_0_0 : w6.cell? ⟨M, 0, none⟩ = some (.int .i64 4) := cell_gr hw6 (by go_simp)
            have cw6_0_1 : w6.cell? ⟨M, 1, none⟩ = some (.int .i64 Nn) := cell_gr hw6 (by go_simp)
            have cw6_0_2 : w6.cell? ⟨M, 2, none⟩ = some (.string o) := cell_gr hw6 (by go_simp)
            have zw6_0 : M < w6.heap.size := World.block_lt_of_cell? _ _ cw6_0_0
            have cw6_1_0 : w6.cell? ⟨Pp, 0, none⟩ = some (.string o) := cell_gr hw6 (by go_simp)
            have zw6_1 : Pp < w6.heap.size := World.block_lt_of_cell? _ _ cw6_1_0
            have gw6 : Gr w3 w6 := Gr.trans (by have gg := gw5; have gs := gg.size; go_grown) hw6
            clear gw5 zw5_0 cw5_0_0 cw5_0_1 cw5_0_2 zw5_1 cw5_1_0
            clear hw6
            repeat (first | (refine Od.wpO_skip (by simp only [List.getElem?_toArray, List.getElem?_cons_succ, List.getElem?_cons_zero] <;> rfl) rfl ?_; simp only [Act.put, List.setIfInBounds_toArray, List.set_cons_zero, List.set_cons_succ]) | (refine Od.wpO_pure (by simp only [List.getElem?_toArray, List.getElem?_cons_succ, List.getElem?_cons_zero] <;> rfl) rfl ?_; apply Exists.intro; refine ⟨?_, ?_⟩; (· intro wx gx; obtain ⟨mx, rfl⟩ := spread_of_gr gx; clear gx; all_goals (apply Od.pAt_of_quiet; intro K hK; go_big_quiet_op; first | exact hK _ rfl | (apply Exists.intro; refine ⟨fun _ => ?_, ?_⟩; (· fail); exact hK _ rfl))); try simp only [Act.put, List.setIfInBounds_toArray, List.set_cons_zero, List.set_cons_succ]))
            refine Od.wpO_call (by simp only [List.getElem?_toArray, List.getElem?_cons_succ, List.getElem?_cons_zero] <;> rfl) rfl ?_
            intro QS hQS
            go_wp2_with fail
            go_at_call 8
            (with_reducible refine ((p7_awake _)).mono ?_)
            rintro e w7 ⟨rfl, hw7⟩
            go_wp2_with fail
            apply Exists.intro
            refine ⟨?_, hw7, ?_⟩
            · simp only [Act.put, List.setIfInBounds_toArray, List.set_cons_zero, List.set_cons_succ]; rfl
            have cw7_0_0 : w7.cell? ⟨M, 0, none⟩ = some (.int .i64 4) := cell_gr hw7 (by go_simp)
            have cw7_0_1 : w7.cell? ⟨M, 1, none⟩ = some (.int .i64 Nn) := cell_gr hw7 (by go_simp)
            have cw7_0_2 : w7.cell? ⟨M, 2, none⟩ = some (.string o) := cell_gr hw7 (by go_simp)
            have zw7_0 : M < w7.heap.size := World.block_lt_of_cell? _ _ cw7_0_0
            have cw7_1_0 : w7.cell? ⟨Pp, 0, none⟩ = some (.string o) := cell_gr hw7 (by go_simp)
            have zw7_1 : Pp < w7.heap.size := World.block_lt_of_cell? _ _ cw7_1_0
            have gw7 : Gr w3 w7 := Gr.trans (by have gg := gw6; have gs := gg.size; go_grown) hw7
            clear gw6 zw6_0 cw6_0_0 cw6_0_1 cw6_0_2 zw6_1 cw6_1_0
            clear hw7
            try simp only [Act.put, List.setIfInBounds_toArray, List.set_cons_zero, List.set_cons_succ]
            repeat (first | (refine Od.wpO_skip (by simp only [List.getElem?_toArray, List.getElem?_cons_succ, List.getElem?_cons_zero] <;> rfl) rfl ?_; simp only [Act.put, List.setIfInBounds_toArray, List.set_cons_zero, List.set_cons_succ]) | (refine Od.wpO_pure (by simp only [List.getElem?_toArray, List.getElem?_cons_succ, List.getElem?_cons_zero] <;> rfl) rfl ?_; apply Exists.intro; refine ⟨?_, ?_⟩; (· intro wx gx; obtain ⟨mx, rfl⟩ := spread_of_gr gx; clear gx; all_goals (apply Od.pAt_of_quiet; intro K hK; go_big_quiet_op; first | exact hK _ rfl | (apply Exists.intro; refine ⟨fun _ => ?_, ?_⟩; (· fail); exact hK _ rfl))); try simp only [Act.put, List.setIfInBounds_toArray, List.set_cons_zero, List.set_cons_succ]))
            refine Od.wpO_nil (hKQ _ _ ?_)
            clear hKQ KQ
            go_wp2_with fail
            go_ret
            exact ⟨rfl, Gr.trans gw3 gw7⟩
          have e1 : (kd == 1) = false := by simpa using hk1
          have e4 : (kd == 4) = false := by simpa using hk4
          by_cases hin : 1 ≤ kd ∧ kd ≤ 6
          · have l1 : decide (kd < 1) = false := decide_eq_false (by omega)
            have l2 : decide ((6 : Int) < kd) = false := decide_eq_false (by omega)
            have HIK : Hid ((Nd.mk kd Nn o nn kk).inK = true) := Lib.hid (decide_eq_true hin)
            clear hin hk1 hk4 hn2 hn6
            go_wp2_with fail
            go_at_call 9
            refine (AM.out _ HGWr.out).mono ?_
            rintro e w2 ⟨E, v, rfl, hm, g2⟩
            have hE := mv_erT _ hm
            obtain ⟨⟨v', hr⟩, hd⟩ := mv_root _ hm
            rw [HRT.out.1] at hr
            rw [HRT.out.2] at hd
            have hsz : E.size ≤ 400000 := by have := mv_size _ hm; have := HC.out; omega
            have AR := Lib.hid (c_fRoot w2 hE hsz)
            have AD0 : ∀ w, Gr w2 w → Calls Try.prog 16 #[v] w fun e w' => e = .returned (.int .i64 (k : Nat)) ∧ Gr w w' := fun w g => by
              have := c_fDeep w (erT_gr g hE) hsz
              rw [hd] at this
              exact this
            have AD := Lib.hid AD0
            have G2 := Lib.hid g2
            have hnil : E.root.isNil = false := by rw [mv_isNil hr, HIK.out]; rfl
            have HNL := Lib.hid hnil
            clear hnil
            clear AD0 hE hm hr hd hsz g2
            go_wp2_with fail
            go_at_call 15
            refine (AR.out).mono ?_
            rintro e w3 ⟨u, rfl, hu, g3⟩
            obtain ⟨U, y, rfl⟩ := ef_ne hu (ne_of HNL.out)
            have gw3 : Gr W w3 := Gr.trans HGWr.out (Gr.trans G2.out g3)
            have Gr3 : Gr wr w3 := Gr.trans G2.out g3
            have r0 := cell_gr Gr3 m0
            have r1 := cell_gr Gr3 m1
            have r2 := cell_gr Gr3 m2
            have zM3 := World.block_lt_of_cell? _ _ r0
            have HG3 := Lib.hid g3
            clear hu g3 Gr3 AR m0 m1 m2 m3 f0 f1 f2 f3 b0 b1 b2 b3 zM
            go_wp2_with fail
            try simp only [List.append]
            refine Od.wp_region_ord [(0, false), (2, false), (1, true), (3, false), (4, false), (5, false), (6, false), (7, false), (8, false), (9, false), (10, false), (11, false), (12, false), (13, false), (14, false), (15, false), (16, false)] (by kernel_rfl) (by kernel_rfl) ?_
            intro w4 hw4 KQ hKQ
            have cw4_0_0 : w4.cell? ⟨M, 0, none⟩ = some (.int .i64 kd) := cell_gr hw4 (by go_simp)
            have cw4_0_1 : w4.cell? ⟨M, 1, none⟩ = some (.int .i64 Nn) := cell_gr hw4 (by go_simp)
            have cw4_0_2 : w4.cell? ⟨M, 2, none⟩ = some (.string o) := cell_gr hw4 (by go_simp)
            have zw4_0 : M < w4.heap.size := World.block_lt_of_cell? _ _ cw4_0_0
            have gw4 : Gr w3 w4 := Gr.trans (by go_grown) hw4
            skip
            clear hw4
            repeat (first | (refine Od.wpO_skip (by simp only [List.getElem?_toArray, List.getElem?_cons_succ, List.getElem?_cons_zero] <;> rfl) rfl ?_; simp only [Act.put, List.setIfInBounds_toArray, List.set_cons_zero, List.set_cons_succ]) | (refine Od.wpO_pure (by simp only [List.getElem?_toArray, List.getElem?_cons_succ, List.getElem?_cons_zero] <;> rfl) rfl ?_; apply Exists.intro; refine ⟨?_, ?_⟩; (· intro wx gx; obtain ⟨mx, rfl⟩ := spread_of_gr gx; clear gx; all_goals (apply Od.pAt_of_quiet; intro K hK; go_big_quiet_op; first | exact hK _ rfl | (apply Exists.intro; refine ⟨fun _ => ?_, ?_⟩; (· fail); exact hK _ rfl))); try simp only [Act.put, List.setIfInBounds_toArray, List.set_cons_zero, List.set_cons_succ]))
            refine Od.wpO_call (by simp only [List.getElem?_toArray, List.getElem?_cons_succ, List.getElem?_cons_zero] <;> rfl) rfl ?_
            intro QS hQS
            go_wp2_with fail
            go_at_call 16
            (with_reducible refine ((AD.out _ (Gr.trans HG3.out gw4))).mono ?_)
            rintro e w5 ⟨rfl, hw5⟩
            go_wp2_with fail
            apply Exists.intro
            refine ⟨?_, hw5, ?_⟩
            · simp only [Act.put, List.setIfInBounds_toArray, List.set_cons_zero, List.set_cons_succ]; rfl
            have cw5_0_0 : w5.cell? ⟨M, 0, none⟩ = some (.int .i64 kd) := cell_gr hw5 (by go_simp)
            have cw5_0_1 : w5.cell? ⟨M, 1, none⟩ = some (.int .i64 Nn) := cell_gr hw5 (by go_simp)
            have cw5_0_2 : w5.cell? ⟨M, 2, none⟩ = some (.string o) := cell_gr hw5 (by go_simp)
            have zw5_0 : M < w5.heap.size := World.block_lt_of_cell? _ _ cw5_0_0
            have gw5 : Gr w3 w5 := Gr.trans (by have gg := gw4; have gs := gg.size; go_grown) hw5
            clear gw4 zw4_0 cw4_0_0 cw4_0_1 cw4_0_2
            clear hw5
            try simp only [Act.put, List.setIfInBounds_toArray, List.set_cons_zero, List.set_cons_succ]
            repeat (first | (refine Od.wpO_skip (by simp only [List.getElem?_toArray, List.getElem?_cons_succ, List.getElem?_cons_zero] <;> rfl) rfl ?_; simp only [Act.put, List.setIfInBounds_toArray, List.set_cons_zero, List.set_cons_succ]) | (refine Od.wpO_pure (by simp only [List.getElem?_toArray, List.getElem?_cons_succ, List.getElem?_cons_zero] <;> rfl) rfl ?_; apply Exists.intro; refine ⟨?_, ?_⟩; (· intro wx gx; obtain ⟨mx, rfl⟩ := spread_of_gr gx; clear gx; all_goals (apply Od.pAt_of_quiet; intro K hK; go_big_quiet_op; first | exact hK _ rfl | (apply Exists.intro; refine ⟨fun _ => ?_, ?_⟩; (· fail); exact hK _ rfl))); try simp only [Act.put, List.setIfInBounds_toArray, List.set_cons_zero, List.set_cons_succ]))
            refine Od.wpO_nil (hKQ _ _ ?_)
            clear hKQ KQ
            go_wp2_with fail
            go_at_call 8
            refine (p7_awake _).mono ?_
            rintro e w6 ⟨rfl, g6⟩
            go_wp2_with fail
            go_ret
            exact ⟨rfl, Gr.trans gw3 (Gr.trans gw5 g6)⟩
          · have HIK : Hid ((Nd.mk kd Nn o nn kk).inK = false) := Lib.hid (decide_eq_false hin)
            have hll : (decide (kd < 1) = true) ∨ (decide (kd < 1) = false ∧ decide ((6 : Int) < kd) = true) := by
              by_cases h : kd < 1
              · exact Or.inl (decide_eq_true h)
              · exact Or.inr ⟨decide_eq_false h, decide_eq_true (by omega)⟩
            clear hin hk1 hk4 hn2 hn6
            rcases hll with l1 | ⟨l1, l2⟩
            · skip
              go_wp2_with fail
              go_at_call 9
              refine (AM.out _ HGWr.out).mono ?_
              rintro e w2 ⟨E, v, rfl, hm, g2⟩
              have hE := mv_erT _ hm
              obtain ⟨⟨v', hr⟩, hd⟩ := mv_root _ hm
              rw [HRT.out.1] at hr
              rw [HRT.out.2] at hd
              have hsz : E.size ≤ 400000 := by have := mv_size _ hm; have := HC.out; omega
              have AR := Lib.hid (c_fRoot w2 hE hsz)
              have AD0 : ∀ w, Gr w2 w → Calls Try.prog 16 #[v] w fun e w' => e = .returned (.int .i64 (k : Nat)) ∧ Gr w w' := fun w g => by
                have := c_fDeep w (erT_gr g hE) hsz
                rw [hd] at this
                exact this
              have AD := Lib.hid AD0
              have G2 := Lib.hid g2
              have hnil : E.root.isNil = true := by rw [mv_isNil hr, HIK.out]; rfl
              have HNL := Lib.hid hnil
              clear hnil
              clear AD0 hE hm hr hd hsz g2
              go_wp2_with fail
              go_at_call 15
              refine (AR.out).mono ?_
              rintro e w3 ⟨u, rfl, hu, g3⟩
              obtain rfl := nil_of hu HNL.out
              have gw3 : Gr W w3 := Gr.trans HGWr.out (Gr.trans G2.out g3)
              have Gr3 : Gr wr w3 := Gr.trans G2.out g3
              have r0 := cell_gr Gr3 m0
              have r1 := cell_gr Gr3 m1
              have r2 := cell_gr Gr3 m2
              have zM3 := World.block_lt_of_cell? _ _ r0
              have HG3 := Lib.hid g3
              clear hu g3 Gr3 AR m0 m1 m2 m3 f0 f1 f2 f3 b0 b1 b2 b3 zM
              go_wp2_with fail
              try simp only [List.append]
              refine Od.wp_region_ord [(0, false), (2, false), (1, true), (3, false), (4, false), (5, false), (6, false), (7, false), (8, false), (9, false), (10, false), (11, false), (12, false), (13, false), (14, false), (15, false), (16, false)] (by kernel_rfl) (by kernel_rfl) ?_
              intro w4 hw4 KQ hKQ
              have cw4_0_0 : w4.cell? ⟨M, 0, none⟩ = some (.int .i64 kd) := cell_gr hw4 (by go_simp)
              have cw4_0_1 : w4.cell? ⟨M, 1, none⟩ = some (.int .i64 Nn) := cell_gr hw4 (by go_simp)
              have cw4_0_2 : w4.cell? ⟨M, 2, none⟩ = some (.string o) := cell_gr hw4 (by go_simp)
              have zw4_0 : M < w4.heap.size := World.block_lt_of_cell? _ _ cw4_0_0
              have gw4 : Gr w3 w4 := Gr.trans (by go_grown) hw4
              skip
              clear hw4
              repeat (first | (refine Od.wpO_skip (by simp only [List.getElem?_toArray, List.getElem?_cons_succ, List.getElem?_cons_zero] <;> rfl) rfl ?_; simp only [Act.put, List.setIfInBounds_toArray, List.set_cons_zero, List.set_cons_succ]) | (refine Od.wpO_pure (by simp only [List.getElem?_toArray, List.getElem?_cons_succ, List.getElem?_cons_zero] <;> rfl) rfl ?_; apply Exists.intro; refine ⟨?_, ?_⟩; (· intro wx gx; obtain ⟨mx, rfl⟩ := spread_of_gr gx; clear gx; all_goals (apply Od.pAt_of_quiet; intro K hK; go_big_quiet_op; first | exact hK _ rfl | (apply Exists.intro; refine ⟨fun _ => ?_, ?_⟩; (· fail); exact hK _ rfl))); try simp only [Act.put, List.setIfInBounds_toArray, List.set_cons_zero, List.set_cons_succ]))
              refine Od.wpO_call (by simp only [List.getElem?_toArray, List.getElem?_cons_succ, List.getElem?_cons_zero] <;> rfl) rfl ?_
              intro QS hQS
              go_wp2_with fail
              go_at_call 16
              (with_reducible refine ((AD.out _ (Gr.trans HG3.out gw4))).mono ?_)
              rintro e w5 ⟨rfl, hw5⟩
              go_wp2_with fail
              apply Exists.intro
              refine ⟨?_, hw5, ?_⟩
              · simp only [Act.put, List.setIfInBounds_toArray, List.set_cons_zero, List.set_cons_succ]; rfl
              have cw5_0_0 : w5.cell? ⟨M, 0, none⟩ = some (.int .i64 kd) := cell_gr hw5 (by go_simp)
              have cw5_0_1 : w5.cell? ⟨M, 1, none⟩ = some (.int .i64 Nn) := cell_gr hw5 (by go_simp)
              have cw5_0_2 : w5.cell? ⟨M, 2, none⟩ = some (.string o) := cell_gr hw5 (by go_simp)
              have zw5_0 : M < w5.heap.size := World.block_lt_of_cell? _ _ cw5_0_0
              have gw5 : Gr w3 w5 := Gr.trans (by have gg := gw4; have gs := gg.size; go_grown) hw5
              clear gw4 zw4_0 cw4_0_0 cw4_0_1 cw4_0_2
              clear hw5
              try simp only [Act.put, List.setIfInBounds_toArray, List.set_cons_zero, List.set_cons_succ]
              repeat (first | (refine Od.wpO_skip (by simp only [List.getElem?_toArray, List.getElem?_cons_succ, List.getElem?_cons_zero] <;> rfl) rfl ?_; simp only [Act.put, List.setIfInBounds_toArray, List.set_cons_zero, List.set_cons_succ]) | (refine Od.wpO_pure (by simp only [List.getElem?_toArray, List.getElem?_cons_succ, List.getElem?_cons_zero] <;> rfl) rfl ?_; apply Exists.intro; refine ⟨?_, ?_⟩; (· intro wx gx; obtain ⟨mx, rfl⟩ := spread_of_gr gx; clear gx; all_goals (apply Od.pAt_of_quiet; intro K hK; go_big_quiet_op; first | exact hK _ rfl | (apply Exists.intro; refine ⟨fun _ => ?_, ?_⟩; (· fail); exact hK _ rfl))); try simp only [Act.put, List.setIfInBounds_toArray, List.set_cons_zero, List.set_cons_succ]))
              refine Od.wpO_nil (hKQ _ _ ?_)
              clear hKQ KQ
              go_wp2_with fail
              go_at_call 8
              refine (p7_awake _).mono ?_
              rintro e w6 ⟨rfl, g6⟩
              go_wp2_with fail
              go_ret
              exact ⟨rfl, Gr.trans gw3 (Gr.trans gw5 g6)⟩
            · skip
              go_wp2_with fail
              go_at_call 9
              refine (AM.out _ HGWr.out).mono ?_
              rintro e w2 ⟨E, v, rfl, hm, g2⟩
              have hE := mv_erT _ hm
              obtain ⟨⟨v', hr⟩, hd⟩ := mv_root _ hm
              rw [HRT.out.1] at hr
              rw [HRT.out.2] at hd
              have hsz : E.size ≤ 400000 := by have := mv_size _ hm; have := HC.out; omega
              have AR := Lib.hid (c_fRoot w2 hE hsz)
              have AD0 : ∀ w, Gr w2 w → Calls Try.prog 16 #[v] w fun e w' => e = .returned (.int .i64 (k : Nat)) ∧ Gr w w' := fun w g => by
                have := c_fDeep w (erT_gr g hE) hsz
                rw [hd] at this
                exact this
              have AD := Lib.hid AD0
              have G2 := Lib.hid g2
              have hnil : E.root.isNil = true := by rw [mv_isNil hr, HIK.out]; rfl
              have HNL := Lib.hid hnil
              clear hnil
              clear AD0 hE hm hr hd hsz g2
              go_wp2_with fail
              go_at_call 15
              refine (AR.out).mono ?_
              rintro e w3 ⟨u, rfl, hu, g3⟩
              obtain rfl := nil_of hu HNL.out
              have gw3 : Gr W w3 := Gr.trans HGWr.out (Gr.trans G2.out g3)
              have Gr3 : Gr wr w3 := Gr.trans G2.out g3
              have r0 := cell_gr Gr3 m0
              have r1 := cell_gr Gr3 m1
              have r2 := cell_gr Gr3 m2
              have zM3 := World.block_lt_of_cell? _ _ r0
              have HG3 := Lib.hid g3
              clear hu g3 Gr3 AR m0 m1 m2 m3 f0 f1 f2 f3 b0 b1 b2 b3 zM
              go_wp2_with fail
              try simp only [List.append]
              refine Od.wp_region_ord [(0, false), (2, false), (1, true), (3, false), (4, false), (5, false), (6, false), (7, false), (8, false), (9, false), (10, false), (11, false), (12, false), (13, false), (14, false), (15, false), (16, false)] (by kernel_rfl) (by kernel_rfl) ?_
              intro w4 hw4 KQ hKQ
              have cw4_0_0 : w4.cell? ⟨M, 0, none⟩ = some (.int .i64 kd) := cell_gr hw4 (by go_simp)
              have cw4_0_1 : w4.cell? ⟨M, 1, none⟩ = some (.int .i64 Nn) := cell_gr hw4 (by go_simp)
              have cw4_0_2 : w4.cell? ⟨M, 2, none⟩ = some (.string o) := cell_gr hw4 (by go_simp)
              have zw4_0 : M < w4.heap.size := World.block_lt_of_cell? _ _ cw4_0_0
              have gw4 : Gr w3 w4 := Gr.trans (by go_grown) hw4
              skip
              clear hw4
              repeat (first | (refine Od.wpO_skip (by simp only [List.getElem?_toArray, List.getElem?_cons_succ, List.getElem?_cons_zero] <;> rfl) rfl ?_; simp only [Act.put, List.setIfInBounds_toArray, List.set_cons_zero, List.set_cons_succ]) | (refine Od.wpO_pure (by simp only [List.getElem?_toArray, List.getElem?_cons_succ, List.getElem?_cons_zero] <;> rfl) rfl ?_; apply Exists.intro; refine ⟨?_, ?_⟩; (· intro wx gx; obtain ⟨mx, rfl⟩ := spread_of_gr gx; clear gx; all_goals (apply Od.pAt_of_quiet; intro K hK; go_big_quiet_op; first | exact hK _ rfl | (apply Exists.intro; refine ⟨fun _ => ?_, ?_⟩; (· fail); exact hK _ rfl))); try simp only [Act.put, List.setIfInBounds_toArray, List.set_cons_zero, List.set_cons_succ]))
              refine Od.wpO_call (by simp only [List.getElem?_toArray, List.getElem?_cons_succ, List.getElem?_cons_zero] <;> rfl) rfl ?_
              intro QS hQS
              go_wp2_with fail
              go_at_call 16
              (with_reducible refine ((AD.out _ (Gr.trans HG3.out gw4))).mono ?_)
              rintro e w5 ⟨rfl, hw5⟩
              go_wp2_with fail
              apply Exists.intro
              refine ⟨?_, hw5, ?_⟩
              · simp only [Act.put, List.setIfInBounds_toArray, List.set_cons_zero, List.set_cons_succ]; rfl
              have cw5_0_0 : w5.cell? ⟨M, 0, none⟩ = some (.int .i64 kd) := cell_gr hw5 (by go_simp)
              have cw5_0_1 : w5.cell? ⟨M, 1, none⟩ = some (.int .i64 Nn) := cell_gr hw5 (by go_simp)
              have cw5_0_2 : w5.cell? ⟨M, 2, none⟩ = some (.string o) := cell_gr hw5 (by go_simp)
              have zw5_0 : M < w5.heap.size := World.block_lt_of_cell? _ _ cw5_0_0
              have gw5 : Gr w3 w5 := Gr.trans (by have gg := gw4; have gs := gg.size; go_grown) hw5
              clear gw4 zw4_0 cw4_0_0 cw4_0_1 cw4_0_2
              clear hw5
              try simp only [Act.put, List.setIfInBounds_toArray, List.set_cons_zero, List.set_cons_succ]
              repeat (first | (refine Od.wpO_skip (by simp only [List.getElem?_toArray, List.getElem?_cons_succ, List.getElem?_cons_zero] <;> rfl) rfl ?_; simp only [Act.put, List.setIfInBounds_toArray, List.set_cons_zero, List.set_cons_succ]) | (refine Od.wpO_pure (by simp only [List.getElem?_toArray, List.getElem?_cons_succ, List.getElem?_cons_zero] <;> rfl) rfl ?_; apply Exists.intro; refine ⟨?_, ?_⟩; (· intro wx gx; obtain ⟨mx, rfl⟩ := spread_of_gr gx; clear gx; all_goals (apply Od.pAt_of_quiet; intro K hK; go_big_quiet_op; first | exact hK _ rfl | (apply Exists.intro; refine ⟨fun _ => ?_, ?_⟩; (· fail); exact hK _ rfl))); try simp only [Act.put, List.setIfInBounds_toArray, List.set_cons_zero, List.set_cons_succ]))
              refine Od.wpO_nil (hKQ _ _ ?_)
              clear hKQ KQ
              go_wp2_with fail
              go_at_call 8
              refine (p7_awake _).mono ?_
              rintro e w6 ⟨rfl, g6⟩
              go_wp2_with fail
              go_ret
              exact ⟨rfl, Gr.trans gw3 (Gr.trans gw5 g6)⟩
        · rcases hkid with h0 | ⟨hnn, hin⟩
          · subst h0
            have HIK : Hid ((kd = 2 ∨ kd = 6) → (Nd.mk kd Nn o 0 kk).inK = true) := Lib.hid (fun h => decide_eq_true (by omega))
            rcases h26 with rfl | rfl
            · replace HIK := Lib.hid (HIK.out (Or.inl rfl))
              go_wp2_with fail
              go_at_call 9
              refine (AM.out _ HGWr.out).mono ?_
              rintro e w2 ⟨E, v, rfl, hm, g2⟩
              have hE := mv_erT _ hm
              obtain ⟨⟨v', hr⟩, hd⟩ := mv_root _ hm
              rw [HRT.out.1] at hr
              rw [HRT.out.2] at hd
              have hsz : E.size ≤ 400000 := by have := mv_size _ hm; have := HC.out; omega
              have AR := Lib.hid (c_fRoot w2 hE hsz)
              have AD0 : ∀ w, Gr w2 w → Calls Try.prog 16 #[v] w fun e w' => e = .returned (.int .i64 (k : Nat)) ∧ Gr w w' := fun w g => by
                have := c_fDeep w (erT_gr g hE) hsz
                rw [hd] at this
                exact this
              have AD := Lib.hid AD0
              have G2 := Lib.hid g2
              have hnil : E.root.isNil = false := by rw [mv_isNil hr, HIK.out]; rfl
              have HNL := Lib.hid hnil
              clear hnil
              clear AD0 hE hm hr hd hsz g2
              go_wp2_with fail
              go_at_call 15
              refine (AR.out).mono ?_
              rintro e w3 ⟨u, rfl, hu, g3⟩
              obtain ⟨U, y, rfl⟩ := ef_ne hu (ne_of HNL.out)
              have gw3 : Gr W w3 := Gr.trans HGWr.out (Gr.trans G2.out g3)
              have Gr3 : Gr wr w3 := Gr.trans G2.out g3
              have r0 := cell_gr Gr3 m0
              have r1 := cell_gr Gr3 m1
              have r2 := cell_gr Gr3 m2
              have zM3 := World.block_lt_of_cell? _ _ r0
              have HG3 := Lib.hid g3
              clear hu g3 Gr3 AR m0 m1 m2 m3 f0 f1 f2 f3 b0 b1 b2 b3 zM
              go_wp2_with fail
              try simp only [List.append]
              refine Od.wp_region_ord [(0, false), (2, false), (1, true), (3, false), (4, false), (5, false), (6, false), (7, false), (8, false), (9, false), (10, false), (11, false), (12, false), (13, false), (14, false), (15, false), (16, false)] (by kernel_rfl) (by kernel_rfl) ?_
              intro w4 hw4 KQ hKQ
              have cw4_0_0 : w4.cell? ⟨M, 0, none⟩ = some (.int .i64 2) := cell_gr hw4 (by go_simp)
              have cw4_0_1 : w4.cell? ⟨M, 1, none⟩ = some (.int .i64 Nn) := cell_gr hw4 (by go_simp)
              have cw4_0_2 : w4.cell? ⟨M, 2, none⟩ = some (.string o) := cell_gr hw4 (by go_simp)
              have zw4_0 : M < w4.heap.size := World.block_lt_of_cell? _ _ cw4_0_0
              have gw4 : Gr w3 w4 := Gr.trans (by go_grown) hw4
              skip
              clear hw4
              repeat (first | (refine Od.wpO_skip (by simp only [List.getElem?_toArray, List.getElem?_cons_succ, List.getElem?_cons_zero] <;> rfl) rfl ?_; simp only [Act.put, List.setIfInBounds_toArray, List.set_cons_zero, List.set_cons_succ]) | (refine Od.wpO_pure (by simp only [List.getElem?_toArray, List.getElem?_cons_succ, List.getElem?_cons_zero] <;> rfl) rfl ?_; apply Exists.intro; refine ⟨?_, ?_⟩; (· intro wx gx; obtain ⟨mx, rfl⟩ := spread_of_gr gx; clear gx; all_goals (apply Od.pAt_of_quiet; intro K hK; go_big_quiet_op; first | exact hK _ rfl | (apply Exists.intro; refine ⟨fun _ => ?_, ?_⟩; (· fail); exact hK _ rfl))); try simp only [Act.put, List.setIfInBounds_toArray, List.set_cons_zero, List.set_cons_succ]))
              refine Od.wpO_call (by simp only [List.getElem?_toArray, List.getElem?_cons_succ, List.getElem?_cons_zero] <;> rfl) rfl ?_
              intro QS hQS
              go_wp2_with fail
              go_at_call 16
              (with_reducible refine ((AD.out _ (Gr.trans HG3.out gw4))).mono ?_)
              rintro e w5 ⟨rfl, hw5⟩
              go_wp2_with fail
              apply Exists.intro
              refine ⟨?_, hw5, ?_⟩
              · simp only [Act.put, List.setIfInBounds_toArray, List.set_cons_zero, List.set_cons_succ]; rfl
              have cw5_0_0 : w5.cell? ⟨M, 0, none⟩ = some (.int .i64 2) := cell_gr hw5 (by go_simp)
              have cw5_0_1 : w5.cell? ⟨M, 1, none⟩ = some (.int .i64 Nn) := cell_gr hw5 (by go_simp)
              have cw5_0_2 : w5.cell? ⟨M, 2, none⟩ = some (.string o) := cell_gr hw5 (by go_simp)
              have zw5_0 : M < w5.heap.size := World.block_lt_of_cell? _ _ cw5_0_0
              have gw5 : Gr w3 w5 := Gr.trans (by have gg := gw4; have gs := gg.size; go_grown) hw5
              clear gw4 zw4_0 cw4_0_0 cw4_0_1 cw4_0_2
              clear hw5
              try simp only [Act.put, List.setIfInBounds_toArray, List.set_cons_zero, List.set_cons_succ]
              repeat (first | (refine Od.wpO_skip (by simp only [List.getElem?_toArray, List.getElem?_cons_succ, List.getElem?_cons_zero] <;> rfl) rfl ?_; simp only [Act.put, List.setIfInBounds_toArray, List.set_cons_zero, List.set_cons_succ]) | (refine Od.wpO_pure (by simp only [List.getElem?_toArray, List.getElem?_cons_succ, List.getElem?_cons_zero] <;> rfl) rfl ?_; apply Exists.intro; refine ⟨?_, ?_⟩; (· intro wx gx; obtain ⟨mx, rfl⟩ := spread_of_gr gx; clear gx; all_goals (apply Od.pAt_of_quiet; intro K hK; go_big_quiet_op; first | exact hK _ rfl | (apply Exists.intro; refine ⟨fun _ => ?_, ?_⟩; (· fail); exact hK _ rfl))); try simp only [Act.put, List.setIfInBounds_toArray, List.set_cons_zero, List.set_cons_succ]))
              refine Od.wpO_nil (hKQ _ _ ?_)
              clear hKQ KQ
              go_wp2_with fail
              go_at_call 8
              refine (p7_awake _).mono ?_
              rintro e w6 ⟨rfl, g6⟩
              go_wp2_with fail
              go_ret
              exact ⟨rfl, Gr.trans gw3 (Gr.trans gw5 g6)⟩
            · replace HIK := Lib.hid (HIK.out (Or.inr rfl))
              go_wp2_with fail
              go_at_call 9
              refine (AM.out _ HGWr.out).mono ?_
              rintro e w2 ⟨E, v, rfl, hm, g2⟩
              have hE := mv_erT _ hm
              obtain ⟨⟨v', hr⟩, hd⟩ := mv_root _ hm
              rw [HRT.out.1] at hr
              rw [HRT.out.2] at hd
              have hsz : E.size ≤ 400000 := by have := mv_size _ hm; have := HC.out; omega
              have AR := Lib.hid (c_fRoot w2 hE hsz)
              have AD0 : ∀ w, Gr w2 w → Calls Try.prog 16 #[v] w fun e w' => e = .returned (.int .i64 (k : Nat)) ∧ Gr w w' := fun w g => by
                have := c_fDeep w (erT_gr g hE) hsz
                rw [hd] at this
                exact this
              have AD := Lib.hid AD0
              have G2 := Lib.hid g2
              have hnil : E.root.isNil = false := by rw [mv_isNil hr, HIK.out]; rfl
              have HNL := Lib.hid hnil
              clear hnil
              clear AD0 hE hm hr hd hsz g2
              go_wp2_with fail
              go_at_call 15
              refine (AR.out).mono ?_
              rintro e w3 ⟨u, rfl, hu, g3⟩
              obtain ⟨U, y, rfl⟩ := ef_ne hu (ne_of HNL.out)
              have gw3 : Gr W w3 := Gr.trans HGWr.out (Gr.trans G2.out g3)
              have Gr3 : Gr wr w3 := Gr.trans G2.out g3
              have r0 := cell_gr Gr3 m0
              have r1 := cell_gr Gr3 m1
              have r2 := cell_gr Gr3 m2
              have zM3 := World.block_lt_of_cell? _ _ r0
              have HG3 := Lib.hid g3
              clear hu g3 Gr3 AR m0 m1 m2 m3 f0 f1 f2 f3 b0 b1 b2 b3 zM
              go_wp2_with fail
              try simp only [List.append]
              refine Od.wp_region_ord [(0, false), (2, false), (1, true), (3, false), (4, false), (5, false), (6, false), (7, false), (8, false), (9, false), (10, false), (11, false), (12, false), (13, false), (14, false), (15, false), (16, false)] (by kernel_rfl) (by kernel_rfl) ?_
              intro w4 hw4 KQ hKQ
              have cw4_0_0 : w4.cell? ⟨M, 0, none⟩ = some (.int .i64 6) := cell_gr hw4 (by go_simp)
              have cw4_0_1 : w4.cell? ⟨M, 1, none⟩ = some (.int .i64 Nn) := cell_gr hw4 (by go_simp)
              have cw4_0_2 : w4.cell? ⟨M, 2, none⟩ = some (.string o) := cell_gr hw4 (by go_simp)
              have zw4_0 : M < w4.heap.size := World.block_lt_of_cell? _ _ cw4_0_0
              have gw4 : Gr w3 w4 := Gr.trans (by go_grown) hw4
              skip
              clear hw4
              repeat (first | (refine Od.wpO_skip (by simp only [List.getElem?_toArray, List.getElem?_cons_succ, List.getElem?_cons_zero] <;> rfl) rfl ?_; simp only [Act.put, List.setIfInBounds_toArray, List.set_cons_zero, List.set_cons_succ]) | (refine Od.wpO_pure (by simp only [List.getElem?_toArray, List.getElem?_cons_succ, List.getElem?_cons_zero] <;> rfl) rfl ?_; apply Exists.intro; refine ⟨?_, ?_⟩; (· intro wx gx; obtain ⟨mx, rfl⟩ := spread_of_gr gx; clear gx; all_goals (apply Od.pAt_of_quiet; intro K hK; go_big_quiet_op; first | exact hK _ rfl | (apply Exists.intro; refine ⟨fun _ => ?_, ?_⟩; (· fail); exact hK _ rfl))); try simp only [Act.put, List.setIfInBounds_toArray, List.set_cons_zero, List.set_cons_succ]))
              refine Od.wpO_call (by simp only [List.getElem?_toArray, List.getElem?_cons_succ, List.getElem?_cons_zero] <;> rfl) rfl ?_
              intro QS hQS
              go_wp2_with fail
              go_at_call 16
              (with_reducible refine ((AD.out _ (Gr.trans HG3.out gw4))).mono ?_)
              rintro e w5 ⟨rfl, hw5⟩
              go_wp2_with fail
              apply Exists.intro
              refine ⟨?_, hw5, ?_⟩
              · simp only [Act.put, List.setIfInBounds_toArray, List.set_cons_zero, List.set_cons_succ]; rfl
              have cw5_0_0 : w5.cell? ⟨M, 0, none⟩ = some (.int .i64 6) := cell_gr hw5 (by go_simp)
              have cw5_0_1 : w5.cell? ⟨M, 1, none⟩ = some (.int .i64 Nn) := cell_gr hw5 (by go_simp)
              have cw5_0_2 : w5.cell? ⟨M, 2, none⟩ = some (.string o) := cell_gr hw5 (by go_simp)
              have zw5_0 : M < w5.heap.size := World.block_lt_of_cell? _ _ cw5_0_0
              have gw5 : Gr w3 w5 := Gr.trans (by have gg := gw4; have gs := gg.size; go_grown) hw5
              clear gw4 zw4_0 cw4_0_0 cw4_0_1 cw4_0_2
              clear hw5
              try simp only [Act.put, List.setIfInBounds_toArray, List.set_cons_zero, List.set_cons_succ]
              repeat (first | (refine Od.wpO_skip (by simp only [List.getElem?_toArray, List.getElem?_cons_succ, List.getElem?_cons_zero] <;> rfl) rfl ?_; simp only [Act.put, List.setIfInBounds_toArray, List.set_cons_zero, List.set_cons_succ]) | (refine Od.wpO_pure (by simp only [List.getElem?_toArray, List.getElem?_cons_succ, List.getElem?_cons_zero] <;> rfl) rfl ?_; apply Exists.intro; refine ⟨?_, ?_⟩; (· intro wx gx; obtain ⟨mx, rfl⟩ := spread_of_gr gx; clear gx; all_goals (apply Od.pAt_of_quiet; intro K hK; go_big_quiet_op; first | exact hK _ rfl | (apply Exists.intro; refine ⟨fun _ => ?_, ?_⟩; (· fail); exact hK _ rfl))); try simp only [Act.put, List.setIfInBounds_toArray, List.set_cons_zero, List.set_cons_succ]))
              refine Od.wpO_nil (hKQ _ _ ?_)
              clear hKQ KQ
              go_wp2_with fail
              go_at_call 8
              refine (p7_awake _).mono ?_
              rintro e w6 ⟨rfl, g6⟩
              go_wp2_with fail
              go_ret
              exact ⟨rfl, Gr.trans gw3 (Gr.trans gw5 g6)⟩
          · obtain rfl := hB hnn
            obtain ⟨x0, x1, x2, x3, n0, n1, n2, n3, hk0⟩ := hK 0 hnn
            simp only [Nat.zero_mul, Nat.add_zero] at n0 n1 n2 n3
            cases hkk : kk 0 with
            | nil => rw [hkk] at hk0; exact hk0.elim
            | mk qk qN qo qn qkids =>
              rw [hkk] at hk0 hin
              obtain ⟨qad, qcp, qB, qoff, e, -⟩ := hk0
              simp only [List.cons.injEq, and_true] at e
              obtain ⟨rfl, rfl, rfl, rfl⟩ := e
              have hq : ¬ (1 ≤ qk ∧ qk ≤ 6) := of_decide_eq_false hin
              have tn1 : decide ((0 : Int) < (nn : Int)) = true := decide_eq_true (by omega)
              have tn2 : decide (0 < nn) = true := decide_eq_true hnn
              have tn3 : (0 : Int) < (nn : Int) := by omega
              have tn4 : (0 : Int) < (cp : Int) := by omega
              have y0 := cell_gr GW n0
              have zB := World.block_lt_of_cell? _ _ y0
              have hqq : (decide ((1 : Int) ≤ qk) = false) ∨ (decide ((1 : Int) ≤ qk) = true ∧ decide (qk ≤ (6 : Int)) = false) := by
                by_cases h : 1 ≤ qk
                · exact Or.inr ⟨decide_eq_true h, decide_eq_false (by omega)⟩
                · exact Or.inl (decide_eq_false h)
              have HIK : Hid ((kd = 2 ∨ kd = 6) → (Nd.mk kd Nn o nn kk).inK = true) := Lib.hid (fun h => decide_eq_true (by omega))
              clear hq hin hK hB n0 n1 n2 n3
              rcases hqq with l1 | ⟨l1, l2⟩
              · rcases h26 with rfl | rfl
                · replace HIK := Lib.hid (HIK.out (Or.inl rfl))
                  go_wp2_with fail
                  go_at_call 9
                  refine (AM.out _ HGWr.out).mono ?_
                  rintro e w2 ⟨E, v, rfl, hm, g2⟩
                  have hE := mv_erT _ hm
                  obtain ⟨⟨v', hr⟩, hd⟩ := mv_root _ hm
                  rw [HRT.out.1] at hr
                  rw [HRT.out.2] at hd
                  have hsz : E.size ≤ 400000 := by have := mv_size _ hm; have := HC.out; omega
                  have AR := Lib.hid (c_fRoot w2 hE hsz)
                  have AD0 : ∀ w, Gr w2 w → Calls Try.prog 16 #[v] w fun e w' => e = .returned (.int .i64 (k : Nat)) ∧ Gr w w' := fun w g => by
                    have := c_fDeep w (erT_gr g hE) hsz
                    rw [hd] at this
                    exact this
                  have AD := Lib.hid AD0
                  have G2 := Lib.hid g2
                  have hnil : E.root.isNil = false := by rw [mv_isNil hr, HIK.out]; rfl
                  have HNL := Lib.hid hnil
                  clear hnil
                  clear AD0 hE hm hr hd hsz g2
                  go_wp2_with fail
                  go_at_call 15
                  refine (AR.out).mono ?_
                  rintro e w3 ⟨u, rfl, hu, g3⟩
                  obtain ⟨U, y, rfl⟩ := ef_ne hu (ne_of HNL.out)
                  have gw3 : Gr W w3 := Gr.trans HGWr.out (Gr.trans G2.out g3)
                  have Gr3 : Gr wr w3 := Gr.trans G2.out g3
                  have r0 := cell_gr Gr3 m0
                  have r1 := cell_gr Gr3 m1
                  have r2 := cell_gr Gr3 m2
                  have zM3 := World.block_lt_of_cell? _ _ r0
                  have HG3 := Lib.hid g3
                  clear hu g3 Gr3 AR m0 m1 m2 m3 f0 f1 f2 f3 b0 b1 b2 b3 zM
                  go_wp2_with fail
                  try simp only [List.append]
                  refine Od.wp_region_ord [(0, false), (2, false), (1, true), (3, false), (4, false), (5, false), (6, false), (7, false), (8, false), (9, false), (10, false), (11, false), (12, false), (13, false), (14, false), (15, false), (16, false)] (by kernel_rfl) (by kernel_rfl) ?_
                  intro w4 hw4 KQ hKQ
                  have cw4_0_0 : w4.cell? ⟨M, 0, none⟩ = some (.int .i64 2) := cell_gr hw4 (by go_simp)
                  have cw4_0_1 : w4.cell? ⟨M, 1, none⟩ = some (.int .i64 Nn) := cell_gr hw4 (by go_simp)
                  have cw4_0_2 : w4.cell? ⟨M, 2, none⟩ = some (.string o) := cell_gr hw4 (by go_simp)
                  have zw4_0 : M < w4.heap.size := World.block_lt_of_cell? _ _ cw4_0_0
                  have gw4 : Gr w3 w4 := Gr.trans (by go_grown) hw4
                  skip
                  clear hw4
                  repeat (first | (refine Od.wpO_skip (by simp only [List.getElem?_toArray, List.getElem?_cons_succ, List.getElem?_cons_zero] <;> rfl) rfl ?_; simp only [Act.put, List.setIfInBounds_toArray, List.set_cons_zero, List.set_cons_succ]) | (refine Od.wpO_pure (by simp only [List.getElem?_toArray, List.getElem?_cons_succ, List.getElem?_cons_zero] <;> rfl) rfl ?_; apply Exists.intro; refine ⟨?_, ?_⟩; (· intro wx gx; obtain ⟨mx, rfl⟩ := spread_of_gr gx; clear gx; all_goals (apply Od.pAt_of_quiet; intro K hK; go_big_quiet_op; first | exact hK _ rfl | (apply Exists.intro; refine ⟨fun _ => ?_, ?_⟩; (· fail); exact hK _ rfl))); try simp only [Act.put, List.setIfInBounds_toArray, List.set_cons_zero, List.set_cons_succ]))
                  refine Od.wpO_call (by simp only [List.getElem?_toArray, List.getElem?_cons_succ, List.getElem?_cons_zero] <;> rfl) rfl ?_
                  intro QS hQS
                  go_wp2_with fail
                  go_at_call 16
                  (with_reducible refine ((AD.out _ (Gr.trans HG3.out gw4))).mono ?_)
                  rintro e w5 ⟨rfl, hw5⟩
                  go_wp2_with fail
                  apply Exists.intro
                  refine ⟨?_, hw5, ?_⟩
                  · simp only [Act.put, List.setIfInBounds_toArray, List.set_cons_zero, List.set_cons_succ]; rfl
                  have cw5_0_0 : w5.cell? ⟨M, 0, none⟩ = some (.int .i64 2) := cell_gr hw5 (by go_simp)
                  have cw5_0_1 : w5.cell? ⟨M, 1, none⟩ = some (.int .i64 Nn) := cell_gr hw5 (by go_simp)
                  have cw5_0_2 : w5.cell? ⟨M, 2, none⟩ = some (.string o) := cell_gr hw5 (by go_simp)
                  have zw5_0 : M < w5.heap.size := World.block_lt_of_cell? _ _ cw5_0_0
                  have gw5 : Gr w3 w5 := Gr.trans (by have gg := gw4; have gs := gg.size; go_grown) hw5
                  clear gw4 zw4_0 cw4_0_0 cw4_0_1 cw4_0_2
                  clear hw5
                  try simp only [Act.put, List.setIfInBounds_toArray, List.set_cons_zero, List.set_cons_succ]
                  repeat (first | (refine Od.wpO_skip (by simp only [List.getElem?_toArray, List.getElem?_cons_succ, List.getElem?_cons_zero] <;> rfl) rfl ?_; simp only [Act.put, List.setIfInBounds_toArray, List.set_cons_zero, List.set_cons_succ]) | (refine Od.wpO_pure (by simp only [List.getElem?_toArray, List.getElem?_cons_succ, List.getElem?_cons_zero] <;> rfl) rfl ?_; apply Exists.intro; refine ⟨?_, ?_⟩; (· intro wx gx; obtain ⟨mx, rfl⟩ := spread_of_gr gx; clear gx; all_goals (apply Od.pAt_of_quiet; intro K hK; go_big_quiet_op; first | exact hK _ rfl | (apply Exists.intro; refine ⟨fun _ => ?_, ?_⟩; (· fail); exact hK _ rfl))); try simp only [Act.put, List.setIfInBounds_toArray, List.set_cons_zero, List.set_cons_succ]))
                  refine Od.wpO_nil (hKQ _ _ ?_)
                  clear hKQ KQ
                  go_wp2_with fail
                  go_at_call 8
                  refine (p7_awake _).mono ?_
                  rintro e w6 ⟨rfl, g6⟩
                  go_wp2_with fail
                  go_ret
                  exact ⟨rfl, Gr.trans gw3 (Gr.trans gw5 g6)⟩
                · replace HIK := Lib.hid (HIK.out (Or.inr rfl))
                  go_wp2_with fail
                  go_at_call 9
                  refine (AM.out _ HGWr.out).mono ?_
                  rintro e w2 ⟨E, v, rfl, hm, g2⟩
                  have hE := mv_erT _ hm
                  obtain ⟨⟨v', hr⟩, hd⟩ := mv_root _ hm
                  rw [HRT.out.1] at hr
                  rw [HRT.out.2] at hd
                  have hsz : E.size ≤ 400000 := by have := mv_size _ hm; have := HC.out; omega
                  have AR := Lib.hid (c_fRoot w2 hE hsz)
                  have AD0 : ∀ w, Gr w2 w → Calls Try.prog 16 #[v] w fun e w' => e = .returned (.int .i64 (k : Nat)) ∧ Gr w w' := fun w g => by
                    have := c_fDeep w (erT_gr g hE) hsz
                    rw [hd] at this
                    exact this
                  have AD := Lib.hid AD0
                  have G2 := Lib.hid g2
                  have hnil : E.root.isNil = false := by rw [mv_isNil hr, HIK.out]; rfl
                  have HNL := Lib.hid hnil
                  clear hnil
                  clear AD0 hE hm hr hd hsz g2
                  go_wp2_with fail
                  go_at_call 15
                  refine (AR.out).mono ?_
                  rintro e w3 ⟨u, rfl, hu, g3⟩
                  obtain ⟨U, y, rfl⟩ := ef_ne hu (ne_of HNL.out)
                  have gw3 : Gr W w3 := Gr.trans HGWr.out (Gr.trans G2.out g3)
                  have Gr3 : Gr wr w3 := Gr.trans G2.out g3
                  have r0 := cell_gr Gr3 m0
                  have r1 := cell_gr Gr3 m1
                  have r2 := cell_gr Gr3 m2
                  have zM3 := World.block_lt_of_cell? _ _ r0
                  have HG3 := Lib.hid g3
                  clear hu g3 Gr3 AR m0 m1 m2 m3 f0 f1 f2 f3 b0 b1 b2 b3 zM
                  go_wp2_with fail
                  try simp only [List.append]
                  refine Od.wp_region_ord [(0, false), (2, false), (1, true), (3, false), (4, false), (5, false), (6, false), (7, false), (8, false), (9, false), (10, false), (11, false), (12, false), (13, false), (14, false), (15, false), (16, false)] (by kernel_rfl) (by kernel_rfl) ?_
                  intro w4 hw4 KQ hKQ
                  have cw4_0_0 : w4.cell? ⟨M, 0, none⟩ = some (.int .i64 6) := cell_gr hw4 (by go_simp)
                  have cw4_0_1 : w4.cell? ⟨M, 1, none⟩ = some (.int .i64 Nn) := cell_gr hw4 (by go_simp)
                  have cw4_0_2 : w4.cell? ⟨M, 2, none⟩ = some (.string o) := cell_gr hw4 (by go_simp)
                  have zw4_0 : M < w4.heap.size := World.block_lt_of_cell? _ _ cw4_0_0
                  have gw4 : Gr w3 w4 := Gr.trans (by go_grown) hw4
                  skip
                  clear hw4
                  repeat (first | (refine Od.wpO_skip (by simp only [List.getElem?_toArray, List.getElem?_cons_succ, List.getElem?_cons_zero] <;> rfl) rfl ?_; simp only [Act.put, List.setIfInBounds_toArray, List.set_cons_zero, List.set_cons_succ]) | (refine Od.wpO_pure (by simp only [List.getElem?_toArray, List.getElem?_cons_succ, List.getElem?_cons_zero] <;> rfl) rfl ?_; apply Exists.intro; refine ⟨?_, ?_⟩; (· intro wx gx; obtain ⟨mx, rfl⟩ := spread_of_gr gx; clear gx; all_goals (apply Od.pAt_of_quiet; intro K hK; go_big_quiet_op; first | exact hK _ rfl | (apply Exists.intro; refine ⟨fun _ => ?_, ?_⟩; (· fail); exact hK _ rfl))); try simp only [Act.put, List.setIfInBounds_toArray, List.set_cons_zero, List.set_cons_succ]))
                  refine Od.wpO_call (by simp only [List.getElem?_toArray, List.getElem?_cons_succ, List.getElem?_cons_zero] <;> rfl) rfl ?_
                  intro QS hQS
                  go_wp2_with fail
                  go_at_call 16
                  (with_reducible refine ((AD.out _ (Gr.trans HG3.out gw4))).mono ?_)
                  rintro e w5 ⟨rfl, hw5⟩
                  go_wp2_with fail
                  apply Exists.intro
                  refine ⟨?_, hw5, ?_⟩
                  · simp only [Act.put, List.setIfInBounds_toArray, List.set_cons_zero, List.set_cons_succ]; rfl
                  have cw5_0_0 : w5.cell? ⟨M, 0, none⟩ = some (.int .i64 6) := cell_gr hw5 (by go_simp)
                  have cw5_0_1 : w5.cell? ⟨M, 1, none⟩ = some (.int .i64 Nn) := cell_gr hw5 (by go_simp)
                  have cw5_0_2 : w5.cell? ⟨M, 2, none⟩ = some (.string o) := cell_gr hw5 (by go_simp)
                  have zw5_0 : M < w5.heap.size := World.block_lt_of_cell? _ _ cw5_0_0
                  have gw5 : Gr w3 w5 := Gr.trans (by have gg := gw4; have gs := gg.size; go_grown) hw5
                  clear gw4 zw4_0 cw4_0_0 cw4_0_1 cw4_0_2
                  clear hw5
                  try simp only [Act.put, List.setIfInBounds_toArray, List.set_cons_zero, List.set_cons_succ]
                  repeat (first | (refine Od.wpO_skip (by simp only [List.getElem?_toArray, List.getElem?_cons_succ, List.getElem?_cons_zero] <;> rfl) rfl ?_; simp only [Act.put, List.setIfInBounds_toArray, List.set_cons_zero, List.set_cons_succ]) | (refine Od.wpO_pure (by simp only [List.getElem?_toArray, List.getElem?_cons_succ, List.getElem?_cons_zero] <;> rfl) rfl ?_; apply Exists.intro; refine ⟨?_, ?_⟩; (· intro wx gx; obtain ⟨mx, rfl⟩ := spread_of_gr gx; clear gx; all_goals (apply Od.pAt_of_quiet; intro K hK; go_big_quiet_op; first | exact hK _ rfl | (apply Exists.intro; refine ⟨fun _ => ?_, ?_⟩; (· fail); exact hK _ rfl))); try simp only [Act.put, List.setIfInBounds_toArray, List.set_cons_zero, List.set_cons_succ]))
                  refine Od.wpO_nil (hKQ _ _ ?_)
                  clear hKQ KQ
                  go_wp2_with fail
                  go_at_call 8
                  refine (p7_awake _).mono ?_
                  rintro e w6 ⟨rfl, g6⟩
                  go_wp2_with fail
                  go_ret
                  exact ⟨rfl, Gr.trans gw3 (Gr.trans gw5 g6)⟩
              · rcases h26 with rfl | rfl
                · replace HIK := Lib.hid (HIK.out (Or.inl rfl))
                  go_wp2_with fail
                  go_at_call 9
                  refine (AM.out _ HGWr.out).mono ?_
                  rintro e w2 ⟨E, v, rfl, hm, g2⟩
                  have hE := mv_erT _ hm
                  obtain ⟨⟨v', hr⟩, hd⟩ := mv_root _ hm
                  rw [HRT.out.1] at hr
                  rw [HRT.out.2] at hd
                  have hsz : E.size ≤ 400000 := by have := mv_size _ hm; have := HC.out; omega
                  have AR := Lib.hid (c_fRoot w2 hE hsz)
                  have AD0 : ∀ w, Gr w2 w → Calls Try.prog 16 #[v] w fun e w' => e = .returned (.int .i64 (k : Nat)) ∧ Gr w w' := fun w g => by
                    have := c_fDeep w (erT_gr g hE) hsz
                    rw [hd] at this
                    exact this
                  have AD := Lib.hid AD0
                  have G2 := Lib.hid g2
                  have hnil : E.root.isNil = false := by rw [mv_isNil hr, HIK.out]; rfl
                  have HNL := Lib.hid hnil
                  clear hnil
                  clear AD0 hE hm hr hd hsz g2
                  go_wp2_with fail
                  go_at_call 15
                  refine (AR.out).mono ?_
                  rintro e w3 ⟨u, rfl, hu, g3⟩
                  obtain ⟨U, y, rfl⟩ := ef_ne hu (ne_of HNL.out)
                  have gw3 : Gr W w3 := Gr.trans HGWr.out (Gr.trans G2.out g3)
                  have Gr3 : Gr wr w3 := Gr.trans G2.out g3
                  have r0 := cell_gr Gr3 m0
                  have r1 := cell_gr Gr3 m1
                  have r2 := cell_gr Gr3 m2
                  have zM3 := World.block_lt_of_cell? _ _ r0
                  have HG3 := Lib.hid g3
                  clear hu g3 Gr3 AR m0 m1 m2 m3 f0 f1 f2 f3 b0 b1 b2 b3 zM
                  go_wp2_with fail
                  try simp only [List.append]
                  refine Od.wp_region_ord [(0, false), (2, false), (1, true), (3, false), (4, false), (5, false), (6, false), (7, false), (8, false), (9, false), (10, false), (11, false), (12, false), (13, false), (14, false), (15, false), (16, false)] (by kernel_rfl) (by kernel_rfl) ?_
                  intro w4 hw4 KQ hKQ
                  have cw4_0_0 : w4.cell? ⟨M, 0, none⟩ = some (.int .i64 2) := cell_gr hw4 (by go_simp)
                  have cw4_0_1 : w4.cell? ⟨M, 1, none⟩ = some (.int .i64 Nn) := cell_gr hw4 (by go_simp)
                  have cw4_0_2 : w4.cell? ⟨M, 2, none⟩ = some (.string o) := cell_gr hw4 (by go_simp)
                  have zw4_0 : M < w4.heap.size := World.block_lt_of_cell? _ _ cw4_0_0
                  have gw4 : Gr w3 w4 := Gr.trans (by go_grown) hw4
                  skip
                  clear hw4
                  repeat (first | (refine Od.wpO_skip (by simp only [List.getElem?_toArray, List.getElem?_cons_succ, List.getElem?_cons_zero] <;> rfl) rfl ?_; simp only [Act.put, List.setIfInBounds_toArray, List.set_cons_zero, List.set_cons_succ]) | (refine Od.wpO_pure (by simp only [List.getElem?_toArray, List.getElem?_cons_succ, List.getElem?_cons_zero] <;> rfl) rfl ?_; apply Exists.intro; refine ⟨?_, ?_⟩; (· intro wx gx; obtain ⟨mx, rfl⟩ := spread_of_gr gx; clear gx; all_goals (apply Od.pAt_of_quiet; intro K hK; go_big_quiet_op; first | exact hK _ rfl | (apply Exists.intro; refine ⟨fun _ => ?_, ?_⟩; (· fail); exact hK _ rfl))); try simp only [Act.put, List.setIfInBounds_toArray, List.set_cons_zero, List.set_cons_succ]))
                  refine Od.wpO_call (by simp only [List.getElem?_toArray, List.getElem?_cons_succ, List.getElem?_cons_zero] <;> rfl) rfl ?_
                  intro QS hQS
                  go_wp2_with fail
                  go_at_call 16
                  (with_reducible refine ((AD.out _ (Gr.trans HG3.out gw4))).mono ?_)
                  rintro e w5 ⟨rfl, hw5⟩
                  go_wp2_with fail
                  apply Exists.intro
                  refine ⟨?_, hw5, ?_⟩
                  · simp only [Act.put, List.setIfInBounds_toArray, List.set_cons_zero, List.set_cons_succ]; rfl
                  have cw5_0_0 : w5.cell? ⟨M, 0, none⟩ = some (.int .i64 2) := cell_gr hw5 (by go_simp)
                  have cw5_0_1 : w5.cell? ⟨M, 1, none⟩ = some (.int .i64 Nn) := cell_gr hw5 (by go_simp)
                  have cw5_0_2 : w5.cell? ⟨M, 2, none⟩ = some (.string o) := cell_gr hw5 (by go_simp)
                  have zw5_0 : M < w5.heap.size := World.block_lt_of_cell? _ _ cw5_0_0
                  have gw5 : Gr w3 w5 := Gr.trans (by have gg := gw4; have gs := gg.size; go_grown) hw5
                  clear gw4 zw4_0 cw4_0_0 cw4_0_1 cw4_0_2
                  clear hw5
                  try simp only [Act.put, List.setIfInBounds_toArray, List.set_cons_zero, List.set_cons_succ]
                  repeat (first | (refine Od.wpO_skip (by simp only [List.getElem?_toArray, List.getElem?_cons_succ, List.getElem?_cons_zero] <;> rfl) rfl ?_; simp only [Act.put, List.setIfInBounds_toArray, List.set_cons_zero, List.set_cons_succ]) | (refine Od.wpO_pure (by simp only [List.getElem?_toArray, List.getElem?_cons_succ, List.getElem?_cons_zero] <;> rfl) rfl ?_; apply Exists.intro; refine ⟨?_, ?_⟩; (· intro wx gx; obtain ⟨mx, rfl⟩ := spread_of_gr gx; clear gx; all_goals (apply Od.pAt_of_quiet; intro K hK; go_big_quiet_op; first | exact hK _ rfl | (apply Exists.intro; refine ⟨fun _ => ?_, ?_⟩; (· fail); exact hK _ rfl))); try simp only [Act.put, List.setIfInBounds_toArray, List.set_cons_zero, List.set_cons_succ]))
                  refine Od.wpO_nil (hKQ _ _ ?_)
                  clear hKQ KQ
                  go_wp2_with fail
                  go_at_call 8
                  refine (p7_awake _).mono ?_
                  rintro e w6 ⟨rfl, g6⟩
                  go_wp2_with fail
                  go_ret
                  exact ⟨rfl, Gr.trans gw3 (Gr.trans gw5 g6)⟩
                · replace HIK := Lib.hid (HIK.out (Or.inr rfl))
                  go_wp2_with fail
                  go_at_call 9
                  refine (AM.out _ HGWr.out).mono ?_
                  rintro e w2 ⟨E, v, rfl, hm, g2⟩
                  have hE := mv_erT _ hm
                  obtain ⟨⟨v', hr⟩, hd⟩ := mv_root _ hm
                  rw [HRT.out.1] at hr
                  rw [HRT.out.2] at hd
                  have hsz : E.size ≤ 400000 := by have := mv_size _ hm; have := HC.out; omega
                  have AR := Lib.hid (c_fRoot w2 hE hsz)
                  have AD0 : ∀ w, Gr w2 w → Calls Try.prog 16 #[v] w fun e w' => e = .returned (.int .i64 (k : Nat)) ∧ Gr w w' := fun w g => by
                    have := c_fDeep w (erT_gr g hE) hsz
                    rw [hd] at this
                    exact this
                  have AD := Lib.hid AD0
                  have G2 := Lib.hid g2
                  have hnil : E.root.isNil = false := by rw [mv_isNil hr, HIK.out]; rfl
                  have HNL := Lib.hid hnil
                  clear hnil
                  clear AD0 hE hm hr hd hsz g2
                  go_wp2_with fail
                  go_at_call 15
                  refine (AR.out).mono ?_
                  rintro e w3 ⟨u, rfl, hu, g3⟩
                  obtain ⟨U, y, rfl⟩ := ef_ne hu (ne_of HNL.out)
                  have gw3 : Gr W w3 := Gr.trans HGWr.out (Gr.trans G2.out g3)
                  have Gr3 : Gr wr w3 := Gr.trans G2.out g3
                  have r0 := cell_gr Gr3 m0
                  have r1 := cell_gr Gr3 m1
                  have r2 := cell_gr Gr3 m2
                  have zM3 := World.block_lt_of_cell? _ _ r0
                  have HG3 := Lib.hid g3
                  clear hu g3 Gr3 AR m0 m1 m2 m3 f0 f1 f2 f3 b0 b1 b2 b3 zM
                  go_wp2_with fail
                  try simp only [List.append]
                  refine Od.wp_region_ord [(0, false), (2, false), (1, true), (3, false), (4, false), (5, false), (6, false), (7, false), (8, false), (9, false), (10, false), (11, false), (12, false), (13, false), (14, false), (15, false), (16, false)] (by kernel_rfl) (by kernel_rfl) ?_
                  intro w4 hw4 KQ hKQ
                  have cw4_0_0 : w4.cell? ⟨M, 0, none⟩ = some (.int .i64 6) := cell_gr hw4 (by go_simp)
                  have cw4_0_1 : w4.cell? ⟨M, 1, none⟩ = some (.int .i64 Nn) := cell_gr hw4 (by go_simp)
                  have cw4_0_2 : w4.cell? ⟨M, 2, none⟩ = some (.string o) := cell_gr hw4 (by go_simp)
                  have zw4_0 : M < w4.heap.size := World.block_lt_of_cell? _ _ cw4_0_0
                  have gw4 : Gr w3 w4 := Gr.trans (by go_grown) hw4
                  skip
                  clear hw4
                  repeat (first | (refine Od.wpO_skip (by simp only [List.getElem?_toArray, List.getElem?_cons_succ, List.getElem?_cons_zero] <;> rfl) rfl ?_; simp only [Act.put, List.setIfInBounds_toArray, List.set_cons_zero, List.set_cons_succ]) | (refine Od.wpO_pure (by simp only [List.getElem?_toArray, List.getElem?_cons_succ, List.getElem?_cons_zero] <;> rfl) rfl ?_; apply Exists.intro; refine ⟨?_, ?_⟩; (· intro wx gx; obtain ⟨mx, rfl⟩ := spread_of_gr gx; clear gx; all_goals (apply Od.pAt_of_quiet; intro K hK; go_big_quiet_op; first | exact hK _ rfl | (apply Exists.intro; refine ⟨fun _ => ?_, ?_⟩; (· fail); exact hK _ rfl))); try simp only [Act.put, List.setIfInBounds_toArray, List.set_cons_zero, List.set_cons_succ]))
                  refine Od.wpO_call (by simp only [List.getElem?_toArray, List.getElem?_cons_succ, List.getElem?_cons_zero] <;> rfl) rfl ?_
                  intro QS hQS
                  go_wp2_with fail
                  go_at_call 16
                  (with_reducible refine ((AD.out _ (Gr.trans HG3.out gw4))).mono ?_)
                  rintro e w5 ⟨rfl, hw5⟩
                  go_wp2_with fail
                  apply Exists.intro
                  refine ⟨?_, hw5, ?_⟩
                  · simp only [Act.put, List.setIfInBounds_toArray, List.set_cons_zero, List.set_cons_succ]; rfl
                  have cw5_0_0 : w5.cell? ⟨M, 0, none⟩ = some (.int .i64 6) := cell_gr hw5 (by go_simp)
                  have cw5_0_1 : w5.cell? ⟨M, 1, none⟩ = some (.int .i64 Nn) := cell_gr hw5 (by go_simp)
                  have cw5_0_2 : w5.cell? ⟨M, 2, none⟩ = some (.string o) := cell_gr hw5 (by go_simp)
                  have zw5_0 : M < w5.heap.size := World.block_lt_of_cell? _ _ cw5_0_0
                  have gw5 : Gr w3 w5 := Gr.trans (by have gg := gw4; have gs := gg.size; go_grown) hw5
                  clear gw4 zw4_0 cw4_0_0 cw4_0_1 cw4_0_2
                  clear hw5
                  try simp only [Act.put, List.setIfInBounds_toArray, List.set_cons_zero, List.set_cons_succ]
                  repeat (first | (refine Od.wpO_skip (by simp only [List.getElem?_toArray, List.getElem?_cons_succ, List.getElem?_cons_zero] <;> rfl) rfl ?_; simp only [Act.put, List.setIfInBounds_toArray, List.set_cons_zero, List.set_cons_succ]) | (refine Od.wpO_pure (by simp only [List.getElem?_toArray, List.getElem?_cons_succ, List.getElem?_cons_zero] <;> rfl) rfl ?_; apply Exists.intro; refine ⟨?_, ?_⟩; (· intro wx gx; obtain ⟨mx, rfl⟩ := spread_of_gr gx; clear gx; all_goals (apply Od.pAt_of_quiet; intro K hK; go_big_quiet_op; first | exact hK _ rfl | (apply Exists.intro; refine ⟨fun _ => ?_, ?_⟩; (· fail); exact hK _ rfl))); try simp only [Act.put, List.setIfInBounds_toArray, List.set_cons_zero, List.set_cons_succ]))
                  refine Od.wpO_nil (hKQ _ _ ?_)
                  clear hKQ KQ
                  go_wp2_with fail
                  go_at_call 8
                  refine (p7_awake _).mono ?_
                  rintro e w6 ⟨rfl, g6⟩
                  go_wp2_with fail
                  go_ret
                  exact ⟨rfl, Gr.trans gw3 (Gr.trans gw5 g6)⟩
end Go.Proofs.Ytgmmhddlfalehaa
