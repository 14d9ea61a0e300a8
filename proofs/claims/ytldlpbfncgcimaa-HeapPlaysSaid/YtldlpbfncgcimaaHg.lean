/- heap: sink -/
import Derived.Test.YtldlpbfncgcimaaHf
namespace Go.Proofs.Ytldlpbfncgcimaa
set_option linter.unusedVariables false
open Go.ChangeShapes Go.WideShapes Go.ChangeAt Go.RowKit

/-- What sink leaves. -/
def SinkAt (base p : Nat) (v : Value) (L : List Nu) (m : Nat) (W w' : World) : Prop :=
  ∃ M, HeapAt w' base p v M m ∧ Fr W w' p v v ∧ M.Perm L ∧ Hp.hp ltN M ∧ M.length = L.length
theorem sinkAt_gr {base p m : Nat} {v : Value} {L : List Nu} {W a b : World} (h : SinkAt base p v L m W a) (g : Gr a b) : SinkAt base p v L m W b := by
  obtain ⟨M, h1, h2, h3, h4, h5⟩ := h
  exact ⟨M, heapAt_gr h1 g, h2.trans (Fr.of_gr g), h3, h4, h5⟩
/-- The least one so far of i and its children below c. -/
def LeastAt (M : List Nu) (i c l : Nat) : Prop :=
  (l = i ∨ (l < M.length ∧ 0 < l ∧ (l - 1) / 2 = i ∧ ∀ (hl : l < M.length) (hi : i < M.length), ltN M[l] M[i] = true)) ∧ ∀ j (hj : j < M.length) (hl : l < M.length), 0 < j → (j - 1) / 2 = i → j < c → ltN M[j] M[l] = false
theorem least_step {M : List Nu} {i c l : Nat} (h : LeastAt M i c l) (hl : l < M.length) (hi : i < M.length) (hc : c < M.length) (h0 : 0 < c) (hci : (c - 1) / 2 = i) :
    LeastAt M i (c + 1) (if ltN (M[c]'hc) (M[l]'hl) then c else l) := by
  have o := ltN_ord
  by_cases ht : ltN (M[c]'hc) (M[l]'hl) = true
  · rw [if_pos ht]
    refine ⟨Or.inr ⟨hc, h0, hci, fun h1 h2 => ?_⟩, fun j hj hl2 j0 ji jc => ?_⟩
    · rcases h.1 with e | ⟨a, b, d, e⟩
      · subst e; exact ht
      · exact o.tt ht (e hl hi)
    · by_cases e : j = c
      · subst e; exact o.irr _
      · have h1 := h.2 j hj hl j0 ji (by omega)
        exact o.trans _ _ _ h1 (o.asym _ _ ht)
  · rw [if_neg ht]
    have hf : ltN (M[c]'hc) (M[l]'hl) = false := by simpa using ht
    refine ⟨h.1, fun j hj hl2 j0 ji jc => ?_⟩
    by_cases e : j = c
    · subst e; exact hf
    · exact h.2 j hj hl j0 ji (by omega)
theorem LeastAt.le {M : List Nu} {i c l : Nat} (h : LeastAt M i c l) : l = i ∨ (l < M.length ∧ i < l ∧ 0 < l ∧ (l - 1) / 2 = i) := by
  rcases h.1 with e | ⟨a, b, d, e⟩
  · exact Or.inl e
  · exact Or.inr ⟨a, by omega, b, d⟩
set_option maxHeartbeats 8000000 in
set_option maxRecDepth 100000 in
theorem c_sink (L : List Nu) (base p m g n cap : Nat) (hl : L.length ≤ 10000) (hn : n = L.length) (W : World) (H : HeapAt W base p (.slice (some ⟨g, 0, none⟩) n cap) L m) (hok : ∀ y ∈ L, y.e.ok) (hD : Hp.hpD ltN L 0) :
    Calls Try.prog 38 #[.pointer (some ⟨p, 0, none⟩)] W fun e w' => e = .returned (.tuple #[]) ∧ SinkAt base p (.slice (some ⟨g, 0, none⟩) n cap) L m W w' := by
  have HH := Lib.hid (And.intro H (And.intro hok hD))
  have HN := Lib.hid hn
  have hn1 : n ≤ 10000 := by omega
  clear H hok hD hn
  go_enter Try.func38, Try.ntmps38
  go_wp2_with fail
  go_loopg [2] n (fun k x wr => ∃ (M : List Nu) (i : Nat), x = .int .i64 i ∧ k = n - i ∧ (i < n ∨ n = 0 ∧ i = 0) ∧ HeapAt wr base p (.slice (some ⟨g, 0, none⟩) n cap) M m ∧ M.length = n ∧ Hp.hpD ltN M i ∧ M.Perm L ∧ Fr W wr p (.slice (some ⟨g, 0, none⟩) n cap) (.slice (some ⟨g, 0, none⟩) n cap))
  case atStart => exact ⟨L, 0, rfl, by omega, by omega, HH.out.1, HN.out.symm, HH.out.2.2, List.Perm.refl _, Fr.of_gr (Below.refl _ _)⟩
  case round =>
    obtain ⟨M, i, rfl, hk, hi, hA, hM, hD, hP, hF⟩ := hrel
    subst hk
    have hMok : ∀ y ∈ M, y.e.ok := fun y hy => HH.out.2.1 y (hP.mem_iff.1 hy)
    obtain ⟨wo, rfl⟩ : ∃ wo : World, wo = wr := ⟨_, rfl⟩
    have hi2 : i ≤ 10000 := by omega
    obtain ⟨d, ed⟩ : ∃ d, d = 2 * i := ⟨_, rfl⟩
    obtain ⟨c1, e1⟩ : ∃ c, c = 2 * i + 1 := ⟨_, rfl⟩
    obtain ⟨c2, e2⟩ : ∃ c, c = 2 * i + 2 := ⟨_, rfl⟩
    have f1 : 2 * (i : Int) = (d : Int) := by omega
    have f2 : (d : Int) + 1 = (c1 : Int) := by omega
    have f3 : (d : Int) + 2 = (c2 : Int) := by omega
    have hd5 : d ≤ 100000 := by omega
    have hc5 : c1 ≤ 100000 := by omega
    have hc6 : c2 ≤ 100000 := by omega
    obtain ⟨u1, u2⟩ := wraps_small hd5
    obtain ⟨u3, u4⟩ := wraps_small hc5
    obtain ⟨u5, u6⟩ := wraps_small hc6
    have HX := Lib.hid (And.intro hA (And.intro hM (And.intro hD (And.intro hP (And.intro hF (And.intro hMok (And.intro ed (And.intro e1 e2))))))))
    clear hA hM hD hP hF hMok ed e1 e2
    go_wp2_with fail
    go_loopg [3, 4] 2 (fun k l c wx => ∃ (lv cv : Nat), l = .int .i64 lv ∧ c = .int .i64 cv ∧ c1 ≤ cv ∧ cv + k = c1 + 2 ∧ LeastAt M i cv lv ∧ Gr wo wx)
    case atStart => exact ⟨i, c1, rfl, rfl, Nat.le_refl _, rfl, ⟨Or.inl rfl, fun j hj hl j0 ji jc => by have := HX.out.2.2.2.2.2.2.2.1; omega⟩, Below.refl _ _⟩
    case round =>
      obtain ⟨lv, cv, rfl, rfl, hcv, hck, hLA, hgw⟩ := hrel
      have HLA := Lib.hid hLA
      have hcv5 : cv ≤ 100000 := by omega
      have hA := heapAt_gr HX.out.1 hgw
      obtain ⟨q0, q1, f0, f1'⟩ := hA.cells
      have hMl := HX.out.2.1
      by_cases hin : cv ≤ c2 ∧ cv < n
      · have t1 : decide ((cv : Int) ≤ (c2 : Int)) = true := decide_eq_true (by omega)
        have t2 : decide (cv ≤ c2) = true := decide_eq_true (by omega)
        have t3 : decide ((cv : Int) < (n : Int)) = true := decide_eq_true (by omega)
        have t4 : decide (cv < n) = true := decide_eq_true (by omega)
        have t5 : (cv : Int) < (n : Int) := by omega
        have hcM : cv < M.length := by omega
        have hiM : i < M.length := by omega
        have hlM : lv < M.length := by
          rcases hLA.le with e | ⟨e, -⟩ <;> omega
        have t6 : (lv : Int) < (n : Int) := by omega
        have t7 : decide ((lv : Int) < (n : Int)) = true := decide_eq_true (by omega)
        obtain ⟨cn, ecn⟩ : ∃ cn, cn = cv + 1 := ⟨_, rfl⟩
        have g1 : (cv : Int) + 1 = (cn : Int) := by omega
        have hcn5 : cn ≤ 100000 := by omega
        have hk1 : cn + (gk - 1) = c1 + 2 := by omega
        have hk2 : gk - 1 < gk := by omega
        have hk3 : c1 ≤ cn := by omega
        have hcp : 0 < cv ∧ (cv - 1) / 2 = i := by have := HX.out.2.2.2.2.2.2.2; omega
        obtain ⟨x1, ex1⟩ : ∃ x1, x1 = M[cv] := ⟨_, rfl⟩
        obtain ⟨x2, ex2⟩ : ∃ x2, x2 = M[lv] := ⟨_, rfl⟩
        obtain ⟨a0, a1, a2, a3, a4, a5, a6⟩ := heapAt_entry hA hMl.symm cv hcM x1 ex1.symm
        obtain ⟨b0, b1, b2, b3, b4, b5, b6⟩ := heapAt_entry hA hMl.symm lv hlM x2 ex2.symm
        have A1 := Lib.hid (fun w => c_ahead x1 x2 (HX.out.2.2.2.2.2.1 x1 (by rw [ex1]; exact List.getElem_mem _)) (HX.out.2.2.2.2.2.1 x2 (by rw [ex2]; exact List.getElem_mem _)) w)
        have HS := Lib.hid (least_step hLA hlM hiM hcM hcp.1 hcp.2)
        rw [← ex1, ← ex2, ← ecn] at HS
        obtain ⟨v1, v2⟩ := wraps_small hcn5
        clear hA hMl hLA ecn ex1 ex2
        cases ht : ltN x1 x2 with
        | false =>
          rw [ht] at A1 HS
          clear ht
          go_wp2_with fail
          refine wp_region_spread (by kernel_rfl) (by kernel_rfl) ?_
          try simp only [List.append]
          repeat (first | go_big_quiet_skip | (go_big_quiet_want; go_big_quiet_op; (first | go_big_quiet_on | (apply Exists.intro; refine ⟨fun _ => ?_, ?_⟩; (· (first | (go_at_call 36; first | ((with_reducible refine ((A1.out _)).mono ?_); rintro e w' ⟨rfl, hg⟩; exact ⟨rfl, spread_gr hg⟩)))); go_big_quiet_on))))
          refine wpQuiet_nil ?_
          intro wr hr
          obtain ⟨mr, rfl⟩ := hr
          go_wp2_with fail
          go_roundg (gk - 1)
          case measure => exact hk2
          case rel => exact ⟨lv, cn, rfl, rfl, hk3, hk1, HS.out, Gr.trans hgw (gr_spread _ _)⟩
        | true =>
          rw [ht] at A1 HS
          clear ht
          go_wp2_with fail
          refine wp_region_spread (by kernel_rfl) (by kernel_rfl) ?_
          try simp only [List.append]
          repeat (first | go_big_quiet_skip | (go_big_quiet_want; go_big_quiet_op; (first | go_big_quiet_on | (apply Exists.intro; refine ⟨fun _ => ?_, ?_⟩; (· (first | (go_at_call 36; first | ((with_reducible refine ((A1.out _)).mono ?_); rintro e w' ⟨rfl, hg⟩; exact ⟨rfl, spread_gr hg⟩)))); go_big_quiet_on))))
          refine wpQuiet_nil ?_
          intro wr hr
          obtain ⟨mr, rfl⟩ := hr
          go_wp2_with fail
          go_roundg (gk - 1)
          case measure => exact hk2
          case rel => exact ⟨cv, cn, rfl, rfl, hk3, hk1, HS.out, Gr.trans hgw (gr_spread _ _)⟩
      · have hall : ∀ j (hj : j < M.length) (hl : lv < M.length), 0 < j → (j - 1) / 2 = i → ltN M[j] M[lv] = false := fun j hj hl j0 ji => by
          refine hLA.2 j hj hl j0 ji ?_
          have := HX.out.2.2.2.2.2.2.2
          omega
        have hle := hLA.le
        have tt : (decide ((cv : Int) ≤ (c2 : Int)) = false ∧ decide (cv ≤ c2) = false) ∨ (decide ((cv : Int) ≤ (c2 : Int)) = true ∧ decide (cv ≤ c2) = true ∧ decide ((cv : Int) < (n : Int)) = false ∧ decide (cv < n) = false) := by
          by_cases h : cv ≤ c2
          · right; exact ⟨decide_eq_true (by omega), decide_eq_true h, decide_eq_false (by omega), decide_eq_false (by omega)⟩
          · left; exact ⟨decide_eq_false (by omega), decide_eq_false h⟩
        have HHi := Lib.hid hi
        have HIN := Lib.hid hall
        clear hall hin hA hMl hLA hi
        by_cases e : lv = i
        · have b1 : ((lv : Int) == (i : Int)) = true := by simp; omega
          have b2 : (lv == i) = true := by simp; omega
          have hfin : SinkAt base p (.slice (some ⟨g, 0, none⟩) n cap) L m W wo := by
            obtain ⟨hA, hM, hD, hP, hF, -⟩ := HX.out
            refine ⟨M, hA, hF, hP, Hp.hpD_end hD (fun j hj j0 ji => ?_), by rw [hM]; exact HN.out⟩
            have hiM : i < M.length := by omega
            have := HIN.out j hj (by omega) j0 ji
            rw [← this]
            congr 1
            exact Hp.ge e.symm hiM
          have HF := Lib.hid (sinkAt_gr hfin hgw)
          clear hfin hle e
          rcases tt with ⟨t1, t2⟩ | ⟨t1, t2, t3, t4⟩
          · go_wp2_with fail
            go_returns
            exact ⟨rfl, HF.out⟩
          · go_wp2_with fail
            go_returns
            exact ⟨rfl, HF.out⟩
        · have b1 : ((lv : Int) == (i : Int)) = false := by simp; omega
          have b2 : (lv == i) = false := by simp; omega
          obtain ⟨hlM, hil, hl0, hlp⟩ := hle.resolve_left e
          have hiM : i < M.length := by omega
          have hMl := HX.out.2.1
          have hln : lv < n := by omega
          have hm1 : n - lv < n - i := by omega
          have A2 := Lib.hid (fun w (h : HeapAt w base p (.slice (some ⟨g, 0, none⟩) n cap) M m) => c_swap M i lv hiM hlM base p m _ (by omega) w h)
          have hfin : Hp.hpD ltN (Hp.sw M i lv hiM hlM) lv := by
            obtain ⟨hA, hM, hD, hP, hF, -⟩ := HX.out
            refine Hp.hpD_step ltN_ord hD hiM hlM hlp hl0 ?_ (fun j hj j0 ji => HIN.out j hj hlM j0 ji)
            rcases HLA.out.1 with h | ⟨-, -, -, h⟩
            · exact absurd h e
            · exact h hlM hiM
          have HF := Lib.hid hfin
          have HA := Lib.hid (heapAt_gr HX.out.1 hgw)
          clear hfin hle e
          rcases tt with ⟨t1, t2⟩ | ⟨t1, t2, t3, t4⟩
          all_goals
            go_wp2_with fail
            go_at_call 37
            (with_reducible refine (A2.out _ HA.out).mono ?_)
            rintro e w4 ⟨rfl, hs1, hs2⟩
            have HS := Lib.hid (And.intro hs1 hs2)
            clear hs1 hs2
            go_wp2_with fail
            go_roundg (n - lv)
            case measure => exact hm1
            case rel =>
              obtain ⟨hA, hM, hD, hP, hF, -⟩ := HX.out
              exact ⟨_, lv, rfl, rfl, Or.inl hln, HS.out.1, by rw [Hp.sw_len]; exact hM, HF.out, (Hp.sw_perm _ _ _ _ _).trans hP, (hF.trans (Fr.of_gr hgw)).trans HS.out.2⟩
end Go.Proofs.Ytldlpbfncgcimaa
