/- fault's law: within, the walk -/
import Derived.Test.YtgmmhddlfalehaaLad
namespace Go.Proofs.Ytgmmhddlfalehaa
set_option linter.unusedVariables false
set_option linter.unusedSimpArgs false
open Go.ChangeShapes Go.WideShapes Go.ChangeAt Go.RowKit

set_option maxHeartbeats 8000000 in
set_option maxRecDepth 100000 in
theorem c_within (q : Int) (T : Nd) : T.cnt ≤ 1000 → ∀ (W : World) (c0 c1 c2 c3 : Value), NdAt W T [c0, c1, c2, c3] → Calls Try.prog 10 #[.agg #[c0, c1, c2, c3], .int .i64 q] W fun e w' => ∃ sv, e = .returned sv ∧ ∃ xs, w'.ownsRow (W.heap.size + 1) 24 4 sv (T.wi q).length xs ∧ WiX q (T.wi q) xs ∧ Gr W w' := by
  induction T with
  | nil => intro _ W c0 c1 c2 c3 h; exact h.elim
  | mk kind N op n kids ih =>
    intro hcnt W c0 c1 c2 c3 h
    obtain ⟨i0, hi0, hz0, hz1, hz2⟩ := info_parts (P := Try.prog) (e := 24) (z := .agg #[.int .i64 0, .int .i64 0, .string ⟨#[]⟩, .slice none 0 0]) (size := 4) (bytes := 56) (by kernel_rfl)
    have HI := Lib.hid (And.intro hi0 (And.intro hz0 (And.intro hz1 hz2)))
    clear hi0 hz0 hz1 hz2
    obtain ⟨ad, cap, B, off, e, h1, h2, h3, h4, h5, h6, h7⟩ := h
    simp only [List.cons.injEq, and_true] at e
    obtain ⟨rfl, rfl, rfl, rfl⟩ := e
    have HX := Lib.hid (And.intro h6 h7)
    have hcs : 1 + erSum (fun i => (kids i).cnt) n ≤ 1000 := hcnt
    have HIH := Lib.hid (fun i (hi : i < n) => ih i (by have : (kids i).cnt ≤ erSum (fun i => (kids i).cnt) n := erSum_le (fun i => (kids i).cnt) n i hi; omega))
    clear h6 h7 ih h1 h2 h3 hcnt
    obtain ⟨l0, el0⟩ : ∃ l0, l0 = (if kind = q then [(N, op)] else [] : List (Int × ByteArray)) := ⟨_, rfl⟩
    have hwi : (Nd.mk kind N op n kids).wi q = l0 ++ (if kind = 2 ∨ kind = 6 then (if 0 < n then (kids 0).wi q else []) else if kind = 3 then catW (fun i => (kids i).wi q) n else []) := by rw [el0]; rfl
    obtain ⟨lm, elm⟩ : ∃ lm, lm = (if kind = 2 ∨ kind = 6 then (if 0 < n then (kids 0).wi q else []) else if kind = 3 then catW (fun i => (kids i).wi q) n else [] : List (Int × ByteArray)) := ⟨_, rfl⟩
    rw [← elm] at hwi
    obtain ⟨lt, elt⟩ : ∃ lt, lt = l0 ++ lm := ⟨_, rfl⟩
    rw [hwi, ← elt]
    have HLT := Lib.hid elt
    clear hwi elt
    have b0 : (W.alloc (.cells #[.int .i64 kind, .int .i64 N, .string op, .slice ad n cap] 24)).cell? ⟨W.heap.size, 0, none⟩ = some (.int .i64 kind) := by go_simp
    have b3 : (W.alloc (.cells #[.int .i64 kind, .int .i64 N, .string op, .slice ad n cap] 24)).cell? ⟨W.heap.size, 3, none⟩ = some (.slice ad n cap) := by go_simp
    have hsB : (W.alloc (.cells #[.int .i64 kind, .int .i64 N, .string op, .slice ad n cap] 24)).heap.size = W.heap.size + 1 := by simp
    have HGW := Lib.hid (al_grw W (.cells #[.int .i64 kind, .int .i64 N, .string op, .slice ad n cap] 24))
    go_enter Try.func10, Try.ntmps10
    go_upto_region 2 with fail
    have b1 : (W.alloc (.cells #[.int .i64 kind, .int .i64 N, .string op, .slice ad n cap] 24)).cell? ⟨W.heap.size, 1, none⟩ = some (.int .i64 N) := by go_simp
    have b2 : (W.alloc (.cells #[.int .i64 kind, .int .i64 N, .string op, .slice ad n cap] 24)).cell? ⟨W.heap.size, 2, none⟩ = some (.string op) := by go_simp
    generalize W.alloc (.cells #[.int .i64 kind, .int .i64 N, .string op, .slice ad n cap] 24) = wB at b0 b1 b2 b3 hsB HGW ⊢
    have hsW : W.heap.size + 1 ≤ wB.heap.size := Nat.le_of_eq hsB.symm
    clear hsB
    by_cases hq : kind = q
    · rw [if_pos hq] at el0
      subst hq
      have tq : (kind == kind) = true := beq_self_eq_true _
      go_upto_region 4 with (at_builtin; go_loud ((refine wpList_append_own2 _ rfl (.tmp 11) (.tmp 13) 22 rfl (W.heap.size + 1) 24 i0 (.agg #[.int .i64 0, .int .i64 0, .string ⟨#[]⟩, .slice none 0 0]) 4 56 Try.underlying22 HI.out.1 HI.out.2.1 HI.out.2.2.1 HI.out.2.2.2 rfl (by decide) (.slice none 0 0) 0 [] rfl (World.ownsRow_nil _ _ _ _) ⟨wB.heap.size, 0, none⟩ 1 1 [.int .i64 kind, .int .i64 N, .string op, .slice ad n cap] rfl rfl (cells_new _ _ _ _ rfl) (by intro u hu; simp only [List.mem_cons, List.not_mem_nil, or_false] at hu; rcases hu with rfl | rfl | rfl | rfl <;> rfl) (by unfold maxLen; omega) (by omega) (by simp; omega) ?_); intro x1 w1 o1 g1; (have GB1 : Gr wB w1 := g1.gr (al_grw wB _) (fun k hk => by cases hk)); (have c1 := cell_gr GB1 b0); (have c1b := cell_gr GB1 b3); (have HO1 := Lib.hid o1); (have HGB := Lib.hid GB1); clear o1 g1))
      have HL : Hid (w1.ownsRow (W.heap.size + 1) 24 4 x1 l0.length [.int .i64 kind, .int .i64 N, .string op, .slice ad n cap] ∧ WiX kind l0 [.int .i64 kind, .int .i64 N, .string op, .slice ad n cap]) := Lib.hid (by subst el0; exact ⟨HO1.out, .slice ad n cap, [], rfl, rfl, rfl⟩)
      have G1 := Lib.hid (Gr.trans HGW.out HGB.out)
      have hl0 : l0.length ≤ 1 := by subst el0; exact Nat.le_refl _
      have hs1 : W.heap.size + 1 ≤ w1.heap.size := Nat.le_trans hsW HGB.out.size
      obtain ⟨xs0, exs⟩ : ∃ xs0 : List Value, xs0 = [.int .i64 kind, .int .i64 N, .string op, .slice ad n cap] := ⟨_, rfl⟩
      rw [← exs] at HL
      clear exs el0 HO1 b0 b3
      have zbx := World.block_lt_of_cell? _ _ c1
      by_cases k26 : kind = 2 ∨ kind = 6
      · rw [if_pos k26] at elm
        by_cases hn : 0 < n
        · rw [if_pos hn] at elm
          have HE2 := Lib.hid elm
          clear elm
          have tn1 : decide ((0 : Int) < (n : Int)) = true := decide_eq_true (by omega)
          have tn2 : decide (0 < n) = true := decide_eq_true hn
          have tn3 : (0 : Int) < (n : Int) := by omega
          have tn4 : (0 : Int) < (cap : Int) := by omega
          obtain rfl := HX.out.1 hn
          obtain ⟨x0', x1', x2', x3', m0, m1, m2, m3, hk⟩ := HX.out.2 0 hn
          simp only [Nat.zero_mul, Nat.add_zero] at m0 m1 m2 m3
          have n0 := cell_gr G1.out m0
          have n1 := cell_gr G1.out m1
          have n2 := cell_gr G1.out m2
          have n3 := cell_gr G1.out m3
          have zB := World.block_lt_of_cell? _ _ n0
          have AK := Lib.hid (HIH.out 0 hn w1 x0' x1' x2' x3' (ndAt_gr G1.out hk))
          have hkl : ((kids 0).wi kind).length ≤ 1000 := by have a := wi_len kind (kids 0); have b : (kids 0).cnt ≤ erSum (fun i => (kids i).cnt) n := erSum_le (fun i => (kids i).cnt) n 0 hn; omega
          obtain ⟨wc, hwc⟩ : ∃ wc, wc = w1 := ⟨_, rfl⟩
          clear m0 m1 m2 m3 hk
          have ek : (kind == 2) = true ∨ (kind == 2) = false ∧ (kind == 6) = true := by rcases k26 with rfl | rfl <;> decide
          clear k26
          rcases ek with e2 | ⟨e2, e6⟩
          all_goals
            go_wp2_with fail
            go_at_call 10
            refine (AK.out).mono ?_
            rintro e w2 ⟨r, rfl, ys, o2, hy, g2⟩
            rw [← hwc] at o2
            have HR2 := Lib.hid (And.intro o2 hy)
            have HX2 := Lib.hid (rowOwn_gr HL.out.1 g2)
            have GW2 : Gr W w2 := Gr.trans G1.out g2
            have hb2 : W.heap.size + 1 ≤ w2.heap.size := Nat.le_trans hs1 g2.size
            clear o2 hy g2 n0 n1 n2 n3
            go_wp2_with (at_builtin; go_loud ((refine wpList_append_rowN rfl (.tmp 27) (.tmp 33) 22 rfl (W.heap.size + 1) 24 i0 (.agg #[.int .i64 0, .int .i64 0, .string ⟨#[]⟩, .slice none 0 0]) 4 56 Try.underlying22 HI.out.1 HI.out.2.1 HI.out.2.2.1 HI.out.2.2.2 rfl (by decide) x1 l0.length xs0 rfl HX2.out r (wc.heap.size + 1) ((kids 0).wi kind).length ys rfl HR2.out.1 (wiX_one HR2.out.2) (by unfold maxLen; omega) (by omega) hb2 ?_); intro x3 w3 o3 g3; (have HO3 := Lib.hid o3); (have G3 : Gr W w3 := g3.gr GW2 (fun k hk => by have := (World.ownsRow.lt HX2.out k hk).1; omega)); (have KB : Kx (fun k => W.heap.size < k) w2 w3 := (kx_grown g3).mono (fun k hk => by have := (World.ownsRow.lt HX2.out k hk).1; show W.heap.size < k; omega)); (have HK3 := Lib.hid (And.intro G3 KB)); clear o3 g3 G3 KB))
            go_ret
            exact ⟨x3, rfl, xs0 ++ ys, by rw [HLT.out, HE2.out, List.length_append]; exact HO3.out, by rw [HLT.out, HE2.out]; exact wiX_app HL.out.2 HR2.out.2, HK3.out.1⟩
        · rw [if_neg hn] at elm
          have HE2 := Lib.hid elm
          clear elm
          obtain rfl : n = 0 := by omega
          have ek : (kind == 2) = true ∨ (kind == 2) = false ∧ (kind == 6) = true := by rcases k26 with rfl | rfl <;> decide
          clear k26
          rcases ek with e2 | ⟨e2, e6⟩
          all_goals
            go_wp2_with fail
            go_ret
            exact ⟨_, rfl, xs0, by rw [HLT.out, HE2.out, List.append_nil]; exact HL.out.1, by rw [HLT.out, HE2.out, List.append_nil]; exact HL.out.2, G1.out⟩
      · rw [if_neg k26] at elm
        have e2 : (kind == 2) = false := by simp; omega
        have e6 : (kind == 6) = false := by simp; omega
        by_cases k3 : kind = 3
        · rw [if_pos k3] at elm
          have HE2 := Lib.hid elm
          clear elm
          have e3 : (kind == 3) = true := by simpa using k3
          clear k3
          have HS0 : Hid (∃ xs, w1.ownsRow (W.heap.size + 1) 24 4 x1 (l0 ++ catW (fun i => (kids i).wi kind) 0).length xs ∧ WiX kind (l0 ++ catW (fun i => (kids i).wi kind) 0) xs) := Lib.hid (by
            show ∃ xs, w1.ownsRow _ _ _ _ (l0 ++ []).length xs ∧ WiX kind (l0 ++ []) xs
            rw [List.append_nil]
            exact ⟨xs0, HL.out⟩)
          have HC0 := Lib.hid (And.intro c1 c1b)
          clear HL
          go_wp2_with fail
          go_loopg [5, 6] n (fun j a x wq => ∃ i : Nat, x = .int .i64 i ∧ i ≤ n ∧ j = n - i ∧ Hid (∃ xs, wq.ownsRow (W.heap.size + 1) 24 4 a (l0 ++ catW (fun i => (kids i).wi kind) i).length xs ∧ WiX kind (l0 ++ catW (fun i => (kids i).wi kind) i) xs) ∧ Hid (wq.cell? ⟨W.heap.size, 0, none⟩ = some (.int .i64 kind) ∧ wq.cell? ⟨W.heap.size, 3, none⟩ = some (.slice ad n cap)) ∧ Hid (Gr W wq ∧ W.heap.size + 1 ≤ wq.heap.size))
          case atStart => exact ⟨0, rfl, by omega, by omega, HS0, HC0, Lib.hid ⟨G1.out, hs1⟩⟩
          case round =>
            obtain ⟨i, rfl, hi, hj, HS, HCC, HGG⟩ := hrel
            obtain ⟨d0, d3⟩ := HCC.out
            have zd := World.block_lt_of_cell? _ _ d0
            obtain ⟨xs, q1, q2⟩ := HS.out
            by_cases hin : i < n
            · have ti : decide ((i : Int) < (n : Int)) = true := decide_eq_true (by omega)
              have ti2 : decide (i < n) = true := decide_eq_true hin
              have ti3 : (i : Int) < (n : Int) := by omega
              have tn4 : (i : Int) < (cap : Int) := by omega
              have t0 : (0 : Int) ≤ (i : Int) := by omega
              obtain rfl := HX.out.1 (by omega)
              obtain ⟨x0', x1', x2', x3', m0, m1, m2, m3, hk⟩ := HX.out.2 i hin
              have n0 := cell_gr HGG.out.1 m0
              have n1 := cell_gr HGG.out.1 m1
              have n2 := cell_gr HGG.out.1 m2
              have n3 := cell_gr HGG.out.1 m3
              have zB := World.block_lt_of_cell? _ _ n0
              have AK := Lib.hid (HIH.out i hin wr x0' x1' x2' x3' (ndAt_gr HGG.out.1 hk))
              obtain ⟨nl, enl⟩ : ∃ nl, nl = (l0 ++ catW (fun i => (kids i).wi kind) i).length := ⟨_, rfl⟩
              rw [← enl] at q1
              have hkl : ((kids i).wi kind).length ≤ 1000 := by have a := wi_len kind (kids i); have b : (kids i).cnt ≤ erSum (fun i => (kids i).cnt) n := erSum_le (fun i => (kids i).cnt) n i hin; omega
              have hnl : nl ≤ 2000 := by
                have a : (catW (fun i => (kids i).wi kind) i).length ≤ erSum (fun i => (kids i).cnt) i := catW_len i (fun i _ => wi_len kind (kids i))
                have b := erSum_mono (fun i => (kids i).cnt) i n (by omega)
                rw [enl, List.length_append]
                omega
              have HQ := Lib.hid (And.intro q1 (And.intro q2 enl))
              obtain ⟨wc, hwc⟩ : ∃ wc, wc = wr := ⟨_, rfl⟩
              clear m0 m1 m2 m3 hk q1 q2 enl HS
              go_wp2_with fail
              go_at_call 10
              refine (AK.out).mono ?_
              rintro e w2 ⟨r, rfl, ys, o2, hy, g2⟩
              rw [← hwc] at o2
              have HR2 := Lib.hid (And.intro o2 hy)
              have HX2 := Lib.hid (rowOwn_gr HQ.out.1 g2)
              have GW2 : Gr W w2 := Gr.trans HGG.out.1 g2
              have hb2 : W.heap.size + 1 ≤ w2.heap.size := Nat.le_trans HGG.out.2 g2.size
              have v0 := cell_gr g2 d0
              have v3 := cell_gr g2 d3
              have HV := Lib.hid (And.intro v0 v3)
              clear o2 hy g2 n0 n1 n2 n3 v0 v3 d0 d3
              go_wp2_with (at_builtin; go_loud ((refine wpList_append_rowN rfl (.tmp 48) (.tmp 55) 22 rfl (W.heap.size + 1) 24 i0 (.agg #[.int .i64 0, .int .i64 0, .string ⟨#[]⟩, .slice none 0 0]) 4 56 Try.underlying22 HI.out.1 HI.out.2.1 HI.out.2.2.1 HI.out.2.2.2 rfl (by decide) u5 nl xs rfl HX2.out r (wc.heap.size + 1) ((kids i).wi kind).length ys rfl HR2.out.1 (wiX_one HR2.out.2) (by unfold maxLen; omega) (by omega) hb2 ?_); intro x3 w3 o3 g3; (have HO3 := Lib.hid o3); (have G3 : Gr W w3 := g3.gr GW2 (fun k hk => by have := (World.ownsRow.lt HX2.out k hk).1; omega)); (have KB : Kx (fun k => W.heap.size < k) w2 w3 := (kx_grown g3).mono (fun k hk => by have := (World.ownsRow.lt HX2.out k hk).1; show W.heap.size < k; omega)); (have HK3 := Lib.hid (And.intro G3 KB)); clear o3 g3 G3 KB))
              have HS3 : Hid (∃ xs, w3.ownsRow (W.heap.size + 1) 24 4 x3 (l0 ++ catW (fun i => (kids i).wi kind) (i + 1)).length xs ∧ WiX kind (l0 ++ catW (fun i => (kids i).wi kind) (i + 1)) xs) := Lib.hid (by
                show ∃ xs, w3.ownsRow _ _ _ _ (l0 ++ (catW (fun i => (kids i).wi kind) i ++ (kids i).wi kind)).length xs ∧ WiX kind (l0 ++ (catW (fun i => (kids i).wi kind) i ++ (kids i).wi kind)) xs
                rw [← List.append_assoc, List.length_append, ← HQ.out.2.2]
                exact ⟨_, HO3.out, wiX_app HQ.out.2.1 HR2.out.2⟩)
              have hs3 := HK3.out.2.size
              go_roundg (n - (i + 1))
              case measure => omega
              case rel => exact ⟨i + 1, by go_num, by omega, rfl, HS3, Lib.hid ⟨cell_kx HK3.out.2 (p := ⟨W.heap.size, 0, none⟩) (Nat.lt_irrefl _) HV.out.1, cell_kx HK3.out.2 (p := ⟨W.heap.size, 3, none⟩) (Nat.lt_irrefl _) HV.out.2⟩, Lib.hid ⟨HK3.out.1, by omega⟩⟩
            · obtain rfl : i = n := by omega
              have ti : decide ((i : Int) < (i : Int)) = false := decide_eq_false (by omega)
              have ti3 : ¬ (i : Int) < (i : Int) := by omega
              go_wp2_with fail
              go_ret
              exact ⟨_, rfl, xs, by rw [HLT.out, HE2.out]; exact q1, by rw [HLT.out, HE2.out]; exact q2, HGG.out.1⟩
        · rw [if_neg k3] at elm
          have HE2 := Lib.hid elm
          clear elm
          have e3 : (kind == 3) = false := by simpa using k3
          by_cases hn : 0 < n
          · have tn1 : decide ((0 : Int) < (n : Int)) = true := decide_eq_true (by omega)
            have tn2 : decide (0 < n) = true := decide_eq_true hn
            have tn3 : (0 : Int) < (n : Int) := by omega
            go_wp2_with fail
            refine wp_loop_rounds 1 ?_
            rw [rounds_succ]
            go_wp2_with fail
            go_ret
            exact ⟨_, rfl, xs0, by rw [HLT.out, HE2.out, List.append_nil]; exact HL.out.1, by rw [HLT.out, HE2.out, List.append_nil]; exact HL.out.2, G1.out⟩
          · obtain rfl : n = 0 := by omega
            go_wp2_with fail
            refine wp_loop_rounds 1 ?_
            rw [rounds_succ]
            go_wp2_with fail
            go_ret
            exact ⟨_, rfl, xs0, by rw [HLT.out, HE2.out, List.append_nil]; exact HL.out.1, by rw [HLT.out, HE2.out, List.append_nil]; exact HL.out.2, G1.out⟩
    · rw [if_neg hq] at el0
      have tq : (kind == q) = false := by simpa using hq
      go_upto_region 4 with fail
      have HL : Hid (wB.ownsRow (W.heap.size + 1) 24 4 (.slice none 0 0) l0.length [] ∧ WiX q l0 []) := Lib.hid (by subst el0; exact ⟨World.ownsRow_nil _ _ _ _, rfl⟩)
      have G1 := HGW
      have hl0 : l0.length ≤ 1 := by subst el0; exact Nat.zero_le _
      have hs1 := hsW
      obtain ⟨xs0, exs⟩ : ∃ xs0 : List Value, xs0 = [] := ⟨_, rfl⟩
      rw [← exs] at HL
      have c1 := b0
      have c1b := b3
      clear exs el0 b0 b3
      have zbx := World.block_lt_of_cell? _ _ c1
      by_cases k26 : kind = 2 ∨ kind = 6
      · rw [if_pos k26] at elm
        by_cases hn : 0 < n
        · rw [if_pos hn] at elm
          have HE2 := Lib.hid elm
          clear elm
          have tn1 : decide ((0 : Int) < (n : Int)) = true := decide_eq_true (by omega)
          have tn2 : decide (0 < n) = true := decide_eq_true hn
          have tn3 : (0 : Int) < (n : Int) := by omega
          have tn4 : (0 : Int) < (cap : Int) := by omega
          obtain rfl := HX.out.1 hn
          obtain ⟨x0', x1', x2', x3', m0, m1, m2, m3, hk⟩ := HX.out.2 0 hn
          simp only [Nat.zero_mul, Nat.add_zero] at m0 m1 m2 m3
          have n0 := cell_gr G1.out m0
          have n1 := cell_gr G1.out m1
          have n2 := cell_gr G1.out m2
          have n3 := cell_gr G1.out m3
          have zB := World.block_lt_of_cell? _ _ n0
          have AK := Lib.hid (HIH.out 0 hn wB x0' x1' x2' x3' (ndAt_gr G1.out hk))
          have hkl : ((kids 0).wi q).length ≤ 1000 := by have a := wi_len q (kids 0); have b : (kids 0).cnt ≤ erSum (fun i => (kids i).cnt) n := erSum_le (fun i => (kids i).cnt) n 0 hn; omega
          obtain ⟨wc, hwc⟩ : ∃ wc, wc = wB := ⟨_, rfl⟩
          clear m0 m1 m2 m3 hk
          have ek : (kind == 2) = true ∨ (kind == 2) = false ∧ (kind == 6) = true := by rcases k26 with rfl | rfl <;> decide
          clear k26
          rcases ek with e2 | ⟨e2, e6⟩
          all_goals
            go_wp2_with fail
            go_at_call 10
            refine (AK.out).mono ?_
            rintro e w2 ⟨r, rfl, ys, o2, hy, g2⟩
            rw [← hwc] at o2
            have HR2 := Lib.hid (And.intro o2 hy)
            have HX2 := Lib.hid (rowOwn_gr HL.out.1 g2)
            have GW2 : Gr W w2 := Gr.trans G1.out g2
            have hb2 : W.heap.size + 1 ≤ w2.heap.size := Nat.le_trans hs1 g2.size
            clear o2 hy g2 n0 n1 n2 n3
            go_wp2_with (at_builtin; go_loud ((refine wpList_append_rowN rfl (.tmp 27) (.tmp 33) 22 rfl (W.heap.size + 1) 24 i0 (.agg #[.int .i64 0, .int .i64 0, .string ⟨#[]⟩, .slice none 0 0]) 4 56 Try.underlying22 HI.out.1 HI.out.2.1 HI.out.2.2.1 HI.out.2.2.2 rfl (by decide) (.slice none 0 0) l0.length xs0 rfl HX2.out r (wc.heap.size + 1) ((kids 0).wi q).length ys rfl HR2.out.1 (wiX_one HR2.out.2) (by unfold maxLen; omega) (by omega) hb2 ?_); intro x3 w3 o3 g3; (have HO3 := Lib.hid o3); (have G3 : Gr W w3 := g3.gr GW2 (fun k hk => by have := (World.ownsRow.lt HX2.out k hk).1; omega)); (have KB : Kx (fun k => W.heap.size < k) w2 w3 := (kx_grown g3).mono (fun k hk => by have := (World.ownsRow.lt HX2.out k hk).1; show W.heap.size < k; omega)); (have HK3 := Lib.hid (And.intro G3 KB)); clear o3 g3 G3 KB))
            go_ret
            exact ⟨x3, rfl, xs0 ++ ys, by rw [HLT.out, HE2.out, List.length_append]; exact HO3.out, by rw [HLT.out, HE2.out]; exact wiX_app HL.out.2 HR2.out.2, HK3.out.1⟩
        · rw [if_neg hn] at elm
          have HE2 := Lib.hid elm
          clear elm
          obtain rfl : n = 0 := by omega
          have ek : (kind == 2) = true ∨ (kind == 2) = false ∧ (kind == 6) = true := by rcases k26 with rfl | rfl <;> decide
          clear k26
          rcases ek with e2 | ⟨e2, e6⟩
          all_goals
            go_wp2_with fail
            go_ret
            exact ⟨_, rfl, xs0, by rw [HLT.out, HE2.out, List.append_nil]; exact HL.out.1, by rw [HLT.out, HE2.out, List.append_nil]; exact HL.out.2, G1.out⟩
      · rw [if_neg k26] at elm
        have e2 : (kind == 2) = false := by simp; omega
        have e6 : (kind == 6) = false := by simp; omega
        by_cases k3 : kind = 3
        · rw [if_pos k3] at elm
          have HE2 := Lib.hid elm
          clear elm
          have e3 : (kind == 3) = true := by simpa using k3
          clear k3
          have HS0 : Hid (∃ xs, wB.ownsRow (W.heap.size + 1) 24 4 (.slice none 0 0) (l0 ++ catW (fun i => (kids i).wi q) 0).length xs ∧ WiX q (l0 ++ catW (fun i => (kids i).wi q) 0) xs) := Lib.hid (by
            show ∃ xs, wB.ownsRow _ _ _ _ (l0 ++ []).length xs ∧ WiX q (l0 ++ []) xs
            rw [List.append_nil]
            exact ⟨xs0, HL.out⟩)
          have HC0 := Lib.hid (And.intro c1 c1b)
          clear HL
          go_wp2_with fail
          go_loopg [5, 6] n (fun j a x wq => ∃ i : Nat, x = .int .i64 i ∧ i ≤ n ∧ j = n - i ∧ Hid (∃ xs, wq.ownsRow (W.heap.size + 1) 24 4 a (l0 ++ catW (fun i => (kids i).wi q) i).length xs ∧ WiX q (l0 ++ catW (fun i => (kids i).wi q) i) xs) ∧ Hid (wq.cell? ⟨W.heap.size, 0, none⟩ = some (.int .i64 kind) ∧ wq.cell? ⟨W.heap.size, 3, none⟩ = some (.slice ad n cap)) ∧ Hid (Gr W wq ∧ W.heap.size + 1 ≤ wq.heap.size))
          case atStart => exact ⟨0, rfl, by omega, by omega, HS0, HC0, Lib.hid ⟨G1.out, hs1⟩⟩
          case round =>
            obtain ⟨i, rfl, hi, hj, HS, HCC, HGG⟩ := hrel
            obtain ⟨d0, d3⟩ := HCC.out
            have zd := World.block_lt_of_cell? _ _ d0
            obtain ⟨xs, q1, q2⟩ := HS.out
            by_cases hin : i < n
            · have ti : decide ((i : Int) < (n : Int)) = true := decide_eq_true (by omega)
              have ti2 : decide (i < n) = true := decide_eq_true hin
              have ti3 : (i : Int) < (n : Int) := by omega
              have tn4 : (i : Int) < (cap : Int) := by omega
              have t0 : (0 : Int) ≤ (i : Int) := by omega
              obtain rfl := HX.out.1 (by omega)
              obtain ⟨x0', x1', x2', x3', m0, m1, m2, m3, hk⟩ := HX.out.2 i hin
              have n0 := cell_gr HGG.out.1 m0
              have n1 := cell_gr HGG.out.1 m1
              have n2 := cell_gr HGG.out.1 m2
              have n3 := cell_gr HGG.out.1 m3
              have zB := World.block_lt_of_cell? _ _ n0
              have AK := Lib.hid (HIH.out i hin wr x0' x1' x2' x3' (ndAt_gr HGG.out.1 hk))
              obtain ⟨nl, enl⟩ : ∃ nl, nl = (l0 ++ catW (fun i => (kids i).wi q) i).length := ⟨_, rfl⟩
              rw [← enl] at q1
              have hkl : ((kids i).wi q).length ≤ 1000 := by have a := wi_len q (kids i); have b : (kids i).cnt ≤ erSum (fun i => (kids i).cnt) n := erSum_le (fun i => (kids i).cnt) n i hin; omega
              have hnl : nl ≤ 2000 := by
                have a : (catW (fun i => (kids i).wi q) i).length ≤ erSum (fun i => (kids i).cnt) i := catW_len i (fun i _ => wi_len q (kids i))
                have b := erSum_mono (fun i => (kids i).cnt) i n (by omega)
                rw [enl, List.length_append]
                omega
              have HQ := Lib.hid (And.intro q1 (And.intro q2 enl))
              obtain ⟨wc, hwc⟩ : ∃ wc, wc = wr := ⟨_, rfl⟩
              clear m0 m1 m2 m3 hk q1 q2 enl HS
              go_wp2_with fail
              go_at_call 10
              refine (AK.out).mono ?_
              rintro e w2 ⟨r, rfl, ys, o2, hy, g2⟩
              rw [← hwc] at o2
              have HR2 := Lib.hid (And.intro o2 hy)
              have HX2 := Lib.hid (rowOwn_gr HQ.out.1 g2)
              have GW2 : Gr W w2 := Gr.trans HGG.out.1 g2
              have hb2 : W.heap.size + 1 ≤ w2.heap.size := Nat.le_trans HGG.out.2 g2.size
              have v0 := cell_gr g2 d0
              have v3 := cell_gr g2 d3
              have HV := Lib.hid (And.intro v0 v3)
              clear o2 hy g2 n0 n1 n2 n3 v0 v3 d0 d3
              go_wp2_with (at_builtin; go_loud ((refine wpList_append_rowN rfl (.tmp 48) (.tmp 55) 22 rfl (W.heap.size + 1) 24 i0 (.agg #[.int .i64 0, .int .i64 0, .string ⟨#[]⟩, .slice none 0 0]) 4 56 Try.underlying22 HI.out.1 HI.out.2.1 HI.out.2.2.1 HI.out.2.2.2 rfl (by decide) u5 nl xs rfl HX2.out r (wc.heap.size + 1) ((kids i).wi q).length ys rfl HR2.out.1 (wiX_one HR2.out.2) (by unfold maxLen; omega) (by omega) hb2 ?_); intro x3 w3 o3 g3; (have HO3 := Lib.hid o3); (have G3 : Gr W w3 := g3.gr GW2 (fun k hk => by have := (World.ownsRow.lt HX2.out k hk).1; omega)); (have KB : Kx (fun k => W.heap.size < k) w2 w3 := (kx_grown g3).mono (fun k hk => by have := (World.ownsRow.lt HX2.out k hk).1; show W.heap.size < k; omega)); (have HK3 := Lib.hid (And.intro G3 KB)); clear o3 g3 G3 KB))
              have HS3 : Hid (∃ xs, w3.ownsRow (W.heap.size + 1) 24 4 x3 (l0 ++ catW (fun i => (kids i).wi q) (i + 1)).length xs ∧ WiX q (l0 ++ catW (fun i => (kids i).wi q) (i + 1)) xs) := Lib.hid (by
                show ∃ xs, w3.ownsRow _ _ _ _ (l0 ++ (catW (fun i => (kids i).wi q) i ++ (kids i).wi q)).length xs ∧ WiX q (l0 ++ (catW (fun i => (kids i).wi q) i ++ (kids i).wi q)) xs
                rw [← List.append_assoc, List.length_append, ← HQ.out.2.2]
                exact ⟨_, HO3.out, wiX_app HQ.out.2.1 HR2.out.2⟩)
              have hs3 := HK3.out.2.size
              go_roundg (n - (i + 1))
              case measure => omega
              case rel => exact ⟨i + 1, by go_num, by omega, rfl, HS3, Lib.hid ⟨cell_kx HK3.out.2 (p := ⟨W.heap.size, 0, none⟩) (Nat.lt_irrefl _) HV.out.1, cell_kx HK3.out.2 (p := ⟨W.heap.size, 3, none⟩) (Nat.lt_irrefl _) HV.out.2⟩, Lib.hid ⟨HK3.out.1, by omega⟩⟩
            · obtain rfl : i = n := by omega
              have ti : decide ((i : Int) < (i : Int)) = false := decide_eq_false (by omega)
              have ti3 : ¬ (i : Int) < (i : Int) := by omega
              go_wp2_with fail
              go_ret
              exact ⟨_, rfl, xs, by rw [HLT.out, HE2.out]; exact q1, by rw [HLT.out, HE2.out]; exact q2, HGG.out.1⟩
        · rw [if_neg k3] at elm
          have HE2 := Lib.hid elm
          clear elm
          have e3 : (kind == 3) = false := by simpa using k3
          by_cases hn : 0 < n
          · have tn1 : decide ((0 : Int) < (n : Int)) = true := decide_eq_true (by omega)
            have tn2 : decide (0 < n) = true := decide_eq_true hn
            have tn3 : (0 : Int) < (n : Int) := by omega
            go_wp2_with fail
            refine wp_loop_rounds 1 ?_
            rw [rounds_succ]
            go_wp2_with fail
            go_ret
            exact ⟨_, rfl, xs0, by rw [HLT.out, HE2.out, List.append_nil]; exact HL.out.1, by rw [HLT.out, HE2.out, List.append_nil]; exact HL.out.2, G1.out⟩
          · obtain rfl : n = 0 := by omega
            go_wp2_with fail
            refine wp_loop_rounds 1 ?_
            rw [rounds_succ]
            go_wp2_with fail
            go_ret
            exact ⟨_, rfl, xs0, by rw [HLT.out, HE2.out, List.append_nil]; exact HL.out.1, by rw [HLT.out, HE2.out, List.append_nil]; exact HL.out.2, G1.out⟩
end Go.Proofs.Ytgmmhddlfalehaa
