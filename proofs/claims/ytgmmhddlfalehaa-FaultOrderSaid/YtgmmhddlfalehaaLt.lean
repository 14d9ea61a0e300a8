/- errors.Join, fault.Join -/
import Derived.Test.YtgmmhddlfalehaaLs
namespace Go.Proofs.Ytgmmhddlfalehaa
set_option linter.unusedVariables false
set_option linter.unusedSimpArgs false
open Go.ChangeShapes Go.WideShapes Go.ChangeAt Go.RowKit

/-- Those of a row that are errors. -/
def nnL (kids : Nat → Er) : Nat → List Er
  | 0 => []
  | i + 1 => if (kids i).isNil then nnL kids i else nnL kids i ++ [kids i]
theorem nnL_nil {kids : Nat → Er} {i : Nat} (h : kids i = .nil) : nnL kids (i + 1) = nnL kids i := by
  show (if (kids i).isNil then nnL kids i else nnL kids i ++ [kids i]) = _
  rw [h]
  rfl
theorem nnL_some {kids : Nat → Er} {i : Nat} (h : (kids i).isNil = false) : nnL kids (i + 1) = nnL kids i ++ [kids i] := by
  show (if (kids i).isNil then nnL kids i else nnL kids i ++ [kids i]) = _
  rw [h]
  rfl
theorem nnL_le (kids : Nat → Er) : ∀ i, (nnL kids i).length ≤ i
  | 0 => Nat.le_refl _
  | i + 1 => by
    have := nnL_le kids i
    show (if (kids i).isNil then nnL kids i else nnL kids i ++ [kids i]).length ≤ i + 1
    split
    · omega
    · rw [List.length_append]; show (nnL kids i).length + 1 ≤ i + 1; omega
/-- What they are joined to. -/
def joT (K : List Er) : Er := if K.length = 0 then .nil else .wrap 83 K.length (fun j => K.getD j .nil)
theorem own_formE {w : World} {b n size : Nat} {e : TypeId} {v : Value} {xs : List Value} (h : w.ownsRow b e size v n xs) : ∃ ad cap, v = .slice ad n cap := by
  rcases h.2 with ⟨e, h0⟩ | ⟨g, cap, cur, e, _⟩
  · exact ⟨none, 0, by rw [e, h0]⟩
  · exact ⟨_, _, e⟩
theorem wpList_make_errs (w : World) {ops : Array Oper} {rest : List Oper} {o : Oper} {a : Act} {Q : Exit → Act → World → Prop}
    (hg : o.guard = none) (l c : Operand) (hop : o.op = Op.makeSlice 51 l c) (i : TypeInfo) (h2 : Try.prog.info? 28 = some i) (h3 : i.zero = some .nilIface) (h4 : i.size = 1) (h5 : i.bytes = 16)
    (n base : Nat) (hb : base ≤ w.heap.size) (hl : a.eval l = .int .i64 0) (hc : a.eval c = .int .i64 (n : Int)) (hn : n ≤ 1000000)
    (hK : ∀ w', w'.ownsRow base 28 1 (.slice (some ⟨w.heap.size, 0, none⟩) 0 n) 0 [] → Gr w w' → wpList Try.prog ops Q rest (a.put o.dst (.slice (some ⟨w.heap.size, 0, none⟩) 0 n)) w') :
    wpList Try.prog ops Q (o :: rest) a w := by
  have hrun := run_make (P := Try.prog) w 51 28 i .nilIface Try.underlying51 h2 h3 .i64 .i64 0 (n : Int) (by omega) (by omega) (by rw [h5]; omega) (by omega)
  rw [Int.toNat_natCast, h4, Nat.mul_one] at hrun
  refine wpList_plain hg fun K hK' => ?_
  unfold Oper.wp
  simp [execOp, hop, hl, hc, hrun, Result.andThen]
  refine hK' _ _ (hK _ ?_ ((Below.refl _ _).alloc (Nat.le_refl _) _))
  exact World.ownsRow_made (base := base) (e := 28) (size := 1) w _ n hb (by unfold maxLen; omega) (by
    have := size_madeCells (z := Value.nilIface.cells) (n := n)
    rw [Nat.mul_one]
    exact this)
/-- Some are joined, already. -/
def JoS (W w : World) (P : Nat) (K : List Er) : Prop := ∃ sv us, w.heap[P]? = some (.cells #[sv] 85 (0, 0)) ∧ w.ownsRow W.heap.size 28 1 sv K.length us ∧ (∀ j, j < K.length → ∃ u, us[j]? = some u ∧ ErT W (K.getD j .nil) u) ∧ Gr W w ∧ W.heap.size ≤ P
theorem joS_end {W w : World} {P : Nat} {K : List Er} (h : JoS W w P K) (hK : K.length ≠ 0) : ErT w (joT K) (.iface 83 (.pointer (some ⟨P, 0, none⟩))) := by
  obtain ⟨sv, us, h1, h2, h3, g, -⟩ := h
  obtain ⟨D, ad, cap, e, d1, d2, d3, d5⟩ := rowX h2
  unfold joT
  rw [if_neg hK]
  subst e
  exact ⟨wrapTy_join, P, ad, cap, D, 0, rfl, Hm.cell_of_heap h1 0, d2, by omega, d1, fun i hi => by
    obtain ⟨u, hu, hT⟩ := h3 i hi
    exact ⟨u, by rw [Nat.zero_add, d5 i (by omega)]; exact hu, erT_gr g hT⟩⟩
theorem joS_kept {wq w5 : World} {P base m : Nat} {sv x5 : Value} {us : List Value} {o : Obj} (q1 : wq.heap[P]? = some (.cells #[sv] 85 (0, 0))) (q2 : wq.ownsRow base 28 1 sv m us) (g5 : Grown (wq.alloc o) w5 sv x5) : w5.heap[P]? = some (.cells #[sv] 85 (0, 0)) :=
  heap_kx ((Kx.of_gr (S := fun k => sv.ownBlock = some k) (al_grw wq o)).trans (kx_grown g5)) (fun e => by
    obtain ⟨-, cur, hc⟩ := own_ty q2 e
    rw [hc] at q1
    simp at q1) q1
theorem joS_put {W w1 w5 : World} {P m : Nat} {K : List Er} {T : Er} {sv x5 u : Value} {us : List Value} (hm : m = K.length) (h1 : w1.heap[P]? = some (.cells #[sv] 85 (0, 0))) (h2 : w1.ownsRow W.heap.size 28 1 sv m us) (h3 : ∀ j, j < K.length → ∃ u, us[j]? = some u ∧ ErT W (K.getD j .nil) u)
    (g : Gr W w1) (hP : W.heap.size ≤ P) (hT : ErT W T u) (o5 : w5.ownsRow W.heap.size 28 1 x5 (m + 1) (us ++ [u])) (h5 : w5.heap[P]? = some (.cells #[sv] 85 (0, 0))) (g5 : Gr W w5) : JoS W (w5.setCell ⟨P, 0, none⟩ x5) P (K ++ [T]) := by
  subst hm
  have hul : us.length = K.length := by have := h2.1; omega
  refine ⟨x5, us ++ [u], Hm.heap_set_same (i := 0) (v := x5) h5, ?_, fun j hj => ?_, Below.setCell g5 hP _, hP⟩
  · rw [List.length_append]
    refine rowOwn_kxS (S := fun k => k = P) o5 ((Kx.refl (S := fun k => k = P) w5).setCell (p := ⟨P, 0, none⟩) rfl _) (fun k hk e => ?_)
    obtain ⟨hb, cur, hc⟩ := own_ty o5 hk
    rw [show k = P from e, h5] at hc
    simp at hc
  · rw [List.length_append] at hj
    have hj' : j < K.length + 1 := hj
    by_cases e : j = K.length
    · subst e
      refine ⟨u, by rw [← hul, List.getElem?_concat_length], ?_⟩
      rw [List.getD_eq_getElem?_getD, List.getElem?_concat_length]
      exact hT
    · obtain ⟨u', hu', hE⟩ := h3 j (by omega)
      refine ⟨u', by rw [List.getElem?_append_left (by omega)]; exact hu', ?_⟩
      rw [List.getD_eq_getElem?_getD, List.getElem?_append_left (by omega), ← List.getD_eq_getElem?_getD]
      exact hE
set_option maxHeartbeats 4000000 in
set_option maxRecDepth 100000 in
theorem c_eJoin {n : Nat} {kids : Nat → Er} {v : Value} (W : World) (h : Errs W v n kids) (hn : n ≤ 100000) : Calls Try.prog 30 #[v] W fun e w' => ∃ u, e = .returned u ∧ ErT w' (joT (nnL kids n)) u ∧ Gr W w' := by
  obtain ⟨i0, hi0, hz0, hz1, hz2⟩ := info_parts (P := Try.prog) (e := 28) (z := .nilIface) (size := 1) (bytes := 16) (by kernel_rfl)
  have HI := Lib.hid (And.intro hi0 (And.intro hz0 (And.intro hz1 hz2)))
  clear hi0 hz0 hz1 hz2
  obtain ⟨ad, cap, B, off, rfl, h1, h2, h3, h4⟩ := h
  have HX := Lib.hid (And.intro h3 h4)
  clear h3 h4
  go_enter Try.func30, Try.ntmps30
  go_wp2_with fail
  go_loopg [3, 11] n (fun j c x wr => ∃ i t : Nat, x = .int .i64 i ∧ i ≤ n ∧ j = n - i ∧ c = .int .i64 t ∧ t ≤ i ∧ Hid (t = (nnL kids i).length) ∧ Gr W wr)
  case atStart => exact ⟨0, 0, rfl, by omega, by omega, rfl, by omega, Lib.hid rfl, by go_grown⟩
  case round =>
    obtain ⟨i, t, rfl, hi, hj, rfl, hti, HT, hg⟩ := hrel
    by_cases hin : i < n
    · have ti : decide ((i : Int) < (n : Int)) = true := decide_eq_true (by omega)
      have ti2 : decide (i < n) = true := decide_eq_true hin
      have ti3 : (i : Int) < (n : Int) := by omega
      have tn1 : (i : Int) < (cap : Int) := by omega
      have t0 : (0 : Int) ≤ (i : Int) := by omega
      obtain rfl := HX.out.1 (by omega)
      obtain ⟨u, c0, hu⟩ := HX.out.2 i hin
      have c1 := cell_gr hg c0
      have HU := Lib.hid hu
      clear c0
      rcases erT_if hu with rfl | ⟨U, y, rfl⟩
      · clear hu
        go_wp2_with fail
        go_roundg (n - (i + 1))
        case measure => omega
        case rel => exact ⟨i + 1, t, by go_num, by omega, rfl, rfl, by omega, Lib.hid (by rw [HT.out, nnL_nil (erT_nil HU.out)]), hg⟩
      · clear hu
        go_wp2_with fail
        go_roundg (n - (i + 1))
        case measure => omega
        case rel => exact ⟨i + 1, t + 1, by go_num, by omega, rfl, by go_num, by omega, Lib.hid (by rw [HT.out, nnL_some (erT_some HU.out), List.length_append]; rfl), hg⟩
    · obtain rfl : i = n := by omega
      have ti : decide ((i : Int) < (i : Int)) = false := decide_eq_false (by omega)
      have ti3 : ¬ (i : Int) < (i : Int) := by omega
      by_cases ht : t = 0
      · subst ht
        go_wp2_with fail
        go_ret
        exact ⟨_, rfl, by unfold joT; rw [← HT.out, if_pos rfl]; rfl, hg⟩
      have tz : ((t : Int) == 0) = false := by simp; omega
      have tz2 : (t == 0) = false := by simp; omega
      have hb := hg.size
      go_wp2_with (at_make; (refine wpList_make_errs _ rfl _ _ rfl i0 HI.out.1 HI.out.2.1 HI.out.2.2.1 HI.out.2.2.2 t W.heap.size hb rfl rfl (by omega) ?_); intro w2 o2 g2; (have HO := Lib.hid o2); clear o2)
      have HJ0 : Hid (JoS W (w2.alloc (.cells #[.slice (some ⟨wr.heap.size, 0, none⟩) 0 t] 85)) w2.heap.size (nnL kids 0)) := Lib.hid ⟨_, [], heap_alloc_new w2 _, rowOwn_gr HO.out (al_grw w2 _), fun j hj => absurd hj (Nat.not_lt_zero _), Gr.trans hg (Gr.trans g2 (al_grw w2 _)), Nat.le_trans hb g2.size⟩
      obtain ⟨P, hP⟩ : ∃ P, P = w2.heap.size := ⟨_, rfl⟩
      rw [← hP] at HJ0 ⊢
      generalize w2.alloc (.cells #[.slice (some ⟨wr.heap.size, 0, none⟩) 0 t] 85) = w3 at HJ0 ⊢
      clear hP g2 HO hb
      go_loopg [28] i (fun j x wq => ∃ k : Nat, x = .int .i64 k ∧ k ≤ i ∧ j = i - k ∧ Hid (JoS W wq P (nnL kids k)))
      case atStart => exact ⟨0, rfl, by omega, by omega, HJ0⟩
      case round =>
        obtain ⟨k, rfl, hk, hj2, HJ⟩ := hrel
        by_cases hkn : k < i
        · have tk : decide ((k : Int) < (i : Int)) = true := decide_eq_true (by omega)
          have tk2 : decide (k < i) = true := decide_eq_true hkn
          have tk3 : (k : Int) < (i : Int) := by omega
          have tk4 : (k : Int) < (cap : Int) := by omega
          have tk0 : (0 : Int) ≤ (k : Int) := by omega
          obtain rfl := HX.out.1 (by omega)
          obtain ⟨u, c0, hu⟩ := HX.out.2 k hkn
          obtain ⟨sv, us, q1, q2, q3, q4, q5⟩ := HJ.out
          have c1 := cell_gr q4 c0
          have HU := Lib.hid hu
          clear c0
          rcases erT_if hu with rfl | ⟨U, y, rfl⟩
          · clear hu q1 q2 q3 q4 q5
            go_wp2_with fail
            go_roundg (i - (k + 1))
            case measure => omega
            case rel => exact ⟨k + 1, by go_num, by omega, rfl, Lib.hid (by rw [nnL_nil (erT_nil HU.out)]; exact HJ.out)⟩
          · have hl := nnL_le kids k
            obtain ⟨m, hm⟩ : ∃ m, m = (nnL kids k).length := ⟨_, rfl⟩
            have q2m := q2
            rw [← hm] at q2m hl
            obtain ⟨sa, sc, rfl⟩ := own_formE q2m
            have cP := Hm.cell_of_heap q1 0
            have fP := Hm.frozen_of_heap q1 0
            have zP := (Array.getElem?_eq_some_iff.1 q1).1
            have HQ := Lib.hid (And.intro q1 (And.intro q2m (And.intro q3 (And.intro q4 (And.intro q5 hm)))))
            have hbq := q4.size
            clear hu q1 q2 q3 q4 q5 q2m hm
            go_wp2_with (at_builtin; go_loud ((refine wpList_append_own2 _ rfl (.tmp 38) (.tmp 40) 51 rfl W.heap.size 28 i0 .nilIface 1 16 Try.underlying51 HI.out.1 HI.out.2.1 HI.out.2.2.1 HI.out.2.2.2 rfl (by decide) (.slice sa m sc) m us rfl (rowOwn_gr HQ.out.2.1 (by go_grown)) ⟨wr.heap.size, 0, none⟩ 1 1 [.iface U y] rfl rfl (cell_one_new _ _ _) (by intro u hu; simp only [List.mem_cons, List.not_mem_nil, or_false] at hu; subst hu; rfl) (by unfold maxLen; omega) (by omega) (by simp; omega) ?_); intro x5 w5 o5 g5; (have h5 := joS_kept HQ.out.1 HQ.out.2.1 g5); (have G5 : Gr W w5 := g5.gr (Gr.trans HQ.out.2.2.2.1 (al_grw wr (.cells #[.iface U y] 28))) (fun k hk => (World.ownsRow.lt HQ.out.2.1 k hk).1)); (obtain ⟨xa, xc, rfl⟩ := own_formE o5); (have HO5 := Lib.hid (And.intro o5 (And.intro h5 G5))); (have cP5 := Hm.cell_of_heap h5 0); (have fP5 := Hm.frozen_of_heap h5 0); (have zP5 := (Array.getElem?_eq_some_iff.1 h5).1); clear o5 g5 h5 G5 cP fP zP))
            have HJ2 : Hid (JoS W (w5.setCell ⟨P, 0, none⟩ (.slice xa (m + 1) xc)) P (nnL kids (k + 1))) := Lib.hid (by
              rw [nnL_some (erT_some HU.out)]
              obtain ⟨q1, q2, q3, q4, q5, q6⟩ := HQ.out
              exact joS_put (w1 := wr) (sv := .slice sa m sc) (us := us) (u := .iface U y) q6 q1 q2 q3 q4 q5 HU.out HO5.out.1 HO5.out.2.1 HO5.out.2.2)
            go_roundg (i - (k + 1))
            case measure => omega
            case rel => exact ⟨k + 1, by go_num, by omega, rfl, HJ2⟩
        · obtain rfl : k = i := by omega
          have tk : decide ((k : Int) < (k : Int)) = false := decide_eq_false (by omega)
          have tk3 : ¬ (k : Int) < (k : Int) := by omega
          go_wp2_with fail
          go_ret
          exact ⟨_, rfl, joS_end HJ.out (by rw [← HT.out]; exact ht), by obtain ⟨_, _, _, _, _, g, _⟩ := HJ.out; exact g⟩
theorem c_fJoin {n : Nat} {kids : Nat → Er} {v : Value} (W : World) (h : Errs W v n kids) (hn : n ≤ 100000) : Calls Try.prog 19 #[v] W fun e w' => ∃ u, e = .returned u ∧ ErT w' (joT (nnL kids n)) u ∧ Gr W w' := by
  have H1 := Lib.hid (c_eJoin W h hn)
  obtain ⟨ad, cap, B, off, rfl, -⟩ := h
  clear hn
  go_enter Try.func19, Try.ntmps19
  go_wp2_with fail
  go_at_call 30
  refine (H1.out).mono ?_
  rintro e w1 ⟨u, rfl, hu, g1⟩
  rcases erT_if hu with rfl | ⟨U, y, rfl⟩
  all_goals
    go_wp2_with fail
    go_ret
    exact ⟨_, rfl, hu, g1⟩
end Go.Proofs.Ytgmmhddlfalehaa
