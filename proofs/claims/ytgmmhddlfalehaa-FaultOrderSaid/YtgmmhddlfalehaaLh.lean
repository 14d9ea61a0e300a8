/- fault: walk, whatever visits: the walk -/
import Derived.Test.YtgmmhddlfalehaaLg
namespace Go.Proofs.Ytgmmhddlfalehaa
set_option linter.unusedVariables false
set_option linter.unusedSimpArgs false
open Go.ChangeShapes Go.WideShapes Go.ChangeAt Go.RowKit

/-- A walk between two steps. -/
structure WSt {σ : Type} (I : σ → World → Prop) (W0 w : World) (base mp : Nat) (v : Value) (st : List It) (s : σ) : Prop where
  todo : TodoS w base v st
  around : PSet w mp (leavesI st)
  inv : I s w
  gr : Gr W0 w
  b1 : W0.heap.size ≤ base
  b2 : base ≤ w.heap.size
  b3 : W0.heap.size ≤ mp
theorem stI_oth {σ : Type} {I : σ → World → Prop} (HI : ∀ s a b T, I s a → Kx T a b → OthV a T → I s b) {s : σ} {a b : World} (h : I s a) (g : Gr a b) : I s b := HI s a b (fun _ => False) h (Kx.of_gr g) (fun k h => h.elim)
section
variable {σ : Type} {I : σ → World → Prop} {W0 w w' : World} {base mp : Nat} {v : Value} {st : List It} {s : σ}
theorem wst_gr (HI : ∀ s a b T, I s a → Kx T a b → OthV a T → I s b) (h : WSt I W0 w base mp v st s) (g : Gr w w') : WSt I W0 w' base mp v st s :=
  ⟨todoS_gr h.todo g, pset_gr h.around g, stI_oth HI h.inv g, Gr.trans h.gr g, h.b1, Nat.le_trans h.b2 g.size, h.b3⟩
/-- The map alone has turned. -/
theorem wst_map (HI : ∀ s a b T, I s a → Kx T a b → OthV a T → I s b) {st' : List It} {v' : Value} (h : WSt I W0 w base mp v st s) (K : Kx (fun k => k = mp) w w') (ht : TodoS w base v' st') (hp : PSet w' mp (leavesI st')) : WSt I W0 w' base mp v' st' s := by
  refine ⟨todoS_kx ht K (fun k hk e => todo_neM ht h.around (by rw [hk, e])), hp, HI s _ _ _ h.inv K (fun k hk => ?_), Kx.gr K h.gr (fun k hk => by rw [show k = mp from hk]; exact h.b3), h.b1, Nat.le_trans h.b2 K.size, h.b3⟩
  obtain ⟨es, c, hb, -⟩ := h.around
  rw [show k = mp from hk]
  exact Or.inr (Or.inr ⟨es, c, hb⟩)
/-- The stack has turned. -/
theorem wst_todo (HI : ∀ s a b T, I s a → Kx T a b → OthV a T → I s b) {st' : List It} {v' : Value} (h : WSt I W0 w base mp v st s) (K : Kx (fun k => v.ownBlock = some k ∨ w.heap.size ≤ k) w w') (ht : TodoS w' base v' st') (hl : leavesI st' = leavesI st) : WSt I W0 w' base mp v' st' s := by
  have hm := pset_lt h.around
  refine ⟨ht, (by
    rw [hl]
    refine pset_kx h.around K (fun e => ?_)
    rcases e with e | e
    · exact todo_neM h.todo h.around e
    · omega), HI s _ _ _ h.inv K (fun k hk => ?_), Kx.gr K h.gr (fun k hk => ?_), h.b1, Nat.le_trans h.b2 K.size, h.b3⟩
  · rcases hk with hk | hk
    · obtain ⟨-, cur, hc⟩ := own_step h.todo hk
      exact Or.inr (Or.inl ⟨cur, _, hc⟩)
    · exact Or.inl hk
  · rcases hk with hk | hk
    · exact Nat.le_trans h.b1 (own_step h.todo hk).1
    · exact Nat.le_trans h.gr.size hk
/-- A visit was made. -/
theorem wst_vis {s' : σ} (h : WSt I W0 w base mp v st s) (g : VFr W0 w w') (hI : I s' w') : WSt I W0 w' base mp v st s' :=
  ⟨todo_vfr h.todo g, pset_vfr h.around g, hI, vfr_gr g h.gr, h.b1, Nat.le_trans h.b2 (by obtain ⟨S, K, -⟩ := g; exact K.size), h.b3⟩
end
theorem eq_snoc (st : List It) : st = [] ∨ ∃ st0 x, st = st0 ++ [x] := by
  rcases List.eq_nil_or_concat st with h | ⟨a, x, h⟩
  · exact Or.inl h
  · exact Or.inr ⟨a, x, by rw [h, List.concat_eq_append]⟩
theorem It.wt_pos (x : It) : 1 ≤ x.wt := by
  cases x with
  | look T v =>
    show 1 ≤ 2 * T.size
    have := er_sum T
    omega
  | leave F T => exact Nat.le_refl _
theorem wt_len : ∀ st : List It, st.length ≤ wtI st
  | [] => Nat.le_refl _
  | x :: l => by
    have := wt_len l
    have := x.wt_pos
    show l.length + 1 ≤ x.wt + wtI l
    omega
theorem blk_vfr {W0 w w' : World} {V : Nat} {cur : Array Value} (h : w.heap[V]? = some (.cells cur 77 (0, 0))) (g : VFr W0 w w') : w'.heap[V]? = some (.cells cur 77 (0, 0)) := by
  obtain ⟨S, K, hS⟩ := g
  refine heap_kx K (fun hs => ?_) h
  have hl := (Array.getElem?_eq_some_iff.1 h).1
  rcases (hS V hs).2 with h' | ⟨cur', U, z, h', hU⟩
  · omega
  · rw [h] at h'
    simp at h'
    exact hU h'.2.1.symm
section
variable {P : Program} {w : World} {ops : Array Oper} {rest : List Oper} {o : Oper} {a : Act} {Q : Exit → Act → World → Prop}
theorem wpList_putP (hg : o.guard = none) (m x y : Operand) (t : TypeId) (hop : o.op = Op.mapUpdate t m x y) {r F : Nat} (hm : a.eval m = .map (some r)) (hx : a.eval x = ptrV F) (hy : a.eval y = .agg #[]) {w' : World} (hr : (Instr.mapUpdate t (.map (some r)) (ptrV F) (.agg #[])).run P w = .ok () w')
    (hK : wpList P ops Q rest (a.put o.dst undef) w') : wpList P ops Q (o :: rest) a w := by
  refine wpList_plain hg fun K hK' => ?_
  unfold Oper.wp
  simp [execOp, hop, hm, hx, hy, hr, Result.andThen]
  exact hK' _ _ hK
end
theorem futI_us (st : List It) (kids : Nat → Er) (us us' : Nat → Value) (m : Nat) : futI (st ++ kst kids us m m) = futI (st ++ kst kids us' m m) := by
  rw [futI_append, futI_append, futI_kst _ _ _ _ (Nat.le_refl _), futI_kst _ _ _ _ (Nat.le_refl _)]
theorem er_pos (T : Er) : 1 ≤ T.size := by have := er_sum T; omega
theorem erSum_ge (f : Nat → Nat) (h : ∀ i, 1 ≤ f i) : ∀ n, n ≤ erSum f n
  | 0 => Nat.le_refl _
  | n + 1 => by
    have := erSum_ge f h n
    have := h n
    show n + 1 ≤ erSum f n + f n
    omega
theorem er_kidN (T : Er) : T.kidN ≤ T.size := by
  have h1 := er_sum T
  have h2 := erSum_ge (fun i => (T.kid i).size) (fun i => er_pos _) T.kidN
  omega
theorem ef_ne {T : Er} {v : Value} {w : World} (h : ErT w T v) (hn : T ≠ .nil) : ∃ U x, v = .iface U x := by
  rcases erT_if h with rfl | h'
  · cases T with
    | nil => exact absurd rfl hn
    | num k => cases h
    | flt op id kid => obtain ⟨_, _, e, _⟩ := h; cases e
    | nflt => cases h
    | plain T x => obtain ⟨e, _⟩ := h; cases e
    | cov T kid => obtain ⟨_, _, _, e, _⟩ := h; cases e
    | wrap T n kids => obtain ⟨_, _, _, _, _, _, e, _⟩ := h; cases e
  · exact h'
set_option maxHeartbeats 4000000 in
set_option maxRecDepth 100000 in
theorem c_walk {σ : Type} (vis : σ → Er → σ × Bool) (I : σ → World → Prop) (K : FuncId) (caps : Array Value) (W0 : World)
    (HI : ∀ s a b T, I s a → Kx T a b → OthV a T → I s b) (HC : ∀ (x : Value) (w : World), (callFunc K (#[x] ++ caps)).run Try.prog w = .ok (.enter K (#[x] ++ caps)) w)
    (μ : σ → Nat) (Hμ : ∀ s T, μ (vis s T).1 ≤ μ s + 1) (HV : ∀ s T v w, μ s ≤ 800000 → Gr W0 w → I s w → ErT W0 T v → T ≠ .nil → Calls Try.prog K (#[v] ++ caps) w fun e w' => e = .returned (.bool (vis s T).2) ∧ I (vis s T).1 w' ∧ VFr W0 w w')
    (s0 : σ) (hμ0 : μ s0 = 0) (T0 : Er) (v0 : Value) (hT : ErT W0 T0 v0) (hs : T0.size ≤ 400000) (W : World) (G : Gr W0 W) (hI : I s0 W) :
    Calls Try.prog 23 #[v0, .func (Fn.func K) #[] caps] W fun e w' => e = .returned (.tuple #[]) ∧ I (runV vis s0 T0.pre) w' ∧ Gr W0 w' := by
  obtain ⟨i0, hi0, hz0, hz1, hz2⟩ := info_parts (P := Try.prog) (e := 77) (z := .agg #[.nilIface, .pointer none]) (size := 2) (bytes := 24) (by kernel_rfl)
  have HIN := Lib.hid (And.intro hi0 (And.intro hz0 (And.intro hz1 hz2)))
  clear hi0 hz0 hz1 hz2
  have hv0 := erT_if hT
  have HX := Lib.hid (And.intro HI (And.intro HV (And.intro hT hI)))
  have HS := Lib.hid hs
  have HMU := Lib.hid (And.intro Hμ hμ0)
  have hM : ∃ M, M = 2 * T0.size ∧ M ≤ 800000 := ⟨_, rfl, by omega⟩
  obtain ⟨M, hM1, hM2⟩ := hM
  have HM := Lib.hid hM1
  obtain ⟨FIN, hF⟩ : ∃ FIN, FIN = runV vis s0 T0.pre := ⟨_, rfl⟩
  have HFIN := Lib.hid hF
  rw [← hF]
  clear HI HV hT hI hs hM1 hF Hμ hμ0
  have hmm := @run_makeMap Try.prog
  rcases hv0 with rfl | ⟨U0, x0, rfl⟩
  · have hT0 : T0 = .nil := by
      have h := HX.out.2.2.1
      cases T0 with
      | nil => rfl
      | num k => cases h
      | flt op id kid => obtain ⟨_, _, e, _⟩ := h; cases e
      | nflt => cases h
      | plain T x => obtain ⟨e, _⟩ := h; cases e
      | cov T kid => obtain ⟨_, _, _, e, _⟩ := h; cases e
      | wrap T n kids => obtain ⟨_, _, _, _, _, _, e, _⟩ := h; cases e
    have hfin : FIN = s0 := by rw [HFIN.out, hT0]; rfl
    have HFN := Lib.hid hfin
    clear hT0 hfin
    go_enter Try.func23, Try.ntmps23
    go_upto_region 2 with fail
    obtain ⟨w1, hw1⟩ : ∃ w1, w1 = ((W.alloc (.map #[] 0)).alloc (.cells #[.nilIface, .pointer none] 77)) := ⟨_, rfl⟩
    have g1 : Gr W w1 := by rw [hw1]; exact Gr.trans (al_grw _ _) (al_grw _ _)
    have k0 : w1.cell? ⟨W.heap.size + 1, 0, none⟩ = some .nilIface := by subst hw1; go_simp
    have k1 : w1.cell? ⟨W.heap.size + 1, 1, none⟩ = some (.pointer none) := by subst hw1; go_simp
    have zk := World.block_lt_of_cell? _ _ k0
    rw [← hw1]
    clear hw1
    go_wp2_with fail
    refine wp_loop_rounds 2 ?_
    rw [rounds_succ]
    go_wp2_with fail
    go_at_call 25
    refine (c_place_nil _).mono ?_
    rintro e w2 ⟨rfl, g2⟩
    have G2 : Gr W w2 := Gr.trans g1 (Gr.trans (al_grw _ _) g2)
    have j0 : w2.cell? ⟨w1.heap.size, 0, none⟩ = some .nilIface := cell_gr g2 (by go_simp)
    have j1 : w2.cell? ⟨w1.heap.size, 1, none⟩ = some (.pointer none) := cell_gr g2 (by go_simp)
    have zj := World.block_lt_of_cell? _ _ j0
    clear g2
    go_wp2_with fail
    rw [rounds_succ]
    go_wp2_with fail
    first | go_end0 | refine bodyPost_ret (results_none rfl _ _ _) rfl ?_
    exact ⟨rfl, by rw [HFN.out]; exact stI_oth HX.out.1 HX.out.2.2.2 G2, Gr.trans G G2⟩
  · go_enter Try.func23, Try.ntmps23
    go_upto_region 2 with fail
    obtain ⟨mp, hmp⟩ : ∃ mp, mp = W.heap.size := ⟨_, rfl⟩
    obtain ⟨w1, hw1⟩ : ∃ w1, w1 = ((W.alloc (.map #[] 0)).alloc (.cells #[.iface U0 x0, .pointer none] 77)) := ⟨_, rfl⟩
    have g1 : Gr W w1 := by rw [hw1]; exact Gr.trans (al_grw _ _) (al_grw _ _)
    have HW : Hid (WSt I W0 w1 mp mp (.slice (some ⟨mp + 1, 0, none⟩) 1 1) [.look T0 (.iface U0 x0)] s0) := Lib.hid (by
      have hT2 : TodoS w1 mp (.slice (some ⟨mp + 1, 0, none⟩) 1 1) [.look T0 (.iface U0 x0)] := by
        have := World.ownsRow_lit (base := mp) (e := 77) (size := 2) (W.alloc (.map #[] 0)) #[.iface U0 x0, .pointer none] 1 (by rw [hmp]; exact al_le _ _) (by decide) (by simp)
        rw [← hw1] at this
        rw [hmp]
        rw [hmp] at this
        simpa [TodoS, cellsI, It.cells] using this
      have hP : PSet w1 mp [] := ⟨#[], 0, by rw [hw1, hmp]; exact heap_kx (S := fun _ => False) (Kx.of_gr (al_grw (W.alloc (.map #[] 0)) _)) (fun h => h) (heap_alloc_new W _), rfl⟩
      exact ⟨hT2, hP, stI_oth HX.out.1 HX.out.2.2.2 g1, Gr.trans G g1, by rw [hmp]; exact G.size, by rw [hmp]; exact g1.size, by rw [hmp]; exact G.size⟩)
    have HO0 : Hid (StOk W0 [.look T0 (.iface U0 x0)]) := Lib.hid (fun a x b e => by
      cases a with
      | nil =>
        simp at e
        obtain ⟨rfl, -⟩ := e
        exact ⟨HX.out.2.2.1, fun F U h => by cases h⟩
      | cons y a => simp at e)
    have HF0 : Hid (runV vis s0 (futI [.look T0 (.iface U0 x0)]) = FIN) := Lib.hid (by
      rw [HFIN.out]
      show runV vis s0 (T0.pre ++ []) = _
      rw [List.append_nil])
    have hwt : wtI [.look T0 (.iface U0 x0)] = M := by show 2 * T0.size + 0 = M; rw [HM.out]; rfl
    have HWT := Lib.hid hwt
    rw [← hw1, ← hmp]
    have e1 : W.heap.size + 1 = mp + 1 := by rw [hmp]
    have G1 : Gr W0 w1 := HW.out.gr
    clear hmp hw1 g1 hwt e1 G
    go_wp2_with fail
    go_loopg [5, 15] M (fun j x y wr => ∃ (st : List It) (s : σ) (i : Nat), y = .int .i64 i ∧ i + wtI st ≤ M ∧ j = wtI st ∧ Hid (WSt I W0 wr mp mp x st s) ∧ Hid (StOk W0 st) ∧ Hid (runV vis s (futI st) = FIN) ∧ Hid (μ s + wtI st ≤ M))
    case atStart => exact ⟨_, s0, 0, rfl, by rw [HWT.out]; omega, HWT.out.symm, HW, HO0, HF0, Lib.hid (by rw [HWT.out, HMU.out.2]; omega)⟩
    case round =>
      obtain ⟨st, s, i, rfl, hi, hj, HWr, HOr, HFr, HMr⟩ := hrel
      have ti : decide ((i : Int) < 2147483647) = true := decide_eq_true (by omega)
      have ti3 : (i : Int) < 2147483647 := by omega
      rcases eq_snoc st with rfl | ⟨st0, x, rfl⟩
      · obtain ⟨ad, cap, rfl⟩ := todo_form HWr.out.todo
        have hfin : s = FIN := HFr.out
        have HFN := Lib.hid hfin
        clear hfin
        go_wp2_with fail
        first | go_end0 | refine bodyPost_ret (results_none rfl _ _ _) rfl ?_
        exact ⟨rfl, by rw [← HFN.out]; exact HWr.out.inv, HWr.out.gr⟩
      · obtain ⟨g, cap, rfl, hT, hc0, hc1, hcap1, hcap2, hg⟩ := todo_pop HWr.out.todo
        obtain ⟨hO, hx⟩ := stOk_init HOr.out
        have hwt := wtI_snoc st0 x
        have hfu := HFr.out
        rw [futI_snoc] at hfu
        have har := HWr.out.around
        have hn9 : st0.length ≤ 800000 := by have := wt_len st0; omega
        obtain ⟨n, hn⟩ : ∃ n, n = st0.length := ⟨_, rfl⟩
        rw [← hn] at hT hc0 hc1 hcap1 hn9 HWr ⊢
        have en : ((n : Int) + 1 == 0) = false := by simp; omega
        have en2 : (((n + 1 : Nat) : Int) == 0) = false := by simp; omega
        have e1 : wrap64 (((n + 1 : Nat) : Int) - 1) = (n : Int) := by rw [wr_small (by omega)]; omega
        have e2 : IntKind.i64.wrap (((n + 1 : Nat) : Int) - 1) = (n : Int) := by rw [wk_small (by omega)]; omega
        have e3 : wrap64 ((n : Int) + 1 - 1) = (n : Int) := by rw [wr_small (by omega)]; omega
        have e4 : IntKind.i64.wrap ((n : Int) + 1 - 1) = (n : Int) := by rw [wk_small (by omega)]; omega
        have HN := Lib.hid hn
        have u1 : (n : Int) < ((n + 1 : Nat) : Int) := by omega
        have u2 : (n : Int) < (cap : Int) := by omega
        clear hn
        cases x with
        | leave F T =>
          have HG' : Hid (∀ G ∈ leavesI st0 ++ [F], FltB W0 G) := Lib.hid (fun G hG => by
            rcases List.mem_append.1 hG with h | h
            · obtain ⟨U, -, hU⟩ := stOk_leaves hO h
              exact erT_flt hU
            · obtain rfl : G = F := by simpa using h
              exact erT_flt hx.1)
          have har2 : PSet wr mp (leavesI st0 ++ [F]) := by
            rw [leavesI_append] at har
            exact har
          have HXX := Lib.hid (And.intro hT (And.intro hO (And.intro hx.2 (And.intro har2 (And.intro hwt hfu)))))
          replace hc0 : wr.cell? ⟨g, n * 2, none⟩ = some .nilIface := hc0
          replace hc1 : wr.cell? ⟨g, n * 2 + 1, none⟩ = some (ptrV F) := hc1
          clear hT hO hx har hwt hfu har2
          go_upto_region 7 with fail
          obtain ⟨wv, hwv⟩ : ∃ wv, wv = wr.alloc (.cells #[.nilIface, .pointer (some ⟨F, 0, none⟩)] 77) := ⟨_, rfl⟩
          have gv : Gr wr wv := by rw [hwv]; exact al_grw _ _
          have k0 : wv.cell? ⟨wr.heap.size, 0, none⟩ = some .nilIface := by subst hwv; go_simp
          have k1 : wv.cell? ⟨wr.heap.size, 1, none⟩ = some (.pointer (some ⟨F, 0, none⟩)) := by subst hwv; go_simp
          have zV := World.block_lt_of_cell? _ _ k0
          rw [← hwv]
          clear hwv hc0 hc1
          go_wp2_with fail
          go_at_call 25
          refine (c_place_nil _).mono ?_
          rintro e w2 ⟨rfl, g2⟩
          have GV := Gr.trans gv g2
          have j0 := cell_gr g2 k0
          have j1 := cell_gr g2 k1
          have zV2 := World.block_lt_of_cell? _ _ j0
          have HW2 : Hid (WSt I W0 w2 mp mp (.slice (some ⟨g, 0, none⟩) (n + 1) cap) (st0 ++ [It.leave F T]) s) := Lib.hid (wst_gr HX.out.1 HWr.out GV)
          obtain ⟨w3, hr3, hp3, hk3⟩ := run_delP (ty := 0) w2 (pset_gr HXX.out.2.2.2.1 GV) (fun G hG => fltB_gr (HG'.out G hG) HW2.out.gr) HXX.out.2.2.1
          have HW3 : Hid (WSt I W0 w3 mp mp (.slice (some ⟨g, 0, none⟩) n cap) st0 s) := Lib.hid (wst_map HX.out.1 HW2.out hk3 (todoS_gr HXX.out.1 GV) hp3)
          have HO3 := Lib.hid HXX.out.2.1
          have HF3 : Hid (runV vis s (futI st0) = FIN) := Lib.hid HXX.out.2.2.2.2.2
          have hwg : wtI st0 < gk := by have := HXX.out.2.2.2.2.1; have h2 : (It.leave F T).wt = 1 := rfl; omega
          have hig : i + 1 + wtI st0 ≤ M := by have := HXX.out.2.2.2.2.1; have h2 : (It.leave F T).wt = 1 := rfl; omega
          have HWG := Lib.hid (And.intro hwg hig)
          clear hp3 hk3 k0 k1 zV gv g2 GV hwg hig
          go_wp2_with (at_delete; (refine wpList_delP rfl _ _ _ _ rfl rfl rfl hr3 ?_))
          go_roundg (wtI st0)
          case measure => exact HWG.out.1
          case rel => exact ⟨st0, s, i + 1, by go_num, HWG.out.2, rfl, HW3, HO3, HF3, Lib.hid (by have h2 := HMr.out; have h3 := HWG.out.1; omega)⟩

        | look T v =>
          have hwT : (It.look T v).wt = 2 * T.size := rfl
          rw [hwT] at hwt
          have hsz : wtI st0 + 2 * T.size = gk := by omega
          rw [leavesI_append, show leavesI [It.look T v] = [] from rfl, List.append_nil] at har
          by_cases hTn : T = .nil
          · subst hTn
            obtain rfl : v = .nilIface := hx.1
            replace hfu : runV vis s (futI st0) = FIN := hfu
            have HXX := Lib.hid (And.intro hT (And.intro hO (And.intro har hfu)))
            replace hc0 : wr.cell? ⟨g, n * 2, none⟩ = some .nilIface := hc0
            replace hc1 : wr.cell? ⟨g, n * 2 + 1, none⟩ = some (.pointer none) := hc1
            have hs1 : (Er.nil).size = 1 := rfl
            rw [hs1] at hsz
            have HSZ := Lib.hid (And.intro hsz hj)
            have HW2' := Lib.hid (⟨HXX.out.1, HXX.out.2.2.1, HWr.out.inv, HWr.out.gr, HWr.out.b1, HWr.out.b2, HWr.out.b3⟩ : WSt I W0 wr mp mp (.slice (some ⟨g, 0, none⟩) n cap) st0 s)
            have hig0 : i + 1 + wtI st0 ≤ M := by omega
            have HIG := Lib.hid hig0
            clear hT hO hx har hwt hfu hs1 hsz hwT hig0
            go_upto_region 7 with fail
            obtain ⟨wv, hwv⟩ : ∃ wv, wv = wr.alloc (.cells #[.nilIface, .pointer none] 77) := ⟨_, rfl⟩
            have gv : Gr wr wv := by rw [hwv]; exact al_grw _ _
            have k0 : wv.cell? ⟨wr.heap.size, 0, none⟩ = some .nilIface := by subst hwv; go_simp
            have k1 : wv.cell? ⟨wr.heap.size, 1, none⟩ = some (.pointer none) := by subst hwv; go_simp
            have zV := World.block_lt_of_cell? _ _ k0
            rw [← hwv]
            clear hwv hc0 hc1
            go_wp2_with fail
            go_at_call 25
            refine (c_place_nil _).mono ?_
            rintro e w2 ⟨rfl, g2⟩
            have j0 := cell_gr g2 k0
            have j1 := cell_gr g2 k1
            have zV2 := World.block_lt_of_cell? _ _ j0
            have HW3 : Hid (WSt I W0 w2 mp mp (.slice (some ⟨g, 0, none⟩) n cap) st0 s) := Lib.hid (wst_gr HX.out.1 HW2'.out (Gr.trans gv g2))
            have HO3 := Lib.hid HXX.out.2.1
            have HF3 := Lib.hid HXX.out.2.2.2
            clear k0 k1 zV gv g2
            go_wp2_with fail
            go_roundg (wtI st0)
            case measure => have := HSZ.out.1; omega
            case rel => exact ⟨st0, s, i + 1, by go_num, HIG.out, rfl, HW3, HO3, HF3, Lib.hid (by have h2 := HMr.out; have h3 := HSZ.out.1; omega)⟩
          · obtain ⟨U, y, rfl⟩ := ef_ne hx.1 hTn
            replace hfu : runV vis s (T.pre ++ futI st0) = FIN := hfu
            have hkd : T.kidN ≤ 1000000 := by have := er_kidN T; omega
            have hig0 : i + gk ≤ M := by omega
            have HWJ := Lib.hid hig0
            have HXX := Lib.hid (And.intro hT (And.intro hO (And.intro hx (And.intro har (And.intro hsz (And.intro hfu (And.intro hkd hTn)))))))
            replace hc0 : wr.cell? ⟨g, n * 2, none⟩ = some (.iface U y) := hc0
            replace hc1 : wr.cell? ⟨g, n * 2 + 1, none⟩ = some (.pointer none) := hc1
            have HW2' := Lib.hid (⟨HXX.out.1, HXX.out.2.2.2.1, HWr.out.inv, HWr.out.gr, HWr.out.b1, HWr.out.b2, HWr.out.b3⟩ : WSt I W0 wr mp mp (.slice (some ⟨g, 0, none⟩) n cap) st0 s)
            clear hT hO har hwt hfu hsz hwT hig0 hkd HWr HOr HFr
            go_upto_region 7 with fail
            obtain ⟨wv, hwv⟩ : ∃ wv, wv = wr.alloc (.cells #[.iface U y, .pointer none] 77) := ⟨_, rfl⟩
            have gv : Gr wr wv := by rw [hwv]; exact al_grw _ _
            have HBv : Hid (wv.heap[wr.heap.size]? = some (.cells #[.iface U y, .pointer none] 77 (0, 0))) := Lib.hid (by rw [hwv]; exact heap_alloc_new wr _)
            have HWv : Hid (WSt I W0 wv mp mp (.slice (some ⟨g, 0, none⟩) n cap) st0 s) := Lib.hid (wst_gr HX.out.1 HW2'.out gv)
            rw [← hwv]
            have hVg : wr.heap.size ≠ g := by omega
            generalize wr.heap.size = V at HBv hVg ⊢
            clear hwv hc0 hc1 gv hg HW2'
            have k0 := Hm.cell_of_heap HBv.out 0
            have zV := (Array.getElem?_eq_some_iff.1 HBv.out).1
            by_cases hfl : ∃ op id kid, T = .flt op id kid
            · skip
              obtain ⟨op, id, kid, hT⟩ := hfl
              obtain ⟨F, hUy⟩ : ∃ F, Value.iface U y = .iface 33 (.pointer (some ⟨F, 0, none⟩)) := by
                have h := hx.1
                rw [hT] at h
                obtain ⟨F, u, e, -⟩ := h
                exact ⟨F, e⟩
              simp only [Value.iface.injEq] at hUy
              obtain ⟨rfl, rfl⟩ := hUy
              have hFn := stOk_new HXX.out.2.1 hx
              have hFB := erT_flt hx.1
              have HG' : Hid ((∀ G ∈ leavesI st0, FltB W0 G) ∧ FltB W0 F ∧ F ∉ leavesI st0) := Lib.hid ⟨fun G hG => by
                obtain ⟨U, -, hU⟩ := stOk_leaves HXX.out.2.1 hG
                exact erT_flt hU, hFB, hFn⟩
              have HTT : Hid (ErT W0 T (.iface 33 (.pointer (some ⟨F, 0, none⟩))) ∧ T ≠ .nil ∧ (∀ F' U', It.leave F' U' ∈ st0 ++ [It.leave F T] → T.size ≤ U'.size) ∧ (st0 ++ [It.leave F T]).length ≤ 1000000 ∧ T.kidN ≤ 1000000) := Lib.hid ⟨hx.1, hTn, fun F' U' hm => by
                rcases List.mem_append.1 hm with h | h
                · exact Nat.le_of_lt (hx.2 F' U' h)
                · simp at h
                  obtain ⟨-, rfl⟩ := h
                  exact Nat.le_refl _, by have := HN.out; rw [List.length_append]; show st0.length + 1 ≤ _; omega, HXX.out.2.2.2.2.2.2.1⟩
              have HFU : Hid (runV vis s (T.pre ++ futI (st0 ++ [It.leave F T])) = FIN) := Lib.hid (by rw [futI_snoc]; exact HXX.out.2.2.2.2.2.1)
              have HOK : Hid (StOk W0 (st0 ++ [It.leave F T])) := Lib.hid (stOk_snoc HXX.out.2.1 ⟨hx.1, hFn⟩)
              have HWT1 : Hid (wtI (st0 ++ [It.leave F T]) + 2 * T.size ≤ gk + 1) := Lib.hid (by have := HXX.out.2.2.2.2.1; rw [wtI_snoc]; show wtI st0 + 1 + 2 * T.size ≤ gk + 1; omega)
              clear hx hT hFn hFB
              go_wp2_with fail
              go_at_call 25
              refine (c_place_flt F _).mono ?_
              rintro e w1 ⟨rfl, g2⟩
              have HWa : Hid (WSt I W0 w1 mp mp (.slice (some ⟨g, 0, none⟩) n cap) st0 s) := Lib.hid (wst_gr HX.out.1 HWv.out g2)
              have HBa : Hid (w1.heap[V]? = some (.cells #[.iface 33 (.pointer (some ⟨F, 0, none⟩)), .pointer none] 77 (0, 0))) := Lib.hid (heap_kx (S := fun _ => False) (Kx.of_gr g2) (fun h => h) HBv.out)
              have q0 := Hm.cell_of_heap HBa.out 0
              have q1 := Hm.cell_of_heap HBa.out 1
              have zq := (Array.getElem?_eq_some_iff.1 HBa.out).1
              have hlk : (Instr.lookup 75 (.map (some mp)) (ptrV F) true).run Try.prog w1 = .ok (.tuple #[.agg #[], .bool false]) w1 := by
                have := run_lookP w1 HWa.out.around (fltB_gr HG'.out.2.1 HWa.out.gr) (fun G hG => fltB_gr (HG'.out.1 G hG) HWa.out.gr)
                rw [decide_eq_false HG'.out.2.2] at this
                exact this
              clear g2 k0 zV
              go_upto_region 14 with (at_lookup; (refine wpList_lookP rfl _ _ _ rfl rfl rfl hlk ?_))
              have gz : Gr w1 (w1.alloc (.cells #[] 79)) := al_grw _ _
              have HWz : Hid (WSt I W0 (w1.alloc (.cells #[] 79)) mp mp (.slice (some ⟨g, 0, none⟩) n cap) st0 s) := Lib.hid (wst_gr HX.out.1 HWa.out gz)
              have HBz : Hid ((w1.alloc (.cells #[] 79)).heap[V]? = some (.cells #[.iface 33 (.pointer (some ⟨F, 0, none⟩)), .pointer none] 77 (0, 0))) := Lib.hid (heap_kx (S := fun _ => False) (Kx.of_gr gz) (fun h => h) HBa.out)
              generalize (w1.alloc (.cells #[] 79)) = wz at HWz HBz ⊢
              clear gz HWa HBa hlk q0 q1 zq
              obtain ⟨wp, hrp, hpp, hkp⟩ := run_putP wz HWz.out.around (fltB_gr HG'.out.2.1 HWz.out.gr) (fun G hG => fltB_gr (HG'.out.1 G hG) HWz.out.gr) HG'.out.2.2
              have HTZ := HWz.out.todo
              have hmV : V ≠ mp := fun e => by
                obtain ⟨es, c, hb, -⟩ := HWz.out.around
                have h := HBz.out
                rw [e, hb] at h
                cases h
              have HBp : Hid (wp.heap[V]? = some (.cells #[.iface 33 (.pointer (some ⟨F, 0, none⟩)), .pointer none] 77 (0, 0))) := Lib.hid (heap_kx hkp hmV HBz.out)
              have hTp : TodoS wp mp (.slice (some ⟨g, 0, none⟩) n cap) st0 := todoS_kx HTZ hkp (fun k hk e => todo_neM HTZ HWz.out.around (by rw [hk, e]))
              have hIp : I s wp := HX.out.1 s _ _ _ HWz.out.inv hkp (fun k hk => by
                obtain ⟨es, c, hb, -⟩ := HWz.out.around
                rw [show k = mp from hk]
                exact Or.inr (Or.inr ⟨es, c, hb⟩))
              have hGp : Gr W0 wp := Kx.gr hkp HWz.out.gr (fun k hk => by rw [show k = mp from hk]; exact HWz.out.b3)
              have hrow : wp.ownsRow mp 77 2 (.slice (some ⟨g, 0, none⟩) n cap) n (cellsI st0) := by
                have := hTp
                unfold TodoS at this
                rw [← HN.out] at this
                exact this
              have HPP := Lib.hid (And.intro hTp (And.intro hpp (And.intro hIp (And.intro hGp (And.intro hrow (Nat.le_trans HWz.out.b2 hkp.size))))))
              clear hpp hkp HTZ hTp hIp hGp hrow hmV
              go_upto_region 15 with (at_mapUpdate; (refine wpList_putP rfl _ _ _ _ rfl rfl rfl rfl hrp ?_))
              go_upto_region 16 with (at_builtin; go_loud ((refine wpList_append_own2 _ rfl (.tmp 60) (.tmp 63) 78 rfl mp 77 i0 (.agg #[.nilIface, .pointer none]) 2 24 Try.underlying78 HIN.out.1 HIN.out.2.1 HIN.out.2.2.1 HIN.out.2.2.2 rfl (by decide) (.slice (some ⟨g, 0, none⟩) n cap) n (cellsI st0) rfl (rowOwn_gr HPP.out.2.2.2.2.1 (al_grw _ _)) ⟨wp.heap.size, 0, none⟩ 1 1 [.nilIface, .pointer (some ⟨F, 0, none⟩)] rfl rfl (cell_two_new _ _ _ _) (by intro u hu; simp only [List.mem_cons, List.not_mem_nil, or_false] at hu; rcases hu with rfl | rfl <;> rfl) (by unfold maxLen; omega) (by omega) (Nat.le_trans HPP.out.2.2.2.2.2 (al_le _ _)) ?_); intro x2 wq o2 g2))
              obtain ⟨D2, cD, rfl, hD0, hD2, hcD, hcD2⟩ := row_form o2 (by omega)
              have hKq : Kx (fun k => (Value.slice (some ⟨g, 0, none⟩) n cap).ownBlock = some k ∨ wp.heap.size ≤ k) wp wq := (Kx.of_gr (al_grw wp _)).trans ((kx_grown g2).mono (fun k hk => Or.inl hk))
              have HW1 : Hid (WSt I W0 wq mp mp (.slice (some ⟨D2, 0, none⟩) (n + 1) cD) (st0 ++ [It.leave F T]) s) := Lib.hid (by
                obtain ⟨hTp, hpp, hIp, hGp, hrow, hb2⟩ := HPP.out
                have hWp : WSt I W0 wp mp mp (.slice (some ⟨g, 0, none⟩) n cap) (st0 ++ [It.leave F T]) s → True := fun _ => trivial
                have hT2 : TodoS wq mp (.slice (some ⟨D2, 0, none⟩) (n + 1) cD) (st0 ++ [It.leave F T]) := by
                  have hl2 : (st0 ++ [It.leave F T]).length = n + 1 := by rw [List.length_append, ← HN.out]; rfl
                  unfold TodoS
                  rw [hl2, cellsI_append]
                  exact o2
                have hm : mp < wp.heap.size := pset_lt hpp
                have hgm : (Value.slice (some ⟨g, 0, none⟩) n cap).ownBlock ≠ some mp := todo_neM hTp hpp
                refine ⟨hT2, ?_, HX.out.1 s _ _ _ hIp hKq (fun k hk => ?_), Kx.gr hKq hGp (fun k hk => ?_), HWz.out.b1, Nat.le_trans hb2 hKq.size, HWz.out.b3⟩
                · rw [leavesI_append]
                  exact pset_kx hpp hKq (fun e => by
                    rcases e with e | e
                    · exact hgm e
                    · omega)
                · rcases hk with hk | hk
                  · obtain ⟨-, cur, hc⟩ := own_step hTp hk
                    exact Or.inr (Or.inl ⟨cur, _, hc⟩)
                  · exact Or.inl hk
                · rcases hk with hk | hk
                  · exact Nat.le_trans HWz.out.b1 (own_step hTp hk).1
                  · exact Nat.le_trans hGp.size hk)
              have hgV : (Value.slice (some ⟨g, 0, none⟩) n cap).ownBlock ≠ some V := fun e => by
                obtain rfl : g = V := by simpa [Value.ownBlock] using e
                exact hVg rfl
              have HB1 : Hid (wq.heap[V]? = some (.cells #[.iface 33 (.pointer (some ⟨F, 0, none⟩)), .pointer none] 77 (0, 0))) := Lib.hid (heap_kx hKq (fun e => by
                rcases e with e | e
                · exact hgV e
                · have := (Array.getElem?_eq_some_iff.1 HBp.out).1; omega) HBp.out)
              clear o2 g2 hKq hgV hD0 hD2 hcD hcD2 hrp HPP HBp
              have hcall := HC (.iface 33 (.pointer (some ⟨F, 0, none⟩)))
              have HAV := Lib.hid (HX.out.2.1 s T (.iface 33 (.pointer (some ⟨F, 0, none⟩))) _ (by have := HMr.out; omega) HW1.out.gr HW1.out.inv HTT.out.1 HTT.out.2.1)
              have c0 := Hm.cell_of_heap HB1.out 0
              have zV := (Array.getElem?_eq_some_iff.1 HB1.out).1
              go_wp2_with fail
              refine (HAV.out).mono ?_
              rintro e w2 ⟨rfl, hI2, hV2⟩
              have HW2 : Hid (WSt I W0 w2 mp mp (.slice (some ⟨D2, 0, none⟩) (n + 1) cD) (st0 ++ [It.leave F T]) (vis s T).1) := Lib.hid (wst_vis HW1.out hV2 hI2)
              have HB2 : Hid (w2.heap[V]? = some (.cells #[.iface 33 (.pointer (some ⟨F, 0, none⟩)), .pointer none] 77 (0, 0))) := Lib.hid (blk_vfr HB1.out hV2)
              have HFr' : Hid (if (vis s T).2 = true then (vis s T).1 = FIN else runV vis (vis s T).1 (futI ((st0 ++ [It.leave F T]) ++ kst T.kid (fun _ => .nilIface) T.kidN T.kidN)) = FIN) := Lib.hid (by
                have h := HFU.out
                rw [← futI_kids T (fun _ => .nilIface) (st0 ++ [It.leave F T]) HTT.out.2.1] at h
                unfold runV at h
                by_cases hb : (vis s T).2 = true
                · rw [if_pos hb] at h ⊢; exact h
                · rw [if_neg hb] at h ⊢; exact h)
              clear hI2 hV2 HAV hcall c0 zV HW1 HB1
              have HM2 := Lib.hid (HMU.out.1 s T)
              generalize (vis s T).1 = s2 at HW2 HFr' HM2 ⊢
              cases hb : (vis s T).2 with
              | true =>
                rw [hb] at HFr'
                have hfin := HFr'.out
                rw [if_pos rfl] at hfin
                go_wp2_with fail
                first | go_end0 | refine bodyPost_ret (results_none rfl _ _ _) rfl ?_
                exact ⟨rfl, by rw [← hfin]; exact HW2.out.inv, HW2.out.gr⟩
              | false =>
                rw [hb] at HFr'
                have c0 := Hm.cell_of_heap HB2.out 0
                have zV := (Array.getElem?_eq_some_iff.1 HB2.out).1
                have HIN2 := Lib.hid (c_inner W0 w2 HTT.out.1 HTT.out.2.1 HW2.out.gr)
                clear hb
                go_upto_region 17 with fail
                go_wp2_with fail
                go_at_call 34
                refine (HIN2.out).mono ?_
                rintro e w3 ⟨r, us, rfl, hk, g3⟩
                have HW3 : Hid (WSt I W0 w3 mp mp (.slice (some ⟨D2, 0, none⟩) (n + 1) cD) (st0 ++ [It.leave F T]) s2) := Lib.hid (wst_gr HX.out.1 HW2.out g3)
                have HK3 := Lib.hid hk
                have HPA := Lib.hid (c_pushAll w3 HW3.out.todo HW3.out.b2 HTT.out.2.2.2.1 HTT.out.2.2.2.2 hk HW3.out.b1 (fun k hk => (World.ownsRow.lt HW2.out.todo k hk).2))
                clear hk g3 HIN2 c0 zV
                go_wp2_with fail
                go_at_call 33
                refine (HPA.out).mono ?_
                rintro e w4 ⟨tv', rfl, ht4, ho4, k4⟩
                have HW4 : Hid (WSt I W0 w4 mp mp tv' ((st0 ++ [It.leave F T]) ++ kst T.kid us T.kidN T.kidN) s2) := Lib.hid (wst_todo HX.out.1 HW3.out k4 ht4 (by rw [leavesI_append, leavesI_kst, List.append_nil]))
                have HO4 : Hid (StOk W0 ((st0 ++ [It.leave F T]) ++ kst T.kid us T.kidN T.kidN)) := Lib.hid (by
                  obtain ⟨ad, cap, B, off, -, -, -, -, l4⟩ := HK3.out
                  exact stOk_kst HOK.out (fun i hi => (l4 i hi).2) (fun i hi F U hm => Nat.lt_of_lt_of_le (er_kid_lt T hi) (HTT.out.2.2.1 F U hm)) _ (Nat.le_refl _))
                have HF4 : Hid (runV vis s2 (futI ((st0 ++ [It.leave F T]) ++ kst T.kid us T.kidN T.kidN)) = FIN) := Lib.hid (by
                  have h := HFr'.out
                  rw [if_neg (by decide)] at h
                  rw [← h]
                  exact congrArg (runV vis s2) (futI_us _ _ _ _ _))
                have hw4 : wtI ((st0 ++ [It.leave F T]) ++ kst T.kid us T.kidN T.kidN) < gk := by
                  have h1 := wt_kids T us
                  have h2 := HWT1.out
                  rw [wtI_append]
                  omega
                have hi4 : i + 1 + wtI ((st0 ++ [It.leave F T]) ++ kst T.kid us T.kidN T.kidN) ≤ M := by
                  have h2 := HWJ.out
                  omega
                have HW4' := Lib.hid (And.intro hw4 hi4)
                clear ht4 ho4 k4 HPA HK3 HW3 hw4 hi4
                generalize ((st0 ++ [It.leave F T]) ++ kst T.kid us T.kidN T.kidN) = st4 at HW4 HO4 HF4 HW4'
                go_wp2_with fail
                go_roundg (wtI st4)
                case measure => exact HW4'.out.1
                case rel => exact ⟨st4, s2, i + 1, by go_num, HW4'.out.2, rfl, HW4, HO4, HF4, Lib.hid (by have h1 := HM2.out; have h2 := HMr.out; have h3 := HW4'.out.1; omega)⟩
            · skip
              have AP : Hid (∀ w, Calls Try.prog 25 #[.iface U y] w fun e w' => e = .returned (.tuple #[.pointer none, .bool false]) ∧ Gr w w') := Lib.hid (fun w => by
                obtain ⟨p, b, hP, hc⟩ := c_place w hx.1
                rcases hP with ⟨op, id, kid, F, e, -⟩ | ⟨-, rfl, rfl⟩
                · exact absurd ⟨op, id, kid, e⟩ hfl
                · exact hc)
              have HTT : Hid (ErT W0 T (.iface U y) ∧ T ≠ .nil ∧ (∀ F U', It.leave F U' ∈ st0 → T.size ≤ U'.size) ∧ st0.length ≤ 1000000 ∧ T.kidN ≤ 1000000) := Lib.hid ⟨hx.1, hTn, fun F U' hm => Nat.le_of_lt (hx.2 F U' hm), by have := HN.out; omega, HXX.out.2.2.2.2.2.2.1⟩
              have HFU := Lib.hid HXX.out.2.2.2.2.2.1
              have HOK := Lib.hid HXX.out.2.1
              have HWT1 : Hid (wtI st0 + 2 * T.size ≤ gk + 1) := Lib.hid (by have := HXX.out.2.2.2.2.1; omega)
              clear hx hfl
              go_wp2_with fail
              go_at_call 25
              refine (AP.out _).mono ?_
              rintro e w1 ⟨rfl, g2⟩
              have HW1 : Hid (WSt I W0 w1 mp mp (.slice (some ⟨g, 0, none⟩) n cap) st0 s) := Lib.hid (wst_gr HX.out.1 HWv.out g2)
              have HB1 : Hid (w1.heap[V]? = some (.cells #[.iface U y, .pointer none] 77 (0, 0))) := Lib.hid (heap_kx (S := fun _ => False) (Kx.of_gr g2) (fun h => h) HBv.out)
              have q1 := Hm.cell_of_heap HB1.out 1
              clear g2 AP k0 zV
              have hcall := HC (.iface U y)
              have HAV := Lib.hid (HX.out.2.1 s T (.iface U y) _ (by have := HMr.out; omega) HW1.out.gr HW1.out.inv HTT.out.1 HTT.out.2.1)
              have c0 := Hm.cell_of_heap HB1.out 0
              have zV := (Array.getElem?_eq_some_iff.1 HB1.out).1
              go_wp2_with fail
              refine (HAV.out).mono ?_
              rintro e w2 ⟨rfl, hI2, hV2⟩
              have HW2 : Hid (WSt I W0 w2 mp mp (.slice (some ⟨g, 0, none⟩) n cap) st0 (vis s T).1) := Lib.hid (wst_vis HW1.out hV2 hI2)
              have HB2 : Hid (w2.heap[V]? = some (.cells #[.iface U y, .pointer none] 77 (0, 0))) := Lib.hid (blk_vfr HB1.out hV2)
              have HFr' : Hid (if (vis s T).2 = true then (vis s T).1 = FIN else runV vis (vis s T).1 (futI (st0 ++ kst T.kid (fun _ => .nilIface) T.kidN T.kidN)) = FIN) := Lib.hid (by
                have h := HFU.out
                rw [← futI_kids T (fun _ => .nilIface) st0 HTT.out.2.1] at h
                unfold runV at h
                by_cases hb : (vis s T).2 = true
                · rw [if_pos hb] at h ⊢; exact h
                · rw [if_neg hb] at h ⊢; exact h)
              clear hI2 hV2 HAV hcall c0 zV HW1 HB1
              have HM2 := Lib.hid (HMU.out.1 s T)
              generalize (vis s T).1 = s2 at HW2 HFr' HM2 ⊢
              cases hb : (vis s T).2 with
              | true =>
                rw [hb] at HFr'
                have hfin := HFr'.out
                rw [if_pos rfl] at hfin
                go_wp2_with fail
                first | go_end0 | refine bodyPost_ret (results_none rfl _ _ _) rfl ?_
                exact ⟨rfl, by rw [← hfin]; exact HW2.out.inv, HW2.out.gr⟩
              | false =>
                rw [hb] at HFr'
                have c0 := Hm.cell_of_heap HB2.out 0
                have zV := (Array.getElem?_eq_some_iff.1 HB2.out).1
                have HIN2 := Lib.hid (c_inner W0 w2 HTT.out.1 HTT.out.2.1 HW2.out.gr)
                clear hb
                go_upto_region 17 with fail
                go_wp2_with fail
                go_at_call 34
                refine (HIN2.out).mono ?_
                rintro e w3 ⟨r, us, rfl, hk, g3⟩
                have HW3 : Hid (WSt I W0 w3 mp mp (.slice (some ⟨g, 0, none⟩) n cap) st0 s2) := Lib.hid (wst_gr HX.out.1 HW2.out g3)
                have HK3 := Lib.hid hk
                have HPA := Lib.hid (c_pushAll w3 HW3.out.todo HW3.out.b2 HTT.out.2.2.2.1 HTT.out.2.2.2.2 hk HW3.out.b1 (fun k hk => (World.ownsRow.lt HW2.out.todo k hk).2))
                clear hk g3 HIN2 c0 zV
                go_wp2_with fail
                go_at_call 33
                refine (HPA.out).mono ?_
                rintro e w4 ⟨tv', rfl, ht4, ho4, k4⟩
                have HW4 : Hid (WSt I W0 w4 mp mp tv' (st0 ++ kst T.kid us T.kidN T.kidN) s2) := Lib.hid (wst_todo HX.out.1 HW3.out k4 ht4 (by rw [leavesI_append, leavesI_kst, List.append_nil]))
                have HO4 : Hid (StOk W0 (st0 ++ kst T.kid us T.kidN T.kidN)) := Lib.hid (by
                  obtain ⟨ad, cap, B, off, -, -, -, -, l4⟩ := HK3.out
                  exact stOk_kst HOK.out (fun i hi => (l4 i hi).2) (fun i hi F U hm => Nat.lt_of_lt_of_le (er_kid_lt T hi) (HTT.out.2.2.1 F U hm)) _ (Nat.le_refl _))
                have HF4 : Hid (runV vis s2 (futI (st0 ++ kst T.kid us T.kidN T.kidN)) = FIN) := Lib.hid (by
                  have h := HFr'.out
                  rw [if_neg (by decide)] at h
                  rw [← h]
                  exact congrArg (runV vis s2) (futI_us _ _ _ _ _))
                have hw4 : wtI (st0 ++ kst T.kid us T.kidN T.kidN) < gk := by
                  have h1 := wt_kids T us
                  have h2 := HWT1.out
                  rw [wtI_append]
                  omega
                have hi4 : i + 1 + wtI (st0 ++ kst T.kid us T.kidN T.kidN) ≤ M := by
                  have h2 := HWJ.out
                  omega
                have HW4' := Lib.hid (And.intro hw4 hi4)
                clear ht4 ho4 k4 HPA HK3 HW3 hw4 hi4
                generalize (st0 ++ kst T.kid us T.kidN T.kidN) = st4 at HW4 HO4 HF4 HW4'
                go_wp2_with fail
                go_roundg (wtI st4)
                case measure => exact HW4'.out.1
                case rel => exact ⟨st4, s2, i + 1, by go_num, HW4'.out.2, rfl, HW4, HO4, HF4, Lib.hid (by have h1 := HM2.out; have h2 := HMr.out; have h3 := HW4'.out.1; omega)⟩
end Go.Proofs.Ytgmmhddlfalehaa
