/- FaultOrder: rows of Nodes that come in; the errors that are made of them; their ops -/
import Derived.Test.YtgmmhddlfalehaaLae
import Derived.Test.YtgmmhddlfalehaaLo
import Derived.Test.YtgmmhddlfalehaaBk
namespace Go.Proofs.Ytgmmhddlfalehaa
set_option linter.unusedVariables false
set_option linter.unusedSimpArgs false
open Go.ChangeShapes Go.WideShapes Go.ChangeAt Go.RowKit

def NdsAt (w : World) (v : Value) (n : Nat) (kids : Nat → Nd) : Prop := ∃ (ad : Option Addr) (cap B off : Nat), v = .slice ad n cap ∧ n ≤ cap ∧ cap ≤ 9223372036854775807 ∧ (0 < n → ad = some ⟨B, off, none⟩) ∧
  ∀ i, i < n → ∃ x0 x1 x2 x3, w.cell? ⟨B, off + i * 4, none⟩ = some x0 ∧ w.cell? ⟨B, off + i * 4 + 1, none⟩ = some x1 ∧ w.cell? ⟨B, off + i * 4 + 2, none⟩ = some x2 ∧ w.cell? ⟨B, off + i * 4 + 3, none⟩ = some x3 ∧ NdAt w (kids i) [x0, x1, x2, x3]
section
variable {H : Type} {enc : TypeId × Value → H} {P : Program} {w : World} {base : Nat} {sp : Nat → Bool} {held : Bool} {r : Reach} {b0 : Nat}
theorem open_nodes {t s u st : TypeId} {F0 F1 F2 F3 : Field} {v : Value} {d : DataW H} {ps : List MemPlace} (ht : P.underlying t = some (.struct #[F0, F1, F2, F3])) (hs : P.underlying s = some (.slice t)) (hu : P.underlying u = some (.int .i64)) (hst : P.underlying st = some .string)
    (hF0 : F0.type = u ∧ F0.offset = 0) (hF1 : F1.type = u ∧ F1.offset = 1) (hF2 : F2.type = st ∧ F2.offset = 2) (hF3 : F3.type = s ∧ F3.offset = 3) (ct : P.cellsOf t = 4) (cu : P.cellsOf u = 1) (cst : P.cellsOf st = 1) (cs0 : P.cellsOf s = 1)
    (hval : Value.okWide P w r b0 s v) (hd : DataW.Trod enc P w base sp held s v d ps) : ∃ n kids, NdsAt w v n kids := by
  rcases slice_oi hs hval with rfl | ⟨b, off, n, cap, rfl, h1, h2⟩
  · exact ⟨0, fun _ => .nil, none, 0, 0, 0, rfl, Nat.le_refl _, by decide, fun h => absurd h (Nat.lt_irrefl _), fun i hi => absurd hi (Nat.not_lt_zero _)⟩
  obtain ⟨fuel, hf⟩ := hd
  rcases Deep.open_slice hs hf with ⟨h, -⟩ | ⟨a, len, cap', m, q, D, Pl, hv, -, hl, -, hm, -, hel⟩
  · simp [Value.cells] at h
  · simp only [Value.cells, List.cons.injEq, Value.slice.injEq, Option.some.injEq, and_true] at hv
    obtain ⟨rfl, rfl, rfl⟩ := hv
    have hlm : n ≤ m := by rw [hm]; split <;> omega
    have key : ∀ k, k < n → ∃ T x0 x1 x2 x3, w.cell? ⟨b, off + k * 4, none⟩ = some x0 ∧ w.cell? ⟨b, off + k * 4 + 1, none⟩ = some x1 ∧ w.cell? ⟨b, off + k * 4 + 2, none⟩ = some x2 ∧ w.cell? ⟨b, off + k * 4 + 3, none⟩ = some x3 ∧ NdAt w T [x0, x1, x2, x3] := fun k hk => by
      obtain ⟨cs', hc, htr⟩ := hel k (by omega)
      rw [ct] at hc
      obtain ⟨T, hT⟩ := trod_node ht hs hu hst hF0 hF1 hF2 hF3 ct cu cst cs0 q cs' _ htr
      cases T with
      | nil => exact hT.elim
      | mk kd N o nn kk =>
        obtain ⟨ad', cap', B', off', e, hr⟩ := hT
        subst e
        obtain ⟨k0, k1, k2, k3⟩ := cells4N hc
        simp only [addAt_oi] at k0 k1 k2 k3
        exact ⟨.mk kd N o nn kk, _, _, _, _, k0, k1, k2, k3, ad', cap', B', off', rfl, hr⟩
    refine ⟨n, fun i => if h : i < n then (key i h).choose else .nil, some ⟨b, off, none⟩, cap, b, off, rfl, h1, h2, fun _ => rfl, fun i hi => ?_⟩
    obtain ⟨y0, y1, y2, y3, hrest⟩ := (key i hi).choose_spec
    refine ⟨y0, y1, y2, y3, ?_⟩
    simp only [dif_pos hi]
    exact hrest
end
theorem errs_elem : Try.prog.underlying 51 = some (.slice (Try.prog.elem 51)) := by kernel_rfl
theorem errs_to {w : World} {ad : Option Addr} {n cap h : Nat} {kids : Nat → Er} (hl : h ≤ n) (hR : Errs w (.slice ad n cap) n kids) :
    ∃ ad' cap', (∀ w0, (Instr.slice 51 (.slice ad n cap) none (some (.int .i64 h)) none).run Try.prog w0 = .ok (.slice ad' h cap') w0) ∧ Errs w (.slice ad' h cap') h kids := by
  obtain ⟨ad0, cap0, B, off, e, h1, h2, h3, h4⟩ := hR
  simp only [Value.slice.injEq, true_and] at e
  obtain ⟨rfl, rfl⟩ := e
  refine ⟨(if cap = 0 then ad else ad.map (·.add (0 * 1))), cap - 0, fun w0 => ?_, ?_⟩
  · have hs : (sizeOf (Try.prog.elem 51)).run Try.prog w0 = .ok 1 w0 := by kernel_rfl
    rw [run_slice_h w0 51 ad n cap errs_elem .i64 h (by omega) (by omega), hs]
    rfl
  · refine ⟨_, _, B, off, rfl, by omega, by omega, fun hp => ?_, fun j hj => h4 j (by omega)⟩
    rw [h3 (by omega)]
    split
    · rfl
    · rfl
theorem errs_from {w : World} {ad : Option Addr} {n cap l : Nat} {kids : Nat → Er} (hl : l ≤ n) (hR : Errs w (.slice ad n cap) n kids) :
    ∃ ad' cap', (∀ w0, (Instr.slice 51 (.slice ad n cap) (some (.int .i64 l)) none none).run Try.prog w0 = .ok (.slice ad' (n - l) cap') w0) ∧ Errs w (.slice ad' (n - l) cap') (n - l) (fun j => kids (l + j)) := by
  obtain ⟨ad0, cap0, B, off, e, h1, h2, h3, h4⟩ := hR
  simp only [Value.slice.injEq, true_and] at e
  obtain ⟨rfl, rfl⟩ := e
  refine ⟨(if cap = l then ad else ad.map (·.add (l * 1))), cap - l, fun w0 => ?_, ?_⟩
  · have hs : (sizeOf (Try.prog.elem 51)).run Try.prog w0 = .ok 1 w0 := by kernel_rfl
    rw [run_slice_l w0 51 ad n cap errs_elem .i64 l (by omega) (by omega), hs]
    rfl
  · refine ⟨_, _, B, off + l, rfl, by omega, by omega, fun hp => ?_, fun j hj => ?_⟩
    · rw [h3 (by omega), if_neg (by omega)]
      show some ((⟨B, off, none⟩ : Addr).add (l * 1)) = _
      rw [show (⟨B, off, none⟩ : Addr).add (l * 1) = ⟨B, off + l, none⟩ from by unfold Addr.add; split <;> simp_all]
    · rw [Nat.add_assoc]
      exact h4 (l + j) (by omega)
theorem errs_two {w : World} {g : Nat} {u1 u2 : Value} {E : Nat → Er} (c0 : w.cell? ⟨g, 0, none⟩ = some u1) (c1 : w.cell? ⟨g, 1, none⟩ = some u2) (h1 : ErT w (E 0) u1) (h2 : ErT w (E 1) u2) : Errs w (.slice (some ⟨g, 0, none⟩) 2 2) 2 E :=
  ⟨_, _, g, 0, rfl, Nat.le_refl _, by decide, fun _ => rfl, fun i hi => by
    rcases (by omega : i = 0 ∨ i = 1) with rfl | rfl
    · exact ⟨u1, c0, h1⟩
    · exact ⟨u2, c1, h2⟩⟩
theorem own_neS {w : World} {b1 b2 s1 s2 n1 n2 : Nat} {v1 v2 : Value} {xs1 xs2 : List Value} (h1 : w.ownsRow b1 28 s1 v1 n1 xs1) (h2 : w.ownsRow b2 9 s2 v2 n2 xs2) (k : Nat) (e1 : v1.ownBlock = some k) : v2.ownBlock ≠ some k := fun e2 => by
  obtain ⟨-, cur, hc⟩ := own_ty h1 e1
  obtain ⟨-, cur2, hc2⟩ := own_ty h2 e2
  rw [hc] at hc2
  simp at hc2
/-- The ops of the first i. -/
def opsE (es : Nat → Er) (i : Nat) : List ByteArray := catW (fun j => opsN (es j).pre) i
def updE (es : Nat → Er) (i : Nat) (E : Er) : Nat → Er := fun j => if j = i then E else es j
/-- The law's two rows: errors, and their ops. -/
def AO (W w : World) (i : Nat) (kids : Nat → Nd) (es : Nat → Er) (a b : Value) : Prop := ∃ us, w.ownsRow W.heap.size 28 1 a i us ∧ w.ownsRow W.heap.size 9 1 b (opsE es i).length (strV (opsE es i)) ∧ (∀ j, j < i → ∃ u, us[j]? = some u ∧ MV (fun k => W.heap.size ≤ k ∧ a.ownBlock ≠ some k ∧ b.ownBlock ≠ some k) w (kids j) (es j) u) ∧ Gr W w
theorem opsE_upd (es : Nat → Er) (i : Nat) (E : Er) : opsE (updE es i E) (i + 1) = opsE es i ++ opsN E.pre := by
  show catW (fun j => opsN (updE es i E j).pre) i ++ opsN (updE es i E i).pre = _
  rw [show updE es i E i = E from if_pos rfl]
  congr 1
  exact catW_congr i (fun j hj => by rw [show updE es i E j = es j from if_neg (by omega)])
theorem ao_mid {W w w1 wd w5 : World} {i n : Nat} {a b a' : Value} {us xs : List Value} (q1 : w.ownsRow W.heap.size 28 1 a i us) (q2 : w.ownsRow W.heap.size 9 1 b n xs) (q4 : Gr W w) (g1 : Gr w w1) (gd : Gr w1 wd) (g5 : Grown wd w5 a a') : w5.ownsRow W.heap.size 9 1 b n xs ∧ Gr W w5 :=
  ⟨rowOwn_kxS (S := fun k => a.ownBlock = some k) (rowOwn_gr q2 (Gr.trans g1 gd)) (kx_grown g5) (fun k hk e => own_neS q1 q2 k e hk), g5.gr (Gr.trans q4 (Gr.trans g1 gd)) (fun k hk => (World.ownsRow.lt q1 k hk).1)⟩
theorem ao_new {W w w1 wd w5 : World} {i : Nat} {T : Nd} {a a' : Value} {us : List Value} {E : Er} {u : Value} (q1 : w.ownsRow W.heap.size 28 1 a i us) (hm : MV (fun k => w.heap.size ≤ k) w1 T E u) (gd : Gr w1 wd) (g5 : Grown wd w5 a a') : ErT w5 E u :=
  mv_erT _ (mv_kx (Z' := fun _ => True) hm ((Kx.of_gr gd).trans (kx_grown g5)) (fun k hk hz => ⟨trivial, fun e => by
    have : w.heap.size ≤ k := hz
    have := (World.ownsRow.lt q1 k e).2
    omega⟩))
theorem ao_step {W w w1 wd w5 w6 w7 : World} {i : Nat} {kids : Nat → Nd} {es : Nat → Er} {a b a' b' u : Value} {us : List Value} {E : Er}
    (q1 : w.ownsRow W.heap.size 28 1 a i us) (q2 : w.ownsRow W.heap.size 9 1 b (opsE es i).length (strV (opsE es i))) (q3 : ∀ j, j < i → ∃ u, us[j]? = some u ∧ MV (fun k => W.heap.size ≤ k ∧ a.ownBlock ≠ some k ∧ b.ownBlock ≠ some k) w (kids j) (es j) u) (q4 : Gr W w)
    (g1 : Gr w w1) (hm : MV (fun k => w.heap.size ≤ k) w1 (kids i) E u) (gd : Gr w1 wd) (g5 : Grown wd w5 a a') (o5 : w5.ownsRow W.heap.size 28 1 a' (i + 1) (us ++ [u])) (g6 : Gr w5 w6) (g7 : Grown w6 w7 b b')
    (o7 : w7.ownsRow W.heap.size 9 1 b' ((opsE es i).length + (opsN E.pre).length) (strV (opsE es i) ++ strV (opsN E.pre))) : AO W w7 (i + 1) kids (updE es i E) a' b' := by
  have hul : us.length = i := by have := q1.1; omega
  obtain ⟨m2, m4⟩ := ao_mid q1 q2 q4 g1 gd g5
  have s1 := g1.size
  have sd := gd.size
  have s5 := g5.1.size
  have s6 := g6.size
  have sW := q4.size
  have K1 : Kx (fun k => a.ownBlock = some k ∨ b.ownBlock = some k) w1 w7 := (((Kx.of_gr gd).trans (kx_grown g5)).mono (fun k hk => Or.inl hk)).trans ((Kx.of_gr g6).trans ((kx_grown g7).mono (fun k hk => Or.inr hk)))
  have K0 := (Kx.of_gr (S := fun k => a.ownBlock = some k ∨ b.ownBlock = some k) g1).trans K1
  have ha' : ∀ k, k < w1.heap.size → a'.ownBlock = some k → a.ownBlock = some k := fun k hk e => by
    rcases g5.2 k e with h | h
    · exact h
    · omega
  have hb' : ∀ k, k < w1.heap.size → b'.ownBlock = some k → b.ownBlock = some k := fun k hk e => by
    rcases g7.2 k e with h | h
    · exact h
    · omega
  refine ⟨us ++ [u], ?_, ?_, fun j hj => ?_, g7.gr (Gr.trans m4 g6) (fun k hk => (World.ownsRow.lt m2 k hk).1)⟩
  · exact rowOwn_kxS (S := fun k => b.ownBlock = some k) (rowOwn_gr o5 g6) (kx_grown g7) (fun k hk e => own_neS (rowOwn_gr o5 g6) (rowOwn_gr m2 g6) k hk e)
  · rw [opsE_upd, List.length_append, show strV (opsE es i ++ opsN E.pre) = strV (opsE es i) ++ strV (opsN E.pre) from List.map_append ..]
    exact o7
  · by_cases e : j = i
    · subst e
      refine ⟨u, by rw [← hul, List.getElem?_concat_length], ?_⟩
      rw [show updE es j E j = E from if_pos rfl]
      exact mv_kx hm K1 (fun k hk hz => by
        have hz' : w.heap.size ≤ k := hz
        refine ⟨⟨by omega, fun e => ?_, fun e => ?_⟩, fun e => ?_⟩
        · have := (World.ownsRow.lt q1 k (ha' k hk e)).2; omega
        · have := (World.ownsRow.lt q2 k (hb' k hk e)).2; omega
        · rcases e with e | e
          · have := (World.ownsRow.lt q1 k e).2; omega
          · have := (World.ownsRow.lt q2 k e).2; omega)
    · obtain ⟨u', hu', hM⟩ := q3 j (by omega)
      refine ⟨u', by rw [List.getElem?_append_left (by omega)]; exact hu', ?_⟩
      rw [show updE es i E j = es j from if_neg e]
      exact mv_kx hM K0 (fun k hk hz => ⟨⟨hz.1, fun e => hz.2.1 (ha' k (by omega) e), fun e => hz.2.2 (hb' k (by omega) e)⟩, fun e => e.elim hz.2.1 hz.2.2⟩)
theorem ao_nil (W w : World) (g : Gr W w) (kids : Nat → Nd) : AO W w 0 kids (fun _ => .nil) (.slice none 0 0) (.slice none 0 0) := ⟨[], World.ownsRow_nil _ _ _ _, World.ownsRow_nil _ _ _ _, fun j hj => absurd hj (Nat.not_lt_zero _), g⟩
theorem ao_errs {W w : World} {i : Nat} {kids : Nat → Nd} {es : Nat → Er} {a b : Value} (h : AO W w i kids es a b) : Errs w a i es := by
  obtain ⟨us, q1, q2, q3, q4⟩ := h
  obtain ⟨D, ad, cap, e, d1, d2, d3, d5⟩ := rowX q1
  exact ⟨ad, cap, D, 0, e, d2, by omega, d1, fun j hj => by
    obtain ⟨u, hu, hm⟩ := q3 j hj
    exact ⟨u, by rw [Nat.zero_add, d5 j (by omega)]; exact hu, mv_erT _ hm⟩⟩
theorem ao_bound {W w : World} {i : Nat} {kids : Nat → Nd} {es : Nat → Er} {a b : Value} (h : AO W w i kids es a b) (hc : ∀ j, j < i → (kids j).cnt ≤ 300) : ∀ j, j < i → (es j).size ≤ 600 ∧ (opsN (es j).pre).length ≤ 300 := fun j hj => by
  obtain ⟨us, q1, q2, q3, q4⟩ := h
  obtain ⟨u, hu, hm⟩ := q3 j hj
  have a := mv_size _ hm
  have b := hc j hj
  refine ⟨by omega, ?_⟩
  rw [opsN_fm, mv_flts _ hm, List.length_map]
  exact Nat.le_trans (wi_len 2 _) b
theorem opsE_len {es : Nat → Er} {i : Nat} (h : ∀ j, j < i → (opsN (es j).pre).length ≤ 300) : (opsE es i).length ≤ 300 * i := by
  have hs : ∀ n, erSum (fun _ => 300) n = 300 * n := fun n => by
    induction n with
    | zero => rfl
    | succ n ih =>
      show erSum (fun _ => 300) n + 300 = _
      omega
  rw [← hs]
  exact catW_len i h
theorem isNil_eq {E : Er} (h : E.isNil = true) : E = .nil := by cases E <;> first | rfl | cases h
theorem catW_front {α : Type} (f : Nat → List α) : ∀ n, catW f (n + 1) = f 0 ++ catW (fun i => f (i + 1)) n
  | 0 => by show [] ++ f 0 = f 0 ++ []; rw [List.append_nil, List.nil_append]
  | n + 1 => by
    show catW f (n + 1) ++ f (n + 1) = f 0 ++ (catW (fun i => f (i + 1)) n ++ f (n + 1))
    rw [catW_front f n, List.append_assoc]
theorem catW_snoc {α β : Type} (h : β → List α) (d : β) : ∀ K : List β, catW (fun i => h (K.getD i d)) K.length = K.flatMap h
  | [] => rfl
  | x :: K => by
    show catW (fun i => h ((x :: K).getD i d)) (K.length + 1) = _
    rw [catW_front]
    show h x ++ catW (fun i => h (K.getD i d)) K.length = h x ++ K.flatMap h
    rw [catW_snoc h d K]
theorem catW_add {α : Type} (f : Nat → List α) (c : Nat) : ∀ m, catW f (c + m) = catW f c ++ catW (fun j => f (c + j)) m
  | 0 => by show catW f c = catW f c ++ []; rw [List.append_nil]
  | m + 1 => by
    show catW f (c + m) ++ f (c + m) = catW f c ++ (catW (fun j => f (c + j)) m ++ f (c + m))
    rw [catW_add f c m, List.append_assoc]
section
variable {β : Type} (g : Er → Option β)
theorem fm_join (hg : ∀ T n k, g (.wrap T n k) = none) (K : List Er) : (joT K).pre.filterMap g = K.flatMap (fun E => E.pre.filterMap g) := by
  unfold joT
  split
  · rename_i h
    rw [List.eq_nil_of_length_eq_zero h]
    rfl
  · show ((Er.wrap _ K.length (fun j => K.getD j .nil)) :: flatG (fun i => (K.getD i .nil).pre) 0 K.length).filterMap g = _
    rw [List.filterMap_cons, hg, flatG_cat, catW_filterMap, ← catW_snoc _ Er.nil K]
    exact catW_congr _ (fun i _ => by rw [Nat.zero_add])
theorem fm_nn (es : Nat → Er) : ∀ n, (nnL es n).flatMap (fun E => E.pre.filterMap g) = catW (fun i => (es i).pre.filterMap g) n
  | 0 => rfl
  | n + 1 => by
    cases hi : (es n).isNil with
    | true =>
      have e := isNil_eq hi
      rw [nnL_nil e, fm_nn es n]
      show _ = catW (fun i => (es i).pre.filterMap g) n ++ (es n).pre.filterMap g
      rw [e]
      exact (List.append_nil _).symm
    | false =>
      rw [nnL_some hi, List.flatMap_append, fm_nn es n]
      show _ ++ ((es n).pre.filterMap g ++ []) = _
      rw [List.append_nil]
      rfl
theorem fm_jn (hg : ∀ T n k, g (.wrap T n k) = none) (es : Nat → Er) (n : Nat) : (joT (nnL es n)).pre.filterMap g = catW (fun i => (es i).pre.filterMap g) n := by rw [fm_join g hg, fm_nn]
end
def twoE (a b : Er) : Nat → Er := fun i => if i = 0 then a else b
/-- Joined, and joined again. -/
theorem fm_two {β : Type} (g : Er → Option β) (hg : ∀ T n k, g (.wrap T n k) = none) (es : Nat → Er) (c m : Nat) :
    (joT (nnL (twoE (joT (nnL es c)) (joT (nnL (fun j => es (c + j)) m))) 2)).pre.filterMap g = (joT (nnL es (c + m))).pre.filterMap g := by
  rw [fm_jn g hg, fm_jn g hg es (c + m), catW_add]
  show ([] ++ (joT (nnL es c)).pre.filterMap g) ++ (joT (nnL (fun j => es (c + j)) m)).pre.filterMap g = _
  rw [List.nil_append, fm_jn g hg, fm_jn g hg]
theorem ops_jn (es : Nat → Er) (n : Nat) : opsN (joT (nnL es n)).pre = opsE es n := by
  rw [opsN_fm, fm_jn Er.flt? (fun _ _ _ => rfl), catW_map]
  exact catW_congr n (fun i _ => (opsN_fm _).symm)
theorem ops_two (es : Nat → Er) (c m : Nat) : opsN (joT (nnL (twoE (joT (nnL es c)) (joT (nnL (fun j => es (c + j)) m))) 2)).pre = opsE es (c + m) := by
  rw [opsN_fm, fm_two Er.flt? (fun _ _ _ => rfl), ← opsN_fm, ops_jn]
theorem first_two (es : Nat → Er) (c m : Nat) : firstN (joT (nnL (twoE (joT (nnL es c)) (joT (nnL (fun j => es (c + j)) m))) 2)).pre = firstN (joT (nnL es (c + m))).pre := by
  rw [firstN_fm, fm_two Er.code (fun _ _ _ => rfl), ← firstN_fm]
theorem nn_mem {es : Nat → Er} : ∀ {n : Nat} {E : Er}, E ∈ nnL es n → ∃ j, j < n ∧ E = es j
  | 0, E, h => by cases h
  | n + 1, E, h => by
    cases hi : (es n).isNil with
    | true =>
      rw [nnL_nil (isNil_eq hi)] at h
      obtain ⟨j, h1, h2⟩ := nn_mem h
      exact ⟨j, by omega, h2⟩
    | false =>
      rw [nnL_some hi] at h
      rcases List.mem_append.1 h with h | h
      · obtain ⟨j, h1, h2⟩ := nn_mem h
        exact ⟨j, by omega, h2⟩
      · exact ⟨n, by omega, List.mem_singleton.1 h⟩
theorem jn_size {es : Nat → Er} {n M : Nat} (h : ∀ j, j < n → (es j).size ≤ M) : (joT (nnL es n)).size ≤ 1 + n * M := by
  have hs : ∀ (f : Nat → Nat) m, (∀ i, i < m → f i ≤ M) → erSum f m ≤ m * M := fun f m hf => by
    induction m with
    | zero => exact Nat.zero_le _
    | succ m ih =>
      have a := ih (fun i hi => hf i (by omega))
      have b := hf m (by omega)
      show erSum f m + f m ≤ (m + 1) * M
      rw [Nat.add_mul]
      omega
  have hl := nnL_le es n
  unfold joT
  split
  · show 1 ≤ _; omega
  · show 1 + erSum (fun i => ((nnL es n).getD i .nil).size) (nnL es n).length ≤ _
    have := hs (fun i => ((nnL es n).getD i .nil).size) (nnL es n).length (fun i hi => by
      obtain ⟨j, hj, e⟩ := nn_mem (List.getElem_mem hi)
      show ((nnL es n).getD i .nil).size ≤ M
      rw [List.getD_eq_getElem?_getD, List.getElem?_eq_getElem hi]
      show ((nnL es n)[i]).size ≤ M
      rw [e]
      exact h j hj)
    have h2 : (nnL es n).length * M ≤ n * M := Nat.mul_le_mul_right M hl
    omega
end Go.Proofs.Ytgmmhddlfalehaa
