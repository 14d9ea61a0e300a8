/- fault: Chain -/
import Derived.Test.YtgmmhddlfalehaaLi
namespace Go.Proofs.Ytgmmhddlfalehaa
set_option linter.unusedVariables false
set_option linter.unusedSimpArgs false
open Go.ChangeShapes Go.WideShapes Go.ChangeAt Go.RowKit

def Er.op? : Er → Option ByteArray
  | .flt op _ _ => some op
  | _ => none
def chainV (s : List ByteArray) (T : Er) : List ByteArray × Bool := match T.op? with
  | some op => (s ++ [op], false)
  | none => (s, false)
/-- The ops within. -/
def opsN (l : List Er) : List ByteArray := l.filterMap Er.op?
theorem run_chainV : ∀ (l : List Er) (s : List ByteArray), runV chainV s l = s ++ opsN l
  | [], s => by show s = s ++ []; rw [List.append_nil]
  | T :: l, s => by
    have hb : (chainV s T).2 = false := by unfold chainV; cases T.op? <;> rfl
    show (if (chainV s T).2 = true then (chainV s T).1 else runV chainV (chainV s T).1 l) = s ++ (T :: l).filterMap Er.op?
    rw [hb, if_neg (by decide), run_chainV l, List.filterMap_cons]
    unfold chainV
    cases hc : T.op? with
    | some k => show (s ++ [k]) ++ opsN l = s ++ (k :: opsN l); rw [List.append_assoc]; rfl
    | none => rfl
abbrev strV (s : List ByteArray) : List Value := s.map fun x => Value.string x
theorem strV_one (s : List ByteArray) : ∀ u ∈ strV s, u.oneCell' = true := fun u hu => by
  obtain ⟨x, -, rfl⟩ := List.mem_map.1 hu
  rfl
def ChainI (P base : Nat) (s : List ByteArray) (w : World) : Prop := ∃ sv, w.heap[P]? = some (.cells #[sv] 32 (0, 0)) ∧ w.ownsRow base 9 1 sv s.length (strV s)
theorem own_ty {w : World} {T : TypeId} {base size n : Nat} {v : Value} {xs : List Value} (h : w.ownsRow base T size v n xs) {k : Nat} (hk : v.ownBlock = some k) : base ≤ k ∧ ∃ cur, w.heap[k]? = some (.cells cur T (0, 0)) := by
  rcases h.2 with ⟨e, _⟩ | ⟨g, cap, cur, e, hb, hg, _⟩
  · subst e; cases hk
  · subst e
    obtain rfl : g = k := by simpa [Value.ownBlock] using hk
    exact ⟨hb, cur, hg⟩
theorem own_oth {a b : World} {T : Nat → Prop} {U : TypeId} {base size n : Nat} {v : Value} {xs : List Value} (h : a.ownsRow base U size v n xs) (hU : U ≠ 77) (K : Kx T a b) (hT : OthV a T) : b.ownsRow base U size v n xs := by
  refine rowOwn_kxS h K (fun k hk hs => ?_)
  obtain ⟨-, cur, hc⟩ := own_ty h hk
  have hl := (Array.getElem?_eq_some_iff.1 hc).1
  rcases hT k hs with h' | ⟨cur', z, h'⟩ | ⟨es, c, h'⟩
  · omega
  · rw [hc] at h'
    simp at h'
    exact hU h'.2.1
  · rw [hc] at h'
    cases h'
theorem chainI_oth {P base : Nat} {s : List ByteArray} {a b : World} {T : Nat → Prop} (h : ChainI P base s a) (K : Kx T a b) (hT : OthV a T) : ChainI P base s b := by
  obtain ⟨sv, h1, h2⟩ := h
  exact ⟨sv, blk_oth h1 (by decide) K hT, own_oth h2 (by decide) K hT⟩
theorem str_form {w : World} {base n : Nat} {v : Value} {xs : List Value} (h : w.ownsRow base 9 1 v n xs) : ∃ ad cap, v = .slice ad n cap := by
  rcases h.2 with ⟨e, h0⟩ | ⟨g, cap, cur, e, _⟩
  · exact ⟨none, 0, by rw [e, h0]⟩
  · exact ⟨_, _, e⟩
set_option maxHeartbeats 1000000 in
set_option maxRecDepth 100000 in
theorem v_chain (P : Nat) (W0 : World) (hP : W0.heap.size ≤ P) (s : List ByteArray) (hs : s.length ≤ 800000) (T : Er) (v : Value) (w : World) (G : Gr W0 w) (hI : ChainI P W0.heap.size s w) (hT : ErT W0 T v) (hn : T ≠ .nil) :
    Calls Try.prog 28 #[v, .pointer (some ⟨P, 0, none⟩)] w fun e w' => e = .returned (.bool (chainV s T).2) ∧ ChainI P W0.heap.size (chainV s T).1 w' ∧ VFr W0 w w' := by
  by_cases hfl : ∃ op id kid, T = .flt op id kid
  · obtain ⟨op, id, kid, rfl⟩ := hfl
    obtain ⟨F, u, rfl, c0, -⟩ := hT
    have hF : F < W0.heap.size := (Array.getElem?_eq_some_iff.1 c0).1
    have cF := cell_gr G (Hm.cell_of_heap c0 0)
    have AP := fun w => c_place_flt F w
    have HG := Lib.hid G
    have HI := Lib.hid hI
    obtain ⟨i0, hi0, hz0, hz1, hz2⟩ := info_parts (P := Try.prog) (e := 9) (z := .string ⟨#[]⟩) (size := 1) (bytes := 16) (by kernel_rfl)
    have HIN := Lib.hid (And.intro hi0 (And.intro hz0 (And.intro hz1 hz2)))
    clear hi0 hz0 hz1 hz2 hI c0 hn
    show Calls _ _ _ _ fun e w' => e = .returned (.bool false) ∧ ChainI P W0.heap.size (s ++ [op]) w' ∧ VFr W0 w w'
    have HP := Lib.hid AP
    clear AP
    go_enter Try.func28, Try.ntmps28
    go_wp2_with fail
    go_at_call 25
    refine (HP.out _).mono ?_
    rintro e w1 ⟨rfl, g1⟩
    have G1 : Gr W0 w1 := Gr.trans G g1
    obtain ⟨sv, h1, h2⟩ := chainI_oth HI.out (Kx.of_gr (S := fun _ => False) g1) (fun k h => h.elim)
    obtain ⟨sa, sc, rfl⟩ := str_form h2
    have p0 := Hm.cell_of_heap h1 0
    have zP := (Array.getElem?_eq_some_iff.1 h1).1
    have f0 := cell_gr g1 cF
    have HH := Lib.hid (And.intro h1 (And.intro h2 g1))
    clear h1 h2 cF
    go_upto_region 3 with fail
    have gw1 := G1
    obtain ⟨len, hlen⟩ : ∃ len, len = s.length := ⟨_, rfl⟩
    rw [← hlen] at p0 HH hs
    have HL := Lib.hid hlen
    clear g1 G1 hlen G
    go_wp2_with fail
    try simp only [List.append]
    refine Oe.wp_region_ordT (R := Kx (fun k => k ≠ P ∧ W0.heap.size ≤ k)) 7 [(0, false), (1, false), (2, false), (3, false), (4, false), (5, true), (6, true)] (by kernel_rfl) (by kernel_rfl) ?_
    intro wc hwc KQ hKQ
    have hhwc := Kx.of_gr (S := (fun k => k ≠ P ∧ W0.heap.size ≤ k)) hwc
    have cwc_0_0 : wc.cell? ⟨P, 0, none⟩ = some (.slice sa len sc) := cell_kx hhwc (by show ¬ (P ≠ P ∧ W0.heap.size ≤ P); omega) (by go_simp)
    have zwc_0 : P < wc.heap.size := World.block_lt_of_cell? _ _ cwc_0_0
    have cwc_1_0 : wc.cell? ⟨F, 0, none⟩ = some (.string op) := cell_kx hhwc (by show ¬ (F ≠ P ∧ W0.heap.size ≤ F); omega) (by go_simp)
    have zwc_1 : F < wc.heap.size := World.block_lt_of_cell? _ _ cwc_1_0
    have gwc : Gr W0 wc := Kx.gr hhwc (by have gg := gw1; have gs := gg.size; go_grown) (fun k hk => by have hk2 : k ≠ P ∧ W0.heap.size ≤ k := hk; omega)
    have swc := hhwc.size
    clear gw1
    clear hhwc
    repeat (first | (refine Oe.wpO_skip (by simp only [List.getElem?_toArray, List.getElem?_cons_succ, List.getElem?_cons_zero] <;> rfl) rfl ?_; simp only [Act.put, List.setIfInBounds_toArray, List.set_cons_zero, List.set_cons_succ]) | (refine Oe.wpO_pure (by simp only [List.getElem?_toArray, List.getElem?_cons_succ, List.getElem?_cons_zero] <;> rfl) rfl ?_; apply Exists.intro; refine ⟨?_, ?_⟩; (· intro wx gx; have cx_0_0 : wx.cell? ⟨P, 0, none⟩ = some (.slice sa len sc) := cell_kx gx (by show ¬ (P ≠ P ∧ W0.heap.size ≤ P); omega) cwc_0_0; have zx_0 : P < wx.heap.size := World.block_lt_of_cell? _ _ cx_0_0; have cx_1_0 : wx.cell? ⟨F, 0, none⟩ = some (.string op) := cell_kx gx (by show ¬ (F ≠ P ∧ W0.heap.size ≤ F); omega) cwc_1_0; have zx_1 : F < wx.heap.size := World.block_lt_of_cell? _ _ cx_1_0; clear gx; all_goals (apply Oe.pAt_of_quiet; intro K hK; go_big_quiet_op; first | exact hK _ rfl | (apply Exists.intro; refine ⟨fun _ => ?_, ?_⟩; (· fail); exact hK _ rfl))); try simp only [Act.put, List.setIfInBounds_toArray, List.set_cons_zero, List.set_cons_succ]))
    refine Oe.wpO_call (by simp only [List.getElem?_toArray, List.getElem?_cons_succ, List.getElem?_cons_zero] <;> rfl) rfl ?_
    intro QS hQS
    go_wp2_with fail
    first | (apply Exists.intro; refine ⟨?_, Kx.of_gr (by go_grown), ?_⟩; (· simp only [Act.put, List.setIfInBounds_toArray, List.set_cons_zero, List.set_cons_succ]; rfl)) | (refine ⟨Kx.of_gr (by go_grown), ?_⟩)
    generalize hhwd : (wc.alloc (.cells #[.string op] 9)) = wd
    have hwd : Gr wc wd := by subst hhwd; go_grown
    have cwd_0_0 : wd.cell? ⟨P, 0, none⟩ = some (.slice sa len sc) := by subst hhwd; go_simp
    have zwd_0 : P < wd.heap.size := World.block_lt_of_cell? _ _ cwd_0_0
    have cwd_1_0 : wd.cell? ⟨F, 0, none⟩ = some (.string op) := by subst hhwd; go_simp
    have zwd_1 : F < wd.heap.size := World.block_lt_of_cell? _ _ cwd_1_0
    have gwd : Gr W0 wd := Gr.trans (by have gg := gwc; have gs := gg.size; go_grown) hwd
    have swd := hwd.size
    have hone : ∀ j u, [Value.string op][j]? = some u → wd.cell? ((⟨wc.heap.size, 0, none⟩ : Addr).add j) = some u := by subst hhwd; exact cell_one_new _ _ _
    clear hhwd gwc zwc_0 cwc_0_0 zwc_1 cwc_1_0
    try simp only [Act.put, List.setIfInBounds_toArray, List.set_cons_zero, List.set_cons_succ]
    repeat (first | (refine Oe.wpO_skip (by simp only [List.getElem?_toArray, List.getElem?_cons_succ, List.getElem?_cons_zero] <;> rfl) rfl ?_; simp only [Act.put, List.setIfInBounds_toArray, List.set_cons_zero, List.set_cons_succ]) | (refine Oe.wpO_pure (by simp only [List.getElem?_toArray, List.getElem?_cons_succ, List.getElem?_cons_zero] <;> rfl) rfl ?_; apply Exists.intro; refine ⟨?_, ?_⟩; (· intro wx gx; have cx_0_0 : wx.cell? ⟨P, 0, none⟩ = some (.slice sa len sc) := cell_kx gx (by show ¬ (P ≠ P ∧ W0.heap.size ≤ P); omega) cwd_0_0; have zx_0 : P < wx.heap.size := World.block_lt_of_cell? _ _ cx_0_0; have cx_1_0 : wx.cell? ⟨F, 0, none⟩ = some (.string op) := cell_kx gx (by show ¬ (F ≠ P ∧ W0.heap.size ≤ F); omega) cwd_1_0; have zx_1 : F < wx.heap.size := World.block_lt_of_cell? _ _ cx_1_0; clear gx; all_goals (apply Oe.pAt_of_quiet; intro K hK; go_big_quiet_op; first | exact hK _ rfl | (apply Exists.intro; refine ⟨fun _ => ?_, ?_⟩; (· fail); exact hK _ rfl))); try simp only [Act.put, List.setIfInBounds_toArray, List.set_cons_zero, List.set_cons_succ]))
    have g1d : Gr w1 wd := Gr.trans hwc hwd
    have HRd := Lib.hid (rowOwn_gr HH.out.2.1 g1d)
    have hbd : W0.heap.size ≤ wd.heap.size := gwd.size
    have hcv : ∀ k, (Value.slice sa len sc).ownBlock = some k → k ≠ P ∧ W0.heap.size ≤ k := fun k hk => by
      obtain ⟨hb, cur, hc⟩ := own_ty HRd.out hk
      refine ⟨fun e => ?_, hb⟩
      subst e
      have hc' := heap_kx (S := fun _ => False) (Kx.of_gr g1d) (fun h => h) HH.out.1
      rw [hc] at hc'
      simp at hc'
    refine Oe.wpO_call (by simp only [List.getElem?_toArray, List.getElem?_cons_succ, List.getElem?_cons_zero] <;> rfl) rfl ?_
    intro QS hQS
    refine (wpList_append_own2 _ rfl (.tmp 12) (.tmp 17) 32 rfl W0.heap.size 9 i0 (.string ⟨#[]⟩) 1 16 Try.underlying32 HIN.out.1 HIN.out.2.1 HIN.out.2.2.1 HIN.out.2.2.2 rfl (by decide) (.slice sa len sc) len (strV s) rfl HRd.out ⟨wc.heap.size, 0, none⟩ 1 1 [.string op] rfl rfl hone (by intro u hu; simp only [List.mem_cons, List.not_mem_nil, or_false] at hu; subst hu; rfl) (by unfold maxLen; omega) (by omega) hbd ?_)
    intro x9 we o9 g9
    have hhwe : Kx (fun k => k ≠ P ∧ W0.heap.size ≤ k) wd we := (kx_grown g9).mono (fun k hk => hcv k hk)
    refine hQS _ _ ⟨_, rfl, hhwe, ?_⟩
    clear hQS QS
    have cwe_0_0 : we.cell? ⟨P, 0, none⟩ = some (.slice sa len sc) := cell_kx hhwe (by show ¬ (P ≠ P ∧ W0.heap.size ≤ P); omega) (by go_simp)
    have zwe_0 : P < we.heap.size := World.block_lt_of_cell? _ _ cwe_0_0
    have cwe_1_0 : we.cell? ⟨F, 0, none⟩ = some (.string op) := cell_kx hhwe (by show ¬ (F ≠ P ∧ W0.heap.size ≤ F); omega) (by go_simp)
    have zwe_1 : F < we.heap.size := World.block_lt_of_cell? _ _ cwe_1_0
    have gwe : Gr W0 we := Kx.gr hhwe gwd (fun k hk => by have hk2 : k ≠ P ∧ W0.heap.size ≤ k := hk; omega)
    have swe := hhwe.size
    clear gwd zwd_0 cwd_0_0 zwd_1 cwd_1_0
    clear hhwe
    try simp only [Act.put, List.setIfInBounds_toArray, List.set_cons_zero, List.set_cons_succ]
    repeat (first | (refine Oe.wpO_skip (by simp only [List.getElem?_toArray, List.getElem?_cons_succ, List.getElem?_cons_zero] <;> rfl) rfl ?_; simp only [Act.put, List.setIfInBounds_toArray, List.set_cons_zero, List.set_cons_succ]) | (refine Oe.wpO_pure (by simp only [List.getElem?_toArray, List.getElem?_cons_succ, List.getElem?_cons_zero] <;> rfl) rfl ?_; apply Exists.intro; refine ⟨?_, ?_⟩; (· intro wx gx; have cx_0_0 : wx.cell? ⟨P, 0, none⟩ = some (.slice sa len sc) := cell_kx gx (by show ¬ (P ≠ P ∧ W0.heap.size ≤ P); omega) cwe_0_0; have zx_0 : P < wx.heap.size := World.block_lt_of_cell? _ _ cx_0_0; have cx_1_0 : wx.cell? ⟨F, 0, none⟩ = some (.string op) := cell_kx gx (by show ¬ (F ≠ P ∧ W0.heap.size ≤ F); omega) cwe_1_0; have zx_1 : F < wx.heap.size := World.block_lt_of_cell? _ _ cx_1_0; clear gx; all_goals (apply Oe.pAt_of_quiet; intro K hK; go_big_quiet_op; first | exact hK _ rfl | (apply Exists.intro; refine ⟨fun _ => ?_, ?_⟩; (· fail); exact hK _ rfl))); try simp only [Act.put, List.setIfInBounds_toArray, List.set_cons_zero, List.set_cons_succ]))
    refine Oe.wpO_nil (hKQ _ _ ?_)
    clear hKQ KQ
    simp only [List.drop_succ_cons, List.drop_zero]
    have K1e : Kx (fun k => (Value.slice sa len sc).ownBlock = some k ∨ w1.heap.size ≤ k) w1 we := (Kx.of_gr g1d).trans ((kx_grown g9).mono (fun k hk => Or.inl hk))
    have hPe : we.heap[P]? = some (.cells #[.slice sa len sc] 32 (0, 0)) := heap_kx K1e (fun e => by
      rcases e with e | e
      · obtain ⟨hb, cur, hc⟩ := own_ty HH.out.2.1 e
        have hc' := HH.out.1
        rw [hc] at hc'
        simp at hc'
      · omega) HH.out.1
    obtain ⟨xa, xc, rfl⟩ := str_form o9
    have HO9 := Lib.hid o9
    have HPE := Lib.hid hPe
    have HK1 := Lib.hid K1e
    have c9 := Hm.cell_of_heap hPe 0
    have f9 := Hm.frozen_of_heap hPe 0
    have z9 := (Array.getElem?_eq_some_iff.1 hPe).1
    clear o9 g9 hPe K1e HRd hone g1d hbd
    go_wp2_with fail
    go_ret
    refine ⟨rfl, ⟨_, Hm.heap_set_same (i := 0) (v := .slice xa (len + 1) xc) HPE.out, ?_⟩, fun k => (k = P ∨ (Value.slice sa len sc).ownBlock = some k) ∨ w1.heap.size ≤ k, ?_, fun k hk => ?_⟩
    · have hlen2 : (s ++ [op]).length = len + 1 := by rw [List.length_append, HL.out]; rfl
      rw [hlen2, show strV (s ++ [op]) = strV s ++ [.string op] from by unfold strV; rw [List.map_append]; rfl]
      refine rowOwn_kxS (S := fun k => k = P) HO9.out ((Kx.refl (S := fun k => k = P) we).setCell (p := ⟨P, 0, none⟩) rfl _) (fun k hk e => ?_)
      obtain ⟨hb, cur, hc⟩ := own_ty HO9.out hk
      have h := HPE.out
      rw [show k = P from e] at hc
      rw [hc] at h
      simp at h
    · exact ((Kx.of_gr HH.out.2.2).trans (HK1.out.mono (fun k h => by rcases h with h | h; exact Or.inl (Or.inr h); exact Or.inr h))).setCell (p := ⟨P, 0, none⟩) (Or.inl (Or.inl rfl)) _
    · have g1 := HH.out.2.2
      rcases hk with (hk | hk) | hk
      · rw [hk]
        obtain ⟨sv', h', -⟩ := HI.out
        exact ⟨hP, Or.inr ⟨_, _, _, h', by decide⟩⟩
      · obtain ⟨hb, cur, hc⟩ := own_ty HH.out.2.1 hk
        refine ⟨hb, ?_⟩
        by_cases hkw : w.heap.size ≤ k
        · exact Or.inl hkw
        · rw [g1.block k (by omega)] at hc
          exact Or.inr ⟨_, _, _, hc, by decide⟩
      · exact ⟨Nat.le_trans HG.out.size (Nat.le_trans g1.size hk), Or.inl (Nat.le_trans g1.size hk)⟩
  · have hop : T.op? = none := by
      cases T with
      | flt op id kid => exact absurd ⟨op, id, kid, rfl⟩ hfl
      | _ => rfl
    have AP : Hid (∀ w, Calls Try.prog 25 #[v] w fun e w' => e = .returned (.tuple #[.pointer none, .bool false]) ∧ Gr w w') := Lib.hid (fun w => by
      obtain ⟨p, b, hP, hc⟩ := c_place w hT
      rcases hP with ⟨op, id, kid, F, e, -⟩ | ⟨-, rfl, rfl⟩
      · exact absurd ⟨op, id, kid, e⟩ hfl
      · exact hc)
    obtain ⟨U, y, rfl⟩ := ef_ne hT hn
    unfold chainV
    rw [hop]
    have HI := Lib.hid hI
    clear hI hT hfl hop hn
    go_enter Try.func28, Try.ntmps28
    go_wp2_with fail
    go_at_call 25
    refine (AP.out _).mono ?_
    rintro e w1 ⟨rfl, g1⟩
    have HG1 := Lib.hid g1
    clear g1
    go_wp2_with fail
    go_ret
    exact ⟨rfl, chainI_oth HI.out (Kx.of_gr (S := fun _ => False) HG1.out) (fun k h => h.elim), vfr_of_gr HG1.out⟩
set_option maxRecDepth 100000 in
theorem c_fChain {T : Er} {v : Value} (W : World) (h : ErT W T v) (hs : T.size ≤ 400000) : Calls Try.prog 14 #[v] W fun e w' => ∃ sv, e = .returned sv ∧ w'.ownsRow W.heap.size 9 1 sv (opsN T.pre).length (strV (opsN T.pre)) ∧ Gr W w' := by
  have hmf : ∀ (fn : Fn) (first cap : Array Value) (w : World), (Instr.makeFunc fn first cap).run Try.prog w = .ok (.func fn first cap) w := fun _ _ _ _ => rfl
  have A1 : ∀ (P : Nat) w, W.heap.size ≤ P → Gr W w → ChainI P W.heap.size [] w → Calls Try.prog 23 #[v, .func (Fn.func 28) #[] #[.pointer (some ⟨P, 0, none⟩)]] w fun e w' => e = .returned (.tuple #[]) ∧ ChainI P W.heap.size (opsN T.pre) w' ∧ Gr W w' := fun P w hP g hI => by
    have := c_walk chainV (ChainI P W.heap.size) 28 #[.pointer (some ⟨P, 0, none⟩)] W (fun s a b T hI K hT => chainI_oth hI K hT) (fun x w => by kernel_rfl) List.length (fun s T => by unfold chainV; cases T.op? <;> simp) (fun s T v w hμ g hI hT hn => v_chain P W hP s hμ T v w g hI hT hn) [] rfl T v h hs w g hI
    rw [run_chainV, List.nil_append] at this
    exact this
  have H1 := Lib.hid A1
  clear A1
  clear h
  go_enter Try.func14, Try.ntmps14
  go_wp2_with fail
  go_at_call 23
  have hsz : (W.alloc (.cells #[] 9)).heap.size = W.heap.size + 1 := by simp
  have hnw := heap_alloc_new (W.alloc (.cells #[] 9)) (.cells #[.slice (some ⟨W.heap.size, 0, none⟩) 0 0] 32)
  rw [hsz] at hnw
  refine (H1.out (W.heap.size + 1) _ (by omega) (by go_grown) ⟨_, hnw, rowOwn_gr (World.ownsRow_lit (base := W.heap.size) (e := 9) (size := 1) W #[] 0 (Nat.le_refl _) (by decide) (by simp)) (al_grw _ _)⟩).mono ?_
  rintro e w1 ⟨rfl, ⟨sv, h1, h2⟩, g1⟩
  obtain ⟨xa, xc, rfl⟩ := str_form h2
  have c1 := Hm.cell_of_heap h1 0
  have z1 := (Array.getElem?_eq_some_iff.1 h1).1
  have HO := Lib.hid h2
  clear h1 h2 H1
  go_wp2_with fail
  go_ret
  exact ⟨_, rfl, HO.out, g1⟩
end Go.Proofs.Ytgmmhddlfalehaa
