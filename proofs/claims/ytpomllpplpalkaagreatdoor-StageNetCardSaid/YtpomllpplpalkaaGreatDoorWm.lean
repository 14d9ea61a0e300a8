import Derived.Test.YtpomllpplpalkaaGreatDoorWk
/- model: the ids of a state; ids, Len of any map; rel.Same -/
namespace Go.Proofs.YtpomllpplpalkaaGreatDoor
set_option linter.unusedVariables false
set_option linter.unusedSimpArgs false
open Go.ChangeShapes Go.WideShapes Go.ChangeAt Go.RowKit Go.Maps Go.Sort

def Ids (σ : Int → Option MO) (l : List Int) : Prop := l.Pairwise (· < ·) ∧ ∀ z, z ∈ l ↔ (i64R z ∧ (σ z).isSome = true)
theorem ids_uniq {σ : Int → Option MO} {l l' : List Int} (h : Ids σ l) (h' : Ids σ l') : l = l' := by
  have p : l.Perm l' := (List.perm_ext_iff_of_nodup (h.1.imp (fun h => Int.ne_of_lt h)) (h'.1.imp (fun h => Int.ne_of_lt h))).2 fun z => (h.2 z).trans (h'.2 z).symm
  exact List.Perm.eq_of_pairwise (le := (· < ·)) (fun a b _ _ h1 h2 => by omega) h.1 h'.1 p
theorem ids_none {σ : Int → Option MO} (h : ∀ z, σ z = none) : Ids σ [] := ⟨List.Pairwise.nil, fun z => by rw [h z]; simp⟩
theorem wf_i64R {z : Int} (h : (Lit.int .i64 z).wf = true) : i64R z := by
  have : IntKind.i64.min = -9223372036854775808 := rfl
  have : IntKind.i64.max = 9223372036854775807 := rfl
  simp only [Lit.wf, Bool.and_eq_true, decide_eq_true_eq] at h
  unfold i64R
  omega
theorem ids_of {w : World} {m N : Nat} {D : DataW Value} {σ : Int → Option MO} (hD : w.ownsMap Tryz.prog 3 heldE m N D) (hA : MAt w D σ) : Ids σ ((intKeys D).mergeSort leI) ∧ ((intKeys D).mergeSort leI).length = Maps.size D := by
  have hwf := intKeys_wf hD Tryz.underlying3
  obtain ⟨es, hE, hpw, _⟩ := hD.entries KI
  obtain ⟨es', hE', hko⟩ := hD.keysOf
  obtain rfl : es = es' := by rw [hE] at hE'; simpa using hE'
  subst hE
  have hk : ∀ p ∈ es, ∃ x, p.1 = .int .i64 x := fun p hp => by
    obtain ⟨v, hv⟩ := hko p hp
    obtain ⟨x, _, hx, _⟩ := Maps.keyOf_i64 Tryz.underlying3 hv
    exact ⟨x, hx⟩
  have hnd : (intKeys (.map es : DataW Value)).Nodup := by
    show (es.map fun p => Go.intOf p.1).Nodup
    refine List.pairwise_map.2 (hpw.imp_of_mem fun {p q} hp' hq' hne e => hne ?_)
    obtain ⟨a, ha⟩ := hk p hp'
    obtain ⟨b, hb⟩ := hk q hq'
    rw [ha, hb] at e ⊢
    exact congrArg _ e
  have tr : ∀ a b c : Int, leI a b = true → leI b c = true → leI a c = true := fun a b c h1 h2 => by simp only [leI, decide_eq_true_eq] at *; exact Int.le_trans h1 h2
  have tot : ∀ a b : Int, (leI a b || leI b a) = true := fun a b => by simp only [leI, Bool.or_eq_true, decide_eq_true_eq]; exact Int.le_total a b
  have hp := List.mergeSort_perm (intKeys (.map es : DataW Value)) leI
  refine ⟨⟨?_, fun z => ?_⟩, ?_⟩
  · refine ((List.pairwise_mergeSort tr tot (intKeys (.map es : DataW Value))).and (hp.nodup_iff.2 hnd)).imp (fun {a b} h => ?_)
    have h1 := h.1
    have h2 : a ≠ b := h.2
    simp only [leI, decide_eq_true_eq] at h1
    omega
  · rw [hp.mem_iff]
    constructor
    · intro hz
      have hi := wf_i64R (hwf z hz)
      refine ⟨hi, ?_⟩
      cases hs : σ z with
      | some o => rfl
      | none =>
        have h0 := (hA z hi).1 hs
        obtain ⟨p, hp', e⟩ := List.mem_map.1 hz
        obtain ⟨a, ha⟩ := hk p hp'
        have ea : a = z := by rw [ha] at e; exact e
        subst ea
        rw [has_eq] at h0
        have h1 := List.any_eq_false.1 h0 p hp'
        rw [ha] at h1
        exact absurd (by simp [Lit.sameKey]) h1
    · rintro ⟨hi, hs⟩
      obtain ⟨o, ho⟩ := Option.isSome_iff_exists.1 hs
      obtain ⟨h1, -⟩ := (hA z hi).2 o ho
      rw [has_eq, List.any_eq_true] at h1
      obtain ⟨p, hp', e⟩ := h1
      obtain ⟨a, ha⟩ := hk p hp'
      refine List.mem_map.2 ⟨p, hp', ?_⟩
      rw [ha] at e ⊢
      simpa [Lit.sameKey, Go.intOf] using e
  · rw [hp.length_eq]
    show (es.map fun p => Go.intOf p.1).length = es.length
    exact List.length_map _
theorem ids_ex {w : World} {Q N : Nat} {M : Option Nat} {σ : Int → Option MO} (h : MdAt w Q M σ N) : ∃ l, Ids σ l ∧ l.length ≤ N := by
  cases M with
  | none => exact ⟨[], ids_none (h.2.1 rfl), Nat.zero_le _⟩
  | some m =>
    obtain ⟨D, hD, hA⟩ := h.2.2 m rfl
    obtain ⟨h1, h2⟩ := ids_of hD hA
    exact ⟨_, h1, by rw [h2]; exact hD.size_le⟩
theorem md_lenS {Q N : Nat} {M : Option Nat} {σ : Int → Option MO} {l : List Int} (hl : Ids σ l) (W : World) (h : MdAt W Q M σ N) : Calls Tryz.prog 28 #[.pointer (some ⟨Q, 0, none⟩)] W fun e w' => e = .returned (.int .i64 (l.length : Nat)) ∧ Gr W w' := by
  have c0 : W.cell? ⟨Q, 0, none⟩ = some (.map M) := Hm.cell_of_heap h.1 0
  cases M with
  | none =>
    obtain rfl := ids_uniq hl (ids_none (h.2.1 rfl))
    exact md_len_0 W c0
  | some m =>
    obtain ⟨D, hD, hA⟩ := h.2.2 m rfl
    obtain ⟨h1, h2⟩ := ids_of hD hA
    obtain rfl := ids_uniq hl h1
    rw [h2]
    exact md_len_m W c0 hD
theorem md_idsS {Q N : Nat} {M : Option Nat} {σ : Int → Option MO} {l : List Int} (hl : Ids σ l) (hN : N ≤ 1000000) (W : World) (h : MdAt W Q M σ N) : Calls Tryz.prog 70 #[.pointer (some ⟨Q, 0, none⟩)] W fun e w' => ∃ v, e = .returned v ∧ w'.ownsRow W.heap.size 3 1 v l.length (l.map encZ) ∧ Gr W w' := by
  have c0 : W.cell? ⟨Q, 0, none⟩ = some (.map M) := Hm.cell_of_heap h.1 0
  cases M with
  | none =>
    obtain rfl := ids_uniq hl (ids_none (h.2.1 rfl))
    refine (md_ids_0 W c0).mono ?_
    rintro e w' ⟨rfl, g⟩
    exact ⟨_, rfl, World.ownsRow_nil _ _ _ _, g⟩
  | some m =>
    obtain ⟨D, hD, hA⟩ := h.2.2 m rfl
    obtain ⟨h1, h2⟩ := ids_of hD hA
    obtain rfl := ids_uniq hl h1
    refine (md_ids_m W c0 hD (Nat.le_trans hD.size_le hN)).mono ?_
    rintro e w' ⟨v, ss, rfl, hS, hrow, g⟩
    refine ⟨v, rfl, ?_, g⟩
    have e1 : ss.mergeSort (fun x y => decide (x ≤ y)) = (intKeys D).mergeSort leI := mergeSort_of_perm_i hS
    rw [e1] at hrow
    have e2 : ss.length = ((intKeys D).mergeSort leI).length := by rw [hS.length_eq, List.length_mergeSort]
    rwa [e2] at hrow
section
variable {k j : Int} {n m : Nat} {X Y P Q : Nat → Int} {v u : Value}
set_option maxHeartbeats 4000000 in
set_option maxRecDepth 100000 in
theorem md_slEq (r : Bool) (W : World) (hu : Pts W u n X Y) (hv : Pts W v m P Q) (hn : n ≤ 1000000) (hr : r = true ↔ (n = m ∧ ∀ i, i < n → X i = P i ∧ Y i = Q i)) :
    Calls Tryz.prog 103 #[u, v] W fun e w' => e = .returned (.bool r) ∧ Gr W w' := by
  obtain ⟨ad, cap, B, off, rfl, a1, a2, a3, a4⟩ := hu
  obtain ⟨bd, cbp, C, oc, rfl, b1, b2, b3, b4⟩ := hv
  by_cases h : n = m
  · subst h
    have H3 := Lib.hid (And.intro a3 b3)
    have H4 := Lib.hid (And.intro a4 b4)
    have HR := Lib.hid hr
    have hn9 : (n : Int) ≤ 1000000 := by omega
    clear a3 a4 b3 b4 hr
    go_enter Tryz.func103, Tryz.ntmps103
    go_wp2_with fail
    go_loopg [13] n (fun k u wr => ∃ i : Nat, u = .int .i64 i ∧ i ≤ n ∧ k = n - i ∧ Hid (∀ j, j < i → X j = P j ∧ Y j = Q j) ∧ Gr W wr)
    case atStart => exact ⟨0, rfl, Nat.zero_le _, by omega, Lib.hid (fun j hj => absurd hj (by omega)), by go_grown⟩
    case round =>
      obtain ⟨i, rfl, hi, hk, hE, gwr⟩ := hrel
      by_cases hlt : i < n
      · have ti : decide ((i : Int) < (n : Int)) = true := decide_eq_true (by omega)
        have ti2 : decide (i < n) = true := decide_eq_true hlt
        have ti3 : (i : Int) < (n : Int) := by omega
        have hii : (i : Int) ≤ 1000000 := by omega
        have hmm : n - (i + 1) < gk := by omega
        obtain ⟨k0, k1⟩ := H4.out.1 i hlt
        obtain ⟨m0, m1⟩ := H4.out.2 i hlt
        obtain rfl := H3.out.1 (by omega)
        obtain rfl := H3.out.2 (by omega)
        have s0 := cell_gr gwr k0
        have s1 := cell_gr gwr k1
        have r0 := cell_gr gwr m0
        have r1 := cell_gr gwr m1
        have zB : B < wr.heap.size := World.block_lt_of_cell? _ _ s0
        have zC : C < wr.heap.size := World.block_lt_of_cell? _ _ r0
        have E := nePt (X i) (Y i) (P i) (Q i)
        by_cases c : X i = P i ∧ Y i = Q i
        · have hE2 : Hid (∀ j, j < i + 1 → X j = P j ∧ Y j = Q j) := Lib.hid (fun j hj => by
            rcases Nat.lt_or_ge j i with q | q
            · exact hE.out j q
            · obtain rfl : j = i := by omega
              exact c)
          rw [decide_eq_true c.1, decide_eq_true c.2] at E
          generalize X i = x at *
          generalize Y i = y at *
          generalize P i = p at *
          generalize Q i = q at *
          have HE := Lib.hid c
          clear k0 k1 m0 m1 hk c hE
          go_wp2_with fail
          refine wp_region_spread (by kernel_rfl) (by kernel_rfl) ?_
          try simp only [List.append]
          repeat (first | go_big_quiet_skip | (go_big_quiet_want; go_big_quiet_op; (first | go_big_quiet_on | (apply Exists.intro; refine ⟨fun _ => ?_, ?_⟩; (· fail); go_big_quiet_on))))
          refine wpQuiet_nil ?_
          intro w1 hhw1
          have hw1 := Hd.gr_of_spread hhw1
          have cw1_0_0 : w1.cell? ⟨B, off + i * 2, none⟩ = some (.int .i64 x) := cell_gr hw1 (by go_simp)
          have cw1_0_1 : w1.cell? ⟨B, off + i * 2 + 1, none⟩ = some (.int .i64 y) := cell_gr hw1 (by go_simp)
          have zw1_0 : B < w1.heap.size := World.block_lt_of_cell? _ _ cw1_0_0
          have cw1_1_0 : w1.cell? ⟨C, oc + i * 2, none⟩ = some (.int .i64 p) := cell_gr hw1 (by go_simp)
          have cw1_1_1 : w1.cell? ⟨C, oc + i * 2 + 1, none⟩ = some (.int .i64 q) := cell_gr hw1 (by go_simp)
          have zw1_1 : C < w1.heap.size := World.block_lt_of_cell? _ _ cw1_1_0
          have gw1 : Gr W w1 := Gr.trans (by have gg := gwr; have gs := gg.size; go_grown) hw1
          clear hw1 hhw1 gwr
          go_wp2_with fail
          go_roundg (n - (i + 1))
          case measure => exact hmm
          case rel => exact ⟨i + 1, by go_num, hlt, rfl, hE2, gw1⟩
        · obtain rfl : r = false := by
            cases r
            · rfl
            · exact absurd ((HR.out.1 rfl).2 i hlt) c
          have E2 : (!(decide (X i = P i) && decide (Y i = Q i))) = true := by
            rw [← Bool.decide_and, decide_eq_false c]; rfl
          rw [E2] at E
          generalize X i = x at *
          generalize Y i = y at *
          generalize P i = p at *
          generalize Q i = q at *
          clear k0 k1 m0 m1 hk c E2 hE
          go_wp2_with fail
          refine wp_region_spread (by kernel_rfl) (by kernel_rfl) ?_
          try simp only [List.append]
          repeat (first | go_big_quiet_skip | (go_big_quiet_want; go_big_quiet_op; (first | go_big_quiet_on | (apply Exists.intro; refine ⟨fun _ => ?_, ?_⟩; (· fail); go_big_quiet_on))))
          refine wpQuiet_nil ?_
          intro w1 hhw1
          have hw1 := Hd.gr_of_spread hhw1
          have cw1_0_0 : w1.cell? ⟨B, off + i * 2, none⟩ = some (.int .i64 x) := cell_gr hw1 (by go_simp)
          have cw1_0_1 : w1.cell? ⟨B, off + i * 2 + 1, none⟩ = some (.int .i64 y) := cell_gr hw1 (by go_simp)
          have zw1_0 : B < w1.heap.size := World.block_lt_of_cell? _ _ cw1_0_0
          have cw1_1_0 : w1.cell? ⟨C, oc + i * 2, none⟩ = some (.int .i64 p) := cell_gr hw1 (by go_simp)
          have cw1_1_1 : w1.cell? ⟨C, oc + i * 2 + 1, none⟩ = some (.int .i64 q) := cell_gr hw1 (by go_simp)
          have zw1_1 : C < w1.heap.size := World.block_lt_of_cell? _ _ cw1_1_0
          have gw1 : Gr W w1 := Gr.trans (by have gg := gwr; have gs := gg.size; go_grown) hw1
          clear hw1 hhw1 gwr
          go_wp2_with fail
          go_ret
          exact ⟨rfl, gw1⟩
      · obtain rfl : i = n := by omega
        obtain rfl : r = true := HR.out.2 ⟨trivial, hE.out⟩
        have ti : decide ((i : Int) < (i : Int)) = false := decide_eq_false (by omega)
        have ti2 : decide (i < i) = false := decide_eq_false (by omega)
        clear hk hE
        go_wp2_with fail
        go_ret
        exact ⟨rfl, gwr⟩
  · obtain rfl : r = false := by
      cases r
      · rfl
      · exact absurd (hr.1 rfl).1 h
    have t1 : ((n : Int) != (m : Int)) = true := by simp; omega
    have t2 : (n != m) = true := by simp; omega
    clear a3 a4 b3 b4 hr h
    go_enter Tryz.func103, Tryz.ntmps103
    go_wp2_with fail
    go_ret
    exact ⟨rfl, by go_grown⟩
set_option maxHeartbeats 4000000 in
set_option maxRecDepth 100000 in
theorem md_oSame (r : Bool) (W : World) (hu : Pts W u n X Y) (hv : Pts W v m P Q) (hn : n ≤ 1000000) (hr : r = true ↔ (k = j ∧ n = m ∧ ∀ i, i < n → X i = P i ∧ Y i = Q i)) :
    Calls Tryz.prog 66 #[.agg #[.int .i64 k, u], .agg #[.int .i64 j, v]] W fun e w' => e = .returned (.bool r) ∧ Gr W w' := by
  by_cases h : k = j
  · subst h
    have A1 : ∀ w, Gr W w → _ := fun w g => md_slEq r w (pts_gr hu g) (pts_gr hv g) hn (by rw [hr]; simp)
    have t1 : (k == k) = true := by simp
    obtain ⟨ad, cap, _, _, rfl, _⟩ := hu
    obtain ⟨bd, cbp, _, _, rfl, _⟩ := hv
    have H1 := Lib.hid A1
    clear A1
    clear hr
    go_enter Tryz.func66, Tryz.ntmps66
    go_wp2_with fail
    go_at_call 103
    refine ((H1.out _ (by go_grown))).mono ?_
    rintro e w1 ⟨rfl, hw1⟩
    have cw1_0_0 : w1.cell? ⟨W.heap.size, 0, none⟩ = some (.int .i64 k) := cell_gr hw1 (by go_simp)
    have cw1_0_1 : w1.cell? ⟨W.heap.size, 1, none⟩ = some (.slice ad n cap) := cell_gr hw1 (by go_simp)
    have zw1_0 : W.heap.size < w1.heap.size := World.block_lt_of_cell? _ _ cw1_0_0
    have cw1_1_0 : w1.cell? ⟨W.heap.size + 1, 0, none⟩ = some (.int .i64 k) := cell_gr hw1 (by go_simp)
    have cw1_1_1 : w1.cell? ⟨W.heap.size + 1, 1, none⟩ = some (.slice bd m cbp) := cell_gr hw1 (by go_simp)
    have zw1_1 : W.heap.size + 1 < w1.heap.size := World.block_lt_of_cell? _ _ cw1_1_0
    have gw1 : Gr W w1 := Gr.trans (by go_grown) hw1
    clear hw1
    go_wp2_with fail
    go_ret
    exact ⟨rfl, gw1⟩
  · obtain rfl : r = false := by
      cases r
      · rfl
      · exact absurd (hr.1 rfl).1 h
    have t1 : (k == j) = false := by simp; omega
    obtain ⟨ad, cap, _, _, rfl, _⟩ := hu
    obtain ⟨bd, cbp, _, _, rfl, _⟩ := hv
    clear hr h
    go_enter Tryz.func66, Tryz.ntmps66
    go_wp2_with fail
    go_ret
    exact ⟨rfl, by go_grown⟩
end
end Go.Proofs.YtpomllpplpalkaaGreatDoor
/- model: Same of two maps that have the same -/
namespace Go.Proofs.YtpomllpplpalkaaGreatDoor
set_option linter.unusedVariables false
set_option linter.unusedSimpArgs false
open Go.ChangeShapes Go.WideShapes Go.ChangeAt Go.RowKit Go.Maps Go.Sort

theorem own_ints {w : World} {base e : Nat} {v : Value} {l : List Int} (h : w.ownsRow base e 1 v l.length (l.map encZ)) : ∃ ad cap L, v = .slice ad l.length cap ∧ (0 < l.length → ad = some ⟨L, 0, none⟩) ∧ ∀ i, i < l.length → w.cell? ⟨L, i, none⟩ = some (.int .i64 (l.getD i 0)) := by
  rcases h.2 with ⟨hv, h0⟩ | ⟨g, cap, cur, rfl, hb, hg, hn', hc, hs, ht⟩
  · have e0 : l.length = 0 := by simpa using h0
    rw [e0]
    exact ⟨none, 0, 0, hv, fun h => absurd h (by omega), fun i hi => absurd hi (by omega)⟩
  · refine ⟨some ⟨g, 0, none⟩, cap, g, rfl, fun _ => rfl, fun i hi => ?_⟩
    rw [h.cellAt i (by omega), List.getElem?_map, List.getD_eq_getElem?_getD, List.getElem?_eq_getElem hi]
    rfl
theorem md_pLook {P : Program} {o : Oper} {a : Act} {w : World} (m x : Operand) (t : TypeId) (hop : o.op = Op.lookup t m x false)
    (k e : TypeId) (K : Keyed P k) (ht : P.underlying t = some (.map k e)) {z : Value} (hz : (zeroValue e).run P w = .ok z w) (b n : Nat) (D : DataW Value)
    (hm : a.eval m = .map (some b)) (hown : w.ownsMap P k heldE b n D) (key : Value) (kl : Lit) (hx : a.eval x = key) (hkey : keyOf P k key = some kl)
    (v : Value) (hv : ∀ z, D.atKey kl z = .held v) : Od.pAt P o a w v := by
  obtain ⟨v', ps, hrun, hr⟩ := hown.lookup K ht (zd := .held z) (zp := []) hz rfl hkey
  have e1 : (DataW.held v' : DataW Value) = .held v := by
    have := (Prod.mk.inj (Option.some.inj hr)).1
    rw [this]; exact hv _
  obtain rfl := DataW.held.inj e1
  unfold Od.pAt Oper.wp
  simp [execOp, hop, hm, hx, hrun, Result.andThen]
  rw [Oper.upon_value]
  exact ⟨rfl, rfl⟩
theorem mdAt_some {w : World} {Q N : Nat} {M : Option Nat} {σ : Int → Option MO} {z : Int} {o : MO} (h : MdAt w Q M σ N) (hz : i64R z) (ho : σ z = some o) : ∃ m D B c, M = some m ∧ w.ownsMap Tryz.prog 3 heldE m N D ∧ (∀ y, D.atKey (zk z) y = .held (.agg #[.int .i64 o.k, .slice (some ⟨B, 0, none⟩) o.n c])) ∧ 0 < o.n ∧ o.n ≤ 1000 ∧ Pts w (.slice (some ⟨B, 0, none⟩) o.n c) o.n o.X o.Y := by
  cases M with
  | none => rw [h.2.1 rfl z] at ho; cases ho
  | some m =>
    obtain ⟨D, hD, hA⟩ := h.2.2 m rfl
    obtain ⟨-, h1, h2, B, c, h3, h4⟩ := (hA z hz).2 o ho
    exact ⟨m, D, B, c, rfl, hD, h3, h1, h2, h4.1⟩
set_option maxHeartbeats 4000000 in
set_option maxRecDepth 100000 in
theorem md_sameEq {Q P N N' : Nat} {M M' : Option Nat} {σ : Int → Option MO} (hN : N ≤ 1000000) (W : World) (h : MdAt W Q M σ N) (h' : MdAt W P M' σ N') : Calls Tryz.prog 26 #[.pointer (some ⟨Q, 0, none⟩), .pointer (some ⟨P, 0, none⟩)] W fun e w' => e = .returned (.bool true) ∧ Gr W w' := by
  obtain ⟨l, hl, hln⟩ := ids_ex h
  have c0 : W.cell? ⟨Q, 0, none⟩ = some (.map M) := Hm.cell_of_heap h.1 0
  have d0 : W.cell? ⟨P, 0, none⟩ = some (.map M') := Hm.cell_of_heap h'.1 0
  have zQ := World.block_lt_of_cell? _ _ c0
  have zP := World.block_lt_of_cell? _ _ d0
  have hlen : (l.length : Int) ≤ 1000000 := by omega
  have AL := Lib.hid (fun w (g : Gr W w) => md_lenS hl w (mdAt_gr h g))
  have BL := Lib.hid (fun w (g : Gr W w) => md_lenS hl w (mdAt_gr h' g))
  have AI := Lib.hid (fun w (g : Gr W w) => md_idsS hl hN w (mdAt_gr h g))
  have HH := Lib.hid (And.intro h h')
  have HL := Lib.hid hl
  clear h h' hl
  go_enter Tryz.func26, Tryz.ntmps26
  go_wp2_with fail
  go_at_call 28
  refine ((AL.out _ (by go_grown))).mono ?_
  rintro e w1 ⟨rfl, hw1⟩
  have cw1_0_0 : w1.cell? ⟨Q, 0, none⟩ = some (.map M) := cell_gr hw1 (by go_simp)
  have zw1_0 : Q < w1.heap.size := World.block_lt_of_cell? _ _ cw1_0_0
  have cw1_1_0 : w1.cell? ⟨P, 0, none⟩ = some (.map M') := cell_gr hw1 (by go_simp)
  have zw1_1 : P < w1.heap.size := World.block_lt_of_cell? _ _ cw1_1_0
  have gw1 : Gr W w1 := Gr.trans (by go_grown) hw1
  clear hw1
  go_wp2_with fail
  go_at_call 28
  refine ((BL.out _ (by have gg := gw1; go_grown))).mono ?_
  rintro e w2 ⟨rfl, hw2⟩
  have cw2_0_0 : w2.cell? ⟨Q, 0, none⟩ = some (.map M) := cell_gr hw2 (by go_simp)
  have zw2_0 : Q < w2.heap.size := World.block_lt_of_cell? _ _ cw2_0_0
  have cw2_1_0 : w2.cell? ⟨P, 0, none⟩ = some (.map M') := cell_gr hw2 (by go_simp)
  have zw2_1 : P < w2.heap.size := World.block_lt_of_cell? _ _ cw2_1_0
  have gw2 : Gr W w2 := Gr.trans (by have gg := gw1; have gs := gg.size; go_grown) hw2
  clear hw2 gw1 zw1_0 cw1_0_0 zw1_1 cw1_1_0
  go_wp2_with fail
  go_at_call 70
  refine (AI.out _ (by have gg := gw2; go_grown)).mono ?_
  rintro e w3 ⟨v, rfl, hrow, g3⟩
  obtain ⟨ad, cap, L, rfl, hnil, hcell⟩ := own_ints hrow
  have gw3 : Gr W w3 := Gr.trans gw2 g3
  have HC := Lib.hid (And.intro hnil hcell)
  clear hrow hnil hcell cw2_0_0 cw2_1_0 zw2_0 zw2_1 gw2 g3
  go_wp2_with fail
  go_loopg [15] l.length (fun k x wr => ∃ i : Nat, x = .int .i64 i ∧ i ≤ l.length ∧ k = l.length - i ∧ Gr w3 wr)
  case atStart => exact ⟨0, rfl, Nat.zero_le _, by omega, Below.refl _ _⟩
  case round =>
    obtain ⟨i, rfl, hi, hk, g3r⟩ := hrel
    have gwr : Gr W wr := Gr.trans gw3 g3r
    by_cases hlt : i < l.length
    · have ti : decide ((i : Int) < (l.length : Int)) = true := decide_eq_true (by omega)
      have ti2 : decide (i < l.length) = true := decide_eq_true hlt
      have ti3 : (i : Int) < (l.length : Int) := by omega
      have hii : (i : Int) ≤ 1000000 := by omega
      have hmm : l.length - (i + 1) < gk := by omega
      obtain rfl := HC.out.1 (by omega)
      have s0 := cell_gr g3r (HC.out.2 i hlt)
      have hz : l.getD i 0 ∈ l := by rw [List.getD_eq_getElem?_getD, List.getElem?_eq_getElem hlt]; exact List.getElem_mem hlt
      obtain ⟨hzi, hzs⟩ := (HL.out.2 _).1 hz
      generalize l.getD i 0 = z at s0 hz hzi hzs
      have hzL := World.block_lt_of_cell? _ _ s0
      obtain ⟨o, ho⟩ := Option.isSome_iff_exists.1 hzs
      obtain ⟨m, D, B, c, rfl, hD, hv, on, on2, hp⟩ := mdAt_some HH.out.1 hzi ho
      obtain ⟨m', D', B', c', rfl, hD', hv', on', on2', hp'⟩ := mdAt_some HH.out.2 hzi ho
      have AH := Lib.hid (fun w (g : Gr W w) => show Calls Tryz.prog 71 #[.pointer (some ⟨P, 0, none⟩), .int .i64 z] w (fun e w' => e = .returned (.bool true) ∧ Gr w w') from by
        have := md_has hzi w (mdAt_gr HH.out.2 g)
        rwa [hzs] at this)
      have AS := Lib.hid (fun w (g : Gr W w) => md_oSame (k := o.k) (j := o.k) true w (pts_gr hp g) (pts_gr hp' g) (by omega) (iff_of_true rfl ⟨rfl, rfl, fun _ _ => ⟨rfl, rfl⟩⟩))
      have HD := Lib.hid (And.intro hD (And.intro hv (And.intro hD' hv')))
      have HZ := Lib.hid hzi
      obtain ⟨ok, oN, oX, oY⟩ := o
      clear hD hD' hv hv' hp hp' ho hzs hz hzi on on2 on' on2'
      have q0 : wr.cell? ⟨Q, 0, none⟩ = some (.map (some m)) := cell_gr gwr (Hm.cell_of_heap HH.out.1.1 0)
      have q1 : wr.cell? ⟨P, 0, none⟩ = some (.map (some m')) := cell_gr gwr (Hm.cell_of_heap HH.out.2.1 0)
      go_wp2_with fail
      go_wp2_with fail
      try simp only [List.append]
      refine Od.wp_region_ord [(0, false), (1, false), (2, true), (3, false), (4, false), (5, false), (6, false), (7, false), (8, false), (9, false), (10, false), (11, false), (12, false), (13, false), (14, false), (15, false), (16, false), (17, true), (18, false), (19, false)] (by kernel_rfl) (by kernel_rfl) ?_
      intro wa hwa KQ hKQ
      have cwa_0_0 : wa.cell? ⟨Q, 0, none⟩ = some (.map (some m)) := cell_gr hwa (by go_simp)
      have zwa_0 : Q < wa.heap.size := World.block_lt_of_cell? _ _ cwa_0_0
      have cwa_1_0 : wa.cell? ⟨P, 0, none⟩ = some (.map (some m')) := cell_gr hwa (by go_simp)
      have zwa_1 : P < wa.heap.size := World.block_lt_of_cell? _ _ cwa_1_0
      have gwa : Gr wr wa := Gr.trans (by go_grown) hwa
      skip
      clear hwa
      repeat (first | (refine Od.wpO_skip (by simp only [List.getElem?_toArray, List.getElem?_cons_succ, List.getElem?_cons_zero] <;> rfl) rfl ?_; simp only [Act.put, List.setIfInBounds_toArray, List.set_cons_zero, List.set_cons_succ]) | (refine Od.wpO_pure (by simp only [List.getElem?_toArray, List.getElem?_cons_succ, List.getElem?_cons_zero] <;> rfl) rfl ?_; apply Exists.intro; refine ⟨?_, ?_⟩; (· intro wx gx; obtain ⟨mx, rfl⟩ := spread_of_gr gx; clear gx; all_goals (apply Od.pAt_of_quiet; intro K hK; go_big_quiet_op; first | exact hK _ rfl | (apply Exists.intro; refine ⟨fun _ => ?_, ?_⟩; (· fail); exact hK _ rfl))); try simp only [Act.put, List.setIfInBounds_toArray, List.set_cons_zero, List.set_cons_succ]))
      refine Od.wpO_call (by simp only [List.getElem?_toArray, List.getElem?_cons_succ, List.getElem?_cons_zero] <;> rfl) rfl ?_
      intro QS hQS
      go_wp2_with fail
      go_at_call 71
      (with_reducible refine ((AH.out _ (Gr.trans gwr gwa))).mono ?_)
      rintro e wb ⟨rfl, hwb⟩
      go_wp2_with fail
      apply Exists.intro
      refine ⟨?_, hwb, ?_⟩
      · simp only [Act.put, List.setIfInBounds_toArray, List.set_cons_zero, List.set_cons_succ]; rfl
      have cwb_0_0 : wb.cell? ⟨Q, 0, none⟩ = some (.map (some m)) := cell_gr hwb (by go_simp)
      have zwb_0 : Q < wb.heap.size := World.block_lt_of_cell? _ _ cwb_0_0
      have cwb_1_0 : wb.cell? ⟨P, 0, none⟩ = some (.map (some m')) := cell_gr hwb (by go_simp)
      have zwb_1 : P < wb.heap.size := World.block_lt_of_cell? _ _ cwb_1_0
      have gwb : Gr wr wb := Gr.trans (by have gg := gwa; have gs := gg.size; go_grown) hwb
      clear gwa zwa_0 cwa_0_0 zwa_1 cwa_1_0
      clear hwb
      try simp only [Act.put, List.setIfInBounds_toArray, List.set_cons_zero, List.set_cons_succ]
      repeat (first | (refine Od.wpO_skip (by simp only [List.getElem?_toArray, List.getElem?_cons_succ, List.getElem?_cons_zero] <;> rfl) rfl ?_; simp only [Act.put, List.setIfInBounds_toArray, List.set_cons_zero, List.set_cons_succ]) | (refine Od.wpO_pure (by simp only [List.getElem?_toArray, List.getElem?_cons_succ, List.getElem?_cons_zero] <;> rfl) rfl ?_; apply Exists.intro; refine ⟨?_, ?_⟩; (· intro wx gx; obtain ⟨mx, rfl⟩ := spread_of_gr gx; clear gx; all_goals (apply Od.pAt_of_quiet; intro K hK; go_big_quiet_op; first | exact hK _ rfl | (apply Exists.intro; refine ⟨fun _ => ?_, ?_⟩; (· fail); exact hK _ rfl))); try simp only [Act.put, List.setIfInBounds_toArray, List.set_cons_zero, List.set_cons_succ]))
      refine Od.wpO_pure (by simp only [List.getElem?_toArray, List.getElem?_cons_succ, List.getElem?_cons_zero] <;> rfl) rfl ?_
      refine ⟨(.agg #[.int .i64 ok, .slice (some ⟨B, 0, none⟩) oN c]), ?_, ?_⟩
      · intro wx gx; exact (md_pLook (.tmp 27) (.tmp 28) _ rfl 3 34 KI Tryz.underlying103 (zeroO _) m N D rfl (ownsMap_kx (S := fun _ => False) HD.out.1 (Kx.of_gr (Gr.trans (Gr.trans gwr gwb) gx)) (fun h => h)) (.int .i64 z) (zk z) rfl (zk_of HZ.out) _ HD.out.2.1)
      try simp only [Act.put, List.setIfInBounds_toArray, List.set_cons_zero, List.set_cons_succ]
      repeat (first | (refine Od.wpO_skip (by simp only [List.getElem?_toArray, List.getElem?_cons_succ, List.getElem?_cons_zero] <;> rfl) rfl ?_; simp only [Act.put, List.setIfInBounds_toArray, List.set_cons_zero, List.set_cons_succ]) | (refine Od.wpO_pure (by simp only [List.getElem?_toArray, List.getElem?_cons_succ, List.getElem?_cons_zero] <;> rfl) rfl ?_; apply Exists.intro; refine ⟨?_, ?_⟩; (· intro wx gx; obtain ⟨mx, rfl⟩ := spread_of_gr gx; clear gx; all_goals (apply Od.pAt_of_quiet; intro K hK; go_big_quiet_op; first | exact hK _ rfl | (apply Exists.intro; refine ⟨fun _ => ?_, ?_⟩; (· fail); exact hK _ rfl))); try simp only [Act.put, List.setIfInBounds_toArray, List.set_cons_zero, List.set_cons_succ]))
      refine Od.wpO_pure (by simp only [List.getElem?_toArray, List.getElem?_cons_succ, List.getElem?_cons_zero] <;> rfl) rfl ?_
      refine ⟨(.agg #[.int .i64 ok, .slice (some ⟨B', 0, none⟩) oN c']), ?_, ?_⟩
      · intro wx gx; exact (md_pLook (.tmp 33) (.tmp 34) _ rfl 3 34 KI Tryz.underlying103 (zeroO _) m' N' D' rfl (ownsMap_kx (S := fun _ => False) HD.out.2.2.1 (Kx.of_gr (Gr.trans (Gr.trans gwr gwb) gx)) (fun h => h)) (.int .i64 z) (zk z) rfl (zk_of HZ.out) _ HD.out.2.2.2)
      try simp only [Act.put, List.setIfInBounds_toArray, List.set_cons_zero, List.set_cons_succ]
      repeat (first | (refine Od.wpO_skip (by simp only [List.getElem?_toArray, List.getElem?_cons_succ, List.getElem?_cons_zero] <;> rfl) rfl ?_; simp only [Act.put, List.setIfInBounds_toArray, List.set_cons_zero, List.set_cons_succ]) | (refine Od.wpO_pure (by simp only [List.getElem?_toArray, List.getElem?_cons_succ, List.getElem?_cons_zero] <;> rfl) rfl ?_; apply Exists.intro; refine ⟨?_, ?_⟩; (· intro wx gx; obtain ⟨mx, rfl⟩ := spread_of_gr gx; clear gx; all_goals (apply Od.pAt_of_quiet; intro K hK; go_big_quiet_op; first | exact hK _ rfl | (apply Exists.intro; refine ⟨fun _ => ?_, ?_⟩; (· fail); exact hK _ rfl))); try simp only [Act.put, List.setIfInBounds_toArray, List.set_cons_zero, List.set_cons_succ]))
      refine Od.wpO_call (by simp only [List.getElem?_toArray, List.getElem?_cons_succ, List.getElem?_cons_zero] <;> rfl) rfl ?_
      intro QS hQS
      go_wp2_with fail
      go_at_call 66
      (with_reducible refine ((AS.out _ (Gr.trans gwr gwb))).mono ?_)
      rintro e wc ⟨rfl, hwc⟩
      go_wp2_with fail
      apply Exists.intro
      refine ⟨?_, hwc, ?_⟩
      · simp only [Act.put, List.setIfInBounds_toArray, List.set_cons_zero, List.set_cons_succ]; rfl
      have cwc_0_0 : wc.cell? ⟨Q, 0, none⟩ = some (.map (some m)) := cell_gr hwc (by go_simp)
      have zwc_0 : Q < wc.heap.size := World.block_lt_of_cell? _ _ cwc_0_0
      have cwc_1_0 : wc.cell? ⟨P, 0, none⟩ = some (.map (some m')) := cell_gr hwc (by go_simp)
      have zwc_1 : P < wc.heap.size := World.block_lt_of_cell? _ _ cwc_1_0
      have gwc : Gr wr wc := Gr.trans (by have gg := gwb; have gs := gg.size; go_grown) hwc
      clear gwb zwb_0 cwb_0_0 zwb_1 cwb_1_0
      clear hwc
      try simp only [Act.put, List.setIfInBounds_toArray, List.set_cons_zero, List.set_cons_succ]
      repeat (first | (refine Od.wpO_skip (by simp only [List.getElem?_toArray, List.getElem?_cons_succ, List.getElem?_cons_zero] <;> rfl) rfl ?_; simp only [Act.put, List.setIfInBounds_toArray, List.set_cons_zero, List.set_cons_succ]) | (refine Od.wpO_pure (by simp only [List.getElem?_toArray, List.getElem?_cons_succ, List.getElem?_cons_zero] <;> rfl) rfl ?_; apply Exists.intro; refine ⟨?_, ?_⟩; (· intro wx gx; obtain ⟨mx, rfl⟩ := spread_of_gr gx; clear gx; all_goals (apply Od.pAt_of_quiet; intro K hK; go_big_quiet_op; first | exact hK _ rfl | (apply Exists.intro; refine ⟨fun _ => ?_, ?_⟩; (· fail); exact hK _ rfl))); try simp only [Act.put, List.setIfInBounds_toArray, List.set_cons_zero, List.set_cons_succ]))
      refine Od.wpO_nil (hKQ _ _ ?_)
      clear hKQ KQ
      go_wp2_with fail
      go_roundg (l.length - (i + 1))
      case measure => omega
      case rel => exact ⟨i + 1, by go_simp, by omega, rfl, Gr.trans g3r gwc⟩
    · obtain rfl : i = l.length := by omega
      have ti : decide ((l.length : Int) < (l.length : Int)) = false := decide_eq_false (by omega)
      have ti2 : decide (l.length < l.length) = false := decide_eq_false (by omega)
      clear hk
      go_wp2_with fail
      go_ret
      exact ⟨rfl, gwr⟩
end Go.Proofs.YtpomllpplpalkaaGreatDoor
