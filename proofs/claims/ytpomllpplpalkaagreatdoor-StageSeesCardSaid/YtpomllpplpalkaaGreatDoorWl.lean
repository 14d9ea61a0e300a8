/- model: the ids of a state; ids, Len of any map; rel.Same -/
import Derived.Test.YtpomllpplpalkaaGreatDoorWk
namespace Go.Proofs.YtpomllpplpalkaaGreatDoor
set_option linter.unusedVariables false
set_option linter.unusedSimpArgs false
open Go.ChangeShapes Go.WideShapes Go.ChangeAt Go.RowKit Go.Maps Go.Sort

def Ids (σ : Int → Option MO) (l : List Int) : Prop := l.Pairwise (· < ·) ∧ ∀ z, z ∈ l ↔ (i64R z ∧ (σ z).isSome = true)
theorem ids_uniq {σ : Int → Option MO} {l l' : List Int} (h : Ids σ l) (h' : Ids σ l') : l = l' := by
  have p : l.Perm l' := (List.perm_ext_iff_of_nodup (h.1.imp (fun h => Int.ne_of_lt h)) (h'.1.imp (fun h => Int.ne_of_lt h))).2 fun z => (h.2 z).trans (h'.2 z).symm
  exact List.Perm.eq_of_pairwise (le := (· < ·)) (fun a b _ _ h1 h2 => by omega) h.1 h'.1 p
theorem ids_none {σ : Int → Option MO} (h : ∀ z, σ z = none) : Ids σ [] := ⟨List.Pairwise.nil, fun z => by rw [h z]; simp⟩
theorem wf_i64R {z : Int} (h : (Lit.int .i64 z).wf = true) : i64R z := by
  have : IntKind.i64.min = -9223372036854775808 := rfl
  have : IntKind.i64.max = 9223372036854775807 := rfl
  simp only [Lit.wf, Bool.and_eq_true, decide_eq_true_eq] at h
  unfold i64R
  omega
theorem ids_of {w : World} {m N : Nat} {D : DataW Value} {σ : Int → Option MO} (hD : w.ownsMap Tryz.prog 3 heldE m N D) (hA : MAt w D σ) : Ids σ ((intKeys D).mergeSort leI) ∧ ((intKeys D).mergeSort leI).length = Maps.size D := by
  have hwf := intKeys_wf hD Tryz.underlying3
  obtain ⟨es, hE, hpw, _⟩ := hD.entries KI
  obtain ⟨es', hE', hko⟩ := hD.keysOf
  obtain rfl : es = es' := by rw [hE] at hE'; simpa using hE'
  subst hE
  have hk : ∀ p ∈ es, ∃ x, p.1 = .int .i64 x := fun p hp => by
    obtain ⟨v, hv⟩ := hko p hp
    obtain ⟨x, _, hx, _⟩ := Maps.keyOf_i64 Tryz.underlying3 hv
    exact ⟨x, hx⟩
  have hnd : (intKeys (.map es : DataW Value)).Nodup := by
    show (es.map fun p => Go.intOf p.1).Nodup
    refine List.pairwise_map.2 (hpw.imp_of_mem fun {p q} hp' hq' hne e => hne ?_)
    obtain ⟨a, ha⟩ := hk p hp'
    obtain ⟨b, hb⟩ := hk q hq'
    rw [ha, hb] at e ⊢
    exact congrArg _ e
  have tr : ∀ a b c : Int, leI a b = true → leI b c = true → leI a c = true := fun a b c h1 h2 => by simp only [leI, decide_eq_true_eq] at *; exact Int.le_trans h1 h2
  have tot : ∀ a b : Int, (leI a b || leI b a) = true := fun a b => by simp only [leI, Bool.or_eq_true, decide_eq_true_eq]; exact Int.le_total a b
  have hp := List.mergeSort_perm (intKeys (.map es : DataW Value)) leI
  refine ⟨⟨?_, fun z => ?_⟩, ?_⟩
  · refine ((List.pairwise_mergeSort tr tot (intKeys (.map es : DataW Value))).and (hp.nodup_iff.2 hnd)).imp (fun {a b} h => ?_)
    have h1 := h.1
    have h2 : a ≠ b := h.2
    simp only [leI, decide_eq_true_eq] at h1
    omega
  · rw [hp.mem_iff]
    constructor
    · intro hz
      have hi := wf_i64R (hwf z hz)
      refine ⟨hi, ?_⟩
      cases hs : σ z with
      | some o => rfl
      | none =>
        have h0 := (hA z hi).1 hs
        obtain ⟨p, hp', e⟩ := List.mem_map.1 hz
        obtain ⟨a, ha⟩ := hk p hp'
        have ea : a = z := by rw [ha] at e; exact e
        subst ea
        rw [has_eq] at h0
        have h1 := List.any_eq_false.1 h0 p hp'
        rw [ha] at h1
        exact absurd (by simp [Lit.sameKey]) h1
    · rintro ⟨hi, hs⟩
      obtain ⟨o, ho⟩ := Option.isSome_iff_exists.1 hs
      obtain ⟨h1, -⟩ := (hA z hi).2 o ho
      rw [has_eq, List.any_eq_true] at h1
      obtain ⟨p, hp', e⟩ := h1
      obtain ⟨a, ha⟩ := hk p hp'
      refine List.mem_map.2 ⟨p, hp', ?_⟩
      rw [ha] at e ⊢
      simpa [Lit.sameKey, Go.intOf] using e
  · rw [hp.length_eq]
    show (es.map fun p => Go.intOf p.1).length = es.length
    exact List.length_map _
theorem ids_ex {w : World} {Q N : Nat} {M : Option Nat} {σ : Int → Option MO} (h : MdAt w Q M σ N) : ∃ l, Ids σ l ∧ l.length ≤ N := by
  cases M with
  | none => exact ⟨[], ids_none (h.2.1 rfl), Nat.zero_le _⟩
  | some m =>
    obtain ⟨D, hD, hA⟩ := h.2.2 m rfl
    obtain ⟨h1, h2⟩ := ids_of hD hA
    exact ⟨_, h1, by rw [h2]; exact hD.size_le⟩
theorem md_lenS {Q N : Nat} {M : Option Nat} {σ : Int → Option MO} {l : List Int} (hl : Ids σ l) (W : World) (h : MdAt W Q M σ N) : Calls Tryz.prog 28 #[.pointer (some ⟨Q, 0, none⟩)] W fun e w' => e = .returned (.int .i64 (l.length : Nat)) ∧ Gr W w' := by
  have c0 : W.cell? ⟨Q, 0, none⟩ = some (.map M) := Hm.cell_of_heap h.1 0
  cases M with
  | none =>
    obtain rfl := ids_uniq hl (ids_none (h.2.1 rfl))
    exact md_len_0 W c0
  | some m =>
    obtain ⟨D, hD, hA⟩ := h.2.2 m rfl
    obtain ⟨h1, h2⟩ := ids_of hD hA
    obtain rfl := ids_uniq hl h1
    rw [h2]
    exact md_len_m W c0 hD
theorem md_idsS {Q N : Nat} {M : Option Nat} {σ : Int → Option MO} {l : List Int} (hl : Ids σ l) (hN : N ≤ 1000000) (W : World) (h : MdAt W Q M σ N) : Calls Tryz.prog 70 #[.pointer (some ⟨Q, 0, none⟩)] W fun e w' => ∃ v, e = .returned v ∧ w'.ownsRow W.heap.size 3 1 v l.length (l.map encZ) ∧ Gr W w' := by
  have c0 : W.cell? ⟨Q, 0, none⟩ = some (.map M) := Hm.cell_of_heap h.1 0
  cases M with
  | none =>
    obtain rfl := ids_uniq hl (ids_none (h.2.1 rfl))
    refine (md_ids_0 W c0).mono ?_
    rintro e w' ⟨rfl, g⟩
    exact ⟨_, rfl, World.ownsRow_nil _ _ _ _, g⟩
  | some m =>
    obtain ⟨D, hD, hA⟩ := h.2.2 m rfl
    obtain ⟨h1, h2⟩ := ids_of hD hA
    obtain rfl := ids_uniq hl h1
    refine (md_ids_m W c0 hD (Nat.le_trans hD.size_le hN)).mono ?_
    rintro e w' ⟨v, ss, rfl, hS, hrow, g⟩
    refine ⟨v, rfl, ?_, g⟩
    have e1 : ss.mergeSort (fun x y => decide (x ≤ y)) = (intKeys D).mergeSort leI := mergeSort_of_perm_i hS
    rw [e1] at hrow
    have e2 : ss.length = ((intKeys D).mergeSort leI).length := by rw [hS.length_eq, List.length_mergeSort]
    rwa [e2] at hrow
section
variable {k j : Int} {n m : Nat} {X Y P Q : Nat → Int} {v u : Value}
set_option maxHeartbeats 4000000 in
set_option maxRecDepth 100000 in
theorem md_slEq (r : Bool) (W : World) (hu : Pts W u n X Y) (hv : Pts W v m P Q) (hn : n ≤ 1000000) (hr : r = true ↔ (n = m ∧ ∀ i, i < n → X i = P i ∧ Y i = Q i)) :
    Calls Tryz.prog 103 #[u, v] W fun e w' => e = .returned (.bool r) ∧ Gr W w' := by
  obtain ⟨ad, cap, B, off, rfl, a1, a2, a3, a4⟩ := hu
  obtain ⟨bd, cbp, C, oc, rfl, b1, b2, b3, b4⟩ := hv
  by_cases h : n = m
  · subst h
    have H3 := Lib.hid (And.intro a3 b3)
    have H4 := Lib.hid (And.intro a4 b4)
    have HR := Lib.hid hr
    have hn9 : (n : Int) ≤ 1000000 := by omega
    clear a3 a4 b3 b4 hr
    go_enter Tryz.func103, Tryz.ntmps103
    go_wp2_with fail
    go_loopg [13] n (fun k u wr => ∃ i : Nat, u = .int .i64 i ∧ i ≤ n ∧ k = n - i ∧ Hid (∀ j, j < i → X j = P j ∧ Y j = Q j) ∧ Gr W wr)
    case atStart => exact ⟨0, rfl, Nat.zero_le _, by omega, Lib.hid (fun j hj => absurd hj (by omega)), by go_grown⟩
    case round =>
      obtain ⟨i, rfl, hi, hk, hE, gwr⟩ := hrel
      by_cases hlt : i < n
      · have ti : decide ((i : Int) < (n : Int)) = true := decide_eq_true (by omega)
        have ti2 : decide (i < n) = true := decide_eq_true hlt
        have ti3 : (i : Int) < (n : Int) := by omega
        have hii : (i : Int) ≤ 1000000 := by omega
        have hmm : n - (i + 1) < gk := by omega
        obtain ⟨k0, k1⟩ := H4.out.1 i hlt
        obtain ⟨m0, m1⟩ := H4.out.2 i hlt
        obtain rfl := H3.out.1 (by omega)
        obtain rfl := H3.out.2 (by omega)
        have s0 := cell_gr gwr k0
        have s1 := cell_gr gwr k1
        have r0 := cell_gr gwr m0
        have r1 := cell_gr gwr m1
        have zB : B < wr.heap.size := World.block_lt_of_cell? _ _ s0
        have zC : C < wr.heap.size := World.block_lt_of_cell? _ _ r0
        have E := nePt (X i) (Y i) (P i) (Q i)
        by_cases c : X i = P i ∧ Y i = Q i
        · have hE2 : Hid (∀ j, j < i + 1 → X j = P j ∧ Y j = Q j) := Lib.hid (fun j hj => by
            rcases Nat.lt_or_ge j i with q | q
            · exact hE.out j q
            · obtain rfl : j = i := by omega
              exact c)
          rw [decide_eq_true c.1, decide_eq_true c.2] at E
          generalize X i = x at *
          generalize Y i = y at *
          generalize P i = p at *
          generalize Q i = q at *
          have HE := Lib.hid c
          clear k0 k1 m0 m1 hk c hE
          go_wp2_with fail
          refine wp_region_spread (by kernel_rfl) (by kernel_rfl) ?_
          try simp only [List.append]
          repeat (first | go_big_quiet_skip | (go_big_quiet_want; go_big_quiet_op; (first | go_big_quiet_on | (apply Exists.intro; refine ⟨fun _ => ?_, ?_⟩; (· fail); go_big_quiet_on))))
          refine wpQuiet_nil ?_
          intro w1 hhw1
          have hw1 := Hd.gr_of_spread hhw1
          have cw1_0_0 : w1.cell? ⟨B, off + i * 2, none⟩ = some (.int .i64 x) := cell_gr hw1 (by go_simp)
          have cw1_0_1 : w1.cell? ⟨B, off + i * 2 + 1, none⟩ = some (.int .i64 y) := cell_gr hw1 (by go_simp)
          have zw1_0 : B < w1.heap.size := World.block_lt_of_cell? _ _ cw1_0_0
          have cw1_1_0 : w1.cell? ⟨C, oc + i * 2, none⟩ = some (.int .i64 p) := cell_gr hw1 (by go_simp)
          have cw1_1_1 : w1.cell? ⟨C, oc + i * 2 + 1, none⟩ = some (.int .i64 q) := cell_gr hw1 (by go_simp)
          have zw1_1 : C < w1.heap.size := World.block_lt_of_cell? _ _ cw1_1_0
          have gw1 : Gr W w1 := Gr.trans (by have gg := gwr; have gs := gg.size; go_grown) hw1
          clear hw1 hhw1 gwr
          go_wp2_with fail
          go_roundg (n - (i + 1))
          case measure => exact hmm
          case rel => exact ⟨i + 1, by go_num, hlt, rfl, hE2, gw1⟩
        · obtain rfl : r = false := by
            cases r
            · rfl
            · exact absurd ((HR.out.1 rfl).2 i hlt) c
          have E2 : (!(decide (X i = P i) && decide (Y i = Q i))) = true := by
            rw [← Bool.decide_and, decide_eq_false c]; rfl
          rw [E2] at E
          generalize X i = x at *
          generalize Y i = y at *
          generalize P i = p at *
          generalize Q i = q at *
          clear k0 k1 m0 m1 hk c E2 hE
          go_wp2_with fail
          refine wp_region_spread (by kernel_rfl) (by kernel_rfl) ?_
          try simp only [List.append]
          repeat (first | go_big_quiet_skip | (go_big_quiet_want; go_big_quiet_op; (first | go_big_quiet_on | (apply Exists.intro; refine ⟨fun _ => ?_, ?_⟩; (· fail); go_big_quiet_on))))
          refine wpQuiet_nil ?_
          intro w1 hhw1
          have hw1 := Hd.gr_of_spread hhw1
          have cw1_0_0 : w1.cell? ⟨B, off + i * 2, none⟩ = some (.int .i64 x) := cell_gr hw1 (by go_simp)
          have cw1_0_1 : w1.cell? ⟨B, off + i * 2 + 1, none⟩ = some (.int .i64 y) := cell_gr hw1 (by go_simp)
          have zw1_0 : B < w1.heap.size := World.block_lt_of_cell? _ _ cw1_0_0
          have cw1_1_0 : w1.cell? ⟨C, oc + i * 2, none⟩ = some (.int .i64 p) := cell_gr hw1 (by go_simp)
          have cw1_1_1 : w1.cell? ⟨C, oc + i * 2 + 1, none⟩ = some (.int .i64 q) := cell_gr hw1 (by go_simp)
          have zw1_1 : C < w1.heap.size := World.block_lt_of_cell? _ _ cw1_1_0
          have gw1 : Gr W w1 := Gr.trans (by have gg := gwr; have gs := gg.size; go_grown) hw1
          clear hw1 hhw1 gwr
          go_wp2_with fail
          go_ret
          exact ⟨rfl, gw1⟩
      · obtain rfl : i = n := by omega
        obtain rfl : r = true := HR.out.2 ⟨trivial, hE.out⟩
        have ti : decide ((i : Int) < (i : Int)) = false := decide_eq_false (by omega)
        have ti2 : decide (i < i) = false := decide_eq_false (by omega)
        clear hk hE
        go_wp2_with fail
        go_ret
        exact ⟨rfl, gwr⟩
  · obtain rfl : r = false := by
      cases r
      · rfl
      · exact absurd (hr.1 rfl).1 h
    have t1 : ((n : Int) != (m : Int)) = true := by simp; omega
    have t2 : (n != m) = true := by simp; omega
    clear a3 a4 b3 b4 hr h
    go_enter Tryz.func103, Tryz.ntmps103
    go_wp2_with fail
    go_ret
    exact ⟨rfl, by go_grown⟩
set_option maxHeartbeats 4000000 in
set_option maxRecDepth 100000 in
theorem md_oSame (r : Bool) (W : World) (hu : Pts W u n X Y) (hv : Pts W v m P Q) (hn : n ≤ 1000000) (hr : r = true ↔ (k = j ∧ n = m ∧ ∀ i, i < n → X i = P i ∧ Y i = Q i)) :
    Calls Tryz.prog 66 #[.agg #[.int .i64 k, u], .agg #[.int .i64 j, v]] W fun e w' => e = .returned (.bool r) ∧ Gr W w' := by
  by_cases h : k = j
  · subst h
    have A1 : ∀ w, Gr W w → _ := fun w g => md_slEq r w (pts_gr hu g) (pts_gr hv g) hn (by rw [hr]; simp)
    have t1 : (k == k) = true := by simp
    obtain ⟨ad, cap, _, _, rfl, _⟩ := hu
    obtain ⟨bd, cbp, _, _, rfl, _⟩ := hv
    have H1 := Lib.hid A1
    clear A1
    clear hr
    go_enter Tryz.func66, Tryz.ntmps66
    go_wp2_with fail
    go_at_call 103
    refine ((H1.out _ (by go_grown))).mono ?_
    rintro e w1 ⟨rfl, hw1⟩
    have cw1_0_0 : w1.cell? ⟨W.heap.size, 0, none⟩ = some (.int .i64 k) := cell_gr hw1 (by go_simp)
    have cw1_0_1 : w1.cell? ⟨W.heap.size, 1, none⟩ = some (.slice ad n cap) := cell_gr hw1 (by go_simp)
    have zw1_0 : W.heap.size < w1.heap.size := World.block_lt_of_cell? _ _ cw1_0_0
    have cw1_1_0 : w1.cell? ⟨W.heap.size + 1, 0, none⟩ = some (.int .i64 k) := cell_gr hw1 (by go_simp)
    have cw1_1_1 : w1.cell? ⟨W.heap.size + 1, 1, none⟩ = some (.slice bd m cbp) := cell_gr hw1 (by go_simp)
    have zw1_1 : W.heap.size + 1 < w1.heap.size := World.block_lt_of_cell? _ _ cw1_1_0
    have gw1 : Gr W w1 := Gr.trans (by go_grown) hw1
    clear hw1
    go_wp2_with fail
    go_ret
    exact ⟨rfl, gw1⟩
  · obtain rfl : r = false := by
      cases r
      · rfl
      · exact absurd (hr.1 rfl).1 h
    have t1 : (k == j) = false := by simp; omega
    obtain ⟨ad, cap, _, _, rfl, _⟩ := hu
    obtain ⟨bd, cbp, _, _, rfl, _⟩ := hv
    clear hr h
    go_enter Tryz.func66, Tryz.ntmps66
    go_wp2_with fail
    go_ret
    exact ⟨rfl, by go_grown⟩
end
end Go.Proofs.YtpomllpplpalkaaGreatDoor
