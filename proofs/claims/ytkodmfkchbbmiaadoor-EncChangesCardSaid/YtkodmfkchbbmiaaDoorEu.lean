/- objects as bytes: the program's, the document's -/
import Derived.Test.YtkodmfkchbbmiaaDoorEs
import Derived.Test.YtkodmfkchbbmiaaDoorEt
import Derived.Test.YtkodmfkchbbmiaaDoorOe
namespace Go.Proofs.YtkodmfkchbbmiaaDoor
set_option linter.unusedVariables false
set_option linter.unusedSimpArgs false
open Go.ChangeShapes Go.WideShapes Go.ChangeAt Go.RowKit

theorem kx_of_grown {S : Nat → Prop} {a b : World} {u v : Value} (h : Grown a b u v) (hS : ∀ k, u.ownBlock = some k → S k) : Kx S a b :=
  ⟨h.1.os, h.1.tape, h.1.output, h.1.size, fun k hk hs => h.1.block k hk (fun e => by
    cases hu : u.ownBlock with
    | none => rw [hu] at e; cases e
    | some j => rw [hu] at e; cases e; exact hs (hS _ hu))⟩
theorem own_low {w : World} {a b : Nat} {v : Value} {L : List UInt8} (h : Own w a v L) (hab : b ≤ a) : Own w b v L := by
  obtain ⟨h1, h2⟩ := h
  refine ⟨h1, ?_⟩
  rcases h2 with h2 | ⟨g, cap, cur, e, hb, h3⟩
  · exact Or.inl h2
  · exact Or.inr ⟨g, cap, cur, e, Nat.le_trans hab hb, h3⟩
theorem own_at {w : World} {base k : Nat} {v : Value} {L : List UInt8} (h : Own w base v L) (hk : v.ownBlock = some k) : base ≤ k ∧ k < w.heap.size := World.ownsRow.lt h k hk
/-- What may be lies near. -/
theorem objC_near {k : Int} {n : Nat} {X Y : Nat → Int} (h : objC k n X Y = 0) : 1 ≤ k ∧ k ≤ 4 ∧ n ≤ 64 ∧ 1 ≤ n ∧ ∀ i, i < n → nearB (X i) (Y i) = true := by
  have hb : ∀ a b c d, boxN a b c d = 0 → nearB a b = true ∧ nearB c d = true := fun a b c d hh => by
    unfold boxN at hh
    split at hh
    · rename_i h1; simpa using h1
    · cases hh
  by_cases h4 : k = 4
  · subst h4
    rw [objC_4] at h
    obtain ⟨q1, q2, _, _⟩ := Rg.ringC_ok h
    exact ⟨by omega, by omega, by omega, by omega, q2⟩
  by_cases h3 : k = 3
  · subst h3
    rw [objC_3] at h
    by_cases hn : n = 2
    · rw [if_pos hn] at h
      obtain ⟨q1, q2⟩ := hb _ _ _ _ h
      refine ⟨by omega, by omega, by omega, by omega, fun i hi => ?_⟩
      rcases (by omega : i = 0 ∨ i = 1) with rfl | rfl
      · exact q1
      · exact q2
    · rw [if_neg hn] at h; cases h
  by_cases h1 : k = 1
  · subst h1
    rw [objC_1] at h
    by_cases hn : n = 1
    · rw [if_pos hn] at h
      refine ⟨by omega, by omega, by omega, by omega, fun i hi => ?_⟩
      obtain rfl : i = 0 := by omega
      exact (hb _ _ _ _ h).1
    · rw [if_neg hn] at h; cases h
  by_cases h2 : k = 2
  · subst h2
    rw [objC_2] at h
    by_cases hn : n = 1
    · rw [if_pos hn] at h
      refine ⟨by omega, by omega, by omega, by omega, fun i hi => ?_⟩
      obtain rfl : i = 0 := by omega
      have := hb _ _ _ _ h
      rw [nearB_iff, nearB_iff] at this
      rw [nearB_iff]
      omega
    · rw [if_neg hn] at h; cases h
  rw [objC_x h4 h3 h1 h2] at h
  cases h
theorem objC_le (k : Int) (n : Nat) (X Y : Nat → Int) : objC k n X Y ≤ 5 := by
  have hb : ∀ a b c d, boxN a b c d ≤ 5 := fun a b c d => by unfold boxN; (repeat' split) <;> omega
  have := Rg.ringC_le n X Y
  unfold objC
  (repeat' split) <;> first | omega | exact hb _ _ _ _
/-- None behind the n-th. -/
def trm (n : Nat) (F : Nat → Int) (i : Nat) : Int := if i < n then F i else 0
theorem trm_in {n i : Nat} {F : Nat → Int} (h : i < n) : trm n F i = F i := if_pos h
theorem pts_trm {w : World} {v : Value} {n : Nat} {X Y : Nat → Int} (h : Pts w v n X Y) : Pts w v n (trm n X) (trm n Y) := by
  obtain ⟨ad, cap, B, off, h1, h2, h3, h4, h5⟩ := h
  exact ⟨ad, cap, B, off, h1, h2, h3, h4, fun k hk => by rw [trm_in hk, trm_in hk]; exact h5 k hk⟩
theorem ptsB_congr {X Y P Q : Nat → Int} : ∀ n, (∀ i, i < n → X i = P i ∧ Y i = Q i) → ptsB X Y n = ptsB P Q n
  | 0, _ => rfl
  | n + 1, h => by
    simp only [ptsB]
    rw [ptsB_congr n (fun i hi => h i (by omega)), (h n (by omega)).1, (h n (by omega)).2]
theorem ptsB_trm (n : Nat) (X Y : Nat → Int) : ptsB (trm n X) (trm n Y) n = ptsB X Y n := ptsB_congr n fun i hi => ⟨trm_in hi, trm_in hi⟩
theorem near_iw {x y : Int} (h : nearB x y = true) : Iw x ∧ Iw y := by
  rw [nearB_iff] at h
  unfold Iw
  omega
theorem trm_iw {n : Nat} {X Y : Nat → Int} (h : ∀ i, i < n → nearB (X i) (Y i) = true) (i : Nat) : Iw (trm n X i) ∧ Iw (trm n Y i) := by
  by_cases c : i < n
  · rw [trm_in c, trm_in c]; exact near_iw (h i c)
  · unfold trm; rw [if_neg c, if_neg c]; unfold Iw; omega
/-- An object's bytes. -/
def objB (k : Int) (n : Nat) (X Y : Nat → Int) : List UInt8 := Ec.vr k.toNat ++ Ec.vr n ++ ptsB X Y n
theorem objB_len {k : Int} {n : Nat} {X Y : Nat → Int} (h : objC k n X Y = 0) : (objB k n X Y).length ≤ 1320 := by
  obtain ⟨h1, h2, h3, h4, h5⟩ := objC_near h
  have a := (Ec.vr_len10 (v := k.toNat) (by omega)).2
  have b := (Ec.vr_len10 (v := n) (by omega)).2
  have c := ptsB_len (trm n X) (trm n Y) (trm_iw h5) n
  rw [ptsB_trm] at c
  unfold objB
  simp only [List.length_append]
  omega
def objR (k : Int) (n : Nat) (X Y : Nat → Int) : List UInt8 := if objC k n X Y = 0 then objB k n X Y else []
theorem row_none (w : World) : Row w (.slice none 0 0) [] := ⟨none, 0, 0, 0, rfl, Nat.le_refl _, by omega, fun h => absurd h (by simp), fun j hj => absurd hj (by simp)⟩
def ObTo (W : World) (k : Int) (n : Nat) (X Y : Nat → Int) (e : Ending) (w' : World) : Prop := ∃ b u, e = .returned (.tuple #[b, u]) ∧ WErr objectS w' u k (objC k n X Y) ∧ Row w' b (objR k n X Y) ∧ Gr W w'
def RObTo (W : World) (k : Int) (n : Nat) (X Y : Nat → Int) (e : Ending) (w' : World) : Prop := ∃ b, e = .returned (.tuple #[b, .int .i64 (objC k n X Y : Nat)]) ∧ Row w' b (objR k n X Y) ∧ Gr W w'
set_option maxHeartbeats 4000000 in
set_option maxRecDepth 100000 in
theorem c_Object {n : Nat} {X Y : Nat → Int} {v : Value} (k : Int) (W : World) (h : Pts W v n X Y) :
    Calls Tryd.prog 48 #[.agg #[.int .i64 k, v]] W (ObTo W k n X Y) := by
  have A1 : ∀ w, Gr W w → Calls Tryd.prog 33 #[.agg #[.int .i64 k, v]] w fun e w' => ∃ u, e = .returned u ∧ WErr objectS w' u k (objC k n X Y) ∧ Gr w w' := fun w g => c_relCheck k w (pts_gr h g)
  by_cases hc : objC k n X Y = 0
  · have hR : objR k n X Y = objB k n X Y := if_pos hc
    obtain ⟨h1, h2, h3, h4, h5⟩ := objC_near hc
    obtain ⟨m, rfl⟩ : ∃ m : Nat, k = m := ⟨k.toNat, by omega⟩
    have A2 : ∀ w, Gr W w → Calls Tryd.prog 91 #[.slice none 0 0, .agg #[.int .i64 m, v]] w fun e w' => ∃ b', e = .returned b' ∧ Row w' b' (objB m n X Y) ∧ Gr w w' := fun w g => by
      obtain ⟨ad, cap, B, off, rfl, q1, q2, q3, q4⟩ := pts_trm (pts_gr h g)
      refine (c_appendObject [] (.slice none 0 0) w.heap.size m n cap B off ad (trm n X) (trm n Y) (trm_iw h5) (by omega) (by omega) q3 w (by simp) (Nat.le_refl _) (own_nil _ _) (fun g h => by cases h) q4).mono ?_
      rintro e w' ⟨b', rfl, o, gr⟩
      refine ⟨b', rfl, ?_, gr.nil⟩
      have := row_own o
      rw [List.nil_append, ptsB_trm] at this
      exact this
    have fin : ∀ b w', Row w' b (objB m n X Y) → Gr W w' → ObTo W m n X Y (.returned (.tuple #[b, .nilIface])) w' := fun b w' r g => ⟨b, _, rfl, Or.inl ⟨rfl, hc⟩, by rw [hR]; exact r, g⟩
    have HF := Lib.hid fin
    rw [hc] at A1
    generalize ObTo W m n X Y = Post at HF ⊢
    generalize objB m n X Y = L at A2 HF
    obtain ⟨ad, cap, B, off, rfl, _⟩ := h
    have H1 := Lib.hid A1
    have H2 := Lib.hid A2
    clear A1 A2
    clear fin hR hc h1 h2 h3 h4 h5
    go_enter Tryd.func48, Tryd.ntmps48
    go_wp2_with fail
    go_at_call 33
    refine (H1.out _ (by go_grown)).mono ?_
    rintro e w1 ⟨u, rfl, hu, g1⟩
    rcases hu with ⟨rfl, _⟩ | ⟨B1, u1, d1, _, bad, _⟩
    · have c0 : w1.cell? ⟨W.heap.size, 0, none⟩ = some (.int .i64 m) := cell_gr g1 (by go_simp)
      have c1 : w1.cell? ⟨W.heap.size, 1, none⟩ = some (.slice ad n cap) := cell_gr g1 (by go_simp)
      have G1 : Gr W w1 := Gr.trans (by go_grown) g1
      clear g1 H1
      go_wp2_with fail
      go_at_call 91
      (with_reducible refine (H2.out _ G1).mono ?_)
      rintro e w2 ⟨b', rfl, r2, g2⟩
      have HR2 := Lib.hid r2
      clear r2 H2
      go_wp2_with fail
      exact HF.out _ _ HR2.out (Gr.trans G1 g2)
    · omega
  · have hR : objR k n X Y = [] := if_neg hc
    have fin : ∀ u w', WErr objectS w' u k (objC k n X Y) → Gr W w' → ObTo W k n X Y (.returned (.tuple #[.slice none 0 0, u])) w' := fun u w' r g => ⟨_, u, rfl, r, by rw [hR]; exact row_none _, g⟩
    have HF := Lib.hid fin
    generalize ObTo W k n X Y = Post at HF ⊢
    generalize objC k n X Y = c at A1 HF hc
    obtain ⟨ad, cap, B, off, rfl, _⟩ := h
    have H1 := Lib.hid A1
    clear A1
    have HC := Lib.hid hc
    clear fin hR hc
    go_enter Tryd.func48, Tryd.ntmps48
    go_wp2_with fail
    go_at_call 33
    refine (H1.out _ (by go_grown)).mono ?_
    rintro e w1 ⟨u, rfl, hu, g1⟩
    have HU := Lib.hid hu
    rcases hu with ⟨rfl, bad⟩ | ⟨B1, u1, d1, rfl, _⟩
    · exact absurd bad HC.out
    · have G1 : Gr W w1 := Gr.trans (by go_grown) g1
      clear g1 H1
      go_wp2_with fail
      exact HF.out _ _ HU.out G1
theorem iw_wds {z : Int} (h : Iw z) : Wd (zz z) := zz_wd h.1 h.2
set_option maxHeartbeats 8000000 in
set_option maxRecDepth 100000 in
theorem c_rObject {n : Nat} {X Y : Nat → Int} {v : Value} (k : Int) (W : World) (h : Pts W v n X Y) :
    Calls Tryd.prog 49 #[.agg #[.int .i64 k, v]] W (RObTo W k n X Y) := by
  have A1 : ∀ w, Gr W w → Calls Tryd.prog 34 #[.agg #[.int .i64 k, v]] w fun e w' => e = .returned (.int .i64 (objC k n X Y : Nat)) ∧ Gr w w' := fun w g => c_rCheck k w (pts_gr h g)
  by_cases hc : objC k n X Y = 0
  · have hR : objR k n X Y = objB k n X Y := if_pos hc
    have hlen := objB_len hc
    obtain ⟨h1, h2, h3, h4, h5⟩ := objC_near hc
    obtain ⟨m, rfl⟩ : ∃ m : Nat, k = m := ⟨k.toNat, by omega⟩
    have hP := pts_trm h
    have iw := trm_iw h5
    have fin : ∀ b w', Row w' b (Ec.vr m ++ Ec.vr n ++ ptsB (trm n X) (trm n Y) n) → Gr W w' → RObTo W m n X Y (.returned (.tuple #[b, .int .i64 0])) w' := fun b w' r g => ⟨b, by rw [hc]; rfl, by rw [hR]; rw [ptsB_trm] at r; exact r, g⟩
    have HF := Lib.hid fin
    have pl := ptsB_len (trm n X) (trm n Y) iw
    rw [hc] at A1
    generalize RObTo W m n X Y = Post at HF ⊢
    generalize trm n X = X at *
    generalize trm n Y = Y at *
    obtain ⟨ad, cap, B, off, rfl, q1, q2, q3, q4⟩ := hP
    obtain rfl := q3 (by omega)
    have hB : B < W.heap.size := World.block_lt_of_cell? _ _ (q4 0 (by omega)).1
    have H4 := Lib.hid q4
    have HIW := Lib.hid iw
    have HPL := Lib.hid pl
    have k1 := (Ec.vr_len10 (v := m) (by omega)).2
    have k2 := (Ec.vr_len10 (v := n) (by omega)).2
    have e1 : (m : Int) % 18446744073709551616 = m := by omega
    have e2 : (n : Int) % 18446744073709551616 = n := by omega
    have e3 : IntKind.u64.wrap (m : Int) = m := by rw [IntKind.wrap_u64]; omega
    have e4 : IntKind.u64.wrap (n : Int) = n := by rw [IntKind.wrap_u64]; omega
    have hm4 : (m : Int) ≤ 4 := by omega
    have hn64 : (n : Int) ≤ 64 := by omega
    have A2 := fun w => c_rVarint m (by unfold Wd; omega) w
    have A3 := fun w => c_rVarint n (by unfold Wd; omega) w
    generalize Ec.vr m = Lm at *
    generalize Ec.vr n = Ln at *
    have H1 := Lib.hid A1
    have H2 := Lib.hid A2
    have H3 := Lib.hid A3
    clear A1 A2 A3
    clear fin hR hc h1 h2 h3 h5 h q4 iw pl hlen
    go_enter Tryd.func49, Tryd.ntmps49
    go_wp2_with fail
    go_at_call 34
    refine ((H1.out _ (by go_grown))).mono ?_
    rintro e w1 ⟨rfl, hw1⟩
    have cw1_0_0 : w1.cell? ⟨W.heap.size, 0, none⟩ = some (.int .i64 m) := cell_gr hw1 (by go_simp)
    have cw1_0_1 : w1.cell? ⟨W.heap.size, 1, none⟩ = some (.slice (some ⟨B, off, none⟩) n cap) := cell_gr hw1 (by go_simp)
    have zw1_0 : W.heap.size < w1.heap.size := World.block_lt_of_cell? _ _ cw1_0_0
    have gw1 : Gr W w1 := Gr.trans (by go_grown) hw1
    clear hw1
    go_wp2_with fail
    try simp only [List.append]
    refine Oe.wp_region_ord (R := Kx (fun k => W.heap.size + 1 ≤ k)) [(0, false), (1, false), (2, false), (4, false), (5, false), (6, false), (7, false), (3, true), (8, true), (9, true), (10, false)] (by kernel_rfl) (by kernel_rfl) ?_
    intro w2 hw2 KQ hKQ
    have hhw2 := Kx.of_gr (S := (fun k => W.heap.size + 1 ≤ k)) hw2
    have cw2_0_0 : w2.cell? ⟨W.heap.size, 0, none⟩ = some (.int .i64 m) := cell_kx hhw2 (by show ¬ (W.heap.size + 1 ≤ W.heap.size); omega) (by go_simp)
    have cw2_0_1 : w2.cell? ⟨W.heap.size, 1, none⟩ = some (.slice (some ⟨B, off, none⟩) n cap) := cell_kx hhw2 (by show ¬ (W.heap.size + 1 ≤ W.heap.size); omega) (by go_simp)
    have zw2_0 : W.heap.size < w2.heap.size := World.block_lt_of_cell? _ _ cw2_0_0
    have gw2 : Gr W w2 := Kx.gr hhw2 (by have gg := gw1; have gs := gg.size; go_grown) (fun k hk => by have hk2 : W.heap.size + 1 ≤ k := hk; omega)
    have sw2 := hhw2.size
    clear gw1 zw1_0 cw1_0_0 cw1_0_1
    clear hhw2
    repeat (first | (refine Oe.wpO_skip (by simp only [List.getElem?_toArray, List.getElem?_cons_succ, List.getElem?_cons_zero] <;> rfl) rfl ?_; simp only [Act.put, List.setIfInBounds_toArray, List.set_cons_zero, List.set_cons_succ]) | (refine Oe.wpO_pure (by simp only [List.getElem?_toArray, List.getElem?_cons_succ, List.getElem?_cons_zero] <;> rfl) rfl ?_; apply Exists.intro; refine ⟨?_, ?_⟩; (· intro wx gx; have cx_0_0 : wx.cell? ⟨W.heap.size, 0, none⟩ = some (.int .i64 m) := cell_kx gx (by show ¬ (W.heap.size + 1 ≤ W.heap.size); omega) cw2_0_0; have cx_0_1 : wx.cell? ⟨W.heap.size, 1, none⟩ = some (.slice (some ⟨B, off, none⟩) n cap) := cell_kx gx (by show ¬ (W.heap.size + 1 ≤ W.heap.size); omega) cw2_0_1; have zx_0 : W.heap.size < wx.heap.size := World.block_lt_of_cell? _ _ cx_0_0; clear gx; all_goals (apply Oe.pAt_of_quiet; intro K hK; go_big_quiet_op; first | exact hK _ rfl | (apply Exists.intro; refine ⟨fun _ => ?_, ?_⟩; (· fail); exact hK _ rfl))); try simp only [Act.put, List.setIfInBounds_toArray, List.set_cons_zero, List.set_cons_succ]))
    have Z2 : W.heap.size < w2.heap.size := zw2_0
    refine Oe.wpO_call (by simp only [List.getElem?_toArray, List.getElem?_cons_succ, List.getElem?_cons_zero] <;> rfl) rfl ?_
    intro QS hQS
    go_wp2_with fail
    go_at_call 92
    (with_reducible refine ((H2.out _)).mono ?_)
    rintro e w3 ⟨b1, rfl, o1, hw3⟩
    have hhw3 : Kx (fun k => W.heap.size + 1 ≤ k) w2 w3 := Kx.of_gr hw3
    go_wp2_with fail
    first | (apply Exists.intro; refine ⟨?_, hhw3, ?_⟩; (· simp only [Act.put, List.setIfInBounds_toArray, List.set_cons_zero, List.set_cons_succ]; rfl)) | (refine ⟨hhw3, ?_⟩)
    have cw3_0_0 : w3.cell? ⟨W.heap.size, 0, none⟩ = some (.int .i64 m) := cell_kx hhw3 (by show ¬ (W.heap.size + 1 ≤ W.heap.size); omega) (by go_simp)
    have cw3_0_1 : w3.cell? ⟨W.heap.size, 1, none⟩ = some (.slice (some ⟨B, off, none⟩) n cap) := cell_kx hhw3 (by show ¬ (W.heap.size + 1 ≤ W.heap.size); omega) (by go_simp)
    have zw3_0 : W.heap.size < w3.heap.size := World.block_lt_of_cell? _ _ cw3_0_0
    have gw3 : Gr W w3 := Kx.gr hhw3 gw2 (fun k hk => by have hk2 : W.heap.size + 1 ≤ k := hk; omega)
    have sw3 := hhw3.size
    clear gw2 zw2_0 cw2_0_0 cw2_0_1
    clear hhw3
    try simp only [Act.put, List.setIfInBounds_toArray, List.set_cons_zero, List.set_cons_succ]
    repeat (first | (refine Oe.wpO_skip (by simp only [List.getElem?_toArray, List.getElem?_cons_succ, List.getElem?_cons_zero] <;> rfl) rfl ?_; simp only [Act.put, List.setIfInBounds_toArray, List.set_cons_zero, List.set_cons_succ]) | (refine Oe.wpO_pure (by simp only [List.getElem?_toArray, List.getElem?_cons_succ, List.getElem?_cons_zero] <;> rfl) rfl ?_; apply Exists.intro; refine ⟨?_, ?_⟩; (· intro wx gx; have cx_0_0 : wx.cell? ⟨W.heap.size, 0, none⟩ = some (.int .i64 m) := cell_kx gx (by show ¬ (W.heap.size + 1 ≤ W.heap.size); omega) cw3_0_0; have cx_0_1 : wx.cell? ⟨W.heap.size, 1, none⟩ = some (.slice (some ⟨B, off, none⟩) n cap) := cell_kx gx (by show ¬ (W.heap.size + 1 ≤ W.heap.size); omega) cw3_0_1; have zx_0 : W.heap.size < wx.heap.size := World.block_lt_of_cell? _ _ cx_0_0; clear gx; all_goals (apply Oe.pAt_of_quiet; intro K hK; go_big_quiet_op; first | exact hK _ rfl | (apply Exists.intro; refine ⟨fun _ => ?_, ?_⟩; (· fail); exact hK _ rfl))); try simp only [Act.put, List.setIfInBounds_toArray, List.set_cons_zero, List.set_cons_succ]))
    have O1 := Lib.hid o1
    clear o1
    refine Oe.wpO_call (by simp only [List.getElem?_toArray, List.getElem?_cons_succ, List.getElem?_cons_zero] <;> rfl) rfl ?_
    intro QS hQS
    go_wp2_with fail
    go_at_call 92
    (with_reducible refine ((H3.out _)).mono ?_)
    rintro e w4 ⟨b2, rfl, o2, hw4⟩
    have hhw4 : Kx (fun k => W.heap.size + 1 ≤ k) w3 w4 := Kx.of_gr hw4
    go_wp2_with fail
    first | (apply Exists.intro; refine ⟨?_, hhw4, ?_⟩; (· simp only [Act.put, List.setIfInBounds_toArray, List.set_cons_zero, List.set_cons_succ]; rfl)) | (refine ⟨hhw4, ?_⟩)
    have cw4_0_0 : w4.cell? ⟨W.heap.size, 0, none⟩ = some (.int .i64 m) := cell_kx hhw4 (by show ¬ (W.heap.size + 1 ≤ W.heap.size); omega) (by go_simp)
    have cw4_0_1 : w4.cell? ⟨W.heap.size, 1, none⟩ = some (.slice (some ⟨B, off, none⟩) n cap) := cell_kx hhw4 (by show ¬ (W.heap.size + 1 ≤ W.heap.size); omega) (by go_simp)
    have zw4_0 : W.heap.size < w4.heap.size := World.block_lt_of_cell? _ _ cw4_0_0
    have gw4 : Gr W w4 := Kx.gr hhw4 gw3 (fun k hk => by have hk2 : W.heap.size + 1 ≤ k := hk; omega)
    have sw4 := hhw4.size
    clear gw3 zw3_0 cw3_0_0 cw3_0_1
    clear hhw4
    try simp only [Act.put, List.setIfInBounds_toArray, List.set_cons_zero, List.set_cons_succ]
    repeat (first | (refine Oe.wpO_skip (by simp only [List.getElem?_toArray, List.getElem?_cons_succ, List.getElem?_cons_zero] <;> rfl) rfl ?_; simp only [Act.put, List.setIfInBounds_toArray, List.set_cons_zero, List.set_cons_succ]) | (refine Oe.wpO_pure (by simp only [List.getElem?_toArray, List.getElem?_cons_succ, List.getElem?_cons_zero] <;> rfl) rfl ?_; apply Exists.intro; refine ⟨?_, ?_⟩; (· intro wx gx; have cx_0_0 : wx.cell? ⟨W.heap.size, 0, none⟩ = some (.int .i64 m) := cell_kx gx (by show ¬ (W.heap.size + 1 ≤ W.heap.size); omega) cw4_0_0; have cx_0_1 : wx.cell? ⟨W.heap.size, 1, none⟩ = some (.slice (some ⟨B, off, none⟩) n cap) := cell_kx gx (by show ¬ (W.heap.size + 1 ≤ W.heap.size); omega) cw4_0_1; have zx_0 : W.heap.size < wx.heap.size := World.block_lt_of_cell? _ _ cx_0_0; clear gx; all_goals (apply Oe.pAt_of_quiet; intro K hK; go_big_quiet_op; first | exact hK _ rfl | (apply Exists.intro; refine ⟨fun _ => ?_, ?_⟩; (· fail); exact hK _ rfl))); try simp only [Act.put, List.setIfInBounds_toArray, List.set_cons_zero, List.set_cons_succ]))
    have O2 := Lib.hid (row_own o2)
    have O1b := Lib.hid (own_low (b := W.heap.size + 1) (show Own w4 w2.heap.size b1 Lm from rowOwn_gr O1.out hw4) (by omega))
    clear o2 O1 hw3 hw4
    refine Oe.wpO_call (by simp only [List.getElem?_toArray, List.getElem?_cons_succ, List.getElem?_cons_zero] <;> rfl) rfl ?_
    intro QS hQS
    refine (wpList_app rfl (.tmp 15) (.tmp 20) rfl (W.heap.size + 1) b1 b2 Lm Ln rfl O1b.out rfl O2.out (by omega) (by omega) ?_)
    intro b3 w5 o3 g3
    have hhw5 : Kx (fun k => W.heap.size + 1 ≤ k) w4 w5 := kx_of_grown g3 (fun k hk => (own_at O1b.out hk).1)
    refine hQS _ _ ⟨_, rfl, hhw5, ?_⟩
    clear hQS QS
    have cw5_0_0 : w5.cell? ⟨W.heap.size, 0, none⟩ = some (.int .i64 m) := cell_kx hhw5 (by show ¬ (W.heap.size + 1 ≤ W.heap.size); omega) (by go_simp)
    have cw5_0_1 : w5.cell? ⟨W.heap.size, 1, none⟩ = some (.slice (some ⟨B, off, none⟩) n cap) := cell_kx hhw5 (by show ¬ (W.heap.size + 1 ≤ W.heap.size); omega) (by go_simp)
    have zw5_0 : W.heap.size < w5.heap.size := World.block_lt_of_cell? _ _ cw5_0_0
    have gw5 : Gr W w5 := Kx.gr hhw5 gw4 (fun k hk => by have hk2 : W.heap.size + 1 ≤ k := hk; omega)
    have sw5 := hhw5.size
    clear gw4 zw4_0 cw4_0_0 cw4_0_1
    clear hhw5
    try simp only [Act.put, List.setIfInBounds_toArray, List.set_cons_zero, List.set_cons_succ]
    repeat (first | (refine Oe.wpO_skip (by simp only [List.getElem?_toArray, List.getElem?_cons_succ, List.getElem?_cons_zero] <;> rfl) rfl ?_; simp only [Act.put, List.setIfInBounds_toArray, List.set_cons_zero, List.set_cons_succ]) | (refine Oe.wpO_pure (by simp only [List.getElem?_toArray, List.getElem?_cons_succ, List.getElem?_cons_zero] <;> rfl) rfl ?_; apply Exists.intro; refine ⟨?_, ?_⟩; (· intro wx gx; have cx_0_0 : wx.cell? ⟨W.heap.size, 0, none⟩ = some (.int .i64 m) := cell_kx gx (by show ¬ (W.heap.size + 1 ≤ W.heap.size); omega) cw5_0_0; have cx_0_1 : wx.cell? ⟨W.heap.size, 1, none⟩ = some (.slice (some ⟨B, off, none⟩) n cap) := cell_kx gx (by show ¬ (W.heap.size + 1 ≤ W.heap.size); omega) cw5_0_1; have zx_0 : W.heap.size < wx.heap.size := World.block_lt_of_cell? _ _ cx_0_0; clear gx; all_goals (apply Oe.pAt_of_quiet; intro K hK; go_big_quiet_op; first | exact hK _ rfl | (apply Exists.intro; refine ⟨fun _ => ?_, ?_⟩; (· fail); exact hK _ rfl))); try simp only [Act.put, List.setIfInBounds_toArray, List.set_cons_zero, List.set_cons_succ]))
    have O3 := Lib.hid o3
    clear o3 O1b O2 g3
    refine Oe.wpO_nil (hKQ _ _ ?_)
    clear hKQ KQ
    go_wp2_with fail
    go_loopg [5, 6] n (fun j bb x wr => ∃ i : Nat, x = .int .i64 i ∧ i ≤ n ∧ j = n - i ∧ Own wr (W.heap.size + 1) bb (Lm ++ Ln ++ ptsB X Y i) ∧ wr.cell? ⟨W.heap.size, 0, none⟩ = some (.int .i64 m) ∧ wr.cell? ⟨W.heap.size, 1, none⟩ = some (.slice (some ⟨B, off, none⟩) n cap) ∧ Gr W wr)
    case atStart => exact ⟨0, rfl, Nat.zero_le _, by omega, by simpa [ptsB] using O3.out, cw5_0_0, cw5_0_1, gw5⟩
    case round =>
      obtain ⟨i, rfl, hi, hm, hOw, c0, c1, gwr⟩ := hrel
      have HOw := Lib.hid hOw
      have hlen := HPL.out i
      have zwr : W.heap.size < wr.heap.size := World.block_lt_of_cell? _ _ c0
      clear hOw O3 gw5 cw5_0_0 cw5_0_1 zw5_0
      by_cases hlt : i < n
      · have ti : decide ((i : Int) < (n : Int)) = true := decide_eq_true (by omega)
        have ti2 : decide (i < n) = true := decide_eq_true hlt
        have ti3 : (i : Int) < (n : Int) := by omega
        have hii : (i : Int) ≤ 64 := by omega
        have hmm : n - (i + 1) < gk := by omega
        obtain ⟨p0, p1⟩ := H4.out i hlt
        have s0 := cell_gr gwr p0
        have s1 := cell_gr gwr p1
        have hXi := HIW.out i
        have y1 := (zz_len hXi.1).2
        have y2 := (zz_len hXi.2).2
        have A5 := fun w => c_rSigned (X i) hXi.1.lo hXi.1.hi w
        have A6 := fun w => c_rSigned (Y i) hXi.2.lo hXi.2.hi w
        have hE : Lm ++ Ln ++ ptsB X Y (i + 1) = (Lm ++ Ln ++ ptsB X Y i) ++ Ec.vr (zz (X i)) ++ Ec.vr (zz (Y i)) := by simp only [ptsB, List.append_assoc]
        have hLL : (Lm ++ Ln ++ ptsB X Y i).length ≤ 2000 := by simp only [List.length_append]; omega
        generalize Lm ++ Ln ++ ptsB X Y i = LL at HOw hE hLL
        generalize Ec.vr (zz (X i)) = L1 at A5 hE y1
        generalize Ec.vr (zz (Y i)) = L2 at A6 hE y2
        generalize X i = xi at s0 A5
        generalize Y i = yi at s1 A6
        have HE := Lib.hid hE
        have H5 := Lib.hid A5
        have H6 := Lib.hid A6
        clear A5 A6
        clear hE hXi p0 p1 hm hlen
        go_wp2_with fail
        try simp only [List.append]
        refine Oe.wp_region_ord (R := Kx (fun k => W.heap.size + 1 ≤ k)) [(0, false), (1, false), (2, false), (3, false), (4, false), (5, false), (6, false), (9, false), (10, false), (11, false), (12, false), (13, false), (14, false), (7, true), (8, true), (15, true), (16, true), (17, false)] (by kernel_rfl) (by kernel_rfl) ?_
        intro w1 hw1 KQ hKQ
        have hhw1 := Kx.of_gr (S := (fun k => W.heap.size + 1 ≤ k)) hw1
        have cw1_0_0 : w1.cell? ⟨W.heap.size, 0, none⟩ = some (.int .i64 m) := cell_kx hhw1 (by show ¬ (W.heap.size + 1 ≤ W.heap.size); omega) (by go_simp)
        have cw1_0_1 : w1.cell? ⟨W.heap.size, 1, none⟩ = some (.slice (some ⟨B, off, none⟩) n cap) := cell_kx hhw1 (by show ¬ (W.heap.size + 1 ≤ W.heap.size); omega) (by go_simp)
        have zw1_0 : W.heap.size < w1.heap.size := World.block_lt_of_cell? _ _ cw1_0_0
        have cw1_1_0 : w1.cell? ⟨B, off + i * 2, none⟩ = some (.int .i64 xi) := cell_kx hhw1 (by show ¬ (W.heap.size + 1 ≤ B); omega) (by go_simp)
        have cw1_1_1 : w1.cell? ⟨B, off + i * 2 + 1, none⟩ = some (.int .i64 yi) := cell_kx hhw1 (by show ¬ (W.heap.size + 1 ≤ B); omega) (by go_simp)
        have zw1_1 : B < w1.heap.size := World.block_lt_of_cell? _ _ cw1_1_0
        have gw1 : Gr W w1 := Kx.gr hhw1 (by have gg := gwr; have gs := gg.size; go_grown) (fun k hk => by have hk2 : W.heap.size + 1 ≤ k := hk; omega)
        have sw1 := hhw1.size
        clear gwr
        clear hhw1
        repeat (first | (refine Oe.wpO_skip (by simp only [List.getElem?_toArray, List.getElem?_cons_succ, List.getElem?_cons_zero] <;> rfl) rfl ?_; simp only [Act.put, List.setIfInBounds_toArray, List.set_cons_zero, List.set_cons_succ]) | (refine Oe.wpO_pure (by simp only [List.getElem?_toArray, List.getElem?_cons_succ, List.getElem?_cons_zero] <;> rfl) rfl ?_; apply Exists.intro; refine ⟨?_, ?_⟩; (· intro wx gx; have cx_0_0 : wx.cell? ⟨W.heap.size, 0, none⟩ = some (.int .i64 m) := cell_kx gx (by show ¬ (W.heap.size + 1 ≤ W.heap.size); omega) cw1_0_0; have cx_0_1 : wx.cell? ⟨W.heap.size, 1, none⟩ = some (.slice (some ⟨B, off, none⟩) n cap) := cell_kx gx (by show ¬ (W.heap.size + 1 ≤ W.heap.size); omega) cw1_0_1; have zx_0 : W.heap.size < wx.heap.size := World.block_lt_of_cell? _ _ cx_0_0; have cx_1_0 : wx.cell? ⟨B, off + i * 2, none⟩ = some (.int .i64 xi) := cell_kx gx (by show ¬ (W.heap.size + 1 ≤ B); omega) cw1_1_0; have cx_1_1 : wx.cell? ⟨B, off + i * 2 + 1, none⟩ = some (.int .i64 yi) := cell_kx gx (by show ¬ (W.heap.size + 1 ≤ B); omega) cw1_1_1; have zx_1 : B < wx.heap.size := World.block_lt_of_cell? _ _ cx_1_0; clear gx; all_goals (apply Oe.pAt_of_quiet; intro K hK; go_big_quiet_op; first | exact hK _ rfl | (apply Exists.intro; refine ⟨fun _ => ?_, ?_⟩; (· fail); exact hK _ rfl))); try simp only [Act.put, List.setIfInBounds_toArray, List.set_cons_zero, List.set_cons_succ]))
        have HO1 := Lib.hid (show Own w1 (W.heap.size + 1) u5 LL from rowOwn_gr HOw.out hw1)
        clear HOw hw1
        refine Oe.wpO_call (by simp only [List.getElem?_toArray, List.getElem?_cons_succ, List.getElem?_cons_zero] <;> rfl) rfl ?_
        intro QS hQS
        go_wp2_with fail
        go_at_call 93
        (with_reducible refine ((H5.out _)).mono ?_)
        rintro e w2 ⟨b1, rfl, o1, hw2⟩
        have hhw2 : Kx (fun k => W.heap.size + 1 ≤ k) w1 w2 := Kx.of_gr hw2
        go_wp2_with fail
        first | (apply Exists.intro; refine ⟨?_, hhw2, ?_⟩; (· simp only [Act.put, List.setIfInBounds_toArray, List.set_cons_zero, List.set_cons_succ]; rfl)) | (refine ⟨hhw2, ?_⟩)
        have cw2_0_0 : w2.cell? ⟨W.heap.size, 0, none⟩ = some (.int .i64 m) := cell_kx hhw2 (by show ¬ (W.heap.size + 1 ≤ W.heap.size); omega) (by go_simp)
        have cw2_0_1 : w2.cell? ⟨W.heap.size, 1, none⟩ = some (.slice (some ⟨B, off, none⟩) n cap) := cell_kx hhw2 (by show ¬ (W.heap.size + 1 ≤ W.heap.size); omega) (by go_simp)
        have zw2_0 : W.heap.size < w2.heap.size := World.block_lt_of_cell? _ _ cw2_0_0
        have cw2_1_0 : w2.cell? ⟨B, off + i * 2, none⟩ = some (.int .i64 xi) := cell_kx hhw2 (by show ¬ (W.heap.size + 1 ≤ B); omega) (by go_simp)
        have cw2_1_1 : w2.cell? ⟨B, off + i * 2 + 1, none⟩ = some (.int .i64 yi) := cell_kx hhw2 (by show ¬ (W.heap.size + 1 ≤ B); omega) (by go_simp)
        have zw2_1 : B < w2.heap.size := World.block_lt_of_cell? _ _ cw2_1_0
        have gw2 : Gr W w2 := Kx.gr hhw2 gw1 (fun k hk => by have hk2 : W.heap.size + 1 ≤ k := hk; omega)
        have sw2 := hhw2.size
        clear gw1 zw1_0 cw1_0_0 cw1_0_1 zw1_1 cw1_1_0 cw1_1_1
        clear hhw2
        try simp only [Act.put, List.setIfInBounds_toArray, List.set_cons_zero, List.set_cons_succ]
        repeat (first | (refine Oe.wpO_skip (by simp only [List.getElem?_toArray, List.getElem?_cons_succ, List.getElem?_cons_zero] <;> rfl) rfl ?_; simp only [Act.put, List.setIfInBounds_toArray, List.set_cons_zero, List.set_cons_succ]) | (refine Oe.wpO_pure (by simp only [List.getElem?_toArray, List.getElem?_cons_succ, List.getElem?_cons_zero] <;> rfl) rfl ?_; apply Exists.intro; refine ⟨?_, ?_⟩; (· intro wx gx; have cx_0_0 : wx.cell? ⟨W.heap.size, 0, none⟩ = some (.int .i64 m) := cell_kx gx (by show ¬ (W.heap.size + 1 ≤ W.heap.size); omega) cw2_0_0; have cx_0_1 : wx.cell? ⟨W.heap.size, 1, none⟩ = some (.slice (some ⟨B, off, none⟩) n cap) := cell_kx gx (by show ¬ (W.heap.size + 1 ≤ W.heap.size); omega) cw2_0_1; have zx_0 : W.heap.size < wx.heap.size := World.block_lt_of_cell? _ _ cx_0_0; have cx_1_0 : wx.cell? ⟨B, off + i * 2, none⟩ = some (.int .i64 xi) := cell_kx gx (by show ¬ (W.heap.size + 1 ≤ B); omega) cw2_1_0; have cx_1_1 : wx.cell? ⟨B, off + i * 2 + 1, none⟩ = some (.int .i64 yi) := cell_kx gx (by show ¬ (W.heap.size + 1 ≤ B); omega) cw2_1_1; have zx_1 : B < wx.heap.size := World.block_lt_of_cell? _ _ cx_1_0; clear gx; all_goals (apply Oe.pAt_of_quiet; intro K hK; go_big_quiet_op; first | exact hK _ rfl | (apply Exists.intro; refine ⟨fun _ => ?_, ?_⟩; (· fail); exact hK _ rfl))); try simp only [Act.put, List.setIfInBounds_toArray, List.set_cons_zero, List.set_cons_succ]))
        have O1 := Lib.hid (row_own o1)
        have HO2 := Lib.hid (show Own w2 (W.heap.size + 1) u5 LL from rowOwn_gr HO1.out hw2)
        clear o1 HO1 hw2
        refine Oe.wpO_call (by simp only [List.getElem?_toArray, List.getElem?_cons_succ, List.getElem?_cons_zero] <;> rfl) rfl ?_
        intro QS hQS
        refine (wpList_app rfl (.tmp 29) (.tmp 36) rfl (W.heap.size + 1) u5 b1 LL L1 rfl HO2.out rfl O1.out (by omega) (by omega) ?_)
        intro b3 w3 o3 g3
        have hhw3 : Kx (fun k => W.heap.size + 1 ≤ k) w2 w3 := kx_of_grown g3 (fun k hk => (own_at HO2.out hk).1)
        refine hQS _ _ ⟨_, rfl, hhw3, ?_⟩
        clear hQS QS
        have cw3_0_0 : w3.cell? ⟨W.heap.size, 0, none⟩ = some (.int .i64 m) := cell_kx hhw3 (by show ¬ (W.heap.size + 1 ≤ W.heap.size); omega) (by go_simp)
        have cw3_0_1 : w3.cell? ⟨W.heap.size, 1, none⟩ = some (.slice (some ⟨B, off, none⟩) n cap) := cell_kx hhw3 (by show ¬ (W.heap.size + 1 ≤ W.heap.size); omega) (by go_simp)
        have zw3_0 : W.heap.size < w3.heap.size := World.block_lt_of_cell? _ _ cw3_0_0
        have cw3_1_0 : w3.cell? ⟨B, off + i * 2, none⟩ = some (.int .i64 xi) := cell_kx hhw3 (by show ¬ (W.heap.size + 1 ≤ B); omega) (by go_simp)
        have cw3_1_1 : w3.cell? ⟨B, off + i * 2 + 1, none⟩ = some (.int .i64 yi) := cell_kx hhw3 (by show ¬ (W.heap.size + 1 ≤ B); omega) (by go_simp)
        have zw3_1 : B < w3.heap.size := World.block_lt_of_cell? _ _ cw3_1_0
        have gw3 : Gr W w3 := Kx.gr hhw3 gw2 (fun k hk => by have hk2 : W.heap.size + 1 ≤ k := hk; omega)
        have sw3 := hhw3.size
        clear gw2 zw2_0 cw2_0_0 cw2_0_1 zw2_1 cw2_1_0 cw2_1_1
        clear hhw3
        try simp only [Act.put, List.setIfInBounds_toArray, List.set_cons_zero, List.set_cons_succ]
        repeat (first | (refine Oe.wpO_skip (by simp only [List.getElem?_toArray, List.getElem?_cons_succ, List.getElem?_cons_zero] <;> rfl) rfl ?_; simp only [Act.put, List.setIfInBounds_toArray, List.set_cons_zero, List.set_cons_succ]) | (refine Oe.wpO_pure (by simp only [List.getElem?_toArray, List.getElem?_cons_succ, List.getElem?_cons_zero] <;> rfl) rfl ?_; apply Exists.intro; refine ⟨?_, ?_⟩; (· intro wx gx; have cx_0_0 : wx.cell? ⟨W.heap.size, 0, none⟩ = some (.int .i64 m) := cell_kx gx (by show ¬ (W.heap.size + 1 ≤ W.heap.size); omega) cw3_0_0; have cx_0_1 : wx.cell? ⟨W.heap.size, 1, none⟩ = some (.slice (some ⟨B, off, none⟩) n cap) := cell_kx gx (by show ¬ (W.heap.size + 1 ≤ W.heap.size); omega) cw3_0_1; have zx_0 : W.heap.size < wx.heap.size := World.block_lt_of_cell? _ _ cx_0_0; have cx_1_0 : wx.cell? ⟨B, off + i * 2, none⟩ = some (.int .i64 xi) := cell_kx gx (by show ¬ (W.heap.size + 1 ≤ B); omega) cw3_1_0; have cx_1_1 : wx.cell? ⟨B, off + i * 2 + 1, none⟩ = some (.int .i64 yi) := cell_kx gx (by show ¬ (W.heap.size + 1 ≤ B); omega) cw3_1_1; have zx_1 : B < wx.heap.size := World.block_lt_of_cell? _ _ cx_1_0; clear gx; all_goals (apply Oe.pAt_of_quiet; intro K hK; go_big_quiet_op; first | exact hK _ rfl | (apply Exists.intro; refine ⟨fun _ => ?_, ?_⟩; (· fail); exact hK _ rfl))); try simp only [Act.put, List.setIfInBounds_toArray, List.set_cons_zero, List.set_cons_succ]))
        have HO3 := Lib.hid o3
        clear o3 HO2 O1 g3
        refine Oe.wpO_call (by simp only [List.getElem?_toArray, List.getElem?_cons_succ, List.getElem?_cons_zero] <;> rfl) rfl ?_
        intro QS hQS
        go_wp2_with fail
        go_at_call 93
        (with_reducible refine ((H6.out _)).mono ?_)
        rintro e w4 ⟨b4, rfl, o4, hw4⟩
        have hhw4 : Kx (fun k => W.heap.size + 1 ≤ k) w3 w4 := Kx.of_gr hw4
        go_wp2_with fail
        first | (apply Exists.intro; refine ⟨?_, hhw4, ?_⟩; (· simp only [Act.put, List.setIfInBounds_toArray, List.set_cons_zero, List.set_cons_succ]; rfl)) | (refine ⟨hhw4, ?_⟩)
        have cw4_0_0 : w4.cell? ⟨W.heap.size, 0, none⟩ = some (.int .i64 m) := cell_kx hhw4 (by show ¬ (W.heap.size + 1 ≤ W.heap.size); omega) (by go_simp)
        have cw4_0_1 : w4.cell? ⟨W.heap.size, 1, none⟩ = some (.slice (some ⟨B, off, none⟩) n cap) := cell_kx hhw4 (by show ¬ (W.heap.size + 1 ≤ W.heap.size); omega) (by go_simp)
        have zw4_0 : W.heap.size < w4.heap.size := World.block_lt_of_cell? _ _ cw4_0_0
        have cw4_1_0 : w4.cell? ⟨B, off + i * 2, none⟩ = some (.int .i64 xi) := cell_kx hhw4 (by show ¬ (W.heap.size + 1 ≤ B); omega) (by go_simp)
        have cw4_1_1 : w4.cell? ⟨B, off + i * 2 + 1, none⟩ = some (.int .i64 yi) := cell_kx hhw4 (by show ¬ (W.heap.size + 1 ≤ B); omega) (by go_simp)
        have zw4_1 : B < w4.heap.size := World.block_lt_of_cell? _ _ cw4_1_0
        have gw4 : Gr W w4 := Kx.gr hhw4 gw3 (fun k hk => by have hk2 : W.heap.size + 1 ≤ k := hk; omega)
        have sw4 := hhw4.size
        clear gw3 zw3_0 cw3_0_0 cw3_0_1 zw3_1 cw3_1_0 cw3_1_1
        clear hhw4
        try simp only [Act.put, List.setIfInBounds_toArray, List.set_cons_zero, List.set_cons_succ]
        repeat (first | (refine Oe.wpO_skip (by simp only [List.getElem?_toArray, List.getElem?_cons_succ, List.getElem?_cons_zero] <;> rfl) rfl ?_; simp only [Act.put, List.setIfInBounds_toArray, List.set_cons_zero, List.set_cons_succ]) | (refine Oe.wpO_pure (by simp only [List.getElem?_toArray, List.getElem?_cons_succ, List.getElem?_cons_zero] <;> rfl) rfl ?_; apply Exists.intro; refine ⟨?_, ?_⟩; (· intro wx gx; have cx_0_0 : wx.cell? ⟨W.heap.size, 0, none⟩ = some (.int .i64 m) := cell_kx gx (by show ¬ (W.heap.size + 1 ≤ W.heap.size); omega) cw4_0_0; have cx_0_1 : wx.cell? ⟨W.heap.size, 1, none⟩ = some (.slice (some ⟨B, off, none⟩) n cap) := cell_kx gx (by show ¬ (W.heap.size + 1 ≤ W.heap.size); omega) cw4_0_1; have zx_0 : W.heap.size < wx.heap.size := World.block_lt_of_cell? _ _ cx_0_0; have cx_1_0 : wx.cell? ⟨B, off + i * 2, none⟩ = some (.int .i64 xi) := cell_kx gx (by show ¬ (W.heap.size + 1 ≤ B); omega) cw4_1_0; have cx_1_1 : wx.cell? ⟨B, off + i * 2 + 1, none⟩ = some (.int .i64 yi) := cell_kx gx (by show ¬ (W.heap.size + 1 ≤ B); omega) cw4_1_1; have zx_1 : B < wx.heap.size := World.block_lt_of_cell? _ _ cx_1_0; clear gx; all_goals (apply Oe.pAt_of_quiet; intro K hK; go_big_quiet_op; first | exact hK _ rfl | (apply Exists.intro; refine ⟨fun _ => ?_, ?_⟩; (· fail); exact hK _ rfl))); try simp only [Act.put, List.setIfInBounds_toArray, List.set_cons_zero, List.set_cons_succ]))
        have O4 := Lib.hid (row_own o4)
        have HO4 := Lib.hid (show Own w4 (W.heap.size + 1) b3 (LL ++ L1) from rowOwn_gr HO3.out hw4)
        clear o4 HO3 hw4
        refine Oe.wpO_call (by simp only [List.getElem?_toArray, List.getElem?_cons_succ, List.getElem?_cons_zero] <;> rfl) rfl ?_
        intro QS hQS
        refine (wpList_app rfl (.tmp 37) (.tmp 44) rfl (W.heap.size + 1) b3 b4 (LL ++ L1) L2 rfl HO4.out rfl O4.out (by simp only [List.length_append]; omega) (by omega) ?_)
        intro b5 w5 o5 g5
        have hhw5 : Kx (fun k => W.heap.size + 1 ≤ k) w4 w5 := kx_of_grown g5 (fun k hk => (own_at HO4.out hk).1)
        refine hQS _ _ ⟨_, rfl, hhw5, ?_⟩
        clear hQS QS
        have cw5_0_0 : w5.cell? ⟨W.heap.size, 0, none⟩ = some (.int .i64 m) := cell_kx hhw5 (by show ¬ (W.heap.size + 1 ≤ W.heap.size); omega) (by go_simp)
        have cw5_0_1 : w5.cell? ⟨W.heap.size, 1, none⟩ = some (.slice (some ⟨B, off, none⟩) n cap) := cell_kx hhw5 (by show ¬ (W.heap.size + 1 ≤ W.heap.size); omega) (by go_simp)
        have zw5_0 : W.heap.size < w5.heap.size := World.block_lt_of_cell? _ _ cw5_0_0
        have cw5_1_0 : w5.cell? ⟨B, off + i * 2, none⟩ = some (.int .i64 xi) := cell_kx hhw5 (by show ¬ (W.heap.size + 1 ≤ B); omega) (by go_simp)
        have cw5_1_1 : w5.cell? ⟨B, off + i * 2 + 1, none⟩ = some (.int .i64 yi) := cell_kx hhw5 (by show ¬ (W.heap.size + 1 ≤ B); omega) (by go_simp)
        have zw5_1 : B < w5.heap.size := World.block_lt_of_cell? _ _ cw5_1_0
        have gw5 : Gr W w5 := Kx.gr hhw5 gw4 (fun k hk => by have hk2 : W.heap.size + 1 ≤ k := hk; omega)
        have sw5 := hhw5.size
        clear gw4 zw4_0 cw4_0_0 cw4_0_1 zw4_1 cw4_1_0 cw4_1_1
        clear hhw5
        try simp only [Act.put, List.setIfInBounds_toArray, List.set_cons_zero, List.set_cons_succ]
        repeat (first | (refine Oe.wpO_skip (by simp only [List.getElem?_toArray, List.getElem?_cons_succ, List.getElem?_cons_zero] <;> rfl) rfl ?_; simp only [Act.put, List.setIfInBounds_toArray, List.set_cons_zero, List.set_cons_succ]) | (refine Oe.wpO_pure (by simp only [List.getElem?_toArray, List.getElem?_cons_succ, List.getElem?_cons_zero] <;> rfl) rfl ?_; apply Exists.intro; refine ⟨?_, ?_⟩; (· intro wx gx; have cx_0_0 : wx.cell? ⟨W.heap.size, 0, none⟩ = some (.int .i64 m) := cell_kx gx (by show ¬ (W.heap.size + 1 ≤ W.heap.size); omega) cw5_0_0; have cx_0_1 : wx.cell? ⟨W.heap.size, 1, none⟩ = some (.slice (some ⟨B, off, none⟩) n cap) := cell_kx gx (by show ¬ (W.heap.size + 1 ≤ W.heap.size); omega) cw5_0_1; have zx_0 : W.heap.size < wx.heap.size := World.block_lt_of_cell? _ _ cx_0_0; have cx_1_0 : wx.cell? ⟨B, off + i * 2, none⟩ = some (.int .i64 xi) := cell_kx gx (by show ¬ (W.heap.size + 1 ≤ B); omega) cw5_1_0; have cx_1_1 : wx.cell? ⟨B, off + i * 2 + 1, none⟩ = some (.int .i64 yi) := cell_kx gx (by show ¬ (W.heap.size + 1 ≤ B); omega) cw5_1_1; have zx_1 : B < wx.heap.size := World.block_lt_of_cell? _ _ cx_1_0; clear gx; all_goals (apply Oe.pAt_of_quiet; intro K hK; go_big_quiet_op; first | exact hK _ rfl | (apply Exists.intro; refine ⟨fun _ => ?_, ?_⟩; (· fail); exact hK _ rfl))); try simp only [Act.put, List.setIfInBounds_toArray, List.set_cons_zero, List.set_cons_succ]))
        have HO5 := Lib.hid o5
        clear o5 HO4 O4 g5
        refine Oe.wpO_nil (hKQ _ _ ?_)
        clear hKQ KQ
        go_wp2_with fail
        go_roundg (n - (i + 1))
        case measure => exact hmm
        case rel => exact ⟨i + 1, by go_num, hlt, rfl, by rw [HE.out]; exact HO5.out, cw5_0_0, cw5_0_1, gw5⟩
      · obtain rfl : i = n := by omega
        have ti : decide ((i : Int) < (i : Int)) = false := decide_eq_false (by omega)
        have ti2 : decide (i < i) = false := decide_eq_false (by omega)
        have HR := Lib.hid (row_own HOw.out)
        clear hm
        go_wp2_with fail
        exact HF.out _ _ HR.out gwr
  · have hR : objR k n X Y = [] := if_neg hc
    have fin : ∀ w', Gr W w' → RObTo W k n X Y (.returned (.tuple #[.slice none 0 0, .int .i64 (objC k n X Y : Nat)])) w' := fun w' g => ⟨_, rfl, by rw [hR]; exact row_none _, g⟩
    have HF := Lib.hid fin
    generalize RObTo W k n X Y = Post at HF ⊢
    generalize objC k n X Y = c at A1 HF hc
    obtain ⟨ad, cap, B, off, rfl, _⟩ := h
    have t1 : ((c : Int) == 0) = false := by simp; omega
    have t2 : (c == 0) = false := by simp; omega
    have t3 : ((c : Int) != 0) = true := by simp; omega
    have t4 : (c != 0) = true := by simp; omega
    have H1 := Lib.hid A1
    clear A1
    clear fin hR hc
    go_enter Tryd.func49, Tryd.ntmps49
    go_wp2_with fail
    go_at_call 34
    refine ((H1.out _ (by go_grown))).mono ?_
    rintro e w1 ⟨rfl, hw1⟩
    have gw1 : Gr W w1 := Gr.trans (by go_grown) hw1
    clear hw1
    go_wp2_with fail
    exact HF.out _ gw1
end Go.Proofs.YtkodmfkchbbmiaaDoor
