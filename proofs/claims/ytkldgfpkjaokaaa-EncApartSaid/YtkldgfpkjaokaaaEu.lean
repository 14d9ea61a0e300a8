/- objects as bytes: the program's, the document's -/
import Derived.Test.YtkldgfpkjaokaaaEs
import Derived.Test.YtkldgfpkjaokaaaEt
import Derived.Test.YtkldgfpkjaokaaaOe
namespace Go.Proofs.Ytkldgfpkjaokaaa
set_option linter.unusedVariables false
set_option linter.unusedSimpArgs false
open Go.ChangeShapes Go.WideShapes Go.ChangeAt Go.RowKit

theorem kx_of_grown {S : Nat → Prop} {a b : World} {u v : Value} (h : Grown a b u v) (hS : ∀ k, u.ownBlock = some k → S k) : Kx S a b :=
  ⟨h.1.os, h.1.tape, h.1.output, h.1.size, fun k hk hs => h.1.block k hk (fun e => by
    cases hu : u.ownBlock with
    | none => rw [hu] at e; cases e
    | some j => rw [hu] at e; cases e; exact hs (hS _ hu))⟩
theorem own_low {w : World} {a b : Nat} {v : Value} {L : List UInt8} (h : Own w a v L) (hab : b ≤ a) : Own w b v L := by
  obtain ⟨h1, h2⟩ := h
  refine ⟨h1, ?_⟩
  rcases h2 with h2 | ⟨g, cap, cur, e, hb, h3⟩
  · exact Or.inl h2
  · exact Or.inr ⟨g, cap, cur, e, Nat.le_trans hab hb, h3⟩
theorem own_at {w : World} {base k : Nat} {v : Value} {L : List UInt8} (h : Own w base v L) (hk : v.ownBlock = some k) : base ≤ k ∧ k < w.heap.size := World.ownsRow.lt h k hk
/-- What may be lies near. -/
theorem objC_near {k : Int} {n : Nat} {X Y : Nat → Int} (h : objC k n X Y = 0) : 1 ≤ k ∧ k ≤ 4 ∧ n ≤ 64 ∧ 1 ≤ n ∧ ∀ i, i < n → nearB (X i) (Y i) = true := by
  have hb : ∀ a b c d, boxN a b c d = 0 → nearB a b = true ∧ nearB c d = true := fun a b c d hh => by
    unfold boxN at hh
    split at hh
    · rename_i h1; simpa using h1
    · cases hh
  by_cases h4 : k = 4
  · subst h4
    rw [objC_4] at h
    obtain ⟨q1, q2, _, _⟩ := Rg.ringC_ok h
    exact ⟨by omega, by omega, by omega, by omega, q2⟩
  by_cases h3 : k = 3
  · subst h3
    rw [objC_3] at h
    by_cases hn : n = 2
    · rw [if_pos hn] at h
      obtain ⟨q1, q2⟩ := hb _ _ _ _ h
      refine ⟨by omega, by omega, by omega, by omega, fun i hi => ?_⟩
      rcases (by omega : i = 0 ∨ i = 1) with rfl | rfl
      · exact q1
      · exact q2
    · rw [if_neg hn] at h; cases h
  by_cases h1 : k = 1
  · subst h1
    rw [objC_1] at h
    by_cases hn : n = 1
    · rw [if_pos hn] at h
      refine ⟨by omega, by omega, by omega, by omega, fun i hi => ?_⟩
      obtain rfl : i = 0 := by omega
      exact (hb _ _ _ _ h).1
    · rw [if_neg hn] at h; cases h
  by_cases h2 : k = 2
  · subst h2
    rw [objC_2] at h
    by_cases hn : n = 1
    · rw [if_pos hn] at h
      refine ⟨by omega, by omega, by omega, by omega, fun i hi => ?_⟩
      obtain rfl : i = 0 := by omega
      have := hb _ _ _ _ h
      rw [nearB_iff, nearB_iff] at this
      rw [nearB_iff]
      omega
    · rw [if_neg hn] at h; cases h
  rw [objC_x h4 h3 h1 h2] at h
  cases h
theorem objC_le (k : Int) (n : Nat) (X Y : Nat → Int) : objC k n X Y ≤ 5 := by
  have hb : ∀ a b c d, boxN a b c d ≤ 5 := fun a b c d => by unfold boxN; (repeat' split) <;> omega
  have := Rg.ringC_le n X Y
  unfold objC
  (repeat' split) <;> first | omega | exact hb _ _ _ _
/-- None behind the n-th. -/
def trm (n : Nat) (F : Nat → Int) (i : Nat) : Int := if i < n then F i else 0
theorem trm_in {n i : Nat} {F : Nat → Int} (h : i < n) : trm n F i = F i := if_pos h
theorem pts_trm {w : World} {v : Value} {n : Nat} {X Y : Nat → Int} (h : Pts w v n X Y) : Pts w v n (trm n X) (trm n Y) := by
  obtain ⟨ad, cap, B, off, h1, h2, h3, h4, h5⟩ := h
  exact ⟨ad, cap, B, off, h1, h2, h3, h4, fun k hk => by rw [trm_in hk, trm_in hk]; exact h5 k hk⟩
theorem ptsB_congr {X Y P Q : Nat → Int} : ∀ n, (∀ i, i < n → X i = P i ∧ Y i = Q i) → ptsB X Y n = ptsB P Q n
  | 0, _ => rfl
  | n + 1, h => by
    simp only [ptsB]
    rw [ptsB_congr n (fun i hi => h i (by omega)), (h n (by omega)).1, (h n (by omega)).2]
theorem ptsB_trm (n : Nat) (X Y : Nat → Int) : ptsB (trm n X) (trm n Y) n = ptsB X Y n := ptsB_congr n fun i hi => ⟨trm_in hi, trm_in hi⟩
theorem near_iw {x y : Int} (h : nearB x y = true) : Iw x ∧ Iw y := by
  rw [nearB_iff] at h
  unfold Iw
  omega
theorem trm_iw {n : Nat} {X Y : Nat → Int} (h : ∀ i, i < n → nearB (X i) (Y i) = true) (i : Nat) : Iw (trm n X i) ∧ Iw (trm n Y i) := by
  by_cases c : i < n
  · rw [trm_in c, trm_in c]; exact near_iw (h i c)
  · unfold trm; rw [if_neg c, if_neg c]; unfold Iw; omega
/-- An object's bytes. -/
def objB (k : Int) (n : Nat) (X Y : Nat → Int) : List UInt8 := Ec.vr k.toNat ++ Ec.vr n ++ ptsB X Y n
theorem objB_len {k : Int} {n : Nat} {X Y : Nat → Int} (h : objC k n X Y = 0) : (objB k n X Y).length ≤ 1320 := by
  obtain ⟨h1, h2, h3, h4, h5⟩ := objC_near h
  have a := (Ec.vr_len10 (v := k.toNat) (by omega)).2
  have b := (Ec.vr_len10 (v := n) (by omega)).2
  have c := ptsB_len (trm n X) (trm n Y) (trm_iw h5) n
  rw [ptsB_trm] at c
  unfold objB
  simp only [List.length_append]
  omega
def objR (k : Int) (n : Nat) (X Y : Nat → Int) : List UInt8 := if objC k n X Y = 0 then objB k n X Y else []
theorem row_none (w : World) : Row w (.slice none 0 0) [] := ⟨none, 0, 0, 0, rfl, Nat.le_refl _, by omega, fun h => absurd h (by simp), fun j hj => absurd hj (by simp)⟩
def ObTo (W : World) (k : Int) (n : Nat) (X Y : Nat → Int) (e : Ending) (w' : World) : Prop := ∃ b u, e = .returned (.tuple #[b, u]) ∧ WErr objectS w' u k (objC k n X Y) ∧ Row w' b (objR k n X Y) ∧ Gr W w'
def RObTo (W : World) (k : Int) (n : Nat) (X Y : Nat → Int) (e : Ending) (w' : World) : Prop := ∃ b, e = .returned (.tuple #[b, .int .i64 (objC k n X Y : Nat)]) ∧ Row w' b (objR k n X Y) ∧ Gr W w'
set_option maxHeartbeats 4000000 in
set_option maxRecDepth 100000 in
theorem c_Object {n : Nat} {X Y : Nat → Int} {v : Value} (k : Int) (W : World) (h : Pts W v n X Y) :
    Calls Try.prog 9 #[.agg #[.int .i64 k, v]] W (ObTo W k n X Y) := by
  have A1 : ∀ w, Gr W w → Calls Try.prog 19 #[.agg #[.int .i64 k, v]] w fun e w' => ∃ u, e = .returned u ∧ WErr objectS w' u k (objC k n X Y) ∧ Gr w w' := fun w g => c_relCheck k w (pts_gr h g)
  by_cases hc : objC k n X Y = 0
  · have hR : objR k n X Y = objB k n X Y := if_pos hc
    obtain ⟨h1, h2, h3, h4, h5⟩ := objC_near hc
    obtain ⟨m, rfl⟩ : ∃ m : Nat, k = m := ⟨k.toNat, by omega⟩
    have A2 : ∀ w, Gr W w → Calls Try.prog 20 #[.slice none 0 0, .agg #[.int .i64 m, v]] w fun e w' => ∃ b', e = .returned b' ∧ Row w' b' (objB m n X Y) ∧ Gr w w' := fun w g => by
      obtain ⟨ad, cap, B, off, rfl, q1, q2, q3, q4⟩ := pts_trm (pts_gr h g)
      refine (c_appendObject [] (.slice none 0 0) w.heap.size m n cap B off ad (trm n X) (trm n Y) (trm_iw h5) (by omega) (by omega) q3 w (by simp) (Nat.le_refl _) (own_nil _ _) (fun g h => by cases h) q4).mono ?_
      rintro e w' ⟨b', rfl, o, gr⟩
      refine ⟨b', rfl, ?_, gr.nil⟩
      have := row_own o
      rw [List.nil_append, ptsB_trm] at this
      exact this
    have fin : ∀ b w', Row w' b (objB m n X Y) → Gr W w' → ObTo W m n X Y (.returned (.tuple #[b, .nilIface])) w' := fun b w' r g => ⟨b, _, rfl, Or.inl ⟨rfl, hc⟩, by rw [hR]; exact r, g⟩
    have HF := Lib.hid fin
    rw [hc] at A1
    generalize ObTo W m n X Y = Post at HF ⊢
    generalize objB m n X Y = L at A2 HF
    obtain ⟨ad, cap, B, off, rfl, _⟩ := h
    have H1 := Lib.hid A1
    have H2 := Lib.hid A2
    clear A1 A2
    clear fin hR hc h1 h2 h3 h4 h5
    go_enter Try.func9, Try.ntmps9
    go_wp2_with fail
    go_at_call 19
    refine (H1.out _ (by go_grown)).mono ?_
    rintro e w1 ⟨u, rfl, hu, g1⟩
    rcases hu with ⟨rfl, _⟩ | ⟨B1, u1, d1, _, bad, _⟩
    · have c0 : w1.cell? ⟨W.heap.size, 0, none⟩ = some (.int .i64 m) := cell_gr g1 (by go_simp)
      have c1 : w1.cell? ⟨W.heap.size, 1, none⟩ = some (.slice ad n cap) := cell_gr g1 (by go_simp)
      have G1 : Gr W w1 := Gr.trans (by go_grown) g1
      clear g1 H1
      go_wp2_with fail
      go_at_call 20
      (with_reducible refine (H2.out _ G1).mono ?_)
      rintro e w2 ⟨b', rfl, r2, g2⟩
      have HR2 := Lib.hid r2
      clear r2 H2
      go_wp2_with fail
      exact HF.out _ _ HR2.out (Gr.trans G1 g2)
    · omega
  · have hR : objR k n X Y = [] := if_neg hc
    have fin : ∀ u w', WErr objectS w' u k (objC k n X Y) → Gr W w' → ObTo W k n X Y (.returned (.tuple #[.slice none 0 0, u])) w' := fun u w' r g => ⟨_, u, rfl, r, by rw [hR]; exact row_none _, g⟩
    have HF := Lib.hid fin
    generalize ObTo W k n X Y = Post at HF ⊢
    generalize objC k n X Y = c at A1 HF hc
    obtain ⟨ad, cap, B, off, rfl, _⟩ := h
    have H1 := Lib.hid A1
    clear A1
    have HC := Lib.hid hc
    clear fin hR hc
    go_enter Try.func9, Try.ntmps9
    go_wp2_with fail
    go_at_call 19
    refine (H1.out _ (by go_grown)).mono ?_
    rintro e w1 ⟨u, rfl, hu, g1⟩
    have HU := Lib.hid hu
    rcases hu with ⟨rfl, bad⟩ | ⟨B1, u1, d1, rfl, _⟩
    · exact absurd bad HC.out
    · have G1 : Gr W w1 := Gr.trans (by go_grown) g1
      clear g1 H1
      go_wp2_with fail
      exact HF.out _ _ HU.out G1
theorem iw_wds {z : Int} (h : Iw z) : Wd (zz z) := zz_wd h.1 h.2
end Go.Proofs.Ytkldgfpkjaokaaa
