/- stage: New, ended, Len, End, do -/
import Derived.Test.YtpomllpplpalkaaGreatDoorTc
namespace Go.Proofs.YtpomllpplpalkaaGreatDoor
set_option linter.unusedVariables false
set_option linter.unusedSimpArgs false
open Go.ChangeShapes Go.WideShapes Go.ChangeAt Go.RowKit Go.Maps

abbrev stageS : ByteArray := ⟨#[115, 116, 97, 103, 101]⟩
theorem st_ended {S : Nat} {a b c : Value} {op : Bool} (W : World) (h : W.heap[S]? = some (.cells #[a, b, c, .bool op] 102 (0, 0))) : Calls Tryz.prog 56 #[.pointer (some ⟨S, 0, none⟩)] W fun e w' => e = .returned (.bool (!op)) ∧ Gr W w' := by
  have c3 : W.cell? ⟨S, 3, none⟩ = some (.bool op) := Hm.cell_of_heap h 3
  have z := World.block_lt_of_cell? _ _ c3
  clear h
  go_enter Tryz.func56, Tryz.ntmps56
  go_wp2_with fail
  go_ret
  exact ⟨rfl, by go_grown⟩
theorem st_ended_nil (W : World) : Calls Tryz.prog 56 #[.pointer none] W fun e w' => e = .returned (.bool true) ∧ Gr W w' := by
  go_enter Tryz.func56, Tryz.ntmps56
  go_wp2_with fail
  go_ret
  exact ⟨rfl, by go_grown⟩
theorem st_len_nil (W : World) : Calls Tryz.prog 18 #[.pointer none] W fun e w' => e = .returned (.int .i64 0) ∧ Gr W w' := by
  go_enter Tryz.func18, Tryz.ntmps18
  go_wp2_with fail
  go_ret
  exact ⟨rfl, by go_grown⟩
theorem st_end_nil (W : World) : Calls Tryz.prog 13 #[.pointer none] W fun e w' => ∃ u, e = .returned u ∧ WErr stageS w' u 0 11 ∧ Gr W w' := by
  go_enter Tryz.func13, Tryz.ntmps13
  go_wp2_with fail
  go_at_call 56
  refine ((st_ended_nil _)).mono ?_
  rintro e w1 ⟨rfl, hw1⟩
  have gw1 : Gr W w1 := Gr.trans (by go_grown) hw1
  clear hw1
  go_wp2_with fail
  go_at_call 57
  refine (md_fNew stageS 0 11 _).mono ?_
  rintro e w2 ⟨F, rfl, hf, g2⟩
  have HF := Lib.hid (And.intro (faultAt_werr (k := 11) (by decide) hf) (Gr.trans gw1 g2))
  clear hf g2
  go_wp2_with fail
  go_ret
  exact ⟨_, rfl, HF.out.1, HF.out.2⟩
section
variable {W w : World} {N k : Nat} {Q : Nat → Nat} {M : Nat → Option Nat} {σ : Nat → Int → Option MO} {S b j : Nat} {op : Bool} {G : List CS}
theorem st_Len {l : List Int} (F : StF W w N k Q M σ S b j op G) (hl : Ids (σ j) l) : Calls Tryz.prog 18 #[.pointer (some ⟨S, 0, none⟩)] w fun e w' => e = .returned (.int .i64 (l.length : Nat)) ∧ Gr w w' := by
  obtain ⟨cv, L, h, -⟩ := F.row
  have c1 : w.cell? ⟨S, 1, none⟩ = some (.pointer (some ⟨Q j, 0, none⟩)) := Hm.cell_of_heap h 1
  have z := World.block_lt_of_cell? _ _ c1
  have AL := Lib.hid (fun w' (g : Gr w w') => md_lenS hl w' (mdAt_gr (F.fam.md j F.hj) g))
  clear h F hl
  go_enter Tryz.func18, Tryz.ntmps18
  go_wp2_with fail
  go_at_call 28
  refine (AL.out _ (by go_grown)).mono ?_
  rintro e w1 ⟨rfl, g1⟩
  go_wp2_with fail
  go_ret
  exact ⟨rfl, g1⟩
def EndTo (W w : World) (N k : Nat) (Q : Nat → Nat) (M : Nat → Option Nat) (σ : Nat → Int → Option MO) (S b j : Nat) (op : Bool) (G : List CS) (e : Ending) (w' : World) : Prop := ∃ u, e = .returned u ∧ WErr stageS w' u 0 (if op = true then 0 else 11) ∧ StF W w' N k Q M σ S b j false G
set_option maxHeartbeats 1000000 in
set_option maxRecDepth 100000 in
theorem st_End (F : StF W w N k Q M σ S b j op G) : Calls Tryz.prog 13 #[.pointer (some ⟨S, 0, none⟩)] w fun e w' => EndTo W w N k Q M σ S b j op G e w' := by
  obtain ⟨cv, L, h, hr, hL⟩ := F.row
  have HF := Lib.hid F
  have HR := Lib.hid (And.intro hr (And.intro hL h))
  have AE := Lib.hid (fun w' (g : Gr w w') => st_ended w' (heap_kx (S := fun _ => False) (Kx.of_gr g) (fun h => h) h))
  have c3 : w.cell? ⟨S, 3, none⟩ = some (.bool op) := Hm.cell_of_heap h 3
  have f3 := Hm.frozen_of_heap h 3
  have z := World.block_lt_of_cell? _ _ c3
  clear h F hr hL
  go_enter Tryz.func13, Tryz.ntmps13
  go_wp2_with fail
  go_at_call 56
  refine ((AE.out _ (by go_grown))).mono ?_
  rintro e w1 ⟨rfl, hw1⟩
  have gw1 : Gr w w1 := Gr.trans (by go_grown) hw1
  clear hw1
  have d3 := cell_gr gw1 c3
  have e3 := frozen_gr gw1 c3 f3
  have zz := World.block_lt_of_cell? _ _ d3
  clear c3 f3 z
  cases op with
  | false =>
    go_wp2_with fail
    go_at_call 57
    refine (md_fNew stageS 0 11 _).mono ?_
    rintro e w2 ⟨F, rfl, hf, g2⟩
    have HE := Lib.hid (And.intro (faultAt_werr (k := 11) (by decide) hf) (Gr.trans gw1 g2))
    clear hf g2
    go_wp2_with fail
    go_ret
    exact ⟨_, rfl, HE.out.1, HF.out.to HE.out.2⟩
  | true =>
    go_wp2_with fail
    go_ret
    have h1 := heap_kx (S := fun _ => False) (Kx.of_gr gw1) (fun h => h) HR.out.2.2
    have K : Kx (fun i => i = S) w1 (w1.setCell ⟨S, 3, none⟩ (.bool false)) := (Kx.refl (S := fun i => i = S) w1).setCell (p := ⟨S, 3, none⟩) rfl _
    refine ⟨_, rfl, Or.inl ⟨rfl, rfl⟩, ?_⟩
    have := (HF.out.to gw1).put (cv' := cv) (op' := false) (L' := L) K (fun i hi => Or.inl hi) (Hm.heap_set_same h1) ((HR.out.1.gr gw1).ty K (fun i hi => by subst hi; exact ⟨noTy_of h1 (by decide), noTy_of h1 (by decide)⟩))
    rw [HR.out.2.1] at this
    exact this
def NewTo (W w : World) (N k : Nat) (Q : Nat → Nat) (σ : Nat → Int → Option MO) (s : Int → Option MO) (e : Ending) (w' : World) : Prop := ∃ S Q' M', e = .returned (.pointer (some ⟨S, 0, none⟩)) ∧ (∀ i, i < k → Q' i = Q i) ∧ StF W w' N (k + 2) Q' M' (fun i => if i < k then σ i else s) S k (k + 1) true []
set_option maxHeartbeats 1000000 in
set_option maxRecDepth 100000 in
theorem st_mk {C1 C2 : Nat} {M1 M2 : Option Nat} {w1 w2 : World} {s : Int → Option MO} (F : Fam W w N k Q M σ) (h1 : MdAt w1 C1 M1 s N) (hC1 : w.heap.size ≤ C1) (hM1 : ∀ m, M1 = some m → w.heap.size ≤ m) (g1 : Gr w w1) (h2 : MdAt w2 C2 M2 s N) (hC2 : w1.heap.size ≤ C2) (hM2 : ∀ m, M2 = some m → w1.heap.size ≤ m) (g2 : Gr w1 w2) :
    NewTo W w N k Q σ s (.returned (.pointer (some ⟨w2.heap.size, 0, none⟩))) (w2.alloc (.cells #[.pointer (some ⟨C1, 0, none⟩), .pointer (some ⟨C2, 0, none⟩), .slice none 0 0, .bool true] 102)) := by
  have F2 := ((F.more h1 hC1 hM1 g1).more h2 hC2 hM2 g2).to ((Below.refl _ _).alloc (Nat.le_refl _) (.cells #[.pointer (some ⟨C1, 0, none⟩), .pointer (some ⟨C2, 0, none⟩), .slice none 0 0, .bool true] 102))
  refine ⟨w2.heap.size, _, _, rfl, fun i hi => ?_, F2.as (fun i hi => rfl) (fun i hi => ?_), by omega, by omega, (Gr.trans F.gr (Gr.trans g1 g2)).size, .slice none 0 0, [], ?_, ChRow.nil _ _, rfl⟩
  · simp only [show ¬ i = k + 1 by omega, show ¬ i = k by omega, if_false]
  · by_cases e1 : i = k + 1
    · subst e1
      simp only [if_true, show ¬ k + 1 < k by omega, if_false]
    · by_cases e2 : i = k
      · subst e2
        simp only [if_true, show ¬ i = i + 1 by omega, Nat.lt_irrefl, if_false]
      · simp only [e1, e2, if_false, show i < k by omega, if_true]
  · simp only [show ¬ k = k + 1 by omega, if_false, if_true]
    show (w2.heap.push _)[w2.heap.size]? = _
    exact Array.getElem?_push_size
set_option maxHeartbeats 1000000 in
set_option maxRecDepth 100000 in
theorem st_New {b : Nat} (hb : b < k) (F : Fam W w N k Q M σ) : Calls Tryz.prog 11 #[.pointer (some ⟨Q b, 0, none⟩)] w fun e w' => NewTo W w N k Q σ (σ b) e w' := by
  have HF := Lib.hid F
  have AC := Lib.hid (fun w' (g : Gr w w') => md_Copy w' (mdAt_gr (F.md b hb) g))
  obtain ⟨q, hq⟩ : ∃ q, q = Q b := ⟨_, rfl⟩
  rw [← hq] at AC ⊢
  clear F hq hb
  go_enter Tryz.func11, Tryz.ntmps11
  go_wp2_with fail
  go_at_call 25
  refine (AC.out _ (by go_grown)).mono ?_
  rintro e w1 ⟨C1, M1, rfl, a1, a2, a3, g1⟩
  have H1 := Lib.hid (And.intro a1 (And.intro a2 (And.intro a3 g1)))
  clear a1 a2 a3
  go_wp2_with fail
  go_at_call 25
  refine (AC.out _ g1).mono ?_
  rintro e w2 ⟨C2, M2, rfl, b1, b2, b3, g2⟩
  have H2 := Lib.hid (And.intro b1 (And.intro b2 (And.intro b3 g2)))
  clear b1 b2 b3
  go_wp2_with fail
  go_ret
  exact st_mk HF.out H1.out.2.2.1 H1.out.1 H1.out.2.1 H1.out.2.2.2 H2.out.2.2.1 H2.out.1 H2.out.2.1 H2.out.2.2.2
def New0To (W w : World) (e : Ending) (w' : World) : Prop := ∃ S Q' M', e = .returned (.pointer (some ⟨S, 0, none⟩)) ∧ StF W w' 0 3 Q' M' (fun _ _ => none) S 1 2 true []
set_option maxHeartbeats 1000000 in
set_option maxRecDepth 100000 in
theorem st_New0 (g : Gr W w) : Calls Tryz.prog 11 #[.pointer none] w fun e w' => New0To W w e w' := by
  have HG := Lib.hid g
  clear g
  go_enter Tryz.func11, Tryz.ntmps11
  go_wp2_with fail
  go_at_call 12
  refine (md_New w).mono ?_
  rintro e w0 ⟨rfl, e0⟩
  have F0 := (Fam.none (W := W) (w := w) (Q := fun _ => 0) (M := fun _ => none) (σ := fun _ _ => none) (N := 0) HG.out).more (w' := w0) (C := w.heap.size) (MC := none) (τ := fun _ => none) (by rw [e0]; exact mdAt_new (fun _ _ => rfl) (fun m h => (by cases h))) (Nat.le_refl _) (fun m h => (by cases h)) (by rw [e0]; exact (Below.refl _ _).alloc (Nat.le_refl _) _)
  have AC := Lib.hid (fun w' (g : Gr w0 w') => md_Copy (Q := w.heap.size) w' (mdAt_gr (F0.md 0 (by decide)) g))
  have HF := Lib.hid F0
  clear F0 e0
  go_wp2_with fail
  go_at_call 25
  refine (AC.out _ (by go_grown)).mono ?_
  rintro e w1 ⟨C1, M1, rfl, a1, a2, a3, g1⟩
  have H1 := Lib.hid (And.intro a1 (And.intro a2 (And.intro a3 g1)))
  clear a1 a2 a3
  go_wp2_with fail
  go_at_call 25
  refine (AC.out _ g1).mono ?_
  rintro e w2 ⟨C2, M2, rfl, b1, b2, b3, g2⟩
  have H2 := Lib.hid (And.intro b1 (And.intro b2 (And.intro b3 g2)))
  clear b1 b2 b3
  go_wp2_with fail
  go_ret
  obtain ⟨S, Q', M', e, -, F⟩ := st_mk HF.out H1.out.2.2.1 H1.out.1 H1.out.2.1 H1.out.2.2.2 H2.out.2.2.1 H2.out.1 H2.out.2.1 H2.out.2.2.2
  exact ⟨S, Q', M', e, F.as (fun i hi => by
    rcases (by omega : i = 0 ∨ i = 1 ∨ i = 2) with rfl | rfl | rfl <;> rfl)⟩
end
end Go.Proofs.YtpomllpplpalkaaGreatDoor
