/- model: refusal over all cases; the kinds of the last changes of each id -/
import Derived.Test.YtapfecmdfoobcaaGreatDoorWo
namespace Go.Proofs.YtapfecmdfoobcaaGreatDoor
set_option linter.unusedVariables false
set_option linter.unusedSimpArgs false
open Go.ChangeShapes Go.WideShapes Go.ChangeAt Go.RowKit Go.Maps

/-- The number that refusal answers with, where the id is there, or is not. -/
def reN (there : Bool) (kd id k : Int) (n : Nat) (X Y : Nat → Int) : Nat := if chgC kd id k n X Y ≠ 0 then chgC kd id k n X Y else if kd = 1 then (if there then 6 else 0) else if there then 0 else 7
theorem apN_re (σ : Int → Option MO) (kd id k : Int) (n : Nat) (X Y : Nat → Int) : apN σ kd id k n X Y = reN (σ id).isSome kd id k n X Y := rfl
theorem md_refuse {Q : Nat} {kd id k : Int} {n : Nat} {X Y : Nat → Int} {v : Value} (b : Bool) (W : World) (h : Pts W v n X Y) :
    Calls Tryz.prog 18 #[.pointer (some ⟨Q, 0, none⟩), .agg #[.int .i64 kd, .int .i64 id, .int .i64 k, v], .bool b] W fun e w' => ∃ op u, e = .returned u ∧ WErr op w' u id (reN b kd id k n X Y) ∧ Gr W w' := by
  by_cases hc : chgC kd id k n X Y = 0
  · rcases (chgC_ok hc).2.2 with ⟨rfl, ho⟩ | ⟨rfl, rfl, rfl⟩
    · cases b with
      | true =>
        have eN : reN true 1 id k n X Y = 6 := by unfold reN; rw [if_neg (fun h => h hc), if_pos rfl, if_pos rfl]
        rw [eN]
        refine (md_ref_dup W h hc).mono ?_
        rintro e w' ⟨F, rfl, hf, g⟩
        exact ⟨_, _, rfl, faultAt_werr (by decide) hf, g⟩
      | false =>
        have eN : reN false 1 id k n X Y = 0 := by unfold reN; rw [if_neg (fun h => h hc), if_pos rfl, if_neg (by decide)]
        rw [eN]
        refine (md_ref_ok W h hc).mono ?_
        rintro e w' ⟨rfl, g⟩
        exact ⟨modelS, _, rfl, Or.inl ⟨rfl, rfl⟩, g⟩
    · cases b with
      | false =>
        have eN : reN false 2 id 0 0 X Y = 7 := by unfold reN; rw [if_neg (fun h => h hc), if_neg (by decide), if_neg (by decide)]
        rw [eN]
        refine (md_ref_abs W h hc).mono ?_
        rintro e w' ⟨F, rfl, hf, g⟩
        exact ⟨_, _, rfl, faultAt_werr (by decide) hf, g⟩
      | true =>
        have eN : reN true 2 id 0 0 X Y = 0 := by unfold reN; rw [if_neg (fun h => h hc), if_neg (by decide), if_pos rfl]
        rw [eN]
        refine (md_ref_del W h hc).mono ?_
        rintro e w' ⟨rfl, g⟩
        exact ⟨modelS, _, rfl, Or.inl ⟨rfl, rfl⟩, g⟩
  · have eN : reN b kd id k n X Y = chgC kd id k n X Y := if_pos hc
    rw [eN]
    refine (md_ref_bad b W h hc).mono ?_
    rintro e w' ⟨F, rfl, hf, g⟩
    exact ⟨_, _, rfl, hf, g⟩
/-- What is there behind so many changes, from a state on. -/
def stF (σ : Int → Option MO) (D : Nat → MChg) : Nat → Int → Option MO
  | 0 => σ
  | i + 1 => apS (stF σ D i) (D i).kd (D i).id (D i).k (D i).n (D i).X (D i).Y
def coF (σ : Int → Option MO) (D : Nat → MChg) (i : Nat) : Nat := apN (stF σ D i) (D i).kd (D i).id (D i).k (D i).n (D i).X (D i).Y
/-- The kind of the last change of each id. -/
def kiF (D : Nat → MChg) : Nat → Int → Option Int
  | 0 => fun _ => none
  | i + 1 => fun z => if z = (D i).id then some (D i).kd else kiF D i z
def thereF (σ : Int → Option MO) (D : Nat → MChg) (i : Nat) (z : Int) : Bool := match kiF D i z with
  | none => (σ z).isSome
  | some kd => decide (kd = 1)
theorem there_st {σ : Int → Option MO} {D : Nat → MChg} : ∀ {i : Nat}, (∀ j, j < i → coF σ D j = 0) → ∀ z, (stF σ D i z).isSome = thereF σ D i z
  | 0, _, z => rfl
  | i + 1, h, z => by
    have ih := there_st (i := i) (fun j hj => h j (by omega)) z
    have h0 := h i (by omega)
    have e0 : stF σ D (i + 1) = if (D i).kd = 1 then updS (stF σ D i) (D i).id (some ⟨(D i).k, (D i).n, (D i).X, (D i).Y⟩) else updS (stF σ D i) (D i).id none := by
      show apS _ _ _ _ _ _ _ = _
      unfold apS
      rw [if_neg (fun hh => hh h0)]
    rw [e0]
    unfold thereF kiF
    by_cases e : z = (D i).id
    · simp only [e, if_true]
      by_cases hk : (D i).kd = 1
      · rw [if_pos hk]; simp [updS, hk]
      · rw [if_neg hk]; simp [updS, hk]
    · simp only [e, if_false]
      have e1 : ∀ o, updS (stF σ D i) (D i).id o z = stF σ D i z := fun o => if_neg e
      split <;> rw [e1, ih] <;> rfl
theorem coF_re {σ : Int → Option MO} {D : Nat → MChg} {i : Nat} (h : ∀ j, j < i → coF σ D j = 0) : coF σ D i = reN (thereF σ D i (D i).id) (D i).kd (D i).id (D i).k (D i).n (D i).X (D i).Y := by
  unfold coF
  rw [apN_re, there_st h]
end Go.Proofs.YtapfecmdfoobcaaGreatDoor
