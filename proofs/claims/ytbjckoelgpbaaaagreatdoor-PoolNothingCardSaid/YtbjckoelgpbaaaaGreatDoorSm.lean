/- slots: what Insert, Set and Delete do to what is there, in numbers (towards SlotsKeep) -/
import Derived.Test.YtbjckoelgpbaaaaGreatDoorSh
namespace Go.Proofs.YtbjckoelgpbaaaaGreatDoor
set_option linter.unusedVariables false
set_option linter.unusedSimpArgs false
open Go.ChangeShapes Go.WideShapes Go.ChangeAt Go.RowKit

theorem putS_get {S : List Sl} {n : Nat} (hn : n ≤ S.length) (o : Sl) (j : Nat) : (putS S n o).getD j none = if j = n then o else S.getD j none := by
  unfold putS
  by_cases e : n = S.length
  · rw [if_pos e, getD_append, e]
  · rw [if_neg e, getD_set]
    by_cases ej : j = n
    · rw [if_pos ej, if_pos ⟨ej.symm, by omega⟩]
    · rw [if_neg ej, if_neg (fun h => ej h.1.symm)]
theorem putS_len {S : List Sl} {n : Nat} (o : Sl) : (putS S n o).length = if n = S.length then S.length + 1 else S.length := by
  unfold putS
  by_cases e : n = S.length
  · rw [if_pos e, if_pos e]; simp
  · rw [if_neg e, if_neg e]; simp
theorem lastN_after {S : List Sl} : ∀ (k j : Nat), lastN S k ≤ j → j < k → S.getD j none = none
  | 0, j, _, h => absurd h (Nat.not_lt_zero _)
  | k + 1, j, h1, h2 => by
    unfold lastN at h1
    by_cases e : (S.getD k none).isSome = true
    · rw [if_pos e] at h1; omega
    · rw [if_neg e] at h1
      by_cases ej : j = k
      · subst ej
        cases h : S.getD j none with
        | none => rfl
        | some L => rw [h] at e; exact absurd rfl e
      · exact lastN_after k j h1 (by omega)
theorem delS_get {S : List Sl} {n : Nat} (hn : n < S.length) (j : Nat) : (delS S n).getD j none = if j = n then none else S.getD j none := by
  have hs : (S.set n none).getD j none = if j = n then none else S.getD j none := by
    rw [getD_set]
    by_cases ej : j = n
    · rw [if_pos ej]
      by_cases hj : j < S.length
      · rw [if_pos ⟨ej.symm, hj⟩]
      · omega
    · rw [if_neg ej, if_neg (fun h => ej h.1.symm)]
  unfold delS
  rw [getD_take]
  by_cases h : j < lastN (S.set n none) S.length
  · rw [if_pos h, hs]
  · rw [if_neg h, ← hs]
    by_cases hj : j < S.length
    · exact (lastN_after S.length j (by omega) hj).symm
    · exact (getD_ge _ (by simp; omega)).symm
theorem szT_congr {S T : List Sl} : ∀ i, (∀ j, j < i → S.getD j none = T.getD j none) → szT S i = szT T i
  | 0, _ => rfl
  | i + 1, h => by
    show szT S i + szO (S.getD i none) = szT T i + szO (T.getD i none)
    rw [szT_congr i (fun j hj => h j (by omega)), h i (by omega)]
theorem szT_mono (S : List Sl) : ∀ {i k : Nat}, i ≤ k → szT S i ≤ szT S k
  | i, 0, h => by obtain rfl : i = 0 := by omega
                  exact Nat.le_refl _
  | i, k + 1, h => by
    by_cases e : i = k + 1
    · subst e; exact Nat.le_refl _
    · have := szT_mono S (show i ≤ k by omega)
      show szT S i ≤ szT S k + szO (S.getD k none)
      omega
theorem szT_put {S T : List Sl} {n : Nat} {o : Sl} (h : ∀ j, T.getD j none = if j = n then o else S.getD j none) : ∀ i, szT T i + (if n < i then szO (S.getD n none) else 0) = szT S i + (if n < i then szO o else 0)
  | 0 => by rw [if_neg (by omega), if_neg (by omega)]; rfl
  | i + 1 => by
    have ih := szT_put h i
    show szT T i + szO (T.getD i none) + _ = szT S i + szO (S.getD i none) + _
    rw [h i]
    by_cases e : i = n
    · subst e
      rw [if_neg (by omega), if_neg (by omega)] at ih
      rw [if_pos rfl, if_pos (by omega), if_pos (by omega)]
      omega
    · rw [if_neg e]
      by_cases hl : n < i
      · rw [if_pos hl, if_pos hl] at ih
        rw [if_pos (by omega), if_pos (by omega)]
        omega
      · rw [if_neg hl, if_neg hl] at ih
        rw [if_neg (by omega), if_neg (by omega)]
        omega
/-- What fits still fits. -/
theorem usS_put {S : List Sl} {n : Nat} {L : List UInt8} (hn : n ≤ S.length) (he : reS S n L.length = 0) : usS (putS S n (some L)) ≤ 512 := by
  have h1 : ¬ 512 + szO (S.getD n none) < usS S + L.length + (if n = S.length then 4 else 0) := by
    intro h
    unfold reS at he
    by_cases a1 : 400 < L.length
    · rw [if_pos a1] at he; omega
    · rw [if_neg a1] at he
      by_cases a2 : 60 ≤ n
      · rw [if_pos a2] at he; omega
      · rw [if_neg a2, if_pos h] at he; omega
  have h2 := szT_put (putS_get hn (some L)) (putS S n (some L)).length
  have e1 : szO (some L) = L.length := rfl
  unfold usS at *
  rw [putS_len] at *
  by_cases e : n = S.length
  · rw [if_pos e] at *
    rw [e1, if_pos (by omega), if_pos (by omega)] at h2
    have e2 : szO (S.getD S.length none) = 0 := by rw [getD_ge S (Nat.le_refl _)]; rfl
    have e3 : szT S (S.length + 1) = szT S S.length + szO (S.getD S.length none) := rfl
    rw [e, e2] at h1 h2
    rw [e]
    omega
  · rw [if_neg e] at *
    rw [e1, if_pos (by omega), if_pos (by omega)] at h2
    omega
theorem usS_del {S : List Sl} {n : Nat} (hn : n < S.length) : usS (delS S n) ≤ usS S := by
  have h2 := szT_put (delS_get hn) (delS S n).length
  have hl : (delS S n).length ≤ S.length := by unfold delS; simp only [List.length_take, List.length_set]; omega
  have h3 := szT_mono S hl
  have e1 : szO (none : Sl) = 0 := rfl
  rw [e1] at h2
  unfold usS
  have : (if n < (delS S n).length then 0 else 0) = 0 := by split <;> rfl
  rw [this] at h2
  omega
/-- What the slots that are there take, an entry each. -/
def upT (S : List Sl) : Nat → Nat
  | 0 => 0
  | i + 1 => upT S i + (if (S.getD i none).isSome then 4 + szO (S.getD i none) else 0)
theorem upT_le (S : List Sl) : ∀ i, upT S i ≤ 4 * i + szT S i
  | 0 => Nat.le_refl _
  | i + 1 => by
    have ih := upT_le S i
    show upT S i + _ ≤ 4 * (i + 1) + (szT S i + szO (S.getD i none))
    split <;> omega
theorem upT_end (S : List Sl) : ∀ i, S.length ≤ i → upT S i ≤ 4 * S.length + szT S S.length
  | 0, h => by
    have := upT_le S 0
    exact Nat.zero_le _
  | i + 1, h => by
    by_cases e : S.length = i + 1
    · rw [← e]; exact upT_le S _
    · have ih := upT_end S i (by omega)
      show upT S i + (if (S.getD i none).isSome then _ else 0) ≤ _
      rw [getD_ge S (show S.length ≤ i by omega)]
      exact ih
theorem up_us {S : List Sl} (h : S.length ≤ 60) : upT S 60 + 16 ≤ usS S := by
  have := upT_end S 60 h
  unfold usS
  omega
end Go.Proofs.YtbjckoelgpbaaaaGreatDoor
