/- slots: pages without holes, with one; how much fits -/
import Derived.Test.YtbjckoelgpbaaaaGreatDoorSg
import Derived.Test.YtbjckoelgpbaaaaGreatDoorBk
namespace Go.Proofs.YtbjckoelgpbaaaaGreatDoor
set_option linter.unusedVariables false
set_option linter.unusedSimpArgs false
open Go.ChangeShapes Go.WideShapes Go.ChangeAt Go.RowKit

theorem pageS_zlt {w : World} {B : Nat} {C : Option Nat} {kd id : Int} {S : List Sl} (h : PageS w B C kd id S) : ∀ k, pgZ B C k → k < w.heap.size := fun k hk => by
  have hB := pageS_lt h
  obtain ⟨sl, xs, h1, h2, h3, h4, h5, h6⟩ := h
  rcases hk with rfl | hk
  · exact hB
  · exact (h5.lt k (by rw [h2, hk])).2
/-- Every slot is taken, each by so many bytes. -/
def AllZ (S : List Sl) (z : Nat) : Prop := ∀ j, j < S.length → (S.getD j none).isSome = true ∧ szO (S.getD j none) = z
theorem lfS_eq {S : List Sl} {m : Nat} (h1 : ∀ j, j < m → (S.getD j none).isSome = true) (h2 : S.getD m none = none) : lfS S = m := by
  rcases Nat.lt_trichotomy (lfS S) m with h | h | h
  · have := h1 _ h
    rw [lfS_at] at this
    cases this
  · exact h
  · have := lfS_before S m h
    rw [h2] at this
    cases this
theorem lfS_all {S : List Sl} {z : Nat} (h : AllZ S z) : lfS S = S.length := lfS_eq (fun j hj => (h j hj).1) (getD_ge S (Nat.le_refl _))
theorem szT_all {S : List Sl} {z : Nat} (h : AllZ S z) : ∀ i, i ≤ S.length → szT S i = i * z
  | 0, _ => by simp [szT]
  | i + 1, hi => by simp only [szT]; rw [szT_all h i (by omega), (h i (by omega)).2, Nat.succ_mul]
theorem usS_all {S : List Sl} {z : Nat} (h : AllZ S z) : usS S = 16 + S.length * (z + 4) := by
  unfold usS
  rw [szT_all h _ (Nat.le_refl _), Nat.mul_add]
  omega
theorem getD_set (S : List Sl) (k : Nat) (o : Sl) (j : Nat) : (S.set k o).getD j none = if k = j ∧ j < S.length then o else S.getD j none := by
  rw [List.getD_eq_getElem?_getD, List.getD_eq_getElem?_getD, List.getElem?_set]
  by_cases h : k = j
  · subst h
    by_cases h2 : k < S.length
    · simp [h2]
    · simp [h2]
  · simp [h]
theorem getD_take (S : List Sl) (m j : Nat) : (S.take m).getD j none = if j < m then S.getD j none else none := by
  rw [List.getD_eq_getElem?_getD, List.getD_eq_getElem?_getD, List.getElem?_take]
  by_cases h : j < m
  · simp [h]
  · simp [h]
theorem getD_append (S : List Sl) (o : Sl) (j : Nat) : (S ++ [o]).getD j none = if j = S.length then o else S.getD j none := by
  rw [List.getD_eq_getElem?_getD, List.getD_eq_getElem?_getD]
  by_cases h : j < S.length
  · rw [List.getElem?_append_left h, if_neg (by omega)]
  · rw [List.getElem?_append_right (by omega)]
    by_cases h2 : j = S.length
    · rw [if_pos h2, h2, Nat.sub_self]; rfl
    · rw [if_neg h2, List.getElem?_eq_none (by rw [List.length_singleton]; omega), List.getElem?_eq_none (by omega)]
/-- One slot more. -/
theorem ins_all {S : List Sl} {z : Nat} {L : List UInt8} (h : AllZ S z) (hL : L.length = z) : AllZ (insS S L) z ∧ (insS S L).length = S.length + 1 := by
  unfold insS putS
  rw [lfS_all h, if_pos rfl]
  refine ⟨fun j hj => ?_, by simp⟩
  rw [getD_append]
  by_cases e : j = S.length
  · rw [if_pos e]; exact ⟨rfl, hL⟩
  · rw [if_neg e]
    exact h j (by simp at hj; omega)
theorem re_all {S : List Sl} {z : Nat} (h : AllZ S z) (hz : z ≤ 400) (hn : S.length < 60) (hf : (S.length + 1) * (z + 4) ≤ 496) : reS S (lfS S) z = 0 := by
  rw [lfS_all h]
  unfold reS
  rw [if_neg (by omega), if_neg (by omega), getD_ge S (Nat.le_refl _), if_pos rfl, usS_all h, if_neg]
  rw [Nat.succ_mul] at hf
  simp only [szO]
  omega
theorem re_full {S : List Sl} {z : Nat} (h : AllZ S z) (hz : z ≤ 400) (hf : 60 ≤ S.length ∨ 496 < (S.length + 1) * (z + 4)) : reS S (lfS S) z = 7 + 1 := by
  rw [lfS_all h]
  unfold reS
  rw [if_neg (by omega)]
  by_cases h6 : 60 ≤ S.length
  · rw [if_pos h6]
  · rw [if_neg h6, getD_ge S (Nat.le_refl _), if_pos rfl, usS_all h, if_pos]
    rcases hf with hf | hf
    · exact absurd hf h6
    · rw [Nat.succ_mul] at hf
      simp only [szO]
      omega
/-- One slot is freed. -/
theorem lastN_some {S : List Sl} {k : Nat} (h : (S.getD k none).isSome = true) : lastN S (k + 1) = k + 1 := by
  show (if _ then _ else _) = _
  rw [if_pos h]
theorem lastN_none {S : List Sl} {k : Nat} (h : S.getD k none = none) : lastN S (k + 1) = lastN S k := by
  show (if _ then _ else _) = _
  rw [if_neg (by rw [h]; simp)]
theorem del_all {S : List Sl} {z k : Nat} (h : AllZ S z) (hk : k < S.length) : delS S k = (S.set k none).take (if k + 1 = S.length then k else S.length) := by
  unfold delS
  congr 1
  have g : ∀ j, (S.set k none).getD j none = if k = j then none else S.getD j none := fun j => by
    rw [getD_set]
    by_cases e : k = j
    · subst e
      rw [if_pos ⟨rfl, hk⟩, if_pos rfl]
    · rw [if_neg (fun h => e h.1), if_neg e]
  by_cases e : k + 1 = S.length
  · rw [if_pos e, ← e, lastN_none (by rw [g, if_pos rfl])]
    cases k with
    | zero => rfl
    | succ k => exact lastN_some (by rw [g, if_neg (by omega)]; exact (h k (by omega)).1)
  · rw [if_neg e]
    obtain ⟨m, hm⟩ : ∃ m, S.length = m + 1 := ⟨S.length - 1, by omega⟩
    rw [hm]
    exact lastN_some (by rw [g, if_neg (by omega)]; exact (h m (by omega)).1)
theorem szT_hole {S : List Sl} {z k : Nat} (h : ∀ j, j < S.length → j ≠ k → szO (S.getD j none) = z) (hk : szO (S.getD k none) = 0) : ∀ i, i ≤ S.length → szT S i = (if k < i then i - 1 else i) * z
  | 0, _ => by simp [szT]
  | i + 1, hi => by
    simp only [szT]
    rw [szT_hole h hk i (by omega)]
    by_cases e : i = k
    · subst e
      rw [hk, if_neg (by omega), if_pos (by omega)]
      rfl
    · rw [h i (by omega) e]
      by_cases e2 : k < i
      · rw [if_pos e2, if_pos (by omega), ← Nat.succ_mul]
        congr 1
        omega
      · rw [if_neg e2, if_neg (by omega), Nat.succ_mul]
/-- One is freed, and one as great put there. -/
theorem re_hole {S : List Sl} {z k : Nat} {L : List UInt8} (h : AllZ S z) (hz : z ≤ 400) (hL : L.length = z) (hk : k < S.length) (hn : S.length ≤ 60) (hf : S.length * (z + 4) ≤ 496) :
    lfS (delS S k) = k ∧ reS (delS S k) k z = 0 ∧ AllZ (insS (delS S k) L) z ∧ (insS (delS S k) L).length = S.length := by
  have hd := del_all h hk
  have hlen : (delS S k).length = if k + 1 = S.length then k else S.length := by rw [hd, List.length_take, List.length_set]; split <;> omega
  have g : ∀ j, (delS S k).getD j none = if j < S.length ∧ j ≠ k then S.getD j none else none := fun j => by
    rw [hd, getD_take, getD_set]
    by_cases e : k + 1 = S.length
    · rw [if_pos e]
      by_cases h1 : j < k
      · rw [if_pos h1, if_neg (by omega), if_pos (by omega)]
      · rw [if_neg h1, if_neg (by omega)]
    · rw [if_neg e]
      by_cases h1 : j < S.length
      · rw [if_pos h1]
        by_cases h2 : k = j
        · rw [if_pos ⟨h2, h1⟩, if_neg (by omega)]
        · rw [if_neg (by omega), if_pos (by omega)]
      · rw [if_neg h1, if_neg (by omega)]
  have hlf : lfS (delS S k) = k := lfS_eq (fun j hj => by rw [g, if_pos ⟨by omega, by omega⟩]; exact (h j (by omega)).1) (by rw [g, if_neg (fun h => h.2 rfl)])
  have hk0 : (delS S k).getD k none = none := by rw [g, if_neg (fun h => h.2 rfl)]
  have hu : usS (delS S k) + z + (if k = (delS S k).length then 4 else 0) = 16 + S.length * (z + 4) := by
    unfold usS
    rw [szT_hole (k := k) (z := z) (fun j hj hne => by rw [g, if_pos ⟨by rw [hlen] at hj; split at hj <;> omega, hne⟩]; exact (h j (by rw [hlen] at hj; split at hj <;> omega)).2) (by rw [hk0]; rfl) _ (Nat.le_refl _)]
    by_cases e : k + 1 = S.length
    · have e1 : (delS S k).length = k := by rw [hlen, if_pos e]
      have e9 : (k + 1) * z = k * z + z := Nat.succ_mul _ _
      rw [e1, if_pos rfl, if_neg (Nat.lt_irrefl k), ← e, Nat.mul_add (k + 1)]
      omega
    · have e1 : (delS S k).length = S.length := by rw [hlen, if_neg e]
      obtain ⟨m, hm⟩ : ∃ m, S.length = m + 1 := ⟨S.length - 1, by omega⟩
      have e9 : (m + 1) * z = m * z + z := Nat.succ_mul _ _
      rw [e1, if_neg (show ¬ k = S.length by omega), if_pos hk, hm, Nat.add_sub_cancel, Nat.mul_add (m + 1)]
      omega
  refine ⟨hlf, ?_, ?_, ?_⟩
  · unfold reS
    rw [if_neg (by omega), if_neg (by omega), hu, hk0, if_neg]
    simp only [szO]
    omega
  · unfold insS putS
    rw [hlf]
    by_cases e : k = (delS S k).length
    · rw [if_pos e]
      intro j hj
      rw [getD_append]
      by_cases e2 : j = (delS S k).length
      · rw [if_pos e2]; exact ⟨rfl, hL⟩
      · rw [if_neg e2, g, if_pos]
        · refine h j ?_
          simp at hj
          omega
        · simp at hj
          omega
    · rw [if_neg e]
      intro j hj
      rw [List.length_set] at hj
      have hj' : j < S.length := by rw [hlen] at hj; split at hj <;> omega
      rw [getD_set]
      by_cases e2 : k = j
      · rw [if_pos ⟨e2, hj⟩]; exact ⟨rfl, hL⟩
      · rw [if_neg (fun h => e2 h.1), g, if_pos ⟨hj', fun h => e2 h.symm⟩]
        exact h j hj'
  · unfold insS putS
    rw [hlf]
    by_cases e : k = (delS S k).length
    · rw [if_pos e, List.length_append, List.length_singleton, ← e]
      rw [hlen] at e
      split at e <;> omega
    · rw [if_neg e, List.length_set]
      rw [hlen] at e ⊢
      split at e <;> simp_all
theorem idxT_all {S : List Sl} {z : Nat} (h : AllZ S z) : ∀ i, i ≤ S.length → (idxT S i).length = i
  | 0, _ => rfl
  | i + 1, hi => by
    simp only [idxT, List.length_append]
    rw [idxT_all h i (by omega), if_pos (h i (by omega)).1]
    rfl
/-- How many fit. -/
def fitN (z : Nat) : Nat := min (496 / (z + 4)) 60
theorem fit_facts (z : Nat) (hz : z ≤ 400) : 1 ≤ fitN z ∧ fitN z ≤ 60 ∧ fitN z * (z + 4) ≤ 496 ∧ (60 ≤ fitN z ∨ 496 < (fitN z + 1) * (z + 4)) := by
  unfold fitN
  have h1 : 496 / (z + 4) * (z + 4) ≤ 496 := Nat.div_mul_le_self _ _
  have h2 : 496 < (496 / (z + 4) + 1) * (z + 4) := by rw [Nat.mul_comm]; exact Nat.lt_mul_div_succ 496 (by omega)
  have h3 : 1 ≤ 496 / (z + 4) := Nat.div_pos (by omega) (by omega)
  generalize 496 / (z + 4) = q at *
  by_cases h : q ≤ 60
  · rw [Nat.min_eq_left h]
    exact ⟨h3, h, h1, Or.inr h2⟩
  · rw [Nat.min_eq_right (by omega)]
    refine ⟨by omega, by omega, ?_, Or.inl (by omega)⟩
    have : 60 * (z + 4) ≤ q * (z + 4) := Nat.mul_le_mul_right _ (by omega)
    omega
end Go.Proofs.YtbjckoelgpbaaaaGreatDoor
