/- HeapPlays: the document's heap and the program's, as lists -/
import Derived.Test.YtldlpbfncgcimaaHm
namespace Go.Proofs.Ytldlpbfncgcimaa
set_option linter.unusedVariables false
open Go.ChangeShapes Go.WideShapes Go.ChangeAt Go.RowKit

def zeroEn : En := ⟨0, 0, 0, 0, false, 0⟩
/-- The place of the first of the least ones among the first n. -/
def topI (R : List En) : Nat → Nat
  | 0 => 0
  | n + 1 => if ltE (R.getD n zeroEn) (R.getD (topI R n) zeroEn) then n else topI R n
theorem topI_lt (R : List En) : ∀ n, 0 < n → topI R n < n := by
  intro n
  induction n with
  | zero => intro h; omega
  | succ n ih =>
    intro _
    unfold topI
    split
    · omega
    · rcases Nat.eq_zero_or_pos n with h | h
      · subst h; simp [topI]
      · have := ih h; omega
theorem topI_first (R : List En) : ∀ n, (∀ j, j < n → ltE (R.getD j zeroEn) (R.getD (topI R n) zeroEn) = false) ∧ (∀ j, j < topI R n → ltE (R.getD (topI R n) zeroEn) (R.getD j zeroEn) = true) := by
  intro n
  induction n with
  | zero => exact ⟨fun j h => absurd h (Nat.not_lt_zero _), fun j h => absurd h (Nat.not_lt_zero _)⟩
  | succ n ih =>
    obtain ⟨h1, h2⟩ := ih
    unfold topI
    by_cases h : ltE (R.getD n zeroEn) (R.getD (topI R n) zeroEn) = true
    · rw [if_pos h]
      refine ⟨fun j hj => ?_, fun j hj => ?_⟩
      · by_cases e : j = n
        · subst e; exact ltE_ord.irr _
        · exact ltE_ord.trans _ _ _ (h1 j (by omega)) (ltE_ord.asym _ _ h)
      · exact ltE_ord.lf h (h1 j hj)
    · rw [if_neg h]
      refine ⟨fun j hj => ?_, h2⟩
      by_cases e : j = n
      · subst e; simpa using h
      · exact h1 j (by omega)
/-- How the program's heap L stands to the document's list R: S has both. -/
def Both (L : List Nu) (R : List En) (m : Nat) : Prop := ∃ S : List Nu, L.Perm S ∧ S.map Nu.e = R ∧ S.Pairwise (fun a b => a.k < b.k) ∧ ∀ y ∈ S, y.k < m
theorem both_nil : Both [] [] 0 := ⟨[], List.Perm.refl _, rfl, List.Pairwise.nil, fun y h => by cases h⟩
theorem Both.len {L : List Nu} {R : List En} {m : Nat} (h : Both L R m) : L.length = R.length := by
  obtain ⟨S, h1, h2, -⟩ := h
  rw [h1.length_eq, ← h2, List.length_map]
theorem Both.push {L M : List Nu} {R : List En} {m : Nat} {x : En} (h : Both L R m) (hP : M.Perm (L ++ [⟨x, m⟩])) : Both M (R ++ [x]) (m + 1) := by
  obtain ⟨S, h1, h2, h3, h4⟩ := h
  refine ⟨S ++ [⟨x, m⟩], hP.trans (List.Perm.append_right _ h1), by rw [List.map_append, h2]; rfl, List.pairwise_append.2 ⟨h3, List.pairwise_singleton _ _, fun a ha b hb => ?_⟩, fun y hy => ?_⟩
  · simp at hb; subst hb; exact h4 a ha
  · rcases List.mem_append.1 hy with h | h
    · have := h4 y h; omega
    · simp at h; subst h; exact Nat.lt_succ_self _
theorem erase_perm (S : List Nu) (j : Nat) (hj : j < S.length) : (S[j] :: S.eraseIdx j).Perm S := by
  have e : S = S.take j ++ S[j] :: S.drop (j + 1) := by rw [← List.drop_eq_getElem_cons hj, List.take_append_drop]
  rw [List.eraseIdx_eq_take_drop_succ]
  conv => rhs; rw [e]
  exact List.perm_middle.symm
theorem Both.first {L : List Nu} {R : List En} {m : Nat} {x : Nu} (h : Both L R m) (hx : x ∈ L) (hm : ∀ y ∈ L, ltN y x = false) :
    ∃ hk : topI R R.length < R.length, x.e = R[topI R R.length] ∧ ∀ M : List Nu, (x :: M).Perm L → Both M (R.eraseIdx (topI R R.length)) m := by
  obtain ⟨S, h1, h2, h3, h4⟩ := h
  have hl : S.length = R.length := by rw [← h2, List.length_map]
  have hpos : 0 < R.length := by
    rw [← hl, ← h1.length_eq]; exact List.length_pos_of_mem hx
  obtain ⟨κ, ek⟩ : ∃ κ, κ = topI R R.length := ⟨_, rfl⟩
  have hk : topI R R.length < R.length := topI_lt R R.length hpos
  obtain ⟨f1, f2⟩ := topI_first R R.length
  rw [← ek] at hk f1 f2
  have hkS : κ < S.length := by omega
  have ge : ∀ j (hj : j < S.length), R.getD j zeroEn = S[j].e := fun j hj => by
    rw [List.getD_eq_getElem?_getD, ← h2, List.getElem?_map, List.getElem?_eq_getElem hj]; rfl
  have least : ∀ j (hj : j < S.length), ltN S[j] S[κ] = false := fun j hj => by
    rw [ltN_eq, Bool.or_eq_false_iff, Bool.and_eq_false_iff]
    have a1 := f1 j (by omega)
    rw [ge j hj, ge κ hkS] at a1
    refine ⟨a1, ?_⟩
    by_cases c0 : cmpE S[j].e S[κ].e = 0
    · right
      refine decide_eq_false fun hlt => ?_
      have hjk : j < κ := by
        rcases Nat.lt_trichotomy j κ with h | h | h
        · exact h
        · subst h; omega
        · have := List.pairwise_iff_getElem.1 h3 κ j hkS hj h; omega
      have a2 := f2 j hjk
      rw [ge j hj, ge κ hkS] at a2
      unfold ltE ltC at a2
      rw [decide_eq_true_eq] at a2
      have := cmpE_Cmp.1 S[j].e S[κ].e
      omega
    · left; exact decide_eq_false c0
  have hxS : x ∈ S := h1.mem_iff.1 hx
  have b1 : ltN S[κ] x = false := hm _ (h1.mem_iff.2 (List.getElem_mem _))
  obtain ⟨j, hj, ej⟩ := List.getElem_of_mem hxS
  have b2 := least j hj
  have hjk : j = κ := by
    rw [← ej] at b1
    unfold ltN ltC at b1 b2
    rw [decide_eq_false_iff_not] at b1 b2
    have hz : cmpNu S[j] S[κ] = 0 := by
      have := cmpNu_Cmp.1 S[j] S[κ]
      omega
    have hk0 : cmpZ (S[j].k : Int) (S[κ].k : Int) = 0 := by
      unfold cmpNu lexC at hz
      split at hz
      · exact hz
      · rename_i e; exact absurd hz e
    rw [cmpZ_0] at hk0
    rcases Nat.lt_trichotomy j κ with h | h | h
    · have := List.pairwise_iff_getElem.1 h3 j κ hj hkS h; omega
    · exact h
    · have := List.pairwise_iff_getElem.1 h3 κ j hkS hj h; omega
  subst hjk
  rw [← ek]
  refine ⟨hk, ?_, fun M hM => ⟨S.eraseIdx j, ?_, ?_, h3.sublist (List.eraseIdx_sublist _ _), fun y hy => h4 y ((List.eraseIdx_sublist _ _).subset hy)⟩⟩
  · have := ge j hj
    rw [ej] at this
    rw [← this, List.getD_eq_getElem?_getD, List.getElem?_eq_getElem hk]; rfl
  · have := (hM.trans h1).trans (erase_perm S j hj).symm
    rw [ej] at this
    exact this.cons_inv
  · rw [← h2]
    rw [List.eraseIdx_eq_take_drop_succ, List.eraseIdx_eq_take_drop_succ, List.map_append, List.map_take, List.map_drop]
end Go.Proofs.Ytldlpbfncgcimaa
